/- The words of all rounds, one by one. -/
import Derived.Test.YtebmcjleepnehaaDoorRefW32
import Derived.Test.YtebmcjleepnehaaDoorShaSpread32
namespace Go.Proofs.YtebmcjleepnehaaDoor
open Go.RowKit

theorem getD_set32 (l : List (BitVec 32)) (i j : Nat) (v : BitVec 32) (h : i < l.length) : (l.set i v).getD j 0 = if i = j then v else l.getD j 0 := by
  simp only [List.getD_eq_getElem?_getD, List.getElem?_set]
  by_cases e : i = j
  · subst e; simp [h]
  · simp [e]
theorem getD_rep32 (n j : Nat) : (List.replicate n (0 : BitVec 32)).getD j 0 = 0 := by
  rw [List.getD_eq_getElem?_getD, List.getElem?_replicate]; split <;> rfl
theorem fill_at32 (l : List (BitVec 8)) (j : Nat) (hj : j < 16) : ∀ k, k ≤ 64 → (fill32 l k).getD j 0 = wk32 (l.drop (j * 4)) (min (k - j * 4) 4)
  | 0, _ => by
    rw [show min (0 - j * 4) 4 = 0 by omega, fill32, wk32]
    exact getD_rep32 _ _
  | k + 1, h => by
    have ih := fill_at32 l j hj k (by omega)
    rw [fill32, getD_set32 _ _ _ _ (by rw [fill_len32]; omega)]
    by_cases e : k / 4 = j
    · rw [if_pos e, e, ih]
      have h1 : min (k - j * 4) 4 = k - j * 4 := by omega
      have h2 : min (k + 1 - j * 4) 4 = (k - j * 4) + 1 := by omega
      rw [h1, h2, wk32]
      have h3 : (l.drop (j * 4)).getD (k - j * 4) 0 = l.getD k 0 := by
        simp only [List.getD_eq_getElem?_getD, List.getElem?_drop]
        rw [show j * 4 + (k - j * 4) = k by omega]
      rw [h3]
    · rw [if_neg e, ih]
      have h1 : min (k - j * 4) 4 = min (k + 1 - j * 4) 4 := by omega
      rw [h1]
theorem sched_at32 (ws : List (BitVec 32)) (h : ws.length = 64) (j t : Nat) (ht : t < j + 16) : ∀ d, j + d ≤ 64 - 16 → (sched32 ws (j + d)).getD t 0 = (sched32 ws j).getD t 0
  | 0, _ => rfl
  | d + 1, hd => by
    rw [← Nat.add_assoc, sched32, getD_set32 _ _ _ _ (by rw [sched_len32 _ h]; omega), if_neg (by omega)]
    exact sched_at32 ws h j t ht d (by omega)
theorem spread_lo32 (l : List (BitVec 8)) (t : Nat) (ht : t < 16) : (spread32 l).getD t 0 = wk32 (l.drop (t * 4)) 4 := by
  have h1 := sched_at32 (fill32 l 64) (fill_len32 l 64) 0 t (by omega) (64 - 16) (by omega)
  rw [Nat.zero_add] at h1
  unfold spread32
  rw [h1, sched32, fill_at32 l t ht 64 (Nat.le_refl _), show min (64 - t * 4) 4 = 4 by omega]
theorem spread_hi32 (l : List (BitVec 8)) (j : Nat) (hj : j < 64 - 16) : (spread32 l).getD (j + 16) 0 = nextW32 (spread32 l) j := by
  have hl := fill_len32 l 64
  have st : ∀ t, t < j + 16 → (spread32 l).getD t 0 = (sched32 (fill32 l 64) j).getD t 0 := fun t ht => by
    have := sched_at32 (fill32 l 64) hl j t ht (64 - 16 - j) (by omega)
    rw [show j + (64 - 16 - j) = 64 - 16 by omega] at this
    exact this
  have h1 := sched_at32 (fill32 l 64) hl (j + 1) (j + 16) (by omega) (64 - 16 - (j + 1)) (by omega)
  rw [show j + 1 + (64 - 16 - (j + 1)) = 64 - 16 by omega] at h1
  have h2 : (spread32 l).getD (j + 16) 0 = (sched32 (fill32 l 64) (j + 1)).getD (j + 16) 0 := h1
  rw [h2, sched32, getD_set32 _ _ _ _ (by rw [sched_len32 _ hl]; omega), if_pos rfl]
  unfold nextW32
  rw [st _ (by omega), st _ (by omega), st _ (by omega), st _ (by omega)]
theorem take_snoc32 (l : List (BitVec 32)) (t : Nat) (h : t < l.length) : l.take (t + 1) = l.take t ++ [l.getD t 0] := by
  rw [List.take_succ_eq_append_getElem h]; simp [h]
theorem getD_take32 (l : List (BitVec 32)) (t i : Nat) (h : i < t) : (l.take t).getD i 0 = l.getD i 0 := by
  simp only [List.getD_eq_getElem?_getD, List.getElem?_take_of_lt h]
end Go.Proofs.YtebmcjleepnehaaDoor
