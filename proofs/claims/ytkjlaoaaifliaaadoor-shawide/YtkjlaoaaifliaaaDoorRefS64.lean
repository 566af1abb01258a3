/- The words of all rounds, one by one. -/
import Derived.Test.YtkjlaoaaifliaaaDoorRefW64
import Derived.Test.YtkjlaoaaifliaaaDoorShaSpread64
namespace Go.Proofs.YtkjlaoaaifliaaaDoor
open Go.RowKit

theorem getD_set64 (l : List (BitVec 64)) (i j : Nat) (v : BitVec 64) (h : i < l.length) : (l.set i v).getD j 0 = if i = j then v else l.getD j 0 := by
  simp only [List.getD_eq_getElem?_getD, List.getElem?_set]
  by_cases e : i = j
  · subst e; simp [h]
  · simp [e]
theorem getD_rep64 (n j : Nat) : (List.replicate n (0 : BitVec 64)).getD j 0 = 0 := by
  rw [List.getD_eq_getElem?_getD, List.getElem?_replicate]; split <;> rfl
theorem fill_at64 (l : List (BitVec 8)) (j : Nat) (hj : j < 16) : ∀ k, k ≤ 128 → (fill64 l k).getD j 0 = wk64 (l.drop (j * 8)) (min (k - j * 8) 8)
  | 0, _ => by
    rw [show min (0 - j * 8) 8 = 0 by omega, fill64, wk64]
    exact getD_rep64 _ _
  | k + 1, h => by
    have ih := fill_at64 l j hj k (by omega)
    rw [fill64, getD_set64 _ _ _ _ (by rw [fill_len64]; omega)]
    by_cases e : k / 8 = j
    · rw [if_pos e, e, ih]
      have h1 : min (k - j * 8) 8 = k - j * 8 := by omega
      have h2 : min (k + 1 - j * 8) 8 = (k - j * 8) + 1 := by omega
      rw [h1, h2, wk64]
      have h3 : (l.drop (j * 8)).getD (k - j * 8) 0 = l.getD k 0 := by
        simp only [List.getD_eq_getElem?_getD, List.getElem?_drop]
        rw [show j * 8 + (k - j * 8) = k by omega]
      rw [h3]
    · rw [if_neg e, ih]
      have h1 : min (k - j * 8) 8 = min (k + 1 - j * 8) 8 := by omega
      rw [h1]
theorem sched_at64 (ws : List (BitVec 64)) (h : ws.length = 80) (j t : Nat) (ht : t < j + 16) : ∀ d, j + d ≤ 80 - 16 → (sched64 ws (j + d)).getD t 0 = (sched64 ws j).getD t 0
  | 0, _ => rfl
  | d + 1, hd => by
    rw [← Nat.add_assoc, sched64, getD_set64 _ _ _ _ (by rw [sched_len64 _ h]; omega), if_neg (by omega)]
    exact sched_at64 ws h j t ht d (by omega)
theorem spread_lo64 (l : List (BitVec 8)) (t : Nat) (ht : t < 16) : (spread64 l).getD t 0 = wk64 (l.drop (t * 8)) 8 := by
  have h1 := sched_at64 (fill64 l 128) (fill_len64 l 128) 0 t (by omega) (80 - 16) (by omega)
  rw [Nat.zero_add] at h1
  unfold spread64
  rw [h1, sched64, fill_at64 l t ht 128 (Nat.le_refl _), show min (128 - t * 8) 8 = 8 by omega]
theorem spread_hi64 (l : List (BitVec 8)) (j : Nat) (hj : j < 80 - 16) : (spread64 l).getD (j + 16) 0 = nextW64 (spread64 l) j := by
  have hl := fill_len64 l 128
  have st : ∀ t, t < j + 16 → (spread64 l).getD t 0 = (sched64 (fill64 l 128) j).getD t 0 := fun t ht => by
    have := sched_at64 (fill64 l 128) hl j t ht (80 - 16 - j) (by omega)
    rw [show j + (80 - 16 - j) = 80 - 16 by omega] at this
    exact this
  have h1 := sched_at64 (fill64 l 128) hl (j + 1) (j + 16) (by omega) (80 - 16 - (j + 1)) (by omega)
  rw [show j + 1 + (80 - 16 - (j + 1)) = 80 - 16 by omega] at h1
  have h2 : (spread64 l).getD (j + 16) 0 = (sched64 (fill64 l 128) (j + 1)).getD (j + 16) 0 := h1
  rw [h2, sched64, getD_set64 _ _ _ _ (by rw [sched_len64 _ hl]; omega), if_pos rfl]
  unfold nextW64
  rw [st _ (by omega), st _ (by omega), st _ (by omega), st _ (by omega)]
theorem take_snoc64 (l : List (BitVec 64)) (t : Nat) (h : t < l.length) : l.take (t + 1) = l.take t ++ [l.getD t 0] := by
  rw [List.take_succ_eq_append_getElem h]; simp [h]
theorem getD_take64 (l : List (BitVec 64)) (t i : Nat) (h : i < t) : (l.take t).getD i 0 = l.getD i 0 := by
  simp only [List.getD_eq_getElem?_getD, List.getElem?_take_of_lt h]
end Go.Proofs.YtkjlaoaaifliaaaDoor
