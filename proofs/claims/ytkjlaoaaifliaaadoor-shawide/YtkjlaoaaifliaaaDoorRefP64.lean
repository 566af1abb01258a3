/- What is put behind the bytes, in two ways; blocks behind one another. -/
import Derived.Test.YtkjlaoaaifliaaaDoorRefC
namespace Go.Proofs.YtkjlaoaaifliaaaDoor
open Go.RowKit

theorem fill_congr64 {l l' : List (BitVec 8)} : ∀ k, (∀ j, j < k → l.getD j 0 = l'.getD j 0) → fill64 l k = fill64 l' k
  | 0, _ => rfl
  | k + 1, h => by rw [fill64, fill64, fill_congr64 k (fun j hj => h j (by omega)), h k (by omega)]
theorem spread_congr64 {l l' : List (BitVec 8)} (h : ∀ j, j < 128 → l.getD j 0 = l'.getD j 0) : spread64 l = spread64 l' := by
  unfold spread64; rw [fill_congr64 128 h]
theorem mixA_app64 : ∀ (n : Nat) (st : List (BitVec 64)) (a b : List (BitVec 8)), a.length = 128 * n → mixA64 st (a ++ b) = mixA64 (mixA64 st a) b
  | 0, st, a, b, h => by
    have : a = [] := List.eq_nil_of_length_eq_zero (by omega)
    subst this
    rw [mixA_end64 (l := []) (by simp), List.nil_append]
  | n + 1, st, a, b, h => by
    have hl : 128 ≤ a.length := by omega
    rw [← mixA_step64 (l := a ++ b) (by rw [List.length_append]; omega), ← mixA_step64 (l := a) hl, List.drop_append_of_le_length hl,
      mixA_app64 n _ _ _ (by rw [List.length_drop]; omega), spread_congr64 (l := a ++ b) (l' := a) (fun j hj => by simp only [List.getD_eq_getElem?_getD]; rw [List.getElem?_append_left (by omega)])]
theorem mixA_whole64 (st : List (BitVec 64)) (l : List (BitVec 8)) : mixA64 st (l.take (l.length - l.length % 128)) = mixA64 st l := by
  have h := mixA_app64 (l.length / 128) st (l.take (l.length - l.length % 128)) (l.drop (l.length - l.length % 128)) (by rw [List.length_take]; omega)
  rw [List.take_append_drop, mixA_end64 (l := l.drop _) (by rw [List.length_drop]; omega)] at h
  exact h.symm

def lbT64 (n : Nat) : Nat → List (BitVec 8)
  | 0 => []
  | j + 1 => lbT64 n j ++ [lbX n (16 - 1 - j)]
theorem lbT_len64 (n : Nat) : ∀ j, (lbT64 n j).length = j
  | 0 => rfl
  | j + 1 => by rw [lbT64, List.length_append, lbT_len64 n j]; rfl
theorem lbT_get64 (n : Nat) : ∀ j i, i < j → (lbT64 n j)[i]? = some (lbX n (16 - 1 - i))
  | 0, _, h => absurd h (Nat.not_lt_zero _)
  | j + 1, i, h => by
    rw [lbT64]
    by_cases hi : i < j
    · rw [List.getElem?_append_left (by rw [lbT_len64]; exact hi)]; exact lbT_get64 n j i hi
    · have : i = j := by omega
      subst this
      rw [List.getElem?_append_right (by rw [lbT_len64]; exact Nat.le_refl _), lbT_len64, Nat.sub_self]; rfl
theorem putB_app64 (X : List (BitVec 8)) (n : Nat) (hn : n < 1152921504606846976) : putB (X ++ List.replicate 16 0) n = X ++ lbT64 n 16 := by
  have hlen : (X ++ List.replicate 16 (0 : BitVec 8)).length = X.length + 16 := by rw [List.length_append, List.length_replicate]
  apply List.ext_getElem?
  intro j
  unfold putB
  rw [putR_get, List.length_set, hlen]
  by_cases hj : j < X.length
  · rw [List.getElem?_append_left (l₂ := lbT64 n 16) hj, List.getElem?_set_ne (by omega), List.getElem?_append_left hj]
    refine if_neg fun h => h.2.2 ?_
    refine Nat.div_eq_of_lt (Nat.lt_of_lt_of_le (show n / 32 < 256 ^ 7 by omega) (Nat.pow_le_pow_right (by omega) (by omega)))
  · by_cases hj2 : j < X.length + 16
    · rw [List.getElem?_append_right (l₁ := X) (l₂ := lbT64 n 16) (by omega), lbT_get64 n 16 (j - X.length) (by omega), lbX_eq n _ hn]
      by_cases hl : j = X.length + 16 - 1
      · rw [if_neg (by omega), hl, List.getElem?_set_self (by rw [hlen]; omega)]
        rw [show 16 - 1 - (X.length + 16 - 1 - X.length) = 0 by omega]; simp
      · have e : n * 8 / 256 ^ (16 - 1 - (j - X.length)) = n / 32 / 256 ^ (X.length + 16 - 1 - 1 - j) := by
          rw [show 16 - 1 - (j - X.length) = (X.length + 16 - 1 - 1 - j) + 1 by omega, Nat.pow_succ, Nat.mul_comm (256 ^ _) 256, ← Nat.div_div_eq_div_mul, show n * 8 / 256 = n / 32 by omega]
        rw [e]
        by_cases hz : n / 32 / 256 ^ (X.length + 16 - 1 - 1 - j) = 0
        · rw [if_neg (fun h => h.2.2 hz), hz, List.getElem?_set_ne (by omega), List.getElem?_append_right (by omega), List.getElem?_replicate, if_pos (by omega)]; rfl
        · rw [if_pos ⟨by omega, hj2, hz⟩]
    · rw [if_neg (by omega), List.getElem?_eq_none (by rw [List.length_set, hlen]; omega), List.getElem?_eq_none (by rw [List.length_append, lbT_len64]; omega)]
/-- So many noughts. -/
def zc64 (n : Nat) : Nat := (2 * 128 - 16 - (n + 1) % 128) % 128
def pad64 (l : List (BitVec 8)) : List (BitVec 8) := l ++ [128] ++ List.replicate (zc64 l.length) 0 ++ lbT64 l.length 16
theorem tail_eq64 (l : List (BitVec 8)) (hn : l.length < 1152921504606846976) : tail64 l = left64 l ++ [128] ++ List.replicate (zc64 l.length) 0 ++ lbT64 l.length 16 := by
  have hs := size_le64 l
  have hz : size64 l - l.length % 128 = 1 + (zc64 l.length + 16) := by unfold size64 zc64; split <;> omega
  unfold tail64
  rw [hz, show (1 + (zc64 l.length + 16)) = (zc64 l.length + 16) + 1 by omega, List.replicate_succ, List.set_append_right _ _ (by rw [left_len64]; exact Nat.le_refl _), left_len64, Nat.sub_self, List.set_cons_zero, ← List.replicate_append_replicate,
    show left64 l ++ (128 :: (List.replicate (zc64 l.length) 0 ++ List.replicate 16 0)) = (left64 l ++ [128] ++ List.replicate (zc64 l.length) 0) ++ List.replicate 16 0 by simp, putB_app64 _ _ hn]
theorem pad_mix64 (st : List (BitVec 64)) (l : List (BitVec 8)) (hn : l.length < 1152921504606846976) : mixA64 st (pad64 l) = mixA64 (mixA64 st l) (tail64 l) := by
  have e : pad64 l = l.take (l.length - l.length % 128) ++ tail64 l := by
    rw [tail_eq64 l hn]
    unfold pad64 left64
    simp only [← List.append_assoc, List.take_append_drop]
  rw [e, mixA_app64 (l.length / 128) _ _ _ (by rw [List.length_take]; omega), mixA_whole64]
end Go.Proofs.YtkjlaoaaifliaaaDoor
