/- What is put behind the bytes, in two ways; blocks behind one another. -/
import Derived.Test.YtebmcjleepnehaaDoorRefC
import Derived.Test.YtebmcjleepnehaaDoorShaSum32
namespace Go.Proofs.YtebmcjleepnehaaDoor
open Go.RowKit

theorem fill_congr32 {l l' : List (BitVec 8)} : ∀ k, (∀ j, j < k → l.getD j 0 = l'.getD j 0) → fill32 l k = fill32 l' k
  | 0, _ => rfl
  | k + 1, h => by rw [fill32, fill32, fill_congr32 k (fun j hj => h j (by omega)), h k (by omega)]
theorem spread_congr32 {l l' : List (BitVec 8)} (h : ∀ j, j < 64 → l.getD j 0 = l'.getD j 0) : spread32 l = spread32 l' := by
  unfold spread32; rw [fill_congr32 64 h]
theorem mixA_app32 : ∀ (n : Nat) (st : List (BitVec 32)) (a b : List (BitVec 8)), a.length = 64 * n → mixA32 st (a ++ b) = mixA32 (mixA32 st a) b
  | 0, st, a, b, h => by
    have : a = [] := List.eq_nil_of_length_eq_zero (by omega)
    subst this
    rw [mixA_end32 (l := []) (by simp), List.nil_append]
  | n + 1, st, a, b, h => by
    have hl : 64 ≤ a.length := by omega
    rw [← mixA_step32 (l := a ++ b) (by rw [List.length_append]; omega), ← mixA_step32 (l := a) hl, List.drop_append_of_le_length hl,
      mixA_app32 n _ _ _ (by rw [List.length_drop]; omega), spread_congr32 (l := a ++ b) (l' := a) (fun j hj => by simp only [List.getD_eq_getElem?_getD]; rw [List.getElem?_append_left (by omega)])]
theorem mixA_whole32 (st : List (BitVec 32)) (l : List (BitVec 8)) : mixA32 st (l.take (l.length - l.length % 64)) = mixA32 st l := by
  have h := mixA_app32 (l.length / 64) st (l.take (l.length - l.length % 64)) (l.drop (l.length - l.length % 64)) (by rw [List.length_take]; omega)
  rw [List.take_append_drop, mixA_end32 (l := l.drop _) (by rw [List.length_drop]; omega)] at h
  exact h.symm

def lbT32 (n : Nat) : Nat → List (BitVec 8)
  | 0 => []
  | j + 1 => lbT32 n j ++ [lbX n (8 - 1 - j)]
theorem lbT_len32 (n : Nat) : ∀ j, (lbT32 n j).length = j
  | 0 => rfl
  | j + 1 => by rw [lbT32, List.length_append, lbT_len32 n j]; rfl
theorem lbT_get32 (n : Nat) : ∀ j i, i < j → (lbT32 n j)[i]? = some (lbX n (8 - 1 - i))
  | 0, _, h => absurd h (Nat.not_lt_zero _)
  | j + 1, i, h => by
    rw [lbT32]
    by_cases hi : i < j
    · rw [List.getElem?_append_left (by rw [lbT_len32]; exact hi)]; exact lbT_get32 n j i hi
    · have : i = j := by omega
      subst this
      rw [List.getElem?_append_right (by rw [lbT_len32]; exact Nat.le_refl _), lbT_len32, Nat.sub_self]; rfl
theorem putB_app32 (X : List (BitVec 8)) (n : Nat) (hn : n < 1152921504606846976) : putB (X ++ List.replicate 8 0) n = X ++ lbT32 n 8 := by
  have hlen : (X ++ List.replicate 8 (0 : BitVec 8)).length = X.length + 8 := by rw [List.length_append, List.length_replicate]
  apply List.ext_getElem?
  intro j
  unfold putB
  rw [putR_get, List.length_set, hlen]
  by_cases hj : j < X.length
  · rw [List.getElem?_append_left (l₂ := lbT32 n 8) hj, List.getElem?_set_ne (by omega), List.getElem?_append_left hj]
    refine if_neg fun h => h.2.2 ?_
    refine Nat.div_eq_of_lt (Nat.lt_of_lt_of_le (show n / 32 < 256 ^ 7 by omega) (Nat.pow_le_pow_right (by omega) (by omega)))
  · by_cases hj2 : j < X.length + 8
    · rw [List.getElem?_append_right (l₁ := X) (l₂ := lbT32 n 8) (by omega), lbT_get32 n 8 (j - X.length) (by omega), lbX_eq n _ hn]
      by_cases hl : j = X.length + 8 - 1
      · rw [if_neg (by omega), hl, List.getElem?_set_self (by rw [hlen]; omega)]
        rw [show 8 - 1 - (X.length + 8 - 1 - X.length) = 0 by omega]; simp
      · have e : n * 8 / 256 ^ (8 - 1 - (j - X.length)) = n / 32 / 256 ^ (X.length + 8 - 1 - 1 - j) := by
          rw [show 8 - 1 - (j - X.length) = (X.length + 8 - 1 - 1 - j) + 1 by omega, Nat.pow_succ, Nat.mul_comm (256 ^ _) 256, ← Nat.div_div_eq_div_mul, show n * 8 / 256 = n / 32 by omega]
        rw [e]
        by_cases hz : n / 32 / 256 ^ (X.length + 8 - 1 - 1 - j) = 0
        · rw [if_neg (fun h => h.2.2 hz), hz, List.getElem?_set_ne (by omega), List.getElem?_append_right (by omega), List.getElem?_replicate, if_pos (by omega)]; rfl
        · rw [if_pos ⟨by omega, hj2, hz⟩]
    · rw [if_neg (by omega), List.getElem?_eq_none (by rw [List.length_set, hlen]; omega), List.getElem?_eq_none (by rw [List.length_append, lbT_len32]; omega)]
/-- So many noughts. -/
def zc32 (n : Nat) : Nat := (2 * 64 - 8 - (n + 1) % 64) % 64
def pad32 (l : List (BitVec 8)) : List (BitVec 8) := l ++ [128] ++ List.replicate (zc32 l.length) 0 ++ lbT32 l.length 8
theorem tail_eq32 (l : List (BitVec 8)) (hn : l.length < 1152921504606846976) : tail32 l = left32 l ++ [128] ++ List.replicate (zc32 l.length) 0 ++ lbT32 l.length 8 := by
  have hs := size_le32 l
  have hz : size32 l - l.length % 64 = 1 + (zc32 l.length + 8) := by unfold size32 zc32; split <;> omega
  unfold tail32
  rw [hz, show (1 + (zc32 l.length + 8)) = (zc32 l.length + 8) + 1 by omega, List.replicate_succ, List.set_append_right _ _ (by rw [left_len32]; exact Nat.le_refl _), left_len32, Nat.sub_self, List.set_cons_zero, ← List.replicate_append_replicate,
    show left32 l ++ (128 :: (List.replicate (zc32 l.length) 0 ++ List.replicate 8 0)) = (left32 l ++ [128] ++ List.replicate (zc32 l.length) 0) ++ List.replicate 8 0 by simp, putB_app32 _ _ hn]
theorem pad_mix32 (st : List (BitVec 32)) (l : List (BitVec 8)) (hn : l.length < 1152921504606846976) : mixA32 st (pad32 l) = mixA32 (mixA32 st l) (tail32 l) := by
  have e : pad32 l = l.take (l.length - l.length % 64) ++ tail32 l := by
    rw [tail_eq32 l hn]
    unfold pad32 left32
    simp only [← List.append_assoc, List.take_append_drop]
  rw [e, mixA_app32 (l.length / 64) _ _ _ (by rw [List.length_take]; omega), mixA_whole32]
end Go.Proofs.YtebmcjleepnehaaDoor
