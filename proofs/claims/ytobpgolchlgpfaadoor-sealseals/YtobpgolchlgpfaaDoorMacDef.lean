/- What a digest by a key is, what is expanded, as lists of bytes. -/
import Derived.Test.YtobpgolchlgpfaaDoorShaSum32
import Derived.Test.YtobpgolchlgpfaaDoorCpy
namespace Go.Proofs.YtobpgolchlgpfaaDoor
open Go.RowKit
set_option maxRecDepth 20000

/-- Noughts behind, up to 64 bytes. -/
def fz (s : List (BitVec 8)) : List (BitVec 8) := s ++ List.replicate (64 - s.length) 0
def fillK (k : List (BitVec 8)) : List (BitVec 8) := fz (if 64 < k.length then sum32 k else k)
def xorL (m : BitVec 8) (k : List (BitVec 8)) : List (BitVec 8) := k.map (· ^^^ m)
def hmac (k b : List (BitVec 8)) : List (BitVec 8) := sum32 (xorL 0x5c (fillK k) ++ sum32 (xorL 0x36 (fillK k) ++ b))
def extract (s b : List (BitVec 8)) : List (BitVec 8) := if s.length = 0 then hmac (List.replicate 32 0) b else hmac s b
def tI (k info : List (BitVec 8)) : Nat → List (BitVec 8)
  | 0 => []
  | i + 1 => hmac k ((tI k info i ++ info) ++ [BitVec.ofNat 8 (i + 1)])
def expA (k info : List (BitVec 8)) : Nat → List (BitVec 8)
  | 0 => []
  | i + 1 => expA k info i ++ tI k info (i + 1)
def expand (k info : List (BitVec 8)) (n : Nat) : List (BitVec 8) := (expA k info ((n + 31) / 32)).take n
theorem fz_len {s : List (BitVec 8)} (h : s.length ≤ 64) : (fz s).length = 64 := by unfold fz; rw [List.length_append, List.length_replicate]; omega
theorem fill_len (k : List (BitVec 8)) : (fillK k).length = 64 := by
  unfold fillK
  split
  · exact fz_len (by rw [sum_len32]; omega)
  · exact fz_len (by omega)
theorem xor_len (m : BitVec 8) (k : List (BitVec 8)) : (xorL m k).length = k.length := by unfold xorL; rw [List.length_map]
theorem hmac_len (k b : List (BitVec 8)) : (hmac k b).length = 32 := sum_len32 _
theorem extract_len (k b : List (BitVec 8)) : (extract k b).length = 32 := by unfold extract; split <;> exact hmac_len _ _
theorem tI_len (k info : List (BitVec 8)) (i : Nat) : (tI k info (i + 1)).length = 32 := by rw [tI]; exact hmac_len _ _
theorem tI_le (k info : List (BitVec 8)) : ∀ i, (tI k info i).length ≤ 32
  | 0 => by rw [tI]; simp
  | i + 1 => by rw [tI_len]; omega
theorem expA_len (k info : List (BitVec 8)) : ∀ i, (expA k info i).length = 32 * i
  | 0 => rfl
  | i + 1 => by rw [expA, List.length_append, expA_len k info i, tI_len]; omega
theorem expand_len (k info : List (BitVec 8)) (n : Nat) : (expand k info n).length = n := by
  unfold expand; rw [List.length_take, expA_len]; omega
theorem expA_front (k info : List (BitVec 8)) (i : Nat) : ∀ j, ∃ r, expA k info (i + j) = expA k info i ++ r
  | 0 => ⟨[], by simp⟩
  | j + 1 => by
    obtain ⟨r, h⟩ := expA_front k info i j
    exact ⟨r ++ tI k info (i + j + 1), by rw [show i + (j + 1) = i + j + 1 by omega, expA, h, List.append_assoc]⟩
/-- What is expanded further begins the same. -/
theorem expand_front (k info : List (BitVec 8)) {n m : Nat} (h : n ≤ m) : (expand k info m).take n = expand k info n := by
  unfold expand
  rw [List.take_take, Nat.min_eq_left h]
  obtain ⟨r, hr⟩ := expA_front k info ((n + 31) / 32) ((m + 31) / 32 - (n + 31) / 32)
  rw [show (n + 31) / 32 + ((m + 31) / 32 - (n + 31) / 32) = (m + 31) / 32 by omega] at hr
  rw [hr, List.take_append_of_le_length (by rw [expA_len]; omega)]
theorem fz_z8 {s : List (BitVec 8)} : s.map b8 ++ (z8 64).drop (s.map b8).length = (fz s).map b8 := by
  unfold z8 fz; rw [List.length_map, ← List.map_drop, List.drop_replicate, List.map_append]
/-- Key and mask, byte by byte. -/
def behT (K : List (BitVec 8)) (m : BitVec 8) (n : Nat) : Nat → List (BitVec 8)
  | 0 => List.replicate (64 + n) 0
  | i + 1 => (behT K m n i).set i (K.getD i 0 ^^^ m)
theorem behT_len (K : List (BitVec 8)) (m : BitVec 8) (n : Nat) : ∀ i, (behT K m n i).length = 64 + n
  | 0 => by rw [behT, List.length_replicate]
  | i + 1 => by rw [behT, List.length_set, behT_len K m n i]
theorem behT_get (K : List (BitVec 8)) (m : BitVec 8) (n : Nat) (j : Nat) : ∀ i, i ≤ 64 → (behT K m n i)[j]? = if j < i then some (K.getD j 0 ^^^ m) else (List.replicate (64 + n) 0)[j]?
  | 0, _ => by rw [behT, if_neg (by omega)]
  | i + 1, h => by
    rw [behT, List.getElem?_set, behT_len]
    by_cases e : i = j
    · subst e; rw [if_pos rfl, if_pos (by omega), if_pos (by omega)]
    · rw [if_neg e, behT_get K m n j i (by omega)]
      by_cases hj : j < i
      · rw [if_pos hj, if_pos (by omega)]
      · rw [if_neg hj, if_neg (by omega)]
theorem behT_end {K : List (BitVec 8)} (hK : K.length = 64) (m : BitVec 8) (n : Nat) : (behT K m n 64).take 64 = xorL m K := by
  apply List.ext_getElem?
  intro j
  unfold xorL
  rw [List.getElem?_take]
  by_cases hj : j < 64
  · rw [if_pos hj, behT_get K m n j 64 (Nat.le_refl _), if_pos hj, List.getElem?_map, List.getElem?_eq_getElem (by omega)]
    simp [hK, hj]
  · rw [if_neg hj, List.getElem?_eq_none (by rw [List.length_map]; omega)]
theorem size_f64 {l : List (BitVec 8)} (h : l.length = 64) : (Tryd.prog.info? 79).map (·.size) = some (l.map b8).length := by rw [List.length_map, h]; kernel_rfl
theorem z8_len (n : Nat) : (z8 n).length = n := by unfold z8; rw [List.length_map, List.length_replicate]
end Go.Proofs.YtobpgolchlgpfaaDoor
