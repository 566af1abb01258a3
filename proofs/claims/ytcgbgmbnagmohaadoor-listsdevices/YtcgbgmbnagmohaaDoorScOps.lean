import Derived.Test.YtcgbgmbnagmohaaDoorScMath
import Derived.Test.YtcgbgmbnagmohaaDoorCalm
import Derived.Test.YtcgbgmbnagmohaaDoorMixB
import Derived.Test.YtcgbgmbnagmohaaDoorWords
import Derived.Laws.IdiomCopy
import Derived.Laws.Slices
import Derived.Laws.Cover3
namespace Go.Proofs.YtcgbgmbnagmohaaDoor
open Go.RowKit
set_option maxRecDepth 20000
def lv : List (BitVec 64) → Nat
 | [] => 0
 | a :: l => a.toNat + 2 ^ 64 * lv l
theorem lv_lt : ∀ l : List (BitVec 64), lv l < 2 ^ (64 * l.length)
 | [] => by simp [lv]
 | a :: l => by
  have h := lv_lt l
  have ha := a.isLt
  rw [lv, List.length_cons, show 64 * (l.length + 1) = 64 + 64 * l.length by omega, Nat.pow_add]
  have h1 : 2 ^ 64 * (lv l + 1) ≤ 2 ^ 64 * 2 ^ (64 * l.length) := Nat.mul_le_mul_left _ h
  omega
theorem qdu : ∀ a b : List (BitVec 64), lv (a ++ b) = lv a + 2 ^ (64 * a.length) * lv b
 | [], b => by simp [lv]
 | x :: a, b => by
  rw [List.cons_append, lv, lv, qdu a b, List.length_cons, show 64 * (a.length + 1) = 64 + 64 * a.length by omega, Nat.pow_add, Nat.mul_add, Nat.mul_assoc]
  omega
theorem lv_inj : ∀ l m : List (BitVec 64), l.length = m.length → lv l = lv m → l = m
 | [], [], _, _ => rfl
 | [], _ :: _, h, _ => by cases h
 | _ :: _, [], h, _ => by cases h
 | a :: l, b :: m, h, e => by
  have h1 := a.isLt
  have h2 := b.isLt
  rw [lv, lv] at e
  have e1 : a.toNat = b.toNat := by omega
  have e2 : lv l = lv m := by omega
  rw [BitVec.eq_of_toNat_eq e1, lv_inj l m (by simpa using h) e2]
def wd (n : Nat) : Nat → List (BitVec 64)
 | 0 => []
 | k + 1 => BitVec.ofNat 64 n :: wd (n / 2 ^ 64) k
theorem qc8 (n : Nat) : ∀ k, (wd n k).length = k := fun k => by
 induction k generalizing n with
 | zero => rfl
 | succ k ih => rw [wd, List.length_cons, ih]
theorem lv_wd (n : Nat) : ∀ k, lv (wd n k) = n % 2 ^ (64 * k) := fun k => by
 induction k generalizing n with
 | zero => rw [wd, lv, Nat.mul_zero, Nat.pow_zero, Nat.mod_one]
 | succ k ih =>
  rw [wd, lv, ih, BitVec.toNat_ofNat, show 64 * (k + 1) = 64 + 64 * k by omega, Nat.pow_add, Nat.mod_mul]
theorem wd_of {l : List (BitVec 64)} {k : Nat} (h : l.length = k) : wd (lv l) k = l := by
 refine lv_inj _ _ (by rw [qc8, h]) ?_
 rw [lv_wd, Nat.mod_eq_of_lt (by rw [← h]; exact lv_lt l)]
theorem wd_eq {l : List (BitVec 64)} {k n : Nat} (h : l.length = k) (e : lv l = n) : l = wd n k := by rw [← e, wd_of h]
theorem lv_take (l : List (BitVec 64)) (i : Nat) (h : i < l.length) : lv (l.take (i + 1)) = lv (l.take i) + 2 ^ (64 * i) * (l.getD i 0).toNat := by
 rw [List.take_succ_eq_append_getElem h, qdu, List.length_take, Nat.min_eq_left (by omega)]
 simp [lv, h]
theorem lv_drop (l : List (BitVec 64)) (i : Nat) (h : i ≤ l.length) : lv l = lv (l.take i) + 2 ^ (64 * i) * lv (l.drop i) := by
 have := qdu (l.take i) (l.drop i)
 rw [List.take_append_drop, List.length_take, Nat.min_eq_left h] at this
 exact this
theorem lv_set : ∀ (l : List (BitVec 64)) (i : Nat) (v : BitVec 64), i < l.length → lv (l.set i v) + 2 ^ (64 * i) * (l.getD i 0).toNat = lv l + 2 ^ (64 * i) * v.toNat
 | [], i, v, h => by cases h
 | a :: l, 0, v, _ => by simp [lv]; omega
 | a :: l, i + 1, v, h => by
  have ih := lv_set l i v (by simpa using h)
  rw [List.set_cons_succ, lv, lv, show 64 * (i + 1) = 64 + 64 * i by omega, Nat.pow_add, List.getD_cons_succ, Nat.mul_assoc, Nat.mul_assoc]
  omega
theorem lv_part (l : List (BitVec 64)) (d k i : Nat) (hd : 64 = d * k) (hk : 0 < k) : (l.getD (i / k) 0).toNat / 2 ^ (d * (i % k)) % 2 ^ d = lv l / 2 ^ (d * i) % 2 ^ d := by
 induction l generalizing i with
 | nil => simp [lv]
 | cons a l ih =>
  by_cases h : i < k
  ·rw [Nat.div_eq_of_lt h, Nat.mod_eq_of_lt h, List.getD_cons_zero, lv]
   have e : 2 ^ 64 = 2 ^ (d * i) * (2 ^ d * 2 ^ (d * (k - i - 1))) := by
    rw [← Nat.pow_add, ← Nat.pow_add, hd]
    congr 1
    rw [show d + d * (k - i - 1) = d * (k - i - 1 + 1) by rw [Nat.mul_add]; omega, ← Nat.mul_add]
    congr 1; omega
   rw [e, Nat.mul_assoc, Nat.add_mul_div_left _ _ (Nat.pow_pos (by omega)), Nat.mul_assoc (2 ^ d), Nat.add_mul_mod_self_left]
  ·have e1 : i / k = (i - k) / k + 1 := by
    rw [← Nat.add_div_right _ hk, Nat.sub_add_cancel (by omega)]
   have e2 : i % k = (i - k) % k := by rw [Nat.mod_eq_sub_mod (by omega)]
   rw [e1, e2, List.getD_cons_succ, ih, lv]
   have e3 : 2 ^ (d * i) = 2 ^ 64 * 2 ^ (d * (i - k)) := by rw [← Nat.pow_add, hd, ← Nat.mul_add, show k + (i - k) = i by omega]
   have ha := a.isLt
   rw [e3, ← Nat.div_div_eq_div_mul, show (a.toNat + 2 ^ 64 * lv l) / 2 ^ 64 = lv l by omega]
theorem lv_bit (l : List (BitVec 64)) (i : Nat) : (l.getD (i / 64) 0).toNat / 2 ^ (i % 64) % 2 = lv l / 2 ^ i % 2 := by
 have := lv_part l 1 64 i (by omega) (by omega)
 rwa [Nat.one_mul, Nat.one_mul, Nat.pow_one] at this
theorem bitW_of (l : List (BitVec 64)) (i : Nat) : ((l.getD (i / 64) 0) >>> (i % 64) &&& 1#64).toNat = lv l / 2 ^ i % 2 := by
 rw [← lv_bit, BitVec.toNat_and, BitVec.toNat_ushiftRight, Nat.shiftRight_eq_div_pow]
 show _ &&& 1 = _
 rw [Nat.and_one_is_mod]
theorem byteW_of (l : List (BitVec 64)) (i : Nat) : ((l.getD (i / 8) 0) >>> (i % 8 * 8)).setWidth 8 = BitVec.ofNat 8 (lv l / 256 ^ i) := by
 apply BitVec.eq_of_toNat_eq
 rw [BitVec.toNat_setWidth, BitVec.toNat_ofNat, BitVec.toNat_ushiftRight, Nat.shiftRight_eq_div_pow, Nat.mul_comm (i % 8) 8, lv_part l 8 8 i (by omega) (by omega), Nat.pow_mul]
theorem sk_get (n : Nat) {i : Nat} (hi : i < 32) : (sk n).getD i 0 = BitVec.ofNat 8 (n / 256 ^ i) := by
 have h : ∀ k n i, i < k → (skD n k)[i]? = some (n / 256 ^ i % 256) := by
  intro k
  induction k with
  | zero => intro n i h; cases h
  | succ k ih =>
   intro n i h
   rw [skD]
   cases i with
   | zero => simp
   | succ i => rw [List.getElem?_cons_succ, ih _ _ (by omega), Nat.div_div_eq_div_mul, Nat.pow_succ, Nat.mul_comm 256]
 unfold sk
 rw [List.getD_eq_getElem?_getD, List.getElem?_map, h 32 n i hi]
 simp only [Option.map_some, Option.getD_some]
 apply BitVec.eq_of_toNat_eq
 rw [BitVec.toNat_ofNat, BitVec.toNat_ofNat]
 omega
structure RdI (k : List (BitVec 8)) (i : Nat) (l : List (BitVec 64)) : Prop where
 len : l.length = 4
 eq : lv l = leB (k.take i)
theorem leB_append : ∀ a b : List (BitVec 8), leB (a ++ b) = leB a + 256 ^ a.length * leB b
 | [], b => by simp [leB]
 | x :: a, b => by rw [List.cons_append, leB, leB, leB_append a b, List.length_cons, Nat.pow_succ, Nat.mul_add, ← Nat.mul_assoc, Nat.mul_comm 256 (256 ^ a.length)]; omega
theorem leB_take (k : List (BitVec 8)) {i : Nat} (h : i < k.length) : leB (k.take (i + 1)) = leB (k.take i) + 256 ^ i * (k.getD i 0).toNat := by
 rw [List.take_succ_eq_append_getElem h, leB_append, List.length_take, Nat.min_eq_left (by omega)]
 simp [leB, h]
theorem RdI.start (k : List (BitVec 8)) : RdI k 0 (List.replicate 4 0) := ⟨rfl, by simp [leB]; rfl⟩
theorem RdI.step {k : List (BitVec 8)} {i : Nat} {l : List (BitVec 64)} (h : RdI k i l) (hk : k.length = 32) (hi : i < 32) : RdI k (i + 1) (l.set (i / 8) (l.getD (i / 8) 0 ||| (k.getD i 0).setWidth 64 <<< (i % 8 * 8))) := by
 have hlen := h.len
 refine ⟨by rw [List.length_set, h.len], ?_⟩
 have hs := lv_set l (i / 8) (l.getD (i / 8) 0 ||| (k.getD i 0).setWidth 64 <<< (i % 8 * 8)) (by omega)
 have hv := (k.getD i 0).isLt
 rw [leB_take k (by omega)]
 have hlt : lv l < 256 ^ i := by
  rw [h.eq]
  have := leB_lt (k.take i)
  rwa [List.length_take, Nat.min_eq_left (by omega)] at this
 have e8 : 256 ^ i = 2 ^ (64 * (i / 8)) * 2 ^ (i % 8 * 8) := by
  rw [show 256 = 2 ^ 8 by rfl, ← Nat.pow_mul, ← Nat.pow_add]; congr 1; omega
 have hx : (l.getD (i / 8) 0).toNat < 2 ^ (i % 8 * 8) := by
  have h1 := lv_drop l (i / 8) (by omega)
  rw [List.drop_eq_getElem_cons (by omega), lv] at h1
  have e : l.getD (i / 8) 0 = l[i / 8] := by simp [show i / 8 < l.length by omega]
  rw [e]
  generalize l[i / 8].toNat = x at *
  rcases Nat.lt_or_ge x (2 ^ (i % 8 * 8)) with h2 | h2
  ·exact h2
  ·exfalso
   have h3 : 2 ^ (64 * (i / 8)) * 2 ^ (i % 8 * 8) ≤ 2 ^ (64 * (i / 8)) * (x + 2 ^ 64 * lv (List.drop (i / 8 + 1) l)) := Nat.mul_le_mul_left _ (by omega)
   omega
 have hor : (l.getD (i / 8) 0 ||| (k.getD i 0).setWidth 64 <<< (i % 8 * 8)).toNat = (l.getD (i / 8) 0).toNat + (k.getD i 0).toNat * 2 ^ (i % 8 * 8) := by
  have h5 : (k.getD i 0).toNat * 2 ^ (i % 8 * 8) < 2 ^ 64 := by
   have h6 : 2 ^ (i % 8 * 8) ≤ 2 ^ 56 := Nat.pow_le_pow_right (by omega) (by omega)
   have h7 : (k.getD i 0).toNat * 2 ^ (i % 8 * 8) ≤ 255 * 2 ^ 56 := Nat.mul_le_mul (by omega) h6
   omega
  rw [BitVec.toNat_or, BitVec.toNat_shiftLeft, BitVec.toNat_setWidth, Nat.mod_eq_of_lt (show (k.getD i 0).toNat < 2 ^ 64 by omega), Nat.shiftLeft_eq, Nat.mod_eq_of_lt h5, Nat.or_comm, ← Nat.shiftLeft_eq, ← Nat.shiftLeft_add_eq_or_of_lt hx, Nat.add_comm]
 rw [hor, Nat.mul_add] at hs
 rw [← h.eq, e8, Nat.mul_assoc, Nat.mul_comm (2 ^ (i % 8 * 8))]
 omega
theorem RdI.done {k : List (BitVec 8)} {l : List (BitVec 64)} (h : RdI k 32 l) (hk : k.length = 32) : l = wd (leB k) 4 :=
 wd_eq h.len (by rw [h.eq, List.take_of_length_le (by omega)])
def shl : List (BitVec 64) → BitVec 64 → List (BitVec 64)
 | [], _ => []
 | a :: l, b => (a <<< 1 ||| b) :: shl l (a >>> 63)
def shb (l : List (BitVec 64)) (b : BitVec 64) : Nat → BitVec 64
 | 0 => b
 | i + 1 => l.getD i 0 >>> 63
theorem shl_len : ∀ (l : List (BitVec 64)) (b : BitVec 64), (shl l b).length = l.length
 | [], _ => rfl
 | a :: l, b => by rw [shl, List.length_cons, List.length_cons, shl_len l]
theorem shl_get : ∀ (l : List (BitVec 64)) (b : BitVec 64) (i : Nat), i < l.length → (shl l b)[i]? = some (l.getD i 0 <<< 1 ||| shb l b i)
 | [], _, _, h => by cases h
 | a :: l, b, 0, _ => by simp [shl, shb]
 | a :: l, b, i + 1, h => by
  rw [shl, List.getElem?_cons_succ, shl_get l _ i (by simpa using h), List.getD_cons_succ]
  congr 2
  cases i <;> simp [shb]
theorem lv_shl : ∀ (l : List (BitVec 64)) (b : BitVec 64), b.toNat ≤ 1 → lv (shl l b) = (2 * lv l + b.toNat) % 2 ^ (64 * l.length)
 | [], b, _ => by simp [shl, lv, Nat.mod_one]
 | a :: l, b, h => by
  have ha := a.isLt
  have e1 : (a >>> 63).toNat = a.toNat / 2 ^ 63 := by rw [BitVec.toNat_ushiftRight, Nat.shiftRight_eq_div_pow]
  have e2 : (a <<< 1 ||| b).toNat = 2 * a.toNat % 2 ^ 64 + b.toNat := by
   rw [BitVec.toNat_or, BitVec.toNat_shiftLeft, Nat.shiftLeft_eq]
   have e3 : a.toNat * 2 ^ 1 % 2 ^ 64 = (a.toNat % 2 ^ 63) <<< 1 := by rw [Nat.shiftLeft_eq]; omega
   rw [e3, ← Nat.shiftLeft_add_eq_or_of_lt (by omega), Nat.shiftLeft_eq]
   omega
  have ih := lv_shl l (a >>> 63) (by rw [e1]; omega)
  rw [shl, lv, ih, e1, e2, lv, List.length_cons, show 64 * (l.length + 1) = 64 + 64 * l.length by omega, Nat.pow_add]
  generalize 2 ^ (64 * l.length) = M
  generalize lv l = x
  have e4 : 2 * (a.toNat + 2 ^ 64 * x) + b.toNat = (2 * a.toNat % 2 ^ 64 + b.toNat) + 2 ^ 64 * (2 * x + a.toNat / 2 ^ 63) := by omega
  rw [e4, Nat.mod_mul]
  have e5 : (2 * a.toNat % 2 ^ 64 + b.toNat + 2 ^ 64 * (2 * x + a.toNat / 2 ^ 63)) % 2 ^ 64 = 2 * a.toNat % 2 ^ 64 + b.toNat := by omega
  have e6 : (2 * a.toNat % 2 ^ 64 + b.toNat + 2 ^ 64 * (2 * x + a.toNat / 2 ^ 63)) / 2 ^ 64 = 2 * x + a.toNat / 2 ^ 63 := by omega
  rw [e5, e6]
theorem shl_take (l : List (BitVec 64)) (b : BitVec 64) {i : Nat} (h : i < l.length) : (shl l b).take (i + 1) = (shl l b).take i ++ [l.getD i 0 <<< 1 ||| shb l b i] := by
 have e := shl_get l b i h
 have hi : i < (shl l b).length := by rw [shl_len]; exact h
 rw [List.take_succ_eq_append_getElem hi]
 rw [List.getElem?_eq_getElem hi] at e
 rw [Option.some.inj e]
def sbw (a b c : BitVec 64) : BitVec 64 := a - b - c
def sbc (a b c : BitVec 64) : BitVec 64 := if a.toNat < b.toNat + c.toNat then 1 else 0
def adw (a b c : BitVec 64) : BitVec 64 := a + b + c
def adc (a b c : BitVec 64) : BitVec 64 := if a.toNat + b.toNat + c.toNat < 2 ^ 64 then 0 else 1
theorem sbc_le (a b c : BitVec 64) : (sbc a b c).toNat ≤ 1 := by unfold sbc; split <;> decide
theorem adc_le (a b c : BitVec 64) : (adc a b c).toNat ≤ 1 := by unfold adc; split <;> decide
theorem sb_sum {a b c : BitVec 64} (hc : c.toNat ≤ 1) : (sbw a b c).toNat + b.toNat + c.toNat = a.toNat + 2 ^ 64 * (sbc a b c).toNat := by
 have h1 := a.isLt
 have h2 := b.isLt
 unfold sbw sbc
 rw [BitVec.toNat_sub, BitVec.toNat_sub]
 split
 ·rename_i h; rw [show (1 : BitVec 64).toNat = 1 by decide]; omega
 ·rename_i h; rw [show (0 : BitVec 64).toNat = 0 by decide]; omega
theorem ad_sum {a b c : BitVec 64} (hc : c.toNat ≤ 1) : (adw a b c).toNat + 2 ^ 64 * (adc a b c).toNat = a.toNat + b.toNat + c.toNat := by
 have h1 := a.isLt
 have h2 := b.isLt
 unfold adw adc
 rw [BitVec.toNat_add, BitVec.toNat_add]
 split
 ·rename_i h; rw [show (0 : BitVec 64).toNat = 0 by decide]; omega
 ·rename_i h; rw [show (1 : BitVec 64).toNat = 1 by decide]; omega
theorem take_set {l : List (BitVec 64)} {i : Nat} (h : i < l.length) (v : BitVec 64) : (l.set i v).take (i + 1) = l.take i ++ [v] := by
 rw [List.take_succ_eq_append_getElem (by simpa using h), List.getElem_set_self, List.take_set_of_le (Nat.le_refl _)]
structure SbwI (l m : List (BitVec 64)) (i : Nat) (r : List (BitVec 64)) (c : BitVec 64) : Prop where
 len : r.length = l.length
 bit : c.toNat ≤ 1
 left : r.drop i = l.drop i
 eq : lv (r.take i) + lv (m.take i) = lv (l.take i) + 2 ^ (64 * i) * c.toNat
theorem SbwI.start (l m : List (BitVec 64)) : SbwI l m 0 l 0 := ⟨rfl, by decide, rfl, by simp [lv]⟩
theorem drop_get {l r : List (BitVec 64)} {i : Nat} (h : r.drop i = l.drop i) (hl : r.length = l.length) (hi : i < l.length) : r.getD i 0 = l.getD i 0 := by
 rw [List.drop_eq_getElem_cons (by omega), List.drop_eq_getElem_cons hi] at h
 have := (List.cons.inj h).1
 simp [hi, show i < r.length by omega, this]
theorem drop_next {l r : List (BitVec 64)} {i : Nat} (h : r.drop i = l.drop i) (v : BitVec 64) : (r.set i v).drop (i + 1) = l.drop (i + 1) := by
 rw [List.drop_set_of_lt (by omega), ← List.drop_drop, ← List.drop_drop, h]
theorem SbwI.step {l m r : List (BitVec 64)} {c : BitVec 64} {i : Nat} (h : SbwI l m i r c) (hm : m.length = l.length) (hi : i < l.length) : SbwI l m (i + 1) (r.set i (sbw (r.getD i 0) (m.getD i 0) c)) (sbc (r.getD i 0) (m.getD i 0) c) := by
 have hl := h.len
 have e := h.eq
 have s := sb_sum (a := r.getD i 0) (b := m.getD i 0) h.bit
 have hr := drop_get h.left hl hi
 refine ⟨by rw [List.length_set, hl], sbc_le _ _ _, drop_next h.left _, ?_⟩
 rw [take_set (by omega), qdu, lv_take m i (by omega), lv_take l i hi, List.length_take, Nat.min_eq_left (by omega), ← hr]
 simp only [lv, Nat.mul_zero, Nat.add_zero]
 rw [show 64 * (i + 1) = 64 * i + 64 by omega, Nat.pow_add, Nat.mul_assoc]
 generalize 2 ^ (64 * i) = p at *
 generalize (sbw (r.getD i 0) (m.getD i 0) c).toNat = d at *
 generalize (sbc (r.getD i 0) (m.getD i 0) c).toNat = c' at *
 generalize (r.getD i 0).toNat = x at *
 generalize (m.getD i 0).toNat = y at *
 have e2 : p * (d + y + c.toNat) = p * (x + 2 ^ 64 * c') := by rw [s]
 rw [Nat.mul_add, Nat.mul_add, Nat.mul_add p x] at e2
 omega
theorem SbwI.done {l m r : List (BitVec 64)} {c : BitVec 64} (h : SbwI l m l.length r c) (hm : m.length = l.length) : lv r = (lv l + 2 ^ (64 * l.length) - lv m) % 2 ^ (64 * l.length) ∧ c = if lv l < lv m then 1 else 0 := by
 have e := h.eq
 have hr := lv_lt r
 have hl := lv_lt l
 have hm' := lv_lt m
 rw [h.len] at hr
 rw [hm] at hm'
 rw [List.take_of_length_le (l := r) (by rw [h.len]; exact Nat.le_refl _), List.take_of_length_le (l := m) (by rw [hm]; exact Nat.le_refl _), List.take_of_length_le (l := l) (Nat.le_refl _)] at e
 generalize 2 ^ (64 * l.length) = M at *
 have hb := h.bit
 by_cases hlt : lv l < lv m
 ·have hc : c.toNat = 1 := by
   rcases (show c.toNat = 0 ∨ c.toNat = 1 by omega) with h0 | h0
   ·rw [h0, Nat.mul_zero] at e; omega
   ·exact h0
  rw [hc, Nat.mul_one] at e
  refine ⟨by rw [Nat.mod_eq_of_lt (by omega)]; omega, ?_⟩
  rw [if_pos hlt]
  exact BitVec.eq_of_toNat_eq (by rw [hc]; rfl)
 ·have hc : c.toNat = 0 := by
   rcases (show c.toNat = 0 ∨ c.toNat = 1 by omega) with h0 | h0
   ·exact h0
   ·rw [h0, Nat.mul_one] at e; omega
  rw [hc, Nat.mul_zero, Nat.add_zero] at e
  refine ⟨?_, ?_⟩
  ·rw [show lv l + M - lv m = (lv l - lv m) + M by omega, Nat.add_mod_right, Nat.mod_eq_of_lt (by omega)]
   omega
  ·rw [if_neg hlt]
   exact BitVec.eq_of_toNat_eq (by rw [hc]; rfl)
structure AddI (l m : List (BitVec 64)) (i : Nat) (r : List (BitVec 64)) (c : BitVec 64) : Prop where
 len : r.length = l.length
 bit : c.toNat ≤ 1
 left : r.drop i = l.drop i
 eq : lv (r.take i) + 2 ^ (64 * i) * c.toNat = lv (l.take i) + lv (m.take i)
theorem AddI.start (l m : List (BitVec 64)) : AddI l m 0 l 0 := ⟨rfl, by decide, rfl, by simp [lv]⟩
theorem AddI.step {l m r : List (BitVec 64)} {c : BitVec 64} {i : Nat} (h : AddI l m i r c) (hm : m.length = l.length) (hi : i < l.length) : AddI l m (i + 1) (r.set i (adw (r.getD i 0) (m.getD i 0) c)) (adc (r.getD i 0) (m.getD i 0) c) := by
 have hl := h.len
 have e := h.eq
 have s := ad_sum (a := r.getD i 0) (b := m.getD i 0) h.bit
 have hr := drop_get h.left hl hi
 refine ⟨by rw [List.length_set, hl], adc_le _ _ _, drop_next h.left _, ?_⟩
 rw [take_set (by omega), qdu, lv_take m i (by omega), lv_take l i hi, List.length_take, Nat.min_eq_left (by omega), ← hr]
 simp only [lv, Nat.mul_zero, Nat.add_zero]
 rw [show 64 * (i + 1) = 64 * i + 64 by omega, Nat.pow_add, Nat.mul_assoc]
 generalize 2 ^ (64 * i) = p at *
 generalize (adw (r.getD i 0) (m.getD i 0) c).toNat = d at *
 generalize (adc (r.getD i 0) (m.getD i 0) c).toNat = c' at *
 generalize (r.getD i 0).toNat = x at *
 generalize (m.getD i 0).toNat = y at *
 have e2 : p * (d + 2 ^ 64 * c') = p * (x + y + c.toNat) := by rw [s]
 rw [Nat.mul_add, Nat.mul_add, Nat.mul_add p x] at e2
 omega
theorem AddI.done {l m r : List (BitVec 64)} {c : BitVec 64} (h : AddI l m l.length r c) (hm : m.length = l.length) : lv r = (lv l + lv m) % 2 ^ (64 * l.length) := by
 have e := h.eq
 have hr := lv_lt r
 rw [h.len] at hr
 rw [List.take_of_length_le (l := r) (by rw [h.len]; exact Nat.le_refl _), List.take_of_length_le (l := m) (by rw [hm]; exact Nat.le_refl _), List.take_of_length_le (l := l) (Nat.le_refl _)] at e
 rw [← e, Nat.add_mul_mod_self_left, Nat.mod_eq_of_lt hr]
theorem neg_bit {b : BitVec 64} (h : b.toNat ≤ 1) : -b = if b.toNat = 1 then BitVec.allOnes 64 else 0 := by
 rcases (show b.toNat = 0 ∨ b.toNat = 1 by omega) with h0 | h0
 ·obtain rfl : b = 0#64 := BitVec.eq_of_toNat_eq (by rw [h0]; rfl)
  decide
 ·obtain rfl : b = 1#64 := BitVec.eq_of_toNat_eq (by rw [h0]; rfl)
  decide
theorem lv_mask (l : List (BitVec 64)) {b : BitVec 64} (h : b.toNat ≤ 1) : lv (l.map (· &&& -b)) = b.toNat * lv l := by
 induction l with
 | nil => simp [lv]
 | cons a l ih =>
  rw [List.map_cons, lv, lv, ih, neg_bit h]
  rcases (show b.toNat = 0 ∨ b.toNat = 1 by omega) with h0 | h0
  ·rw [h0]; simp
  ·rw [h0, if_pos rfl, BitVec.and_allOnes, Nat.one_mul, Nat.one_mul]
end Go.Proofs.YtcgbgmbnagmohaaDoor
namespace Go.Proofs.YtcgbgmbnagmohaaDoor
open Go.RowKit
set_option maxRecDepth 20000
theorem one64s (l : List (BitVec 64)) : (l.map b64).toArray.all (·.oneCell') = true :=
 all_oneCell_toArray fun v hv => by rw [List.mem_map] at hv; obtain ⟨x, _, rfl⟩ := hv; rfl
theorem one64v (l : List (BitVec 64)) : ∀ v ∈ l.map b64, v.oneCell' = true := fun v hv => by rw [List.mem_map] at hv; obtain ⟨x, _, rfl⟩ := hv; rfl
theorem szS4 {l : List (BitVec 64)} (h : l.length = 4) : (Tryd.prog.info? 82).map (·.size) = some (l.map b64).length := by rw [List.length_map, h]; kernel_rfl
theorem szS8 {l : List (BitVec 64)} (h : l.length = 8) : (Tryd.prog.info? 84).map (·.size) = some (l.map b64).length := by rw [List.length_map, h]; kernel_rfl
theorem z64_len (n : Nat) : (z64 n).length = n := by unfold z64; rw [List.length_map, List.length_replicate]
section
variable {w : World} {ρ : Operand → Value} {o : Oper} {t t' : TypeId} {x y z : Operand} {a b c : BitVec 64}
theorem qds {e : TypeId} {n g f : Nat} (ho : o.op = .slice t x none none none) (ht : Tryd.prog.underlying t = some (.array n e)) (hs : (Tryd.prog.info? e).map (·.size) = some 1) (hx : ρ x = .pointer (some ⟨g, f, none⟩)) : (execOp ρ o).run Tryd.prog w = .ok (.value (.slice (some ⟨g, f, none⟩) n n)) w := by
 have el : Tryd.prog.elem t = e := by unfold Program.elem; rw [ht]
 have al : Tryd.prog.arrayLen t = n := by unfold Program.arrayLen; rw [ht]
 have h1 := run_sliceAt_array_all (P := Tryd.prog) w t ⟨g, f, none⟩ (by rw [al, el]; exact ht)
 obtain ⟨inf, hi, h2⟩ := Option.map_eq_some_iff.1 hs
 have hz : (sizeOf e).run Tryd.prog w = .ok 1 w := by simp [sizeOf, typeInfo, go_sem, hi, h2]
 rw [el, hz, al] at h1
 unfold execOp
 simp only [ho, hx, Option.map_none, Sem.run_bind, h1]
 simp [slicedAt, Addr.add_mid]
theorem run_slWl {e : TypeId} {n g f l : Nat} {k : IntKind} (ho : o.op = .slice t x (some y) none none) (ht : Tryd.prog.underlying t = some (.array n e)) (hs : (Tryd.prog.info? e).map (·.size) = some 1) (hx : ρ x = .pointer (some ⟨g, f, none⟩)) (hy : ρ y = .int k (l : Int)) (hl : l < n) : (execOp ρ o).run Tryd.prog w = .ok (.value (.slice (some ⟨g, f + l, none⟩) (n - l) (n - l))) w := by
 have el : Tryd.prog.elem t = e := by unfold Program.elem; rw [ht]
 have al : Tryd.prog.arrayLen t = n := by unfold Program.arrayLen; rw [ht]
 have h1 := run_sliceAt_array_l (P := Tryd.prog) w t ⟨g, f, none⟩ (by rw [al, el]; exact ht) k (l : Int) (by omega) (by rw [al]; omega)
 obtain ⟨inf, hi, h2⟩ := Option.map_eq_some_iff.1 hs
 have hz : (sizeOf e).run Tryd.prog w = .ok 1 w := by simp [sizeOf, typeInfo, go_sem, hi, h2]
 rw [el, hz, al] at h1
 unfold execOp
 simp only [ho, hx, hy, Option.map_none, Option.map_some, Sem.run_bind, h1]
 simp [slicedAt, Addr.add_mid, show ¬ n = l by omega]
theorem run_slWh {e : TypeId} {n g f h : Nat} {k : IntKind} (ho : o.op = .slice t x none (some y) none) (ht : Tryd.prog.underlying t = some (.array n e)) (hs : (Tryd.prog.info? e).map (·.size) = some 1) (hx : ρ x = .pointer (some ⟨g, f, none⟩)) (hy : ρ y = .int k (h : Int)) (hh : h ≤ n) : (execOp ρ o).run Tryd.prog w = .ok (.value (.slice (some ⟨g, f, none⟩) h n)) w := by
 have el : Tryd.prog.elem t = e := by unfold Program.elem; rw [ht]
 have al : Tryd.prog.arrayLen t = n := by unfold Program.arrayLen; rw [ht]
 have h1 := run_sliceAt_array_h (P := Tryd.prog) w t ⟨g, f, none⟩ (by rw [al, el]; exact ht) k (h : Int) (by omega) (by rw [al]; omega)
 obtain ⟨inf, hi, h2⟩ := Option.map_eq_some_iff.1 hs
 have hz : (sizeOf e).run Tryd.prog w = .ok 1 w := by simp [sizeOf, typeInfo, go_sem, hi, h2]
 rw [el, hz, al] at h1
 unfold execOp
 simp only [ho, hx, hy, Option.map_none, Option.map_some, Sem.run_bind, h1]
 simp [slicedAt, Addr.add_mid]
theorem run_s2a {e : TypeId} {n m c : Nat} {ad : Addr} (ho : o.op = .sliceToArrayPointer t x) (ht : Tryd.prog.underlying t = some (.array n e)) (hx : ρ x = .slice (some ad) m c) (hn : n ≤ m) : (execOp ρ o).run Tryd.prog w = .ok (.value (.pointer (some ad))) w := by
 unfold execOp
 simp only [ho, hx, Sem.run_bind, run_arrayAt (P := Tryd.prog) w t e n (some ad) m c ht hn]
 simp [go_sem]
theorem run_cpyV {e g f n c h f' m c' : Nat} {vs l : List Value} (ho : o.op = .call { callee := .builtin .copy, args := #[x, y], argTypes := #[t, t'] }) (ht : Tryd.prog.underlying t = some (.slice e)) (hs : (Tryd.prog.info? e).map (·.size) = some 1) (hx : ρ x = .slice (some ⟨g, f, none⟩) n c) (hy : ρ y = .slice (some ⟨h, f', none⟩) m c') (hv : w.rangeAt h f' vs) (hl : vs.length = Nat.min m n) (hA : Arr g l w) (hm : f + vs.length ≤ l.length) (h1 : ∀ v ∈ vs, v.oneCell' = true) :
  (execOp ρ o).run Tryd.prog w = .ok (.value (.int .i64 (vs.length : Int))) (w.setCells g f vs) := by
 have h := run_copy_cells (P := Tryd.prog) w t t' o.type e g f n c ⟨h, f', none⟩ m c' vs ht hs hl (fun j v hj => by rw [Addr.add_mid]; exact hv j v hj) (fun j hj => by rw [hA.c (f + j) _ (List.getElem?_eq_getElem (by omega))]; rfl) (fun j _ => hA.f _) h1
 unfold execOp
 simp [ho, resolve, invoke, builtin, hx, hy, h, Result.andThen, goInt]
theorem run_shrW {n : Nat} (ho : o.op = .binOp .shr t x y t') (hx : ρ x = b64 a) (hy : ρ y = .int .i64 (n : Int)) (hn : n ≤ 64) : (execOp ρ o).run Tryd.prog w = .ok (.value (b64 (a >>> n))) w := by
 obtain ⟨dst, op, type, pos, after, guard⟩ := o
 subst ho
 unfold b64 at *
 have e : (a.toNat : Int) / 2 ^ n = (((a >>> n).toNat : Nat) : Int) := by
  rw [BitVec.toNat_ushiftRight, Nat.shiftRight_eq_div_pow]; simp
 generalize (a >>> n).toNat = z at *
 have hn0 : (0 : Int) ≤ (n : Int) := by omega
 go_simp
 try exact e
theorem run_shlW {n : Nat} (ho : o.op = .binOp .shl t x y t') (hx : ρ x = b64 a) (hy : ρ y = .int .i64 (n : Int)) (hn : n ≤ 64) : (execOp ρ o).run Tryd.prog w = .ok (.value (b64 (a <<< n))) w := by
 obtain ⟨dst, op, type, pos, after, guard⟩ := o
 subst ho
 unfold b64 at *
 have e : IntKind.u64.wrap ((a.toNat : Int) * 2 ^ n) = (((a <<< n).toNat : Nat) : Int) := by
  rw [wrap64, BitVec.toNat_shiftLeft, Nat.shiftLeft_eq]; simp
 generalize (a <<< n).toNat = z at *
 have hn0 : (0 : Int) ≤ (n : Int) := by omega
 go_simp
 try exact e
theorem run_negW (ho : o.op = .unOp .neg t x) (hx : ρ x = b64 a) : (execOp ρ o).run Tryd.prog w = .ok (.value (b64 (-a))) w := by
 obtain ⟨dst, op, type, pos, after, guard⟩ := o
 subst ho
 unfold b64 at *
 have e : IntKind.u64.wrap (-(a.toNat : Int)) = (((-a).toNat : Nat) : Int) := by
  rw [wrap64, BitVec.toNat_neg]; have := a.isLt; omega
 generalize (-a).toNat = z at *
 go_simp
 try exact e
theorem run_andnW (ho : o.op = .binOp .andNot t x y t') (hx : ρ x = b64 a) (hy : ρ y = b64 b) : (execOp ρ o).run Tryd.prog w = .ok (.value (b64 (a &&& ~~~b))) w := by
 obtain ⟨dst, op, type, pos, after, guard⟩ := o
 subst ho
 unfold b64 at *
 have e := u64_andNot_nat a.toNat b.toNat a.isLt b.isLt
 have e2 : (a &&& ~~~b).toNat = a.toNat &&& (18446744073709551615 - b.toNat) := by
  rw [BitVec.toNat_and, BitVec.toNat_not]
 rw [← e2] at e
 generalize (a &&& ~~~b).toNat = z at *
 go_simp
 try exact e
theorem run_eqW {r : Bool} (ho : o.op = .binOp .eql t x y t') (hx : ρ x = b64 a) (hy : ρ y = b64 b) (h : decide (a = b) = r) : (execOp ρ o).run Tryd.prog w = .ok (.value (.bool r)) w := by
 rw [qb4 (c := r) ho hx hy (by
  rw [← h]
  by_cases e : a = b
  ·subst e; simp
  ·have : ¬ a.toNat = b.toNat := fun h => e (BitVec.eq_of_toNat_eq h)
   simp only [e, decide_false, beq_eq_false_iff_ne]; omega)]
theorem run_bldW0 {cells : Array Value} (ho : o.op = .build t #[]) (h : Tryd.prog.built t [] = some cells) : (execOp ρ o).run Tryd.prog w = .ok (.value (.agg cells)) w := run_bld ho (by simpa using h)
theorem qbt {vs : Array Value} {i : Nat} {v : Value} (ho : o.op = .extract x i) (hx : ρ x = .tuple vs) (hv : vs[i]? = some v) : (execOp ρ o).run Tryd.prog w = .ok (.value v) w := by
 obtain ⟨dst, op, type, pos, after, guard⟩ := o
 subst ho
 go_simp
theorem run_subW {ts : Array TypeId} (hc : c.toNat ≤ 1) (ho : o.op = .call { callee := .value (.func 76), args := #[x, y, z], argTypes := ts }) (hf : ρ (.func 76) = .func (.func 76) #[] #[]) (hx : ρ x = b64 a) (hy : ρ y = b64 b) (hz : ρ z = b64 c) : (execOp ρ o).run Tryd.prog w = .ok (.value (.tuple #[b64 (sbw a b c), b64 (sbc a b c)])) w := by
 obtain ⟨dst, op, type, pos, after, guard⟩ := o
 subst ho
 have ha := a.isLt
 have hb := b.isLt
 have h := run_sub64_at (x := (a.toNat : Int)) (y := (b.toNat : Int)) (b := (c.toNat : Int)) ⟨by omega, by omega⟩ ⟨by omega, by omega⟩ ⟨by omega, by omega⟩ w
 have s := sb_sum (a := a) (b := b) hc
 have e1 : sbW (a.toNat : Int) (b.toNat : Int) (c.toNat : Int) = ((sbw a b c).toNat : Int) := by
  have := (sbw a b c).isLt
  have := sbc_le a b c
  unfold sbW; omega
 have e2 : sbB (a.toNat : Int) (b.toNat : Int) (c.toNat : Int) = ((sbc a b c).toNat : Int) := by
  unfold sbB sbc
  by_cases hh : a.toNat < b.toNat + c.toNat
  ·rw [if_pos hh, if_pos (by omega)]; rfl
  ·rw [if_neg hh, if_neg (by omega)]; rfl
 rw [e1, e2] at h
 unfold b64 at *
 go_simp
 try exact h
theorem run_addW {ts : Array TypeId} (hc : c.toNat ≤ 1) (ho : o.op = .call { callee := .value (.func 73), args := #[x, y, z], argTypes := ts }) (hf : ρ (.func 73) = .func (.func 73) #[] #[]) (hx : ρ x = b64 a) (hy : ρ y = b64 b) (hz : ρ z = b64 c) : (execOp ρ o).run Tryd.prog w = .ok (.value (.tuple #[b64 (adw a b c), b64 (adc a b c)])) w := by
 obtain ⟨dst, op, type, pos, after, guard⟩ := o
 subst ho
 have ha := a.isLt
 have hb := b.isLt
 have h := qb7 (x := (a.toNat : Int)) (y := (b.toNat : Int)) (c := (c.toNat : Int)) ⟨by omega, by omega⟩ ⟨by omega, by omega⟩ ⟨by omega, by omega⟩ w
 have s := ad_sum (a := a) (b := b) hc
 have e1 : adW (a.toNat : Int) (b.toNat : Int) (c.toNat : Int) = ((adw a b c).toNat : Int) := by
  have := (adw a b c).isLt
  have := adc_le a b c
  unfold adW; omega
 have e2 : adC (a.toNat : Int) (b.toNat : Int) (c.toNat : Int) = ((adc a b c).toNat : Int) := by
  have := (adw a b c).isLt
  unfold adC; omega
 rw [e1, e2] at h
 unfold b64 at *
 go_simp
 try exact h
end
theorem setCells_snoc (g : Nat) (v : Value) : ∀ (vs : List Value) (o : Nat) (u : World), (u.setCells g o vs).setCell ⟨g, o + vs.length, none⟩ v = u.setCells g o (vs ++ [v])
 | [], o, u => rfl
 | x :: vs, o, u => by
  show ((u.setCell ⟨g, o, none⟩ x).setCells g (o + 1) vs).setCell ⟨g, o + (vs.length + 1), none⟩ v = (u.setCell ⟨g, o, none⟩ x).setCells g (o + 1) (vs ++ [v])
  rw [← setCells_snoc g v vs (o + 1) (u.setCell ⟨g, o, none⟩ x), show o + 1 + vs.length = o + (vs.length + 1) by omega]
end Go.Proofs.YtcgbgmbnagmohaaDoor
