/- The reference's products, boxes and mixings are the program's. Nothing of the model. -/
import Derived.Test.YtlfggmdlgeakeaaAesRef1
namespace Go.Proofs.Ytlfggmdlgeakeaa

theorem rbx_all : ∀ i, i < 256 → rbx (rbI (BitVec.ofNat 8 i) 255) = bx (BitVec.ofNat 8 i) := by decide +kernel
theorem rbx_eq (b : BitVec 8) : rbx (rbI b 255) = bx b := all8 (P := fun b => rbx (rbI b 255) = bx b) rbx_all b
theorem tms1 (x : BitVec 8) : tms 1 x = x := all8 (P := fun x => tms 1 x = x) (by decide +kernel) x
theorem tms2 (x : BitVec 8) : tms 2 x = dbl x := all8 (P := fun x => tms 2 x = dbl x) (by decide +kernel) x
theorem tms3 (x : BitVec 8) : tms 3 x = tri x := all8 (P := fun x => tms 3 x = tri x) (by decide +kernel) x
theorem tms9 (x : BitVec 8) : tms 9 x = dbl (dbl (dbl x)) ^^^ x := all8 (P := fun x => tms 9 x = dbl (dbl (dbl x)) ^^^ x) (by decide +kernel) x
theorem tms11 (x : BitVec 8) : tms 11 x = dbl (dbl (dbl x)) ^^^ dbl x ^^^ x := all8 (P := fun x => tms 11 x = dbl (dbl (dbl x)) ^^^ dbl x ^^^ x) (by decide +kernel) x
theorem tms13 (x : BitVec 8) : tms 13 x = dbl (dbl (dbl x)) ^^^ dbl (dbl x) ^^^ x := all8 (P := fun x => tms 13 x = dbl (dbl (dbl x)) ^^^ dbl (dbl x) ^^^ x) (by decide +kernel) x
theorem tms14 (x : BitVec 8) : tms 14 x = dbl (dbl (dbl x)) ^^^ dbl (dbl x) ^^^ dbl x := all8 (P := fun x => tms 14 x = dbl (dbl (dbl x)) ^^^ dbl (dbl x) ^^^ dbl x) (by decide +kernel) x
theorem tms_pow : ∀ j, j < 7 → tms ((1 : BitVec 8) <<< j) 2 = (1 : BitVec 8) <<< (j + 1) := by decide +kernel
/-- A column's sum, term by term. -/
def mxI (by' s : List (BitVec 8)) (i : Nat) : Nat → BitVec 8
  | 0 => 0
  | k + 1 => mxI by' s i k ^^^ tms (by'.getD ((k + 4 - i % 4) % 4) 0) (s.getD (i / 4 * 4 + k) 0)
def mxB (by' s : List (BitVec 8)) : List (BitVec 8) := tab 16 fun i => mxI by' s i 4
theorem mxI_four (by' s : List (BitVec 8)) (i : Nat) : mxI by' s i 4 = tms (by'.getD ((0 + 4 - i % 4) % 4) 0) (s.getD (i / 4 * 4 + 0) 0) ^^^ tms (by'.getD ((1 + 4 - i % 4) % 4) 0) (s.getD (i / 4 * 4 + 1) 0) ^^^ tms (by'.getD ((2 + 4 - i % 4) % 4) 0) (s.getD (i / 4 * 4 + 2) 0) ^^^ tms (by'.getD ((3 + 4 - i % 4) % 4) 0) (s.getD (i / 4 * 4 + 3) 0) := by
  simp only [mxI]
  congr 3
  exact BitVec.zero_xor
theorem col_four (s : List (BitVec 8)) (c : Nat) : col s c = [s.getD (c * 4 + 0) 0, s.getD (c * 4 + 1) 0, s.getD (c * 4 + 2) 0, s.getD (c * 4 + 3) 0] := by
  rw [Nat.mul_comm c 4]; rfl
theorem xrot (p q r s : BitVec 8) : p ^^^ q ^^^ r ^^^ s = q ^^^ r ^^^ s ^^^ p := by
  rw [BitVec.xor_comm (q ^^^ r ^^^ s) p, BitVec.xor_assoc, BitVec.xor_assoc, BitVec.xor_assoc q r s]
theorem mix_eq (s : List (BitVec 8)) : mxB [2, 3, 1, 1] s = mixB s := tab_congr fun i hi => by
  rw [mxI_four, col_four, mixW_four]
  generalize s.getD (i / 4 * 4 + 0) 0 = a, s.getD (i / 4 * 4 + 1) 0 = b, s.getD (i / 4 * 4 + 2) 0 = c, s.getD (i / 4 * 4 + 3) 0 = d
  have h4 : i % 4 = 0 ∨ i % 4 = 1 ∨ i % 4 = 2 ∨ i % 4 = 3 := by omega
  rcases h4 with h | h | h | h <;> rw [h]
  · show tms 2 a ^^^ tms 3 b ^^^ tms 1 c ^^^ tms 1 d = dbl a ^^^ tri b ^^^ c ^^^ d
    rw [tms1, tms1, tms2, tms3]
  · show tms 1 a ^^^ tms 2 b ^^^ tms 3 c ^^^ tms 1 d = dbl b ^^^ tri c ^^^ d ^^^ a
    rw [tms1, tms1, tms2, tms3, xrot]
  · show tms 1 a ^^^ tms 1 b ^^^ tms 2 c ^^^ tms 3 d = dbl c ^^^ tri d ^^^ a ^^^ b
    rw [tms1, tms1, tms2, tms3, xrot, xrot]
  · show tms 3 a ^^^ tms 1 b ^^^ tms 1 c ^^^ tms 2 d = dbl d ^^^ tri a ^^^ b ^^^ c
    rw [tms1, tms1, tms2, tms3, xrot (dbl d)]
/-- One place of what takes a mixing back. -/
theorem unmix1 (a b c d : BitVec 8) : dbl (a ^^^ dbl (dbl (a ^^^ c))) ^^^ tri (b ^^^ dbl (dbl (b ^^^ d))) ^^^ (c ^^^ dbl (dbl (c ^^^ a))) ^^^ (d ^^^ dbl (dbl (d ^^^ b))) = tms 14 a ^^^ tms 11 b ^^^ tms 13 c ^^^ tms 9 d := by
  rw [tms14, tms11, tms13, tms9]
  simp only [tri, dbl_xor]
  generalize dbl (dbl (dbl a)) = a3, dbl (dbl (dbl b)) = b3, dbl (dbl (dbl c)) = c3, dbl (dbl (dbl d)) = d3
  generalize dbl (dbl a) = a2, dbl (dbl b) = b2, dbl (dbl c) = c2, dbl (dbl d) = d2
  generalize dbl a = a1, dbl b = b1
  apply BitVec.eq_of_getLsbD_eq
  intro i _
  simp only [BitVec.getLsbD_xor]
  generalize b.getLsbD i = b, c.getLsbD i = c, d.getLsbD i = d, a1.getLsbD i = a1, b1.getLsbD i = b1, a2.getLsbD i = a2, b2.getLsbD i = b2, c2.getLsbD i = c2, d2.getLsbD i = d2, a3.getLsbD i = a3, b3.getLsbD i = b3, c3.getLsbD i = c3, d3.getLsbD i = d3
  revert b c d a1 b1 a2 b2 c2 d2 a3 b3 c3 d3
  decide +kernel
theorem unmix_eq (s : List (BitVec 8)) : mxB [14, 11, 13, 9] s = unmixB s := tab_congr fun i hi => by
  rw [mxI_four, col_four, unmixW_four, BitVec.xor_comm (s.getD (i / 4 * 4 + 0) 0) (s.getD (i / 4 * 4 + 2) 0), mixW_four]
  generalize s.getD (i / 4 * 4 + 0) 0 = a, s.getD (i / 4 * 4 + 1) 0 = b, s.getD (i / 4 * 4 + 2) 0 = c, s.getD (i / 4 * 4 + 3) 0 = d
  have e1 := unmix1 a b c d
  have e2 := unmix1 b c d a
  have e3 := unmix1 c d a b
  have e4 := unmix1 d a b c
  rw [BitVec.xor_comm a c, BitVec.xor_comm d b] at e1
  rw [BitVec.xor_comm d b, BitVec.xor_comm a c] at e2
  rw [BitVec.xor_comm d b, BitVec.xor_comm a c] at e3
  rw [BitVec.xor_comm d b, BitVec.xor_comm a c] at e4
  have h4 : i % 4 = 0 ∨ i % 4 = 1 ∨ i % 4 = 2 ∨ i % 4 = 3 := by omega
  rcases h4 with h | h | h | h <;> rw [h]
  · exact e1.symm
  · show tms 9 a ^^^ tms 14 b ^^^ tms 11 c ^^^ tms 13 d = _
    rw [xrot]; exact e2.symm
  · show tms 13 a ^^^ tms 9 b ^^^ tms 14 c ^^^ tms 11 d = _
    rw [xrot, xrot]; exact e3.symm
  · show tms 11 a ^^^ tms 13 b ^^^ tms 9 c ^^^ tms 14 d = _
    rw [xrot, xrot, xrot]; exact e4.symm
theorem turnI_1 : ∀ i, i < 16 → (i + 4 * (i % 4)) % 16 = turnI 1 i := by decide +kernel
/-- All boxes, in order. -/
def bxL : List (BitVec 8) := tab 256 fun i => bx (BitVec.ofNat 8 i)
theorem bxL_len : bxL.length = 256 := tab_len _ _
theorem bxL_get (x : BitVec 8) : bxL.getD x.toNat 0 = bx x := by
  rw [bxL, tab_get _ x.isLt, BitVec.ofNat_toNat, BitVec.setWidth_eq]
end Go.Proofs.Ytlfggmdlgeakeaa
