/- Bytes as polynomials, boxes, blocks and keys by lists: what the program makes, as functions. Nothing of the model. -/
import Derived.KernelRfl
namespace Go.Proofs.YtobpgolchlgpfaaDoor
set_option maxRecDepth 20000

/-- n bytes by a function. -/
def tab (n : Nat) (f : Nat → BitVec 8) : List (BitVec 8) := (List.range n).map f
theorem tab_len (n : Nat) (f : Nat → BitVec 8) : (tab n f).length = n := by simp [tab]
theorem tab_get {n i : Nat} (f : Nat → BitVec 8) (h : i < n) : (tab n f).getD i 0 = f i := by simp [tab, h]
theorem ext8 {l m : List (BitVec 8)} (h : l.length = m.length) (hi : ∀ i, i < l.length → l.getD i 0 = m.getD i 0) : l = m := by
  apply List.ext_getElem h
  intro i h1 h2
  have := hi i h1
  simpa [h1, h2] using this
theorem tab_congr {n : Nat} {f g : Nat → BitVec 8} (h : ∀ i, i < n → f i = g i) : tab n f = tab n g :=
  ext8 (by rw [tab_len, tab_len]) fun i hi => by rw [tab_len] at hi; rw [tab_get _ hi, tab_get _ hi, h i hi]
theorem tab_self {l : List (BitVec 8)} {n : Nat} (h : l.length = n) : tab n (fun i => l.getD i 0) = l :=
  ext8 (by rw [tab_len, h]) fun i hi => by rw [tab_len] at hi; rw [tab_get _ hi]
/-- The first k bytes of l are f's. -/
def upd (f : Nat → BitVec 8) (l : List (BitVec 8)) (k : Nat) : List (BitVec 8) := tab l.length fun i => if i < k then f i else l.getD i 0
theorem upd_len (f : Nat → BitVec 8) (l : List (BitVec 8)) (k : Nat) : (upd f l k).length = l.length := tab_len _ _
theorem upd_zero (f : Nat → BitVec 8) (l : List (BitVec 8)) : upd f l 0 = l :=
  ext8 (upd_len _ _ _) fun i hi => by rw [upd_len] at hi; rw [upd, tab_get _ hi, if_neg (Nat.not_lt_zero _)]
theorem upd_all {f : Nat → BitVec 8} {l : List (BitVec 8)} {n : Nat} (h : l.length = n) : upd f l n = tab n f :=
  ext8 (by rw [upd_len, tab_len, h]) fun i hi => by rw [upd_len] at hi; rw [upd, tab_get _ hi, if_pos (by omega), tab_get _ (by omega)]
theorem upd_get {f : Nat → BitVec 8} {l : List (BitVec 8)} {k i : Nat} (h : k ≤ i) : (upd f l k).getD i 0 = l.getD i 0 := by
  by_cases hi : i < l.length
  · rw [upd, tab_get _ hi, if_neg (by omega)]
  · rw [List.getD_eq_getElem?_getD, List.getElem?_eq_none (by rw [upd_len]; omega), List.getD_eq_getElem?_getD, List.getElem?_eq_none (by omega)]
theorem getD_setB (l : List (BitVec 8)) (i j : Nat) (v : BitVec 8) (h : i < l.length) : (l.set i v).getD j 0 = if i = j then v else l.getD j 0 := by
  simp only [List.getD_eq_getElem?_getD, List.getElem?_set]
  by_cases e : i = j
  · subst e; simp [h]
  · simp [e]
theorem upd_set {f : Nat → BitVec 8} {l : List (BitVec 8)} {k : Nat} (h : k < l.length) : (upd f l k).set k (f k) = upd f l (k + 1) :=
  ext8 (by rw [List.length_set, upd_len, upd_len]) fun i hi => by
    rw [List.length_set, upd_len] at hi
    rw [getD_setB _ _ _ _ (by rw [upd_len]; exact h), upd, upd, tab_get _ hi, tab_get _ hi]
    by_cases e : k = i
    · subst e; rw [if_pos rfl, if_pos (by omega)]
    · rw [if_neg e]
      by_cases h1 : i < k
      · rw [if_pos h1, if_pos (by omega)]
      · rw [if_neg h1, if_neg (by omega)]
/-- Four bytes at once. -/
theorem upd_four {f : Nat → BitVec 8} {l m : List (BitVec 8)} {k : Nat} (hm : m.length = 4) (h : k + 4 ≤ l.length) (hf : ∀ i, i < 4 → m.getD i 0 = f (k + i)) : (upd f l k).take k ++ (m ++ (upd f l k).drop (k + 4)) = upd f l (k + 4) := by
  refine ext8 (by simp [upd_len, hm]; omega) fun i hi => ?_
  have hi' : i < l.length := by simp [upd_len, hm] at hi; omega
  rw [upd, upd, tab_get _ hi']
  simp only [List.getD_eq_getElem?_getD]
  by_cases h1 : i < k
  · rw [List.getElem?_append_left (by rw [List.length_take, tab_len]; omega), List.getElem?_take_of_lt h1, ← List.getD_eq_getElem?_getD, tab_get _ hi', if_pos h1, if_pos (by omega)]
  · rw [List.getElem?_append_right (by rw [List.length_take, tab_len]; omega), List.length_take, tab_len, Nat.min_eq_left (by omega)]
    by_cases h2 : i < k + 4
    · rw [List.getElem?_append_left (by omega), if_pos h2, ← List.getD_eq_getElem?_getD, hf _ (by omega), show k + (i - k) = i by omega]
    · rw [List.getElem?_append_right (by omega), List.getElem?_drop, hm, show k + 4 + (i - k - 4) = i by omega, ← List.getD_eq_getElem?_getD, tab_get _ hi', if_neg h1, if_neg h2]

def dbl (x : BitVec 8) : BitVec 8 := x <<< 1 ^^^ (x >>> 7) * 27
def tri (x : BitVec 8) : BitVec 8 := dbl x ^^^ x
def rotB (x : BitVec 8) (n : Nat) : BitVec 8 := x <<< n ||| x >>> (8 - n)
/-- What a box makes of the inverse, turn by turn. -/
def affI (i : BitVec 8) : Nat → BitVec 8
  | 0 => i ^^^ 99
  | n + 1 => affI i n ^^^ rotB i (n + 1)
def aff (i : BitVec 8) : BitVec 8 := affI i 4
def ptab : List Nat := [1, 3, 5, 15, 17, 51, 85, 255, 26, 46, 114, 150, 161, 248, 19, 53, 95, 225, 56, 72, 216, 115, 149, 164, 247, 2, 6, 10, 30, 34, 102, 170, 229, 52, 92, 228, 55, 89, 235, 38, 106, 190, 217, 112, 144, 171, 230, 49, 83, 245, 4, 12, 20, 60, 68, 204, 79, 209, 104, 184, 211, 110, 178, 205, 76, 212, 103, 169, 224, 59, 77, 215, 98, 166, 241, 8, 24, 40, 120, 136, 131, 158, 185, 208, 107, 189, 220, 127, 129, 152, 179, 206, 73, 219, 118, 154, 181, 196, 87, 249, 16, 48, 80, 240, 11, 29, 39, 105, 187, 214, 97, 163, 254, 25, 43, 125, 135, 146, 173, 236, 47, 113, 147, 174, 233, 32, 96, 160, 251, 22, 58, 78, 210, 109, 183, 194, 93, 231, 50, 86, 250, 21, 63, 65, 195, 94, 226, 61, 71, 201, 64, 192, 91, 237, 44, 116, 156, 191, 218, 117, 159, 186, 213, 100, 172, 239, 42, 126, 130, 157, 188, 223, 122, 142, 137, 128, 155, 182, 193, 88, 232, 35, 101, 175, 234, 37, 111, 177, 200, 67, 197, 84, 252, 31, 33, 99, 165, 244, 7, 9, 27, 45, 119, 153, 176, 203, 70, 202, 69, 207, 74, 222, 121, 139, 134, 145, 168, 227, 62, 66, 198, 81, 243, 14, 18, 54, 90, 238, 41, 123, 141, 140, 143, 138, 133, 148, 167, 242, 13, 23, 57, 75, 221, 124, 132, 151, 162, 253, 28, 36, 108, 180, 199, 82, 246, 1]
def stab : List Nat := [99, 124, 119, 123, 242, 107, 111, 197, 48, 1, 103, 43, 254, 215, 171, 118, 202, 130, 201, 125, 250, 89, 71, 240, 173, 212, 162, 175, 156, 164, 114, 192, 183, 253, 147, 38, 54, 63, 247, 204, 52, 165, 229, 241, 113, 216, 49, 21, 4, 199, 35, 195, 24, 150, 5, 154, 7, 18, 128, 226, 235, 39, 178, 117, 9, 131, 44, 26, 27, 110, 90, 160, 82, 59, 214, 179, 41, 227, 47, 132, 83, 209, 0, 237, 32, 252, 177, 91, 106, 203, 190, 57, 74, 76, 88, 207, 208, 239, 170, 251, 67, 77, 51, 133, 69, 249, 2, 127, 80, 60, 159, 168, 81, 163, 64, 143, 146, 157, 56, 245, 188, 182, 218, 33, 16, 255, 243, 210, 205, 12, 19, 236, 95, 151, 68, 23, 196, 167, 126, 61, 100, 93, 25, 115, 96, 129, 79, 220, 34, 42, 144, 136, 70, 238, 184, 20, 222, 94, 11, 219, 224, 50, 58, 10, 73, 6, 36, 92, 194, 211, 172, 98, 145, 149, 228, 121, 231, 200, 55, 109, 141, 213, 78, 169, 108, 86, 244, 234, 101, 122, 174, 8, 186, 120, 37, 46, 28, 166, 180, 198, 232, 221, 116, 31, 75, 189, 139, 138, 112, 62, 181, 102, 72, 3, 246, 14, 97, 53, 87, 185, 134, 193, 29, 158, 225, 248, 152, 17, 105, 217, 142, 148, 155, 30, 135, 233, 206, 85, 40, 223, 140, 161, 137, 13, 191, 230, 66, 104, 65, 153, 45, 15, 176, 84, 187, 22]
def utab : List Nat := [82, 9, 106, 213, 48, 54, 165, 56, 191, 64, 163, 158, 129, 243, 215, 251, 124, 227, 57, 130, 155, 47, 255, 135, 52, 142, 67, 68, 196, 222, 233, 203, 84, 123, 148, 50, 166, 194, 35, 61, 238, 76, 149, 11, 66, 250, 195, 78, 8, 46, 161, 102, 40, 217, 36, 178, 118, 91, 162, 73, 109, 139, 209, 37, 114, 248, 246, 100, 134, 104, 152, 22, 212, 164, 92, 204, 93, 101, 182, 146, 108, 112, 72, 80, 253, 237, 185, 218, 94, 21, 70, 87, 167, 141, 157, 132, 144, 216, 171, 0, 140, 188, 211, 10, 247, 228, 88, 5, 184, 179, 69, 6, 208, 44, 30, 143, 202, 63, 15, 2, 193, 175, 189, 3, 1, 19, 138, 107, 58, 145, 17, 65, 79, 103, 220, 234, 151, 242, 207, 206, 240, 180, 230, 115, 150, 172, 116, 34, 231, 173, 53, 133, 226, 249, 55, 232, 28, 117, 223, 110, 71, 241, 26, 113, 29, 41, 197, 137, 111, 183, 98, 14, 170, 24, 190, 27, 252, 86, 62, 75, 198, 210, 121, 32, 154, 219, 192, 254, 120, 205, 90, 244, 31, 221, 168, 51, 136, 7, 199, 49, 177, 18, 16, 89, 39, 128, 236, 95, 96, 81, 127, 169, 25, 181, 74, 13, 45, 229, 122, 159, 147, 201, 156, 239, 160, 224, 59, 77, 174, 42, 245, 176, 200, 235, 187, 60, 131, 83, 153, 97, 23, 43, 4, 126, 186, 119, 214, 38, 225, 105, 20, 99, 85, 33, 12, 125]
def rktab : List Nat := [0, 1, 26, 2, 51, 3, 27, 199, 76, 200, 28, 105, 52, 239, 224, 4, 101, 5, 225, 15, 53, 142, 130, 240, 77, 114, 9, 201, 249, 106, 29, 194, 126, 195, 30, 182, 250, 186, 40, 107, 78, 229, 167, 115, 155, 202, 10, 121, 102, 48, 139, 6, 34, 16, 226, 37, 19, 241, 131, 70, 54, 148, 219, 143, 151, 144, 220, 190, 55, 209, 207, 149, 20, 93, 211, 242, 65, 71, 132, 57, 103, 222, 254, 49, 192, 7, 140, 99, 180, 38, 227, 153, 35, 137, 146, 17, 127, 111, 73, 196, 164, 183, 31, 67, 59, 108, 41, 85, 251, 134, 62, 187, 44, 122, 11, 22, 156, 160, 95, 203, 79, 213, 173, 230, 244, 116, 168, 88, 176, 89, 169, 81, 245, 235, 215, 117, 80, 175, 234, 214, 232, 231, 174, 233, 45, 216, 118, 123, 236, 23, 12, 246, 90, 204, 96, 177, 157, 170, 82, 161, 128, 13, 247, 112, 24, 197, 74, 237, 217, 68, 32, 46, 165, 119, 124, 184, 205, 188, 63, 91, 252, 97, 178, 135, 60, 83, 162, 109, 171, 86, 42, 158, 152, 179, 136, 145, 98, 191, 221, 253, 189, 150, 208, 206, 56, 64, 92, 210, 84, 58, 133, 61, 66, 163, 110, 72, 21, 43, 159, 94, 87, 243, 212, 172, 69, 18, 147, 218, 36, 33, 47, 138, 181, 125, 185, 39, 120, 154, 228, 166, 104, 75, 238, 223, 198, 50, 255, 25, 14, 100, 141, 129, 193, 248, 113, 8]
/-- Powers of three. -/
def pw3 (k : Nat) : BitVec 8 := BitVec.ofNat 8 (ptab.getD k 0)
def bx (x : BitVec 8) : BitVec 8 := BitVec.ofNat 8 (stab.getD x.toNat 0)
def ub (x : BitVec 8) : BitVec 8 := BitVec.ofNat 8 (utab.getD x.toNat 0)
/-- When a byte's box is laid. -/
def rk (x : BitVec 8) : Nat := rktab.getD x.toNat 0
theorem all8 {P : BitVec 8 → Prop} (h : ∀ i, i < 256 → P (BitVec.ofNat 8 i)) (x : BitVec 8) : P x := by
  have := h x.toNat x.isLt
  rwa [BitVec.ofNat_toNat, BitVec.setWidth_eq] at this
theorem pw_zero : pw3 0 = 1 := by decide +kernel
theorem pw_step : ∀ k, k < 255 → tri (pw3 k) = pw3 (k + 1) := by decide +kernel
theorem bx_ub (x : BitVec 8) : bx (ub x) = x := all8 (P := fun x => bx (ub x) = x) (by decide +kernel) x
theorem ub_bx (x : BitVec 8) : ub (bx x) = x := all8 (P := fun x => ub (bx x) = x) (by decide +kernel) x
theorem bx_ne (x : BitVec 8) : bx x ≠ x := all8 (P := fun x => bx x ≠ x) (by decide +kernel) x
theorem bx_inj {x y : BitVec 8} (h : bx x = bx y) : x = y := by rw [← ub_bx x, h, ub_bx]
theorem aff_pw : ∀ k, k < 255 → aff (pw3 ((255 - k) % 255)) = bx (pw3 k) := by decide +kernel
theorem aff_zero : aff 0 = bx 0 := by decide +kernel
theorem rk_pw : ∀ k, k < 255 → rk (pw3 k) = k + 1 := by decide +kernel
theorem rk_back (x : BitVec 8) : (rk x = 0 → x = 0) ∧ (rk x ≤ 255) ∧ (∀ k, rk x = k + 1 → x = pw3 k) := by
  have h := all8 (P := fun x => (rk x = 0 → x = 0) ∧ rk x ≤ 255 ∧ (rk x ≠ 0 → x = pw3 (rk x - 1))) (by decide +kernel) x
  exact ⟨h.1, h.2.1, fun k hk => by have := h.2.2 (by omega); rwa [hk, Nat.add_sub_cancel] at this⟩
theorem rk_zero : rk 0 = 0 := by decide +kernel
def putT (T : List (BitVec 8)) (b i : BitVec 8) : List (BitVec 8) := (T.set b.toNat (aff i)).set (256 + (aff i).toNat) b
theorem putT_len (T : List (BitVec 8)) (b i : BitVec 8) : (putT T b i).length = T.length := by simp [putT]
/-- The boxes behind k powers. -/
def BXk : Nat → List (BitVec 8)
  | 0 => putT (List.replicate 512 0) 0 0
  | k + 1 => putT (BXk k) (pw3 k) (pw3 ((255 - k) % 255))
theorem BXk_len : ∀ k, (BXk k).length = 512
  | 0 => by rw [BXk, putT_len, List.length_replicate]
  | k + 1 => by rw [BXk, putT_len]; exact BXk_len k
def boxV (i : Nat) : BitVec 8 := if i < 256 then bx (BitVec.ofNat 8 i) else ub (BitVec.ofNat 8 (i - 256))
/-- All boxes: there, and back. -/
def boxT : List (BitVec 8) := tab 512 boxV
def rkV (i : Nat) : Nat := if i < 256 then rk (BitVec.ofNat 8 i) else rk (ub (BitVec.ofNat 8 (i - 256)))
theorem putT_get {T : List (BitVec 8)} (hT : T.length = 512) (b i : BitVec 8) (h : aff i = bx b) {j : Nat} (hj : j < 512) {n : Nat} (hr : rk b = n) (hb : ∀ x, rk x = n → x = b) : (putT T b i).getD j 0 = if rkV j = n then boxV j else T.getD j 0 := by
  have h1 := b.isLt
  have h2 := (bx b).isLt
  unfold putT
  rw [h, getD_setB _ _ _ _ (by rw [List.length_set]; omega), getD_setB _ _ _ _ (by omega)]
  unfold rkV boxV
  by_cases hlt : j < 256
  · rw [if_neg (show ¬ 256 + (bx b).toNat = j by omega), if_pos hlt, if_pos hlt]
    by_cases e : b.toNat = j
    · subst e
      rw [if_pos rfl, BitVec.ofNat_toNat, BitVec.setWidth_eq, if_pos hr]
    · rw [if_neg e, if_neg]
      intro hk
      apply e
      rw [← hb _ hk, BitVec.toNat_ofNat]; omega
  · rw [if_neg (show ¬ b.toNat = j by omega), if_neg hlt, if_neg hlt]
    by_cases e : 256 + (bx b).toNat = j
    · subst e
      rw [if_pos rfl, Nat.add_sub_cancel_left, BitVec.ofNat_toNat, BitVec.setWidth_eq, ub_bx, if_pos hr]
    · rw [if_neg e, if_neg]
      intro hk
      apply e
      rw [← hb _ hk, bx_ub, BitVec.toNat_ofNat]; omega
theorem BXk_get : ∀ k, k ≤ 255 → ∀ j, j < 512 → (BXk k).getD j 0 = if rkV j ≤ k then boxV j else 0
  | 0, _, j, hj => by
    rw [BXk, putT_get List.length_replicate 0 0 aff_zero hj rk_zero (fun x hx => (rk_back x).1 hx)]
    simp only [Nat.le_zero]
    congr 1
    rw [List.getD_eq_getElem?_getD, List.getElem?_replicate, if_pos hj]; rfl
  | k + 1, hk, j, hj => by
    have ih := BXk_get k (by omega) j hj
    rw [BXk, putT_get (BXk_len k) _ _ (aff_pw k (by omega)) hj (rk_pw k (by omega)) (fun x hx => (rk_back x).2.2 k hx), ih]
    by_cases h1 : rkV j = k + 1
    · rw [if_pos h1, if_pos (by omega)]
    · rw [if_neg h1]
      by_cases h2 : rkV j ≤ k
      · rw [if_pos h2, if_pos (by omega)]
      · rw [if_neg h2, if_neg (by omega)]
theorem BX_all : BXk 255 = boxT := ext8 (by rw [BXk_len, boxT, tab_len]) fun j hj => by
  rw [BXk_len] at hj
  have : rkV j ≤ 255 := by unfold rkV; split <;> exact (rk_back _).2.1
  rw [BXk_get 255 (Nat.le_refl _) j hj, if_pos this, boxT, tab_get _ hj]
theorem boxT_len : boxT.length = 512 := tab_len _ _
theorem boxT_there (x : BitVec 8) : boxT.getD x.toNat 0 = bx x := by
  have := x.isLt
  rw [boxT, tab_get _ (by omega), boxV, if_pos (by omega), BitVec.ofNat_toNat, BitVec.setWidth_eq]
theorem boxT_back (x : BitVec 8) : boxT.getD (256 + x.toNat) 0 = ub x := by
  have := x.isLt
  rw [boxT, tab_get _ (by omega), boxV, if_neg (by omega), Nat.add_sub_cancel_left, BitVec.ofNat_toNat, BitVec.setWidth_eq]

/- Blocks. -/
def xorB (a k : List (BitVec 8)) : List (BitVec 8) := tab 16 fun i => a.getD i 0 ^^^ k.getD i 0
def boxB (a : List (BitVec 8)) : List (BitVec 8) := tab 16 fun i => bx (a.getD i 0)
/-- Each byte of a word. -/
def boxW (a : List (BitVec 8)) : List (BitVec 8) := tab 4 fun i => bx (a.getD i 0)
def unboxB (a : List (BitVec 8)) : List (BitVec 8) := tab 16 fun i => ub (a.getD i 0)
def turnI (n i : Nat) : Nat := 4 * ((i / 4 + n * (i % 4)) % 4) + i % 4
def turnB (n : Nat) (a : List (BitVec 8)) : List (BitVec 8) := tab 16 fun i => a.getD (turnI n i) 0
def col (b : List (BitVec 8)) (c : Nat) : List (BitVec 8) := tab 4 fun k => b.getD (4 * c + k) 0
def mixW (w : List (BitVec 8)) : List (BitVec 8) := tab 4 fun k => dbl (w.getD k 0) ^^^ tri (w.getD ((k + 1) % 4) 0) ^^^ w.getD ((k + 2) % 4) 0 ^^^ w.getD ((k + 3) % 4) 0
def mixB (b : List (BitVec 8)) : List (BitVec 8) := tab 16 fun i => (mixW (col b (i / 4))).getD (i % 4) 0
def unmixW (w : List (BitVec 8)) : List (BitVec 8) := mixW [w.getD 0 0 ^^^ dbl (dbl (w.getD 0 0 ^^^ w.getD 2 0)), w.getD 1 0 ^^^ dbl (dbl (w.getD 1 0 ^^^ w.getD 3 0)), w.getD 2 0 ^^^ dbl (dbl (w.getD 0 0 ^^^ w.getD 2 0)), w.getD 3 0 ^^^ dbl (dbl (w.getD 1 0 ^^^ w.getD 3 0))]
def unmixB (b : List (BitVec 8)) : List (BitVec 8) := tab 16 fun i => (unmixW (col b (i / 4))).getD (i % 4) 0

/- Keys. -/
/-- T of the i-th word: t is the word before. -/
def tW (t : List (BitVec 8)) (i : Nat) : List (BitVec 8) :=
  if i % 8 = 0 then [bx (t.getD 1 0) ^^^ (1 : BitVec 8) <<< (i / 8 - 1), bx (t.getD 2 0), bx (t.getD 3 0), bx (t.getD 0 0)]
  else if i % 8 = 4 then [bx (t.getD 0 0), bx (t.getD 1 0), bx (t.getD 2 0), bx (t.getD 3 0)] else t
theorem tW_len {t : List (BitVec 8)} (i : Nat) (h : t.length = 4) : (tW t i).length = 4 := by unfold tW; split; rfl; split; rfl; exact h
def newW (w : List (BitVec 8)) (i : Nat) : List (BitVec 8) := tab 4 fun k => w.getD (4 * i - 32 + k) 0 ^^^ (tW (col w (i - 1)) i).getD k 0
/-- The first 8 + n words. -/
def schI (key : List (BitVec 8)) : Nat → List (BitVec 8)
  | 0 => key
  | n + 1 => schI key n ++ newW (schI key n) (8 + n)
def sched (key : List (BitVec 8)) : List (BitVec 8) := schI key 52
theorem newW_len (w : List (BitVec 8)) (i : Nat) : (newW w i).length = 4 := tab_len _ _
theorem schI_len {key : List (BitVec 8)} (h : key.length = 32) : ∀ n, (schI key n).length = 32 + 4 * n
  | 0 => h
  | n + 1 => by rw [schI, List.length_append, newW_len, schI_len h n]; omega
theorem sched_len {key : List (BitVec 8)} (h : key.length = 32) : (sched key).length = 240 := schI_len h 52
def rkey (w : List (BitVec 8)) (r : Nat) : List (BitVec 8) := tab 16 fun i => w.getD (16 * r + i) 0
/-- Behind r rounds. -/
def hidI (w b : List (BitVec 8)) : Nat → List (BitVec 8)
  | 0 => xorB b (rkey w 0)
  | r + 1 => xorB (if r + 1 < 14 then mixB (turnB 1 (boxB (hidI w b r))) else turnB 1 (boxB (hidI w b r))) (rkey w (r + 1))
def hideB (w b : List (BitVec 8)) : List (BitVec 8) := hidI w b 14
/-- Rounds 14 to 15 - n taken back. -/
def shoI (w b : List (BitVec 8)) : Nat → List (BitVec 8)
  | 0 => b
  | n + 1 => unboxB (turnB 3 (if 14 - n < 14 then unmixB (xorB (shoI w b n) (rkey w (14 - n))) else xorB (shoI w b n) (rkey w (14 - n))))
def showB (w b : List (BitVec 8)) : List (BitVec 8) := xorB (shoI w b 14) (rkey w 0)
def blockB (key b : List (BitVec 8)) : List (BitVec 8) := hideB (sched key) b
def unblockB (key b : List (BitVec 8)) : List (BitVec 8) := showB (sched key) b
/-- The number and 1, from its i-th byte on upwards. -/
def nxt : Nat → List (BitVec 8) → List (BitVec 8)
  | 0, l => l
  | i + 1, l => if l.getD i 0 + 1 ≠ 0 then l.set i (l.getD i 0 + 1) else nxt i (l.set i (l.getD i 0 + 1))
theorem nxt_len : ∀ i l, (nxt i l).length = l.length
  | 0, _ => rfl
  | i + 1, l => by rw [nxt]; split; simp; rw [nxt_len i]; simp
/-- first, and n. -/
def cnt (first : List (BitVec 8)) : Nat → List (BitVec 8)
  | 0 => first
  | n + 1 => nxt 16 (cnt first n)
theorem cnt_len {first : List (BitVec 8)} (h : first.length = 16) : ∀ n, (cnt first n).length = 16
  | 0 => h
  | n + 1 => by rw [cnt, nxt_len, cnt_len h n]
def ctrV (key first b : List (BitVec 8)) (i : Nat) : BitVec 8 := b.getD i 0 ^^^ (blockB key (cnt first (i / 16))).getD (i % 16) 0
def ctr (key first b : List (BitVec 8)) : List (BitVec 8) := tab b.length (ctrV key first b)
/-- Sixteen bytes of a key. -/
def kblk (k : List (BitVec 8)) (n : Nat) : List (BitVec 8) := tab 16 fun i => k.getD ((n + i) % 32) 0
theorem xorB_len (a k : List (BitVec 8)) : (xorB a k).length = 16 := tab_len _ _
theorem hidI_len (w b : List (BitVec 8)) : ∀ r, (hidI w b r).length = 16
  | 0 => tab_len _ _
  | _ + 1 => tab_len _ _
theorem shoI_len {b : List (BitVec 8)} (w : List (BitVec 8)) (h : b.length = 16) : ∀ r, (shoI w b r).length = 16
  | 0 => h
  | _ + 1 => tab_len _ _
theorem blockB_len (key b : List (BitVec 8)) : (blockB key b).length = 16 := hidI_len _ _ _
theorem unblockB_len (key b : List (BitVec 8)) : (unblockB key b).length = 16 := tab_len _ _
end Go.Proofs.YtobpgolchlgpfaaDoor
