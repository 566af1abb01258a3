/- Points by a third number (sums of such need no division), a point as often as a number says, and the base point, whose order is known. Plain facts on integers. -/
import Derived.Test.YtefaihdhnnldmaaDoorEdMath
import Derived.Test.YtefaihdhnnldmaaDoorScMath
namespace Go.Proofs.YtefaihdhnnldmaaDoor
set_option maxRecDepth 20000

def nonePt : Pt := ⟨0, 1⟩
theorem none_on : nonePt.On := by unfold Pt.On nonePt onE Zr; decide +kernel
theorem none_ok : nonePt.Ok := by unfold Pt.Ok nonePt pp; decide +kernel
theorem iv_1 : iv 1 = 1 := by unfold iv; rw [Int.one_pow]; unfold pp; decide +kernel
theorem padd_none {p : Pt} (h : p.Ok) : padd nonePt p = p := by
  have e : prt nonePt p = 0 := by simp [prt, nonePt]
  unfold padd
  rw [e, Int.add_zero, Int.sub_zero, iv_1]
  simp only [nonePt, Int.zero_mul, Int.one_mul, Int.zero_add, Int.mul_one, Int.add_zero]
  rw [Int.emod_eq_of_lt h.1.1 h.1.2, Int.emod_eq_of_lt h.2.1 h.2.2]
theorem padd_none' {p : Pt} (h : p.Ok) : padd p nonePt = p := by rw [padd_comm, padd_none h]
/-- A point, as often as a number says. -/
def pmul (p : Pt) : Nat → Pt
  | 0 => nonePt
  | n + 1 => padd (pmul p n) p
theorem pmul_on {p : Pt} (hp : p.On) : ∀ n, (pmul p n).On
  | 0 => none_on
  | n + 1 => padd_on (pmul_on hp n) hp
theorem pmul_ok (p : Pt) : ∀ n, (pmul p n).Ok
  | 0 => none_ok
  | _ + 1 => padd_ok _ _
theorem pmul_succ (p : Pt) (n : Nat) : pmul p (n + 1) = padd (pmul p n) p := rfl
theorem pmul_zero (p : Pt) : pmul p 0 = nonePt := rfl
theorem pmul_one {p : Pt} (h : p.Ok) : pmul p 1 = p := padd_none h
theorem pmul_add {p : Pt} (hp : p.On) (m : Nat) : ∀ n, pmul p (m + n) = padd (pmul p m) (pmul p n)
  | 0 => (padd_none' (pmul_ok p m)).symm
  | n + 1 => by rw [← Nat.add_assoc, pmul_succ, pmul_add hp m n, padd_assoc (pmul_on hp m) (pmul_on hp n) hp, pmul_succ]
theorem pmul_mul {p : Pt} (hp : p.On) (n : Nat) : ∀ m, pmul p (m * n) = pmul (pmul p n) m
  | 0 => by rw [Nat.zero_mul, pmul_zero, pmul_zero]
  | m + 1 => by rw [Nat.succ_mul, pmul_add hp, pmul_mul hp n m, pmul_succ]
theorem pmul_none : ∀ n, pmul nonePt n = nonePt
  | 0 => rfl
  | n + 1 => by rw [pmul_succ, pmul_none n, padd_none none_ok]
/-- A number's rest by what makes nothing makes the same. -/
theorem pmul_rest {p : Pt} (hp : p.On) {l : Nat} (h : pmul p l = nonePt) (n : Nat) : pmul p (n % l) = pmul p n := by
  have e : n = n / l * l + n % l := by rw [Nat.mul_comm]; exact (Nat.div_add_mod n l).symm
  have h2 : pmul p (n / l * l + n % l) = pmul p (n % l) := by rw [pmul_add hp, pmul_mul hp, h, pmul_none, padd_none (pmul_ok _ _)]
  rw [← e] at h2
  exact h2.symm

/-- A point whose numbers are by a third one, and their product. -/
structure Wd where
  x : Int
  y : Int
  z : Int
  t : Int
  deriving DecidableEq
structure Wd.Rep (W : Wd) (P : Pt) : Prop where
  nz : ¬ Zr W.z
  hx : E W.x (P.x * W.z)
  hy : E W.y (P.y * W.z)
  ht : E W.t (P.x * P.y * W.z)
def wcr (p q : Wd) : Int := (p.x * q.y % pp + p.y * q.x % pp) % pp
def wst (p q : Wd) : Int := (p.y * q.y % pp + p.x * q.x % pp) % pp
def won (p q : Wd) : Int := p.z * q.z % pp
def wpa (p q : Wd) : Int := dd * (p.t * q.t % pp) % pp
def wab (p q : Wd) : Int := (won p q + wpa p q) % pp
def wbe (p q : Wd) : Int := (won p q - wpa p q) % pp
def wplus (p q : Wd) : Wd := ⟨wcr p q * wbe p q % pp, wst p q * wab p q % pp, wab p q * wbe p q % pp, wcr p q * wst p q % pp⟩
theorem rep_plus {W V : Wd} {P Q : Pt} (hW : W.Rep P) (hV : V.Rep Q) (hP : P.On) (hQ : Q.On) : (wplus W V).Rep (padd P Q) := by
  have hcr : E (wcr W V) ((P.x * Q.y + P.y * Q.x) * (W.z * V.z)) :=
    (E.rest _).trans ((E.add ((E.rest _).trans (hW.hx.mul hV.hy)) ((E.rest _).trans (hW.hy.mul hV.hx))).trans (E.of_eq (by grind)))
  have hst : E (wst W V) ((P.y * Q.y + P.x * Q.x) * (W.z * V.z)) :=
    (E.rest _).trans ((E.add ((E.rest _).trans (hW.hy.mul hV.hy)) ((E.rest _).trans (hW.hx.mul hV.hx))).trans (E.of_eq (by grind)))
  have hon : E (won W V) (W.z * V.z) := E.rest _
  have hpa : E (wpa W V) (prt P Q * (W.z * V.z)) :=
    (E.rest _).trans (((E.rfl' dd).mul ((E.rest _).trans (hW.ht.mul hV.ht))).trans (E.of_eq (by unfold prt; grind)))
  have hab : E (wab W V) ((1 + prt P Q) * (W.z * V.z)) := (E.rest _).trans ((hon.add hpa).trans (E.of_eq (by grind)))
  have hbe : E (wbe W V) ((1 - prt P Q) * (W.z * V.z)) := (E.rest _).trans ((hon.sub hpa).trans (E.of_eq (by grind)))
  have hA := div_add hP hQ
  have hB := div_sub hP hQ
  have rx : E ((padd P Q).x * (1 + prt P Q)) (P.x * Q.y + P.y * Q.x) := Zr.to_E (padd_x hP hQ)
  have ry : E ((padd P Q).y * (1 - prt P Q)) (P.y * Q.y + P.x * Q.x) := Zr.to_E (padd_y hP hQ)
  have hz : E (wplus W V).z ((1 + prt P Q) * (W.z * V.z) * ((1 - prt P Q) * (W.z * V.z))) := (E.rest _).trans (hab.mul hbe)
  have nz := not_zr_mul hW.nz hV.nz
  generalize padd P Q = R at *
  generalize prt P Q = e at *
  generalize W.z * V.z = z at *
  refine ⟨fun h => ?_, ?_, ?_, ?_⟩
  · exact not_zr_mul (not_zr_mul hA nz) (not_zr_mul hB nz) (E.zr hz.symm h)
  · refine (E.rest _).trans ((hcr.mul hbe).trans (E.trans ?_ ((E.rfl' R.x).mul hz).symm))
    exact ((rx.symm.mul (E.rfl' z)).mul (E.rfl' ((1 - e) * z))).trans (E.of_eq (by grind))
  · refine (E.rest _).trans ((hst.mul hab).trans (E.trans ?_ ((E.rfl' R.y).mul hz).symm))
    exact ((ry.symm.mul (E.rfl' z)).mul (E.rfl' ((1 + e) * z))).trans (E.of_eq (by grind))
  · refine (E.rest _).trans ((hcr.mul hst).trans (E.trans ?_ ((E.rfl' (R.x * R.y)).mul hz).symm))
    exact ((rx.symm.mul (E.rfl' z)).mul (ry.symm.mul (E.rfl' z))).trans (E.of_eq (by grind))
def wnar (W : Wd) : Pt := ⟨W.x * iv W.z % pp, W.y * iv W.z % pp⟩
theorem nar_E {a b z : Int} (h : E a (b * z)) (hz : ¬ Zr z) : E (a * iv z % pp) b := by
  refine (E.rest _).trans ((h.mul (E.rfl' (iv z))).trans ?_)
  have := (E.rfl' b).mul (iv_one hz)
  rw [Int.mul_one] at this
  exact (E.of_eq (by grind)).trans this
theorem wnar_eq {W : Wd} {P : Pt} (h : W.Rep P) (hP : P.Ok) : wnar W = P := by
  have h1 : W.x * iv W.z % pp = P.x := eq_of_E (emod_pp_lt _) hP.1 (nar_E h.hx h.nz)
  have h2 : W.y * iv W.z % pp = P.y := eq_of_E (emod_pp_lt _) hP.2 (nar_E h.hy h.nz)
  unfold wnar; rw [h1, h2]
def wwid (p : Pt) : Wd := ⟨p.x, p.y, 1, p.x * p.y % pp⟩
def Pt.can (p : Pt) : Pt := ⟨p.x % pp, p.y % pp⟩
theorem can_ok (p : Pt) : p.can.Ok := ⟨emod_pp_lt _, emod_pp_lt _⟩
theorem can_id {p : Pt} (h : p.Ok) : p.can = p := by
  unfold Pt.can; rw [Int.emod_eq_of_lt h.1.1 h.1.2, Int.emod_eq_of_lt h.2.1 h.2.2]
theorem rep_widen (p : Pt) : (wwid p).Rep p.can := by
  refine ⟨one_not, ?_, ?_, ?_⟩
  · exact (E.rest p.x).symm.trans (E.of_eq (Int.mul_one _).symm)
  · exact (E.rest p.y).symm.trans (E.of_eq (Int.mul_one _).symm)
  · exact (E.rest _).trans (((E.rest p.x).symm.mul (E.rest p.y).symm).trans (E.of_eq (Int.mul_one _).symm))
theorem on_E {x y x' y' : Int} (hx : E x x') (hy : E y y') : E (onE x y) (onE x' y') := by
  unfold onE
  exact (((hy.mul hy).sub (hx.mul hx)).sub (E.rfl' 1)).sub (((((E.rfl' dd).mul hx).mul hx).mul hy).mul hy)
theorem can_on {p : Pt} (h : p.On) : p.can.On := E.zr (on_E (E.rest p.x) (E.rest p.y)) h
theorem on_can {p : Pt} (h : p.can.On) : p.On := E.zr (on_E (E.rest p.x).symm (E.rest p.y).symm) h
/-- What On answers. -/
def onB (p : Pt) : Bool := (p.y * p.y % pp - p.x * p.x % pp) % pp == (1 + dd * (p.x * p.x % pp * (p.y * p.y % pp) % pp) % pp) % pp
theorem onB_iff (p : Pt) : onB p = true ↔ p.On := by
  have e1 : E (p.y * p.y % pp - p.x * p.x % pp) (p.y * p.y - p.x * p.x) := (E.rest _).sub (E.rest _)
  have e2 : E (1 + dd * (p.x * p.x % pp * (p.y * p.y % pp) % pp) % pp) (1 + dd * (p.x * p.x * (p.y * p.y))) :=
    (E.rfl' 1).add ((E.rest _).trans ((E.rfl' dd).mul ((E.rest _).trans ((E.rest _).mul (E.rest _)))))
  have e3 : onE p.x p.y = p.y * p.y - p.x * p.x - (1 + dd * (p.x * p.x * (p.y * p.y))) := by unfold onE; grind
  unfold onB Pt.On
  rw [beq_iff_eq, e3]
  constructor
  · intro h
    exact Zr.of_E (e1.symm.trans (E.trans h e2))
  · intro h
    exact e1.trans ((Zr.to_E h).trans e2.symm)
theorem onB_not {p : Pt} (h : ¬ p.On) : onB p = false := by
  cases hb : onB p with
  | false => rfl
  | true => exact absurd ((onB_iff p).1 hb) h

/-- The base point. -/
def bs : Pt := ⟨15112221349535400772501151409588531511454012693041857206046113283949847762202, 46316835694926478169428394003475163141307993866256225615783033603165251855960⟩
theorem bs_on : bs.On := by unfold Pt.On bs onE Zr dd pp; decide +kernel
theorem bs_ok : bs.Ok := by unfold Pt.Ok bs pp; decide +kernel
/-- A point as often as a number says, its bits the highest first. -/
def wbits (W : Wd) : List Bool → Wd → Wd
  | [], acc => acc
  | c :: t, acc => wbits W t (cond c (wplus (wplus acc acc) W) (wplus acc acc))
theorem rep_bits {W : Wd} {P : Pt} (hW : W.Rep P) (hP : P.On) : ∀ (l : List Bool) (acc : Wd) (k : Nat), acc.Rep (pmul P k) → (wbits W l acc).Rep (pmul P (bn l k))
  | [], _, _, h => h
  | c :: t, acc, k, h => by
    have h2 : (wplus acc acc).Rep (pmul P (2 * k)) := by
      rw [show 2 * k = k + k by omega, pmul_add hP]
      exact rep_plus h h (pmul_on hP k) (pmul_on hP k)
    cases c with
    | false => exact rep_bits hW hP t _ _ h2
    | true => exact rep_bits hW hP t _ _ (rep_plus h2 hW (pmul_on hP _) hP)
def ellBits : List Bool := [true, false, false, false, false, false, false, false, false, false, false, false, false, false, false, false, false, false, false, false, false, false, false, false, false, false, false, false, false, false, false, false, false, false, false, false, false, false, false, false, false, false, false, false, false, false, false, false, false, false, false, false, false, false, false, false, false, false, false, false, false, false, false, false, false, false, false, false, false, false, false, false, false, false, false, false, false, false, false, false, false, false, false, false, false, false, false, false, false, false, false, false, false, false, false, false, false, false, false, false, false, false, false, false, false, false, false, false, false, false, false, false, false, false, false, false, false, false, false, false, false, false, false, false, false, false, false, false, true, false, true, false, false, true, true, false, true, true, true, true, false, true, true, true, true, true, false, false, true, true, true, false, true, true, true, true, false, true, false, true, false, false, false, true, false, true, true, true, true, false, true, true, true, true, false, false, true, true, true, false, false, true, true, false, true, false, true, true, false, false, true, false, true, true, false, false, false, false, false, false, true, false, false, true, false, false, true, true, false, false, false, true, true, false, false, false, true, true, false, true, false, false, true, false, true, true, true, false, false, true, true, true, true, false, true, false, true, true, true, false, true, false, false, true, true, true, true, true, false, true, true, false, true]
theorem ellBits_num : bn ellBits 0 = ell := by decide +kernel
theorem rep_none : (⟨0, 1, 1, 0⟩ : Wd).Rep nonePt := ⟨one_not, rfl, rfl, rfl⟩
theorem rep_bs : (⟨bs.x, bs.y, 1, bs.x * bs.y % pp⟩ : Wd).Rep bs := by have := rep_widen bs; rwa [can_id bs_ok] at this
/-- What has no x, and a y that is the third number, is nothing. -/
theorem rep_is_none {W : Wd} {P : Pt} (h : W.Rep P) (hP : P.Ok) (hx : W.x % pp = 0) (hy : W.y % pp = W.z % pp) : P = nonePt := by
  have h1 : Zr P.x := (Zr.or (E.zr h.hx.symm hx)).resolve_right h.nz
  have h2 : E P.y 1 := by
    have k : Zr (W.z * (P.y - 1)) := by
      have := Zr.of_E (h.hy.symm.trans (show E W.y W.z from hy))
      rwa [show P.y * W.z - W.z = W.z * (P.y - 1) by grind] at this
    exact Zr.to_E (k.or.resolve_left h.nz)
  have e1 : P.x = 0 := eq_of_E hP.1 none_ok.1 (show P.x % pp = 0 % pp from h1)
  have e2 : P.y = 1 := eq_of_E hP.2 none_ok.2 h2
  cases P
  simp only at e1 e2
  rw [e1, e2]; rfl
theorem ell_run : (wbits ⟨bs.x, bs.y, 1, bs.x * bs.y % pp⟩ ellBits ⟨0, 1, 1, 0⟩).x % pp = 0 ∧ (wbits ⟨bs.x, bs.y, 1, bs.x * bs.y % pp⟩ ellBits ⟨0, 1, 1, 0⟩).y % pp = (wbits ⟨bs.x, bs.y, 1, bs.x * bs.y % pp⟩ ellBits ⟨0, 1, 1, 0⟩).z % pp := by decide +kernel
/-- The base point's order. -/
theorem ell_none : pmul bs ell = nonePt := by
  have h := rep_bits rep_bs bs_on ellBits ⟨0, 1, 1, 0⟩ 0 rep_none
  rw [ellBits_num] at h
  exact rep_is_none h (pmul_ok _ _) ell_run.1 ell_run.2
end Go.Proofs.YtefaihdhnnldmaaDoor
