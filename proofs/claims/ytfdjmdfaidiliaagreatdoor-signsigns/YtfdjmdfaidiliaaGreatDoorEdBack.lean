import Derived.Test.YtfdjmdfaidiliaaGreatDoorEdDec2
namespace Go.Proofs.YtfdjmdfaidiliaaGreatDoor
open Go.RowKit
set_option maxRecDepth 20000
theorem dU_E (Y : Int) : E (dU Y) (Y * Y - 1) := (E.rest _).trans ((E.rest _).sub (E.rfl' 1))
theorem dV_E (Y : Int) : E (dV Y) (dd * (Y * Y) + 1) := (E.rest _).trans (((E.rest _).trans ((E.rfl' dd).mul (E.rest _))).add (E.rfl' 1))
theorem dV_not (Y : Int) : ¬ Zr (dV Y) := fun h => by
  have h1 : Zr (dd * (Y * Y) + 1) := E.zr (dV_E Y).symm h
  have h2 : E (ii * ii) (dd * (Y * Y)) := Zr.to_E (by
    have := ii_sq.add h1.neg
    rwa [show ii * ii + 1 + -(dd * (Y * Y) + 1) = ii * ii - dd * (Y * Y) by omega] at this)
  have h3 := no_root h2
  have h4 : Zr 1 := by
    have := h1.add ((h3.mulr (dd * Y)).neg)
    rwa [show dd * (Y * Y) + 1 + -(dd * Y * Y) = 1 by rw [Int.mul_assoc]; omega] at this
  exact one_not h4
theorem dec_eq {p : Pt} (h : p.On) : E (dV p.y * (p.x * p.x)) (dU p.y) := by
  refine ((dV_E p.y).mul (E.rfl' _)).trans (E.trans ?_ (dU_E p.y).symm)
  refine Zr.to_E ?_
  have h1 : Zr (onE p.x p.y) := h
  have := h1.neg
  rwa [show -onE p.x p.y = (dd * (p.y * p.y) + 1) * (p.x * p.x) - (p.y * p.y - 1) by unfold onE; grind] at this
theorem enc_low (p : Pt) (h : p.Ok) : encN p % 2 ^ 255 = p.y.toNat := by
  unfold encN
  rw [Int.emod_eq_of_lt h.2.1 h.2.2, Nat.add_mul_mod_self_left, Nat.mod_eq_of_lt (by have := y_top p.y; rwa [Int.emod_eq_of_lt h.2.1 h.2.2] at this)]
theorem enc_even {p : Pt} (h : p.Ok) (he : p.x % 2 = 0) : encN p < 2 ^ 255 := by
  unfold encN
  have := y_top p.y
  rw [Int.emod_eq_of_lt h.1.1 h.1.2, he]
  simpa using this
theorem enc_odd {p : Pt} (h : p.Ok) (he : p.x % 2 = 1) : ¬ encN p < 2 ^ 255 := by
  unfold encN
  rw [Int.emod_eq_of_lt h.1.1 h.1.2, he]
  simp
theorem dec_enc {p : Pt} (hO : p.Ok) (hp : p.On) : decR (encN p) = (p, true) := by
  have hlow := enc_low p hO
  have hY : decY (encN p) = p.y := by
    unfold decY
    rw [hlow, Int.toNat_of_nonneg hO.2.1, Int.emod_eq_of_lt hO.2.1 hO.2.2]
  obtain ⟨k1, k2, k3, k4⟩ := root_v (dV_not p.y) (dec_eq hp)
  have hlt : ((encN p % 2 ^ 255 : Nat) : Int) < pp := by rw [hlow, Int.toNat_of_nonneg hO.2.1]; exact hO.2.2
  have hev : evB p.y = true := k1
  have hep : evP p.y = ⟨rootN (dU p.y) (dV p.y), p.y⟩ := rfl
  unfold decR
  rw [hY, if_pos ⟨hev, hlt⟩, hep]
  clear hep hev k1 hlt hlow hY
  generalize rootN (dU p.y) (dV p.y) = r at *
  have hs := sq_eq k2 hO.1 k4
  have hx := hO.1
  rcases (show p.x % 2 = 0 ∨ p.x % 2 = 1 by omega) with he | he
  · rw [if_pos (enc_even hO he)]
    have hr : r = p.x := by
      rcases hs with h | h | h
      · exact h
      · exact absurd h (by unfold pp; omega)
      · rw [h.1, h.2]
    rw [hr]
  · rw [if_neg (enc_odd hO he)]
    have hr : r + p.x = pp := by
      rcases hs with h | h | h
      · exact absurd h (by omega)
      · exact h
      · exact absurd h.2 (by omega)
    have hon : (⟨r, p.y⟩ : Pt).On := by
      refine E.zr (b := onE p.x p.y) ?_ hp
      show E (onE r p.y) (onE p.x p.y)
      unfold onE
      have e1 : dd * r * r * p.y * p.y = dd * (r * r) * (p.y * p.y) := by grind
      have e2 : dd * p.x * p.x * p.y * p.y = dd * (p.x * p.x) * (p.y * p.y) := by grind
      rw [e1, e2]
      exact (((E.rfl' (p.y * p.y)).sub k4).sub (E.rfl' 1)).sub (((E.rfl' dd).mul k4).mul (E.rfl' _))
    have hn : negP ⟨r, p.y⟩ = p := by
      unfold negP
      rw [onB_on hon, if_pos rfl]
      have e1 : -r % pp = p.x := by
        rw [show -r = p.x + pp * (-1) by omega, Int.add_mul_emod_self_left, Int.emod_eq_of_lt hx.1 hx.2]
      have e2 : p.y % pp = p.y := Int.emod_eq_of_lt hO.2.1 hO.2.2
      show (⟨-r % pp, p.y % pp⟩ : Pt) = p
      rw [e1, e2]
    rw [hn, if_neg (fun e => by
      have h1 := congrArg Pt.x e
      simp only at h1
      omega)]
end Go.Proofs.YtfdjmdfaidiliaaGreatDoor
