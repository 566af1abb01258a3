/- A square, by another number, has a root: plain facts on integers. -/
import Derived.Test.YtabfjdljeebjbaaDoorInvMath
namespace Go.Proofs.YtabfjdljeebjbaaDoor

/-- The same by the prime. -/
def E (a b : Int) : Prop := a % pp = b % pp
theorem E.rfl' (a : Int) : E a a := rfl
theorem E.symm {a b : Int} (h : E a b) : E b a := Eq.symm h
theorem E.trans {a b c : Int} (h : E a b) (k : E b c) : E a c := Eq.trans h k
theorem E.rest (a : Int) : E (a % pp) a := Int.emod_emod_of_dvd _ (Int.dvd_refl _)
theorem E.mul {a b c d : Int} (h : E a b) (k : E c d) : E (a * c) (b * d) := by
  show a * c % pp = b * d % pp
  rw [← mulmod a c, ← mulmod b d, h, k]
theorem E.pow {a b : Int} (h : E a b) (n : Nat) : E (a ^ n) (b ^ n) := by
  show a ^ n % pp = b ^ n % pp
  rw [← pow_rest a, ← pow_rest b, h]
theorem E.neg {a b : Int} (h : E a b) : E (-a) (-b) := by
  have := E.mul (E.rfl' (-1)) h
  simpa using this
theorem E.of_eq {a b : Int} (h : a = b) : E a b := by rw [h]; exact rfl

theorem cube_E (V : Int) : E (cubeOf V) (V ^ 3) := by
  unfold cubeOf
  refine (E.rest _).trans (((E.rfl' V).mul (E.rest (V * V))).trans (E.of_eq ?_))
  rw [Int.pow_succ, Int.pow_succ, Int.pow_succ, Int.pow_zero, Int.one_mul, Int.mul_comm]
theorem sev_E (V : Int) : E (sevOf V) (V ^ 7) := by
  unfold sevOf
  refine (E.rest _).trans (((E.rfl' V).mul ((E.rest _).trans ((cube_E V).mul (cube_E V)))).trans (E.of_eq ?_))
  rw [← Int.pow_add, Int.mul_comm, ← Int.pow_succ]
theorem near_E (Z V : Int) : E (nearOf Z V) (Z * V ^ 3 * (Z * V ^ 7) ^ rp.toNat) := by
  unfold nearOf
  refine (E.rest _).trans (E.mul ((E.rest _).trans ((E.rfl' Z).mul (cube_E V))) ((E.rest _).trans (E.pow ((E.rest _).trans ((E.rfl' Z).mul (sev_E V))) _)))

theorem no_zero {a b : Int} (h : a * b % pp = 0) : a % pp = 0 ∨ b % pp = 0 := by
  have hd : (pN : Int) ∣ a * b := Int.dvd_of_emod_eq_zero h
  have hn : pN ∣ a.natAbs * b.natAbs := by rw [← Int.natAbs_mul]; exact Int.ofNat_dvd_left.1 hd
  rcases prP.mul hn with h1 | h1
  · exact .inl (Int.emod_eq_zero_of_dvd (Int.ofNat_dvd_left.2 h1))
  · exact .inr (Int.emod_eq_zero_of_dvd (Int.ofNat_dvd_left.2 h1))
theorem pow_zero_of {a : Int} : ∀ n : Nat, a ^ n % pp = 0 → a % pp = 0
  | 0, h => by rw [Int.pow_zero] at h; exact absurd h (by unfold pp; decide +kernel)
  | n + 1, h => by
    rw [Int.pow_succ] at h
    rcases no_zero h with h1 | h1
    · exact pow_zero_of n h1
    · exact h1
theorem half_sign {t : Int} (h : t % pp ≠ 0) : E (t ^ (4 * rp.toNat + 2)) 1 ∨ E (t ^ (4 * rp.toNat + 2)) (-1) := by
  have h1 : t ^ (4 * rp.toNat + 2) * t ^ (4 * rp.toNat + 2) % pp = 1 := by
    rw [← Int.pow_add, show 4 * rp.toNat + 2 + (4 * rp.toNat + 2) = pN - 1 by decide +kernel, fermat_int h]
  generalize t ^ (4 * rp.toNat + 2) = s at *
  have h2 : (s - 1) * (s + 1) % pp = 0 := by
    rw [show (s - 1) * (s + 1) = s * s - 1 by grind]
    unfold pp at *; omega
  rcases no_zero h2 with h3 | h3
  · left; show s % pp = 1 % pp; unfold pp at *; omega
  · right; show s % pp = (-1) % pp; unfold pp at *; omega

/-- What Root's first guess makes: the square itself, by 1 or -1. -/
theorem made_E {X Y : Int} (hY : Y % pp ≠ 0) : E (Y * Y * (nearOf (X * X % pp) (Y * Y % pp) * nearOf (X * X % pp) (Y * Y % pp))) (X * X) ∨ E (Y * Y * (nearOf (X * X % pp) (Y * Y % pp) * nearOf (X * X % pp) (Y * Y % pp))) (-(X * X)) := by
  have hN : E (nearOf (X * X % pp) (Y * Y % pp)) (X * X * (Y * Y) ^ 3 * (X * X * (Y * Y) ^ 7) ^ rp.toNat) :=
    (near_E _ _).trans (E.mul (E.mul (E.rest _) ((E.rest _).pow 3)) (E.pow (E.mul (E.rest _) ((E.rest _).pow 7)) _))
  have hM : E (Y * Y * (nearOf (X * X % pp) (Y * Y % pp) * nearOf (X * X % pp) (Y * Y % pp))) (X * X * (X * Y ^ 7) ^ (4 * rp.toNat + 2)) := by
    refine ((E.rfl' (Y * Y)).mul (hN.mul hN)).trans (E.of_eq ?_)
    have e1 : X * X * (Y * Y) ^ 7 = (X * Y ^ 7) ^ 2 := by grind
    rw [e1, ← Int.pow_mul]
    have e2 : 4 * rp.toNat + 2 = 2 * rp.toNat + 2 * rp.toNat + 2 := by omega
    rw [e2, Int.pow_add, Int.pow_add]
    generalize (X * Y ^ 7) ^ (2 * rp.toNat) = s
    grind
  by_cases hX : X % pp = 0
  · left
    refine hM.trans ?_
    have hz : E X 0 := by show X % pp = 0 % pp; rw [hX]; rfl
    exact ((hz.mul (E.rfl' X)).mul (E.rfl' _)).trans ((E.of_eq (by rw [Int.zero_mul, Int.zero_mul])).trans (hz.mul (E.rfl' X)).symm)
  · have ht : X * Y ^ 7 % pp ≠ 0 := fun h => by
      rcases no_zero h with h1 | h1
      · exact hX h1
      · exact hY (pow_zero_of 7 h1)
    rcases half_sign ht with h | h
    · left; exact hM.trans (((E.rfl' (X * X)).mul h).trans (E.of_eq (by rw [Int.mul_one])))
    · right; exact hM.trans (((E.rfl' (X * X)).mul h).trans (E.of_eq (by rw [Int.mul_neg, Int.mul_one])))

theorem evn_facts {A : Int} (h0 : 0 ≤ A) (h1 : A < pp) : 0 ≤ evn A ∧ evn A < pp ∧ evn A % 2 = 0 ∧ E (evn A * evn A) (A * A) := by
  unfold evn
  by_cases h : A % 2 = 1
  · rw [if_pos h]
    have hv : -A % pp = pp - A := by unfold pp at *; omega
    refine ⟨by rw [hv]; omega, by rw [hv]; omega, by rw [hv]; unfold pp at *; omega, ?_⟩
    exact ((E.rest (-A)).mul (E.rest (-A))).trans (E.of_eq (by rw [Int.neg_mul_neg]))
  · rw [if_neg h]
    exact ⟨h0, h1, by omega, E.rfl' _⟩
theorem imag_E : E ((2 : Int) ^ mp.toNat % pp * ((2 : Int) ^ mp.toNat % pp)) (-1) := by
  show _ % pp = _ % pp
  rw [two_mp]; unfold pp; decide +kernel

theorem roots_ok {X Y : Int} (hY : Y % pp ≠ 0) : rootB (X * X % pp) (Y * Y % pp) = true ∧ 0 ≤ rootN (X * X % pp) (Y * Y % pp) ∧ rootN (X * X % pp) (Y * Y % pp) < pp ∧ rootN (X * X % pp) (Y * Y % pp) % 2 = 0 ∧
    rootN (X * X % pp) (Y * Y % pp) * rootN (X * X % pp) (Y * Y % pp) % pp * (Y * Y % pp) % pp = X * X % pp := by
  have hm := made_E (X := X) hY
  have hn : 0 ≤ nearOf (X * X % pp) (Y * Y % pp) ∧ nearOf (X * X % pp) (Y * Y % pp) < pp := by unfold nearOf; exact emod_pp_lt _
  unfold rootB rootN
  generalize nearOf (X * X % pp) (Y * Y % pp) = N at *
  have eM : Y * Y % pp * (N * N % pp) % pp = Y * Y * (N * N) % pp := mulmod _ _
  have eZ : X * X % pp % pp = X * X % pp := E.rest _
  have eZ' : -(X * X % pp) % pp = -(X * X) % pp := (E.rest (X * X)).neg
  rw [eM, eZ, eZ']
  by_cases h1 : Y * Y * (N * N) % pp = X * X % pp
  · rw [if_pos h1, beq_iff_eq.2 h1, Bool.true_or]
    obtain ⟨g0, g1, g2, g3⟩ := evn_facts hn.1 hn.2
    refine ⟨rfl, g0, g1, g2, ?_⟩
    rw [mulmod]
    exact ((g3.mul (E.rfl' (Y * Y))).trans (E.of_eq (Int.mul_comm _ _))).trans h1
  · have h2 : Y * Y * (N * N) % pp = -(X * X) % pp := hm.resolve_left h1
    rw [if_neg h1, if_pos h2, beq_iff_eq.2 h2, Bool.or_true]
    have hi := emod_pp_lt (N * (2 ^ mp.toNat % pp))
    obtain ⟨g0, g1, g2, g3⟩ := evn_facts hi.1 hi.2
    refine ⟨rfl, g0, g1, g2, ?_⟩
    rw [mulmod]
    have k1 : E (evn (N * (2 ^ mp.toNat % pp) % pp) * evn (N * (2 ^ mp.toNat % pp) % pp)) (N * N * -1) := by
      refine g3.trans (((E.rest _).mul (E.rest _)).trans ((E.of_eq ?_).trans ((E.rfl' (N * N)).mul imag_E)))
      generalize (2 : Int) ^ mp.toNat % pp = i
      grind
    refine ((k1.mul (E.rfl' (Y * Y))).trans (E.of_eq (show N * N * -1 * (Y * Y) = -(Y * Y * (N * N)) by grind))).trans ?_
    have k2 : E (Y * Y * (N * N)) (-(X * X)) := h2
    exact k2.neg.trans (E.of_eq (Int.neg_neg _))
end Go.Proofs.YtabfjdljeebjbaaDoor
