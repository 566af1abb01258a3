/- The same by the prime, and nothing by it: plain facts on integers. -/
import Derived.Test.YtefaihdhnnldmaaDoorInvMath
namespace Go.Proofs.YtefaihdhnnldmaaDoor
set_option maxRecDepth 20000

/-- The same by the prime. -/
def E (a b : Int) : Prop := a % pp = b % pp
theorem E.rfl' (a : Int) : E a a := rfl
theorem E.symm {a b : Int} (h : E a b) : E b a := Eq.symm h
theorem E.trans {a b c : Int} (h : E a b) (k : E b c) : E a c := Eq.trans h k
theorem E.rest (a : Int) : E (a % pp) a := Int.emod_emod_of_dvd _ (Int.dvd_refl _)
theorem E.mul {a b c d : Int} (h : E a b) (k : E c d) : E (a * c) (b * d) := by
  show a * c % pp = b * d % pp
  rw [← mulmod a c, ← mulmod b d, h, k]
theorem E.pow {a b : Int} (h : E a b) (n : Nat) : E (a ^ n) (b ^ n) := by
  show a ^ n % pp = b ^ n % pp
  rw [← pow_rest a, ← pow_rest b, h]
theorem E.neg {a b : Int} (h : E a b) : E (-a) (-b) := by
  have := E.mul (E.rfl' (-1)) h
  simpa using this
theorem E.of_eq {a b : Int} (h : a = b) : E a b := by rw [h]; exact rfl

theorem no_zero {a b : Int} (h : a * b % pp = 0) : a % pp = 0 ∨ b % pp = 0 := by
  have hd : (pN : Int) ∣ a * b := Int.dvd_of_emod_eq_zero h
  have hn : pN ∣ a.natAbs * b.natAbs := by rw [← Int.natAbs_mul]; exact Int.ofNat_dvd_left.1 hd
  rcases prP.mul hn with h1 | h1
  · exact .inl (Int.emod_eq_zero_of_dvd (Int.ofNat_dvd_left.2 h1))
  · exact .inr (Int.emod_eq_zero_of_dvd (Int.ofNat_dvd_left.2 h1))
theorem pow_zero_of {a : Int} : ∀ n : Nat, a ^ n % pp = 0 → a % pp = 0
  | 0, h => by rw [Int.pow_zero] at h; exact absurd h (by unfold pp; decide +kernel)
  | n + 1, h => by
    rw [Int.pow_succ] at h
    rcases no_zero h with h1 | h1
    · exact pow_zero_of n h1
    · exact h1
end Go.Proofs.YtefaihdhnnldmaaDoor
