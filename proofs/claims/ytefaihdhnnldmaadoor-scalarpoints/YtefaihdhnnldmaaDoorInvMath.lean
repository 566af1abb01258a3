/- What is not nothing makes 1 with its inverse: plain facts on integers. -/
import Derived.Test.YtefaihdhnnldmaaDoorBase
import Derived.Test.YtefaihdhnnldmaaDoorFermat
namespace Go.Proofs.YtefaihdhnnldmaaDoor
set_option maxRecDepth 20000

theorem pow_rest (a : Int) : ∀ n : Nat, (a % pp) ^ n % pp = a ^ n % pp
  | 0 => by rw [Int.pow_zero, Int.pow_zero]
  | n + 1 => by rw [Int.pow_succ, Int.pow_succ, ← mulmodl, pow_rest a n, mulmod]
theorem pp_pN : pp = (pN : Int) := rfl
theorem fermat_int {X : Int} (h : X % pp ≠ 0) : X ^ (pN - 1) % pp = 1 := by
  obtain ⟨h0, h1⟩ := emod_pp_lt X
  rw [← pow_rest]
  obtain ⟨x, hx⟩ := Int.eq_ofNat_of_zero_le h0
  rw [hx] at h h1 ⊢
  rw [pp_pN] at h1 ⊢
  have h2 := fermat (x := x) (by omega) (by omega)
  have h3 : ((x ^ (pN - 1) % pN : Nat) : Int) = 1 := by rw [h2]; rfl
  rwa [Int.natCast_emod, Int.natCast_pow] at h3
theorem inv_step (X : Int) : X * (X ^ (pp - 2).toNat % pp) % pp = X ^ (pN - 1) % pp := by
  rw [mulmodr, Int.mul_comm, ← Int.pow_succ, show (pp - 2).toNat.succ = pN - 1 by decide +kernel]
theorem inv_one {X : Int} (h : X % pp ≠ 0) : X * (X ^ (pp - 2).toNat % pp) % pp = 1 := by rw [inv_step, fermat_int h]
theorem inv_none {X : Int} (h : X % pp = 0) : X * (X ^ (pp - 2).toNat % pp) % pp = 0 := by
  rw [mulmodr, ← mulmodl, h, Int.zero_mul]; rfl
end Go.Proofs.YtefaihdhnnldmaaDoor
