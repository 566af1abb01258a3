import Derived.Test.YtcgbgmbnagmohaaDoorPow
import Derived.Test.YtcgbgmbnagmohaaDoorBytes
namespace Go.Proofs.YtcgbgmbnagmohaaDoor
open Go.RowKit
set_option maxRecDepth 20000
theorem run_eq4 (a0 a1 a2 a3 b0 b1 b2 b3 : Int) (w : World) : (Op.equalIn 10000 66 (.agg #[.int .u64 a0, .int .u64 a1, .int .u64 a2, .int .u64 a3]) (.agg #[.int .u64 b0, .int .u64 b1, .int .u64 b2, .int .u64 b3])).run Tryd.prog w = .ok (a0 == b0 && a1 == b1 && a2 == b2 && a3 == b3) w := by
 have hu := Tryd.underlying64
 have ha := Tryd.isAgg64
 have hz := Tryd.sizeOf64
 rw [show (10000 : Nat) = 9999 + 1 from rfl, Op.equalIn]
 simp only [Sem.run_bind, run_underlying Tryd.underlying66, Result.andThen_ok]
 simp only [Std.Legacy.Range.forIn_eq_forIn_range', Std.Legacy.Range.size, Nat.sub_zero, Nat.add_sub_cancel, Nat.div_one, List.range'_succ, List.range'_zero, List.forIn_cons, List.forIn_nil]
 go_simp
 by_cases h1 : a0 = b0 <;> by_cases h2 : a1 = b1 <;> by_cases h3 : a2 = b2 <;> by_cases h4 : a3 = b3 <;> simp [h1, h2, h3, h4]
theorem run_eqFe {M Z : Int} (hM : Num M) (hZ : Num Z) (w : World) : (Op.equalIn 10000 66 (feV M) (feV Z)).run Tryd.prog w = .ok (decide (M = Z)) w := by
 rw [run_eq4]
 congr 1
 by_cases h : M = Z
 ·subst h; simp
 ·have hn : ¬ (w0 M = w0 Z ∧ w1 M = w1 Z ∧ w2 M = w2 Z ∧ w3 M = w3 Z) := fun ⟨h0, h1, h2, h3⟩ => h (feV_inj hM hZ h0 h1 h2 h3)
  rw [decide_eq_false h]
  simp only [Bool.and_eq_false_iff, beq_eq_false_iff_ne]
  by_cases e0 : w0 M = w0 Z
  ·by_cases e1 : w1 M = w1 Z
   ·by_cases e2 : w2 M = w2 Z
    ·exact .inr fun e3 => hn ⟨e0, e1, e2, e3⟩
    ·exact .inl (.inr e2)
   ·exact .inl (.inl (.inr e1))
  ·exact .inl (.inl (.inl e0))
theorem eqFe_true {M Z : Int} (hM : Num M) (h : M = Z) : ∀ v, (Op.equalIn 10000 66 (feV M) (feV Z)).run Tryd.prog v = .ok true v := fun v => by rw [run_eqFe hM (h ▸ hM), decide_eq_true h]
theorem eqFe_false {M Z : Int} (hM : Num M) (hZ : Num Z) (h : M ≠ Z) : ∀ v, (Op.equalIn 10000 66 (feV M) (feV Z)).run Tryd.prog v = .ok false v := fun v => by rw [run_eqFe hM hZ, decide_eq_false h]
end Go.Proofs.YtcgbgmbnagmohaaDoor
namespace Go.Proofs.YtcgbgmbnagmohaaDoor
open Go.RowKit
set_option maxRecDepth 20000
theorem num_pp2 : Num (pp - 2) := by unfold Num pp; omega
set_option maxHeartbeats 400000 in
theorem inv_any (X : Int) (w : World) (hX : Num X) (hG : GCell 5 pp w) (hT : GCell 6 (pp - 2) w) :
  Calls Tryd.prog 84 #[feV X] w fun e w' => e = .returned (feV (X ^ (pp - 2).toNat % pp)) ∧ Below w.heap.size w w' := by
 have B := Lib.hid (Box1.start w X)
 replace hG := hG.below B.out.bl
 replace hT := hT.below B.out.bl
 go_enter Tryd.func84, Tryd.ntmps84
 go_upto_region 1 with fail
 generalize ((w.alloc (.cells #[.int .u64 (w0 X), .int .u64 (w1 X), .int .u64 (w2 X), .int .u64 (w3 X)] 66)).alloc (.cells #[.int .u64 0, .int .u64 0, .int .u64 0, .int .u64 0] 66)) = u0 at *
 obtain ⟨bl, l0, l1, x0, x1, x2, x3, r0, r1, r2, r3, f0, f1, f2, f3⟩ := B.out
 obtain ⟨t0, t1, t2, t3, t4⟩ := hT
 go_wp2_with fail
 refine (pow_any X (pp - 2) _ hX num_pp2 hG).mono ?_
 clear bl l0 l1 x0 x1 x2 x3 r0 r1 r2 r3 f0 f1 f2 f3
 rintro e u ⟨rfl, hb⟩
 replace B := Lib.hid (B.out.next hb); obtain ⟨bl, l0, l1, x0, x1, x2, x3, r0, r1, r2, r3, f0, f1, f2, f3⟩ := B.out; clear hb
 go_wp2_with fail
 refine bodyPost_ret (v := feV (X ^ (pp - 2).toNat % pp)) (by simp [results, Tryd.results84, go_sem, r0, r1, r2, r3]) rfl ⟨rfl, ?_⟩
 repeat' (first | exact Below.refl _ _ | assumption | refine Below.setCell ?_ ?_ _ | refine Below.alloc ?_ ?_ _ | refine Below.drew ?_ | refine Below.trans ?_ (Below.mono (by assumption) ?_) | (simp; done) | (simp; omega))
end Go.Proofs.YtcgbgmbnagmohaaDoor
namespace Go.Proofs.YtcgbgmbnagmohaaDoor
open Go.RowKit
set_option maxRecDepth 20000
theorem num_small {n : Int} (h0 : 0 ≤ n) (h1 : n < 4294967296) : Num n := by unfold Num; omega
theorem mulmodr (a b : Int) : a * (b % pp) % pp = a * b % pp := by rw [Int.mul_comm, mulmodl, Int.mul_comm]
end Go.Proofs.YtcgbgmbnagmohaaDoor
