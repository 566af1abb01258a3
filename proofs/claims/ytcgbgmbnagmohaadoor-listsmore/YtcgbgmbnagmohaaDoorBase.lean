import Derived.Test.YtcgbgmbnagmohaaDoorPow
import Derived.Test.YtcgbgmbnagmohaaDoorEqFe
import Derived.Test.YtcgbgmbnagmohaaDoorBytes
namespace Go.Proofs.YtcgbgmbnagmohaaDoor
open Go.RowKit
set_option maxRecDepth 20000
theorem num_pp2 : Num (pp - 2) := by unfold Num pp; omega
set_option maxHeartbeats 400000 in
theorem inv_any (X : Int) (w : World) (hX : Num X) (hG : GCell 5 pp w) (hT : GCell 6 (pp - 2) w) :
    Calls Tryd.prog 84 #[feV X] w fun e w' => e = .returned (feV (X ^ (pp - 2).toNat % pp)) ∧ Below w.heap.size w w' := by
  have B := Lib.hid (Box1.start w X)
  replace hG := hG.below B.out.bl
  replace hT := hT.below B.out.bl
  go_enter Tryd.func84, Tryd.ntmps84
  go_upto_region 1 with fail
  generalize ((w.alloc (.cells #[.int .u64 (w0 X), .int .u64 (w1 X), .int .u64 (w2 X), .int .u64 (w3 X)] 66)).alloc (.cells #[.int .u64 0, .int .u64 0, .int .u64 0, .int .u64 0] 66)) = u0 at *
  obtain ⟨bl, l0, l1, x0, x1, x2, x3, r0, r1, r2, r3, f0, f1, f2, f3⟩ := B.out
  obtain ⟨t0, t1, t2, t3, t4⟩ := hT
  go_wp2_with fail
  refine (pow_any X (pp - 2) _ hX num_pp2 hG).mono ?_
  clear bl l0 l1 x0 x1 x2 x3 r0 r1 r2 r3 f0 f1 f2 f3
  rintro e u ⟨rfl, hb⟩
  replace B := Lib.hid (B.out.next hb); obtain ⟨bl, l0, l1, x0, x1, x2, x3, r0, r1, r2, r3, f0, f1, f2, f3⟩ := B.out; clear hb
  go_wp2_with fail
  refine bodyPost_ret (v := feV (X ^ (pp - 2).toNat % pp)) (by simp [results, Tryd.results84, go_sem, r0, r1, r2, r3]) rfl ⟨rfl, ?_⟩
  repeat' (first | exact Below.refl _ _ | assumption | refine Below.setCell ?_ ?_ _ | refine Below.alloc ?_ ?_ _ | refine Below.drew ?_ | refine Below.trans ?_ (Below.mono (by assumption) ?_) | (simp; done) | (simp; omega))
end Go.Proofs.YtcgbgmbnagmohaaDoor
namespace Go.Proofs.YtcgbgmbnagmohaaDoor
open Go.RowKit
set_option maxRecDepth 20000
theorem num_small {n : Int} (h0 : 0 ≤ n) (h1 : n < 4294967296) : Num n := by unfold Num; omega
theorem mulmodr (a b : Int) : a * (b % pp) % pp = a * b % pp := by rw [Int.mul_comm, mulmodl, Int.mul_comm]
end Go.Proofs.YtcgbgmbnagmohaaDoor
