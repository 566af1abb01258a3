import Derived.Test.YtcgbgmbnagmohaaDoorEqFe
import Derived.Test.YtcgbgmbnagmohaaDoorInv
import Derived.Test.YtcgbgmbnagmohaaDoorBytes
namespace Go.Proofs.YtcgbgmbnagmohaaDoor
open Go.RowKit
set_option maxRecDepth 20000
theorem num_small {n : Int} (h0 : 0 ≤ n) (h1 : n < 4294967296) : Num n := by unfold Num; omega
theorem mulmodr (a b : Int) : a * (b % pp) % pp = a * b % pp := by rw [Int.mul_comm, mulmodl, Int.mul_comm]
end Go.Proofs.YtcgbgmbnagmohaaDoor
