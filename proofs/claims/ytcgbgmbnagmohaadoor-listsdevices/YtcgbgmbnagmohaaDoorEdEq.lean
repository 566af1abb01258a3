import Derived.Test.YtcgbgmbnagmohaaDoorEMath
import Derived.Test.YtcgbgmbnagmohaaDoorScMath
import Derived.Test.YtcgbgmbnagmohaaDoorSown2
import Derived.Test.YtcgbgmbnagmohaaDoorBase
import Derived.Test.YtcgbgmbnagmohaaDoorOps
import Derived.Test.YtcgbgmbnagmohaaDoorGen
import Derived.Test.YtcgbgmbnagmohaaDoorRoot1
import Derived.Test.YtcgbgmbnagmohaaDoorLy
namespace Go.Proofs.YtcgbgmbnagmohaaDoor
set_option maxRecDepth 20000
theorem E.add {a b c d : Int} (h : E a b) (k : E c d) : E (a + c) (b + d) := by
 show (a + c) % pp = (b + d) % pp
 rw [Int.add_emod, h, k, ← Int.add_emod]
theorem E.sub {a b c d : Int} (h : E a b) (k : E c d) : E (a - c) (b - d) := by
 show (a - c) % pp = (b - d) % pp
 rw [Int.sub_emod, h, k, ← Int.sub_emod]
def Zr (a : Int) : Prop := a % pp = 0
theorem Zr.of_E {a b : Int} (h : E a b) : Zr (a - b) := Int.emod_eq_emod_iff_emod_sub_eq_zero.1 h
theorem Zr.to_E {a b : Int} (h : Zr (a - b)) : E a b := Int.emod_eq_emod_iff_emod_sub_eq_zero.2 h
theorem Zr.mulr {a : Int} (h : Zr a) (c : Int) : Zr (c * a) := Int.emod_eq_zero_of_dvd (Int.dvd_trans (Int.dvd_of_emod_eq_zero h) (Int.dvd_mul_left _ _))
theorem Zr.add {a b : Int} (h : Zr a) (k : Zr b) : Zr (a + b) := Int.emod_eq_zero_of_dvd (Int.dvd_add (Int.dvd_of_emod_eq_zero h) (Int.dvd_of_emod_eq_zero k))
theorem Zr.neg {a : Int} (h : Zr a) : Zr (-a) := by have := h.mulr (-1); simpa using this
theorem Zr.or {a b : Int} (h : Zr (a * b)) : Zr a ∨ Zr b := no_zero h
theorem Zr.comb2 {n c1 c2 e1 e2 : Int} (h : n = c1 * e1 + c2 * e2) (h1 : Zr e1) (h2 : Zr e2) : Zr n := by rw [h]; exact (h1.mulr c1).add (h2.mulr c2)
theorem Zr.comb3 {n c1 c2 c3 e1 e2 e3 : Int} (h : n = c1 * e1 + c2 * e2 + c3 * e3) (h1 : Zr e1) (h2 : Zr e2) (h3 : Zr e3) : Zr n := by rw [h]; exact ((h1.mulr c1).add (h2.mulr c2)).add (h3.mulr c3)
theorem Zr.comb4 {n c1 c2 c3 c4 e1 e2 e3 e4 : Int} (h : n = c1 * e1 + c2 * e2 + c3 * e3 + c4 * e4) (h1 : Zr e1) (h2 : Zr e2) (h3 : Zr e3) (h4 : Zr e4) : Zr n := by rw [h]; exact (((h1.mulr c1).add (h2.mulr c2)).add (h3.mulr c3)).add (h4.mulr c4)
theorem qco {a b : Int} (ha : ¬ Zr a) (hb : ¬ Zr b) : ¬ Zr (a * b) := fun h => h.or.elim ha hb
theorem E.zr {a b : Int} (h : E a b) (hb : Zr b) : Zr a := Eq.trans h hb
set_option maxHeartbeats 20000000 in
set_option maxRecDepth 100000 in
theorem idX (d x1 y1 x2 y2 x3 y3 : Int) :
  ((x1 * y2 + y1 * x2) * (1 - d * x1 * x2 * y1 * y2) * y3 + (y1 * y2 + x1 * x2) * (1 + d * x1 * x2 * y1 * y2) * x3) * ((1 + d * x2 * x3 * y2 * y3) * (1 - d * x2 * x3 * y2 * y3) + d * (x2 * y3 + y2 * x3) * (y2 * y3 + x2 * x3) * x1 * y1)
  - ((x2 * y3 + y2 * x3) * (1 - d * x2 * x3 * y2 * y3) * y1 + (y2 * y3 + x2 * x3) * (1 + d * x2 * x3 * y2 * y3) * x1) * ((1 + d * x1 * x2 * y1 * y2) * (1 - d * x1 * x2 * y1 * y2) + d * (x1 * y2 + y1 * x2) * (y1 * y2 + x1 * x2) * x3 * y3)
  = (- d * y1 * x2 * y2 * y2 * y2 * y2 * x3 * x3 * y3 - d * y1 * x2 * x2 * y2 * y2 * y2 * x3 - d * y1 * x2 * x2 * y2 * y2 * y2 * x3 * x3 * x3 - d * y1 * x2 * x2 * x2 * y2 * y2 * y3 + d * y1 * x2 * x2 * x2 * y2 * y2 * y3 * y3 * y3 + d * y1 * x2 * x2 * x2 * x2 * y2 * x3 * y3 * y3 + d * x1 * x2 * y2 * y2 * y2 * y2 * x3 * y3 * y3 - d * x1 * x2 * x2 * y2 * y2 * y2 * y3 + d * x1 * x2 * x2 * y2 * y2 * y2 * y3 * y3 * y3 - d * x1 * x2 * x2 * x2 * y2 * y2 * x3 - d * x1 * x2 * x2 * x2 * y2 * y2 * x3 * x3 * x3 - d * x1 * x2 * x2 * x2 * x2 * y2 * x3 * x3 * y3 + d * d * y1 * x2 * x2 * x2 * y2 * y2 * y2 * y2 * x3 * x3 * y3 + d * d * y1 * x2 * x2 * x2 * x2 * y2 * y2 * y2 * x3 * y3 * y3 - d * d * x1 * x2 * x2 * x2 * y2 * y2 * y2 * y2 * x3 * y3 * y3 - d * d * x1 * x2 * x2 * x2 * x2 * y2 * y2 * y2 * x3 * x3 * y3) * (y1 * y1 - x1 * x1 - 1 - d * x1 * x1 * y1 * y1) + (y1 * y2 * x3 - y1 * y2 * x3 * y3 * y3 + y1 * y2 * x3 * x3 * x3 + y1 * x2 * y3 - y1 * x2 * y3 * y3 * y3 + y1 * x2 * x3 * x3 * y3 - y1 * y1 * y1 * y2 * x3 + y1 * y1 * y1 * y2 * x3 * y3 * y3 - y1 * y1 * y1 * y2 * x3 * x3 * x3 - y1 * y1 * y1 * x2 * y3 + y1 * y1 * y1 * x2 * y3 * y3 * y3 - y1 * y1 * y1 * x2 * x3 * x3 * y3 + x1 * y2 * y3 - x1 * y2 * y3 * y3 * y3 + x1 * y2 * x3 * x3 * y3 + x1 * x2 * x3 - x1 * x2 * x3 * y3 * y3 + x1 * x2 * x3 * x3 * x3 - x1 * y1 * y1 * y2 * y3 + x1 * y1 * y1 * y2 * y3 * y3 * y3 - x1 * y1 * y1 * y2 * x3 * x3 * y3 - x1 * y1 * y1 * x2 * x3 + x1 * y1 * y1 * x2 * x3 * y3 * y3 - x1 * y1 * y1 * x2 * x3 * x3 * x3 + x1 * x1 * y1 * y2 * x3 - x1 * x1 * y1 * y2 * x3 * y3 * y3 + x1 * x1 * y1 * y2 * x3 * x3 * x3 + x1 * x1 * y1 * x2 * y3 - x1 * x1 * y1 * x2 * y3 * y3 * y3 + x1 * x1 * y1 * x2 * x3 * x3 * y3 + x1 * x1 * x1 * y2 * y3 - x1 * x1 * x1 * y2 * y3 * y3 * y3 + x1 * x1 * x1 * y2 * x3 * x3 * y3 + x1 * x1 * x1 * x2 * x3 - x1 * x1 * x1 * x2 * x3 * y3 * y3 + x1 * x1 * x1 * x2 * x3 * x3 * x3 + d * y1 * y2 * x3 * x3 * x3 * y3 * y3 + d * y1 * x2 * x3 * x3 * y3 * y3 * y3 - d * y1 * x2 * y2 * y2 * x3 * x3 * y3 - d * y1 * x2 * x2 * y2 * x3 * y3 * y3 - d * y1 * y1 * y1 * y2 * x3 * x3 * x3 * y3 * y3 - d * y1 * y1 * y1 * x2 * x3 * x3 * y3 * y3 * y3 + d * y1 * y1 * y1 * x2 * y2 * y2 * x3 * x3 * y3 + d * y1 * y1 * y1 * x2 * x2 * y2 * x3 * y3 * y3 + d * x1 * y2 * x3 * x3 * y3 * y3 * y3 + d * x1 * x2 * x3 * x3 * x3 * y3 * y3 + d * x1 * x2 * y2 * y2 * x3 * y3 * y3 + d * x1 * x2 * x2 * y2 * x3 * x3 * y3 - d * x1 * y1 * y1 * y2 * x3 * x3 * y3 * y3 * y3 - d * x1 * y1 * y1 * x2 * x3 * x3 * x3 * y3 * y3 - d * x1 * y1 * y1 * x2 * y2 * y2 * x3 * y3 * y3 - d * x1 * y1 * y1 * x2 * x2 * y2 * x3 * x3 * y3 + d * x1 * x1 * y1 * y2 * x3 * x3 * x3 * y3 * y3 + d * x1 * x1 * y1 * x2 * x3 * x3 * y3 * y3 * y3 - d * x1 * x1 * y1 * x2 * y2 * y2 * x3 * x3 * y3 - d * x1 * x1 * y1 * x2 * x2 * y2 * x3 * y3 * y3 + d * x1 * x1 * x1 * y2 * x3 * x3 * y3 * y3 * y3 + d * x1 * x1 * x1 * x2 * x3 * x3 * x3 * y3 * y3 + d * x1 * x1 * x1 * x2 * y2 * y2 * x3 * y3 * y3 + d * x1 * x1 * x1 * x2 * x2 * y2 * x3 * x3 * y3 + d * d * x1 * y1 * y1 * x2 * y2 * y2 * x3 * x3 * x3 * y3 * y3 - d * d * x1 * y1 * y1 * x2 * x2 * y2 * x3 * x3 * y3 * y3 * y3 - d * d * x1 * x1 * y1 * x2 * y2 * y2 * x3 * x3 * y3 * y3 * y3 + d * d * x1 * x1 * y1 * x2 * x2 * y2 * x3 * x3 * x3 * y3 * y3) * (y2 * y2 - x2 * x2 - 1 - d * x2 * x2 * y2 * y2) + (- y1 * y2 * x3 + y1 * y2 * y2 * y2 * x3 - y1 * x2 * y3 + y1 * x2 * y2 * y2 * y3 - y1 * x2 * x2 * y2 * x3 - y1 * x2 * x2 * x2 * y3 + y1 * y1 * y1 * y2 * x3 - y1 * y1 * y1 * y2 * y2 * y2 * x3 + y1 * y1 * y1 * x2 * y3 - y1 * y1 * y1 * x2 * y2 * y2 * y3 + y1 * y1 * y1 * x2 * x2 * y2 * x3 + y1 * y1 * y1 * x2 * x2 * x2 * y3 - x1 * y2 * y3 + x1 * y2 * y2 * y2 * y3 - x1 * x2 * x3 + x1 * x2 * y2 * y2 * x3 - x1 * x2 * x2 * y2 * y3 - x1 * x2 * x2 * x2 * x3 + x1 * y1 * y1 * y2 * y3 - x1 * y1 * y1 * y2 * y2 * y2 * y3 + x1 * y1 * y1 * x2 * x3 - x1 * y1 * y1 * x2 * y2 * y2 * x3 + x1 * y1 * y1 * x2 * x2 * y2 * y3 + x1 * y1 * y1 * x2 * x2 * x2 * x3 - x1 * x1 * y1 * y2 * x3 + x1 * x1 * y1 * y2 * y2 * y2 * x3 - x1 * x1 * y1 * x2 * y3 + x1 * x1 * y1 * x2 * y2 * y2 * y3 - x1 * x1 * y1 * x2 * x2 * y2 * x3 - x1 * x1 * y1 * x2 * x2 * x2 * y3 - x1 * x1 * x1 * y2 * y3 + x1 * x1 * x1 * y2 * y2 * y2 * y3 - x1 * x1 * x1 * x2 * x3 + x1 * x1 * x1 * x2 * y2 * y2 * x3 - x1 * x1 * x1 * x2 * x2 * y2 * y3 - x1 * x1 * x1 * x2 * x2 * x2 * x3 - d * x1 * y1 * y1 * x2 * y2 * y2 * x3 + d * x1 * y1 * y1 * x2 * x2 * y2 * y3 + d * x1 * x1 * y1 * x2 * y2 * y2 * y3 - d * x1 * x1 * y1 * x2 * x2 * y2 * x3) * (y3 * y3 - x3 * x3 - 1 - d * x3 * x3 * y3 * y3) := by grind
set_option maxHeartbeats 20000000 in
set_option maxRecDepth 100000 in
theorem idY (d x1 y1 x2 y2 x3 y3 : Int) :
  ((y1 * y2 + x1 * x2) * (1 + d * x1 * x2 * y1 * y2) * y3 + (x1 * y2 + y1 * x2) * (1 - d * x1 * x2 * y1 * y2) * x3) * ((1 + d * x2 * x3 * y2 * y3) * (1 - d * x2 * x3 * y2 * y3) - d * (x2 * y3 + y2 * x3) * (y2 * y3 + x2 * x3) * x1 * y1)
  - ((y2 * y3 + x2 * x3) * (1 + d * x2 * x3 * y2 * y3) * y1 + (x2 * y3 + y2 * x3) * (1 - d * x2 * x3 * y2 * y3) * x1) * ((1 + d * x1 * x2 * y1 * y2) * (1 - d * x1 * x2 * y1 * y2) - d * (x1 * y2 + y1 * x2) * (y1 * y2 + x1 * x2) * x3 * y3)
  = (d * y1 * x2 * y2 * y2 * y2 * y2 * x3 * y3 * y3 - d * y1 * x2 * x2 * y2 * y2 * y2 * y3 + d * y1 * x2 * x2 * y2 * y2 * y2 * y3 * y3 * y3 - d * y1 * x2 * x2 * x2 * y2 * y2 * x3 - d * y1 * x2 * x2 * x2 * y2 * y2 * x3 * x3 * x3 - d * y1 * x2 * x2 * x2 * x2 * y2 * x3 * x3 * y3 - d * x1 * x2 * y2 * y2 * y2 * y2 * x3 * x3 * y3 - d * x1 * x2 * x2 * y2 * y2 * y2 * x3 - d * x1 * x2 * x2 * y2 * y2 * y2 * x3 * x3 * x3 - d * x1 * x2 * x2 * x2 * y2 * y2 * y3 + d * x1 * x2 * x2 * x2 * y2 * y2 * y3 * y3 * y3 + d * x1 * x2 * x2 * x2 * x2 * y2 * x3 * y3 * y3 - d * d * y1 * x2 * x2 * x2 * y2 * y2 * y2 * y2 * x3 * y3 * y3 - d * d * y1 * x2 * x2 * x2 * x2 * y2 * y2 * y2 * x3 * x3 * y3 + d * d * x1 * x2 * x2 * x2 * y2 * y2 * y2 * y2 * x3 * x3 * y3 + d * d * x1 * x2 * x2 * x2 * x2 * y2 * y2 * y2 * x3 * y3 * y3) * (y1 * y1 - x1 * x1 - 1 - d * x1 * x1 * y1 * y1) + (y1 * y2 * y3 - y1 * y2 * y3 * y3 * y3 + y1 * y2 * x3 * x3 * y3 + y1 * x2 * x3 - y1 * x2 * x3 * y3 * y3 + y1 * x2 * x3 * x3 * x3 - y1 * y1 * y1 * y2 * y3 + y1 * y1 * y1 * y2 * y3 * y3 * y3 - y1 * y1 * y1 * y2 * x3 * x3 * y3 - y1 * y1 * y1 * x2 * x3 + y1 * y1 * y1 * x2 * x3 * y3 * y3 - y1 * y1 * y1 * x2 * x3 * x3 * x3 + x1 * y2 * x3 - x1 * y2 * x3 * y3 * y3 + x1 * y2 * x3 * x3 * x3 + x1 * x2 * y3 - x1 * x2 * y3 * y3 * y3 + x1 * x2 * x3 * x3 * y3 - x1 * y1 * y1 * y2 * x3 + x1 * y1 * y1 * y2 * x3 * y3 * y3 - x1 * y1 * y1 * y2 * x3 * x3 * x3 - x1 * y1 * y1 * x2 * y3 + x1 * y1 * y1 * x2 * y3 * y3 * y3 - x1 * y1 * y1 * x2 * x3 * x3 * y3 + x1 * x1 * y1 * y2 * y3 - x1 * x1 * y1 * y2 * y3 * y3 * y3 + x1 * x1 * y1 * y2 * x3 * x3 * y3 + x1 * x1 * y1 * x2 * x3 - x1 * x1 * y1 * x2 * x3 * y3 * y3 + x1 * x1 * y1 * x2 * x3 * x3 * x3 + x1 * x1 * x1 * y2 * x3 - x1 * x1 * x1 * y2 * x3 * y3 * y3 + x1 * x1 * x1 * y2 * x3 * x3 * x3 + x1 * x1 * x1 * x2 * y3 - x1 * x1 * x1 * x2 * y3 * y3 * y3 + x1 * x1 * x1 * x2 * x3 * x3 * y3 + d * y1 * y2 * x3 * x3 * y3 * y3 * y3 + d * y1 * x2 * x3 * x3 * x3 * y3 * y3 + d * y1 * x2 * y2 * y2 * x3 * y3 * y3 + d * y1 * x2 * x2 * y2 * x3 * x3 * y3 - d * y1 * y1 * y1 * y2 * x3 * x3 * y3 * y3 * y3 - d * y1 * y1 * y1 * x2 * x3 * x3 * x3 * y3 * y3 - d * y1 * y1 * y1 * x2 * y2 * y2 * x3 * y3 * y3 - d * y1 * y1 * y1 * x2 * x2 * y2 * x3 * x3 * y3 + d * x1 * y2 * x3 * x3 * x3 * y3 * y3 + d * x1 * x2 * x3 * x3 * y3 * y3 * y3 - d * x1 * x2 * y2 * y2 * x3 * x3 * y3 - d * x1 * x2 * x2 * y2 * x3 * y3 * y3 - d * x1 * y1 * y1 * y2 * x3 * x3 * x3 * y3 * y3 - d * x1 * y1 * y1 * x2 * x3 * x3 * y3 * y3 * y3 + d * x1 * y1 * y1 * x2 * y2 * y2 * x3 * x3 * y3 + d * x1 * y1 * y1 * x2 * x2 * y2 * x3 * y3 * y3 + d * x1 * x1 * y1 * y2 * x3 * x3 * y3 * y3 * y3 + d * x1 * x1 * y1 * x2 * x3 * x3 * x3 * y3 * y3 + d * x1 * x1 * y1 * x2 * y2 * y2 * x3 * y3 * y3 + d * x1 * x1 * y1 * x2 * x2 * y2 * x3 * x3 * y3 + d * x1 * x1 * x1 * y2 * x3 * x3 * x3 * y3 * y3 + d * x1 * x1 * x1 * x2 * x3 * x3 * y3 * y3 * y3 - d * x1 * x1 * x1 * x2 * y2 * y2 * x3 * x3 * y3 - d * x1 * x1 * x1 * x2 * x2 * y2 * x3 * y3 * y3 + d * d * x1 * y1 * y1 * x2 * y2 * y2 * x3 * x3 * y3 * y3 * y3 - d * d * x1 * y1 * y1 * x2 * x2 * y2 * x3 * x3 * x3 * y3 * y3 - d * d * x1 * x1 * y1 * x2 * y2 * y2 * x3 * x3 * x3 * y3 * y3 + d * d * x1 * x1 * y1 * x2 * x2 * y2 * x3 * x3 * y3 * y3 * y3) * (y2 * y2 - x2 * x2 - 1 - d * x2 * x2 * y2 * y2) + (- y1 * y2 * y3 + y1 * y2 * y2 * y2 * y3 - y1 * x2 * x3 + y1 * x2 * y2 * y2 * x3 - y1 * x2 * x2 * y2 * y3 - y1 * x2 * x2 * x2 * x3 + y1 * y1 * y1 * y2 * y3 - y1 * y1 * y1 * y2 * y2 * y2 * y3 + y1 * y1 * y1 * x2 * x3 - y1 * y1 * y1 * x2 * y2 * y2 * x3 + y1 * y1 * y1 * x2 * x2 * y2 * y3 + y1 * y1 * y1 * x2 * x2 * x2 * x3 - x1 * y2 * x3 + x1 * y2 * y2 * y2 * x3 - x1 * x2 * y3 + x1 * x2 * y2 * y2 * y3 - x1 * x2 * x2 * y2 * x3 - x1 * x2 * x2 * x2 * y3 + x1 * y1 * y1 * y2 * x3 - x1 * y1 * y1 * y2 * y2 * y2 * x3 + x1 * y1 * y1 * x2 * y3 - x1 * y1 * y1 * x2 * y2 * y2 * y3 + x1 * y1 * y1 * x2 * x2 * y2 * x3 + x1 * y1 * y1 * x2 * x2 * x2 * y3 - x1 * x1 * y1 * y2 * y3 + x1 * x1 * y1 * y2 * y2 * y2 * y3 - x1 * x1 * y1 * x2 * x3 + x1 * x1 * y1 * x2 * y2 * y2 * x3 - x1 * x1 * y1 * x2 * x2 * y2 * y3 - x1 * x1 * y1 * x2 * x2 * x2 * x3 - x1 * x1 * x1 * y2 * x3 + x1 * x1 * x1 * y2 * y2 * y2 * x3 - x1 * x1 * x1 * x2 * y3 + x1 * x1 * x1 * x2 * y2 * y2 * y3 - x1 * x1 * x1 * x2 * x2 * y2 * x3 - x1 * x1 * x1 * x2 * x2 * x2 * y3 - d * x1 * y1 * y1 * x2 * y2 * y2 * y3 + d * x1 * y1 * y1 * x2 * x2 * y2 * x3 + d * x1 * x1 * y1 * x2 * y2 * y2 * x3 - d * x1 * x1 * y1 * x2 * x2 * y2 * y3) * (y3 * y3 - x3 * x3 - 1 - d * x3 * x3 * y3 * y3) := by grind
set_option maxHeartbeats 20000000 in
set_option maxRecDepth 100000 in
theorem idO (d x1 y1 x2 y2 : Int) :
  (y1 * y2 + x1 * x2) * (y1 * y2 + x1 * x2) * ((1 + d * x1 * x2 * y1 * y2) * (1 + d * x1 * x2 * y1 * y2)) - (x1 * y2 + y1 * x2) * (x1 * y2 + y1 * x2) * ((1 - d * x1 * x2 * y1 * y2) * (1 - d * x1 * x2 * y1 * y2)) - (1 + d * x1 * x2 * y1 * y2) * (1 + d * x1 * x2 * y1 * y2) * ((1 - d * x1 * x2 * y1 * y2) * (1 - d * x1 * x2 * y1 * y2)) - d * ((x1 * y2 + y1 * x2) * (x1 * y2 + y1 * x2)) * ((y1 * y2 + x1 * x2) * (y1 * y2 + x1 * x2))
  = (y2 * y2 * y2 * y2 - 4 * x2 * x2 * y2 * y2 + 2 * x2 * x2 * y2 * y2 * y2 * y2 + x2 * x2 * x2 * x2 - 2 * x2 * x2 * x2 * x2 * y2 * y2 - 2 * d * x2 * x2 * y2 * y2 - 2 * d * x2 * x2 * x2 * x2 * y2 * y2 * y2 * y2 - d * y1 * y1 * x2 * x2 * y2 * y2 * y2 * y2 + d * y1 * y1 * x2 * x2 * x2 * x2 * y2 * y2 + d * x1 * x1 * x2 * x2 * y2 * y2 * y2 * y2 - d * x1 * x1 * x2 * x2 * x2 * x2 * y2 * y2 - d * d * x2 * x2 * x2 * x2 * y2 * y2 * y2 * y2 + d * d * y1 * y1 * x2 * x2 * x2 * x2 * y2 * y2 * y2 * y2 - d * d * x1 * x1 * x2 * x2 * x2 * x2 * y2 * y2 * y2 * y2 + d * d * d * x1 * x1 * y1 * y1 * x2 * x2 * x2 * x2 * y2 * y2 * y2 * y2) * (y1 * y1 - x1 * x1 - 1 - d * x1 * x1 * y1 * y1) + (1 + y2 * y2 - x2 * x2 + 2 * x2 * x2 * y2 * y2 - y1 * y1 * y2 * y2 + y1 * y1 * x2 * x2 - 2 * y1 * y1 * x2 * x2 * y2 * y2 + x1 * x1 * y2 * y2 - x1 * x1 * x2 * x2 + 2 * x1 * x1 * x2 * x2 * y2 * y2 + d * x2 * x2 * y2 * y2 - 2 * d * y1 * y1 * x2 * x2 * y2 * y2 + d * y1 * y1 * y1 * y1 * x2 * x2 * y2 * y2 + 2 * d * x1 * x1 * x2 * x2 * y2 * y2 + d * x1 * x1 * x1 * x1 * x2 * x2 * y2 * y2) * (y2 * y2 - x2 * x2 - 1 - d * x2 * x2 * y2 * y2) := by grind
def dd : Int := 37095705934669439343138083508754565189542113879843219016388785533085940283555
def ii : Int := 19681161376707505956807079304988542015446066515923890162744021073123829784752
theorem ii_sq : Zr (ii * ii + 1) := by unfold Zr ii pp; decide +kernel
theorem dd_not : ¬ Zr dd := by unfold Zr dd pp; decide +kernel
theorem one_not : ¬ Zr 1 := by unfold Zr pp; decide +kernel
theorem two_not : ¬ Zr 2 := by unfold Zr pp; decide +kernel
def hN : Nat := 28948022309329048855892746252171976963317496166410141009864396001978282409974
def hBits : List Bool := ones 250 ++ [false, true, true, false]
theorem hBits_num : bn hBits 0 = hN := by decide +kernel
theorem hN_two : hN + hN = pN - 1 := by decide +kernel
theorem dd_half : E (dd ^ hN) (-1) := by
 have h := ipow_eval 37095705934669439343138083508754565189542113879843219016388785533085940283555 57896044618658097711785492504343953926634992332820282019728792003956564819949 hN hBits hBits_num
 have e : ((37095705934669439343138083508754565189542113879843219016388785533085940283555 : Nat) : Int) = dd := rfl
 rw [e, ← pp_nat] at h
 exact h.trans (by unfold pp; decide +kernel)
theorem no_root {a b : Int} (h : E (a * a) (dd * (b * b))) : Zr b := Classical.byContradiction fun hb => by
 by_cases ha : Zr a
 ·have h1 : Zr (dd * (b * b)) := E.zr h.symm (ha.mulr a)
  rcases h1.or with h2 | h2
  ·exact dd_not h2
  ·exact h2.or.elim hb hb
 ·have h1 := h.pow hN
  have e1 : (a * a) ^ hN = a ^ (pN - 1) := by rw [← hN_two, Int.pow_add, Int.mul_pow]
  have e2 : (dd * (b * b)) ^ hN = dd ^ hN * b ^ (pN - 1) := by rw [← hN_two, Int.pow_add, Int.mul_pow, Int.mul_pow]
  rw [e1, e2] at h1
  have h2 : E 1 (-1 * 1) := (E.symm (show E (a ^ (pN - 1)) 1 from (fermat_int ha).trans (by unfold pp; decide +kernel))).trans (h1.trans (dd_half.mul (show E (b ^ (pN - 1)) 1 from (fermat_int hb).trans (by unfold pp; decide +kernel))))
  exact absurd h2 (by unfold E pp; decide +kernel)
def onE (x y : Int) : Int := y * y - x * x - 1 - dd * x * x * y * y
structure Pt where
 x : Int
 y : Int
 deriving DecidableEq
def Pt.On (p : Pt) : Prop := Zr (onE p.x p.y)
def Pt.Ok (p : Pt) : Prop := (0 ≤ p.x ∧ p.x < pp) ∧ (0 ≤ p.y ∧ p.y < pp)
def prt (p q : Pt) : Int := dd * p.x * q.x * p.y * q.y
theorem id_root (d i x1 y1 x2 y2 s : Int) (hs : s * s = 1) : (i * x1 + s * (d * x1 * x2 * y1 * y2 * y1)) * (i * x1 + s * (d * x1 * x2 * y1 * y2 * y1)) - d * (x1 * y1 * (i * x2 + s * y2) * (x1 * y1 * (i * x2 + s * y2))) =
  (x1 * x1 - d * x1 * x1 * y1 * y1 * x2 * x2) * (i * i + 1) + (y1 * y1 - 1) * (d * x1 * x2 * y1 * y2 * (d * x1 * x2 * y1 * y2) - 1) + 1 * (y1 * y1 - x1 * x1 - 1 - d * x1 * x1 * y1 * y1) + (-(d * x1 * x1 * y1 * y1)) * (y2 * y2 - x2 * x2 - 1 - d * x2 * x2 * y2 * y2) := by grind
theorem prt_sq {p q : Pt} (hp : p.On) (hq : q.On) (h : Zr (prt p q * prt p q - 1)) : False := by
 have hn : ¬ Zr (prt p q) := fun h0 => one_not (by
  have := (h0.mulr (prt p q)).add h.neg
  rwa [show prt p q * prt p q + -(prt p q * prt p q - 1) = 1 by omega] at this)
 have k1 : Zr (p.x * p.y * (ii * q.x + 1 * q.y)) := no_root (Zr.to_E (Zr.comb4 (id_root dd ii p.x p.y q.x q.y 1 (by decide)) ii_sq h hp hq))
 have k2 : Zr (p.x * p.y * (ii * q.x + -1 * q.y)) := no_root (Zr.to_E (Zr.comb4 (id_root dd ii p.x p.y q.x q.y (-1) (by decide)) ii_sq h hp hq))
 have hx : ¬ Zr (p.x * p.y) := fun h0 => hn (by
  have := h0.mulr (dd * q.x * q.y)
  rwa [show dd * q.x * q.y * (p.x * p.y) = prt p q by unfold prt; grind] at this)
 have hy : ¬ Zr q.y := fun h0 => hn (by
  have := h0.mulr (dd * p.x * q.x * p.y)
  exact this)
 have j1 := k1.or.resolve_left hx
 have j2 := k2.or.resolve_left hx
 have j3 : Zr (2 * q.y) := by
  have := j1.add j2.neg
  rwa [show ii * q.x + 1 * q.y + -(ii * q.x + -1 * q.y) = 2 * q.y by omega] at this
 exact j3.or.elim two_not hy
theorem div_add {p q : Pt} (hp : p.On) (hq : q.On) : ¬ Zr (1 + prt p q) := fun h => prt_sq hp hq (by
 have := h.mulr (prt p q - 1)
 rwa [show (prt p q - 1) * (1 + prt p q) = prt p q * prt p q - 1 by grind] at this)
theorem div_sub {p q : Pt} (hp : p.On) (hq : q.On) : ¬ Zr (1 - prt p q) := fun h => prt_sq hp hq (by
 have := h.mulr (-(prt p q + 1))
 rwa [show -(prt p q + 1) * (1 - prt p q) = prt p q * prt p q - 1 by grind] at this)
def iv (a : Int) : Int := a ^ (pp - 2).toNat % pp
theorem iv_one {a : Int} (h : ¬ Zr a) : E (a * iv a) 1 := (inv_one h).trans (by unfold pp; decide +kernel)
def padd (p q : Pt) : Pt := ⟨(p.x * q.y + p.y * q.x) * iv (1 + prt p q) % pp, (p.y * q.y + p.x * q.x) * iv (1 - prt p q) % pp⟩
theorem padd_ok (p q : Pt) : (padd p q).Ok := ⟨qca _, qca _⟩
theorem prt_comm (p q : Pt) : prt p q = prt q p := by unfold prt; grind
theorem padd_comm (p q : Pt) : padd p q = padd q p := by
 unfold padd
 rw [prt_comm p q, show p.x * q.y + p.y * q.x = q.x * p.y + q.y * p.x by grind, show p.y * q.y + p.x * q.x = q.y * p.y + q.x * p.x by grind]
theorem div_E {a b : Int} (h : ¬ Zr b) : E (a * iv b % pp * b) a := by
 refine ((E.rest _).mul (E.rfl' b)).trans ?_
 have := (E.rfl' a).mul (iv_one h)
 rw [Int.mul_one] at this
 exact (E.of_eq (by grind)).trans this
theorem padd_x {p q : Pt} (hp : p.On) (hq : q.On) : Zr ((padd p q).x * (1 + prt p q) - (p.x * q.y + p.y * q.x)) := Zr.of_E (div_E (div_add hp hq))
theorem padd_y {p q : Pt} (hp : p.On) (hq : q.On) : Zr ((padd p q).y * (1 - prt p q) - (p.y * q.y + p.x * q.x)) := Zr.of_E (div_E (div_sub hp hq))
theorem id_on (d a b x y B D : Int) : B * B * (D * D) * (y * y - x * x - 1 - d * x * x * y * y) =
  (-(D * D) * (x * B + a) - d * (x * B + a) * (y * D * (y * D))) * (x * B - a) + (B * B * (y * D + b) - d * (a * a) * (y * D + b)) * (y * D - b) + 1 * (b * b * (B * B) - a * a * (D * D) - B * B * (D * D) - d * (a * a) * (b * b)) := by grind
theorem padd_on {p q : Pt} (hp : p.On) (hq : q.On) : (padd p q).On := by
 have hB := div_add hp hq
 have hD := div_sub hp hq
 have h1 := Zr.comb3 (id_on dd (p.x * q.y + p.y * q.x) (p.y * q.y + p.x * q.x) (padd p q).x (padd p q).y (1 + prt p q) (1 - prt p q)) (padd_x hp hq) (padd_y hp hq)
  (Zr.comb2 (idO dd p.x p.y q.x q.y) hp hq)
 exact h1.or.resolve_left (qco (qco hB hB) (qco hD hD))
theorem id_mx (d rx ry a b A B C D x y t : Int) (ha : a = A) (hb : b = C) : t * (B * D + d * A * C * x * y) - (A * D * y + C * B * x) =
  B * D * (t * (1 + d * rx * x * ry * y) - (rx * y + ry * x)) + (D * y - t * d * x * y * C) * (rx * B - a) + (B * x - t * d * x * y * rx * B) * (ry * D - b) := by subst ha hb; grind
theorem id_my (d rx ry a b A B C D x y t : Int) (ha : a = A) (hb : b = C) : t * (B * D - d * A * C * x * y) - (C * B * y + A * D * x) =
  B * D * (t * (1 - d * rx * x * ry * y) - (ry * y + rx * x)) + (D * x + t * d * x * y * C) * (rx * B - a) + (B * y + t * d * x * y * rx * B) * (ry * D - b) := by subst ha hb; grind
theorem id_l (d rx ry a b B D x y : Int) : B * D + d * a * b * x * y - B * D * (1 + d * rx * x * ry * y) = (-(d * b * x * y)) * (rx * B - a) + (-(d * rx * B * x * y)) * (ry * D - b) := by grind
theorem id_l' (d rx ry a b B D x y : Int) : B * D - d * a * b * x * y - B * D * (1 - d * rx * x * ry * y) = (d * b * x * y) * (rx * B - a) + (d * rx * B * x * y) * (ry * D - b) := by grind
section
variable {p q r : Pt}
def lx (p q r : Pt) : Int := (1 + prt p q) * (1 - prt p q) + dd * (p.x * q.y + p.y * q.x) * (p.y * q.y + p.x * q.x) * r.x * r.y
def ly (p q r : Pt) : Int := (1 + prt p q) * (1 - prt p q) - dd * (p.x * q.y + p.y * q.x) * (p.y * q.y + p.x * q.x) * r.x * r.y
def mx (p q r : Pt) : Int := (p.x * q.y + p.y * q.x) * (1 - prt p q) * r.y + (p.y * q.y + p.x * q.x) * (1 + prt p q) * r.x
def my (p q r : Pt) : Int := (p.y * q.y + p.x * q.x) * (1 + prt p q) * r.y + (p.x * q.y + p.y * q.x) * (1 - prt p q) * r.x
theorem three_x (hp : p.On) (hq : q.On) (hr : r.On) : Zr ((padd (padd p q) r).x * lx p q r - mx p q r) :=
 Zr.comb3 (id_mx dd (padd p q).x (padd p q).y _ _ (p.x * q.y + p.y * q.x) (1 + prt p q) (p.y * q.y + p.x * q.x) (1 - prt p q) r.x r.y (padd (padd p q) r).x rfl rfl) (padd_x (padd_on hp hq) hr) (padd_x hp hq) (padd_y hp hq)
theorem three_y (hp : p.On) (hq : q.On) (hr : r.On) : Zr ((padd (padd p q) r).y * ly p q r - my p q r) :=
 Zr.comb3 (id_my dd (padd p q).x (padd p q).y _ _ (p.x * q.y + p.y * q.x) (1 + prt p q) (p.y * q.y + p.x * q.x) (1 - prt p q) r.x r.y (padd (padd p q) r).y rfl rfl) (padd_y (padd_on hp hq) hr) (padd_x hp hq) (padd_y hp hq)
theorem lx_not (hp : p.On) (hq : q.On) (hr : r.On) : ¬ Zr (lx p q r) := fun h => by
 have h1 : Zr (lx p q r - (1 + prt p q) * (1 - prt p q) * (1 + prt (padd p q) r)) := Zr.comb2 (id_l dd (padd p q).x (padd p q).y (p.x * q.y + p.y * q.x) (p.y * q.y + p.x * q.x) (1 + prt p q) (1 - prt p q) r.x r.y) (padd_x hp hq) (padd_y hp hq)
 exact qco (qco (div_add hp hq) (div_sub hp hq)) (div_add (padd_on hp hq) hr) (E.zr (Zr.to_E h1).symm h)
theorem ly_not (hp : p.On) (hq : q.On) (hr : r.On) : ¬ Zr (ly p q r) := fun h => by
 have h1 : Zr (ly p q r - (1 + prt p q) * (1 - prt p q) * (1 - prt (padd p q) r)) := Zr.comb2 (id_l' dd (padd p q).x (padd p q).y (p.x * q.y + p.y * q.x) (p.y * q.y + p.x * q.x) (1 + prt p q) (1 - prt p q) r.x r.y) (padd_x hp hq) (padd_y hp hq)
 exact qco (qco (div_add hp hq) (div_sub hp hq)) (div_sub (padd_on hp hq) hr) (E.zr (Zr.to_E h1).symm h)
theorem eq_of_E {a b : Int} (ha : 0 ≤ a ∧ a < pp) (hb : 0 ≤ b ∧ b < pp) (h : E a b) : a = b := by
 have : a % pp = b % pp := h
 rwa [Int.emod_eq_of_lt ha.1 ha.2, Int.emod_eq_of_lt hb.1 hb.2] at this
theorem cross_eq {t u l m l' m' : Int} (h1 : Zr (t * l - m)) (h2 : Zr (u * l' - m')) (h : Zr (m * l' - m' * l)) (hl : ¬ Zr l) (hl' : ¬ Zr l') : E t u := by
 have k : Zr (l * l' * (t - u)) := Zr.comb3 (c1 := l') (c2 := -l) (c3 := 1) (by grind) h1 h2 h
 exact Zr.to_E (k.or.resolve_left (qco hl hl'))
theorem padd_turn (hp : p.On) (hq : q.On) (hr : r.On) : padd (padd p q) r = padd (padd q r) p := by
 have hx : (padd (padd p q) r).x = (padd (padd q r) p).x := eq_of_E (padd_ok _ _).1 (padd_ok _ _).1
  (cross_eq (three_x hp hq hr) (three_x hq hr hp) (Zr.comb3 (idX dd p.x p.y q.x q.y r.x r.y) hp hq hr) (lx_not hp hq hr) (lx_not hq hr hp))
 have hy : (padd (padd p q) r).y = (padd (padd q r) p).y := eq_of_E (padd_ok _ _).2 (padd_ok _ _).2
  (cross_eq (three_y hp hq hr) (three_y hq hr hp) (Zr.comb3 (idY dd p.x p.y q.x q.y r.x r.y) hp hq hr) (ly_not hp hq hr) (ly_not hq hr hp))
 generalize padd (padd p q) r = a at *
 generalize padd (padd q r) p = b at *
 cases a; cases b
 simp only at hx hy
 rw [hx, hy]
theorem padd_assoc (hp : p.On) (hq : q.On) (hr : r.On) : padd (padd p q) r = padd p (padd q r) := by rw [padd_turn hp hq hr, padd_comm]
end
end Go.Proofs.YtcgbgmbnagmohaaDoor
namespace Go.Proofs.YtcgbgmbnagmohaaDoor
set_option maxRecDepth 20000
def nonePt : Pt := ⟨0, 1⟩
theorem none_on : nonePt.On := by unfold Pt.On nonePt onE Zr; decide +kernel
theorem none_ok : nonePt.Ok := by unfold Pt.Ok nonePt pp; decide +kernel
theorem iv_1 : iv 1 = 1 := by unfold iv; rw [Int.one_pow]; unfold pp; decide +kernel
theorem padd_none {p : Pt} (h : p.Ok) : padd nonePt p = p := by
 have e : prt nonePt p = 0 := by simp [prt, nonePt]
 unfold padd
 rw [e, Int.add_zero, Int.sub_zero, iv_1]
 simp only [nonePt, Int.zero_mul, Int.one_mul, Int.zero_add, Int.mul_one, Int.add_zero]
 rw [Int.emod_eq_of_lt h.1.1 h.1.2, Int.emod_eq_of_lt h.2.1 h.2.2]
theorem padd_none' {p : Pt} (h : p.Ok) : padd p nonePt = p := by rw [padd_comm, padd_none h]
def pmul (p : Pt) : Nat → Pt
 | 0 => nonePt
 | n + 1 => padd (pmul p n) p
theorem pmul_on {p : Pt} (hp : p.On) : ∀ n, (pmul p n).On
 | 0 => none_on
 | n + 1 => padd_on (pmul_on hp n) hp
theorem pmul_ok (p : Pt) : ∀ n, (pmul p n).Ok
 | 0 => none_ok
 | _ + 1 => padd_ok _ _
theorem pmul_succ (p : Pt) (n : Nat) : pmul p (n + 1) = padd (pmul p n) p := rfl
theorem pmul_zero (p : Pt) : pmul p 0 = nonePt := rfl
theorem pmul_add {p : Pt} (hp : p.On) (m : Nat) : ∀ n, pmul p (m + n) = padd (pmul p m) (pmul p n)
 | 0 => (padd_none' (pmul_ok p m)).symm
 | n + 1 => by rw [← Nat.add_assoc, pmul_succ, pmul_add hp m n, padd_assoc (pmul_on hp m) (pmul_on hp n) hp, pmul_succ]
theorem pmul_mul {p : Pt} (hp : p.On) (n : Nat) : ∀ m, pmul p (m * n) = pmul (pmul p n) m
 | 0 => by rw [Nat.zero_mul, pmul_zero, pmul_zero]
 | m + 1 => by rw [Nat.succ_mul, pmul_add hp, pmul_mul hp n m, pmul_succ]
theorem pmul_none : ∀ n, pmul nonePt n = nonePt
 | 0 => rfl
 | n + 1 => by rw [pmul_succ, pmul_none n, padd_none none_ok]
theorem pmul_rest {p : Pt} (hp : p.On) {l : Nat} (h : pmul p l = nonePt) (n : Nat) : pmul p (n % l) = pmul p n := by
 have e : n = n / l * l + n % l := by rw [Nat.mul_comm]; exact (Nat.div_add_mod n l).symm
 have h2 : pmul p (n / l * l + n % l) = pmul p (n % l) := by rw [pmul_add hp, pmul_mul hp, h, pmul_none, padd_none (pmul_ok _ _)]
 rw [← e] at h2
 exact h2.symm
structure Wd where
 x : Int
 y : Int
 z : Int
 t : Int
 deriving DecidableEq
structure Wd.Rep (W : Wd) (P : Pt) : Prop where
 nz : ¬ Zr W.z
 hx : E W.x (P.x * W.z)
 hy : E W.y (P.y * W.z)
 ht : E W.t (P.x * P.y * W.z)
def wcr (p q : Wd) : Int := (p.x * q.y % pp + p.y * q.x % pp) % pp
def wst (p q : Wd) : Int := (p.y * q.y % pp + p.x * q.x % pp) % pp
def won (p q : Wd) : Int := p.z * q.z % pp
def wpa (p q : Wd) : Int := dd * (p.t * q.t % pp) % pp
def wab (p q : Wd) : Int := (won p q + wpa p q) % pp
def wbe (p q : Wd) : Int := (won p q - wpa p q) % pp
def wplus (p q : Wd) : Wd := ⟨wcr p q * wbe p q % pp, wst p q * wab p q % pp, wab p q * wbe p q % pp, wcr p q * wst p q % pp⟩
theorem rep_plus {W V : Wd} {P Q : Pt} (hW : W.Rep P) (hV : V.Rep Q) (hP : P.On) (hQ : Q.On) : (wplus W V).Rep (padd P Q) := by
 have hcr : E (wcr W V) ((P.x * Q.y + P.y * Q.x) * (W.z * V.z)) :=
  (E.rest _).trans ((E.add ((E.rest _).trans (hW.hx.mul hV.hy)) ((E.rest _).trans (hW.hy.mul hV.hx))).trans (E.of_eq (by grind)))
 have hst : E (wst W V) ((P.y * Q.y + P.x * Q.x) * (W.z * V.z)) :=
  (E.rest _).trans ((E.add ((E.rest _).trans (hW.hy.mul hV.hy)) ((E.rest _).trans (hW.hx.mul hV.hx))).trans (E.of_eq (by grind)))
 have hon : E (won W V) (W.z * V.z) := E.rest _
 have hpa : E (wpa W V) (prt P Q * (W.z * V.z)) :=
  (E.rest _).trans (((E.rfl' dd).mul ((E.rest _).trans (hW.ht.mul hV.ht))).trans (E.of_eq (by unfold prt; grind)))
 have hab : E (wab W V) ((1 + prt P Q) * (W.z * V.z)) := (E.rest _).trans ((hon.add hpa).trans (E.of_eq (by grind)))
 have hbe : E (wbe W V) ((1 - prt P Q) * (W.z * V.z)) := (E.rest _).trans ((hon.sub hpa).trans (E.of_eq (by grind)))
 have hA := div_add hP hQ
 have hB := div_sub hP hQ
 have rx : E ((padd P Q).x * (1 + prt P Q)) (P.x * Q.y + P.y * Q.x) := Zr.to_E (padd_x hP hQ)
 have ry : E ((padd P Q).y * (1 - prt P Q)) (P.y * Q.y + P.x * Q.x) := Zr.to_E (padd_y hP hQ)
 have hz : E (wplus W V).z ((1 + prt P Q) * (W.z * V.z) * ((1 - prt P Q) * (W.z * V.z))) := (E.rest _).trans (hab.mul hbe)
 have nz := qco hW.nz hV.nz
 generalize padd P Q = R at *
 generalize prt P Q = e at *
 generalize W.z * V.z = z at *
 refine ⟨fun h => ?_, ?_, ?_, ?_⟩
 ·exact qco (qco hA nz) (qco hB nz) (E.zr hz.symm h)
 ·refine (E.rest _).trans ((hcr.mul hbe).trans (E.trans ?_ ((E.rfl' R.x).mul hz).symm))
  exact ((rx.symm.mul (E.rfl' z)).mul (E.rfl' ((1 - e) * z))).trans (E.of_eq (by grind))
 ·refine (E.rest _).trans ((hst.mul hab).trans (E.trans ?_ ((E.rfl' R.y).mul hz).symm))
  exact ((ry.symm.mul (E.rfl' z)).mul (E.rfl' ((1 + e) * z))).trans (E.of_eq (by grind))
 ·refine (E.rest _).trans ((hcr.mul hst).trans (E.trans ?_ ((E.rfl' (R.x * R.y)).mul hz).symm))
  exact ((rx.symm.mul (E.rfl' z)).mul (ry.symm.mul (E.rfl' z))).trans (E.of_eq (by grind))
def wnar (W : Wd) : Pt := ⟨W.x * iv W.z % pp, W.y * iv W.z % pp⟩
theorem nar_E {a b z : Int} (h : E a (b * z)) (hz : ¬ Zr z) : E (a * iv z % pp) b := by
 refine (E.rest _).trans ((h.mul (E.rfl' (iv z))).trans ?_)
 have := (E.rfl' b).mul (iv_one hz)
 rw [Int.mul_one] at this
 exact (E.of_eq (by grind)).trans this
theorem wnar_eq {W : Wd} {P : Pt} (h : W.Rep P) (hP : P.Ok) : wnar W = P := by
 have h1 : W.x * iv W.z % pp = P.x := eq_of_E (qca _) hP.1 (nar_E h.hx h.nz)
 have h2 : W.y * iv W.z % pp = P.y := eq_of_E (qca _) hP.2 (nar_E h.hy h.nz)
 unfold wnar; rw [h1, h2]
def wwid (p : Pt) : Wd := ⟨p.x, p.y, 1, p.x * p.y % pp⟩
def Pt.can (p : Pt) : Pt := ⟨p.x % pp, p.y % pp⟩
theorem can_id {p : Pt} (h : p.Ok) : p.can = p := by
 unfold Pt.can; rw [Int.emod_eq_of_lt h.1.1 h.1.2, Int.emod_eq_of_lt h.2.1 h.2.2]
theorem rep_widen (p : Pt) : (wwid p).Rep p.can := by
 refine ⟨one_not, ?_, ?_, ?_⟩
 ·exact (E.rest p.x).symm.trans (E.of_eq (Int.mul_one _).symm)
 ·exact (E.rest p.y).symm.trans (E.of_eq (Int.mul_one _).symm)
 ·exact (E.rest _).trans (((E.rest p.x).symm.mul (E.rest p.y).symm).trans (E.of_eq (Int.mul_one _).symm))
theorem on_E {x y x' y' : Int} (hx : E x x') (hy : E y y') : E (onE x y) (onE x' y') := by
 unfold onE
 exact (((hy.mul hy).sub (hx.mul hx)).sub (E.rfl' 1)).sub (((((E.rfl' dd).mul hx).mul hx).mul hy).mul hy)
theorem can_on {p : Pt} (h : p.On) : p.can.On := E.zr (on_E (E.rest p.x) (E.rest p.y)) h
def onB (p : Pt) : Bool := (p.y * p.y % pp - p.x * p.x % pp) % pp == (1 + dd * (p.x * p.x % pp * (p.y * p.y % pp) % pp) % pp) % pp
theorem onB_iff (p : Pt) : onB p = true ↔ p.On := by
 have e1 : E (p.y * p.y % pp - p.x * p.x % pp) (p.y * p.y - p.x * p.x) := (E.rest _).sub (E.rest _)
 have e2 : E (1 + dd * (p.x * p.x % pp * (p.y * p.y % pp) % pp) % pp) (1 + dd * (p.x * p.x * (p.y * p.y))) :=
  (E.rfl' 1).add ((E.rest _).trans ((E.rfl' dd).mul ((E.rest _).trans ((E.rest _).mul (E.rest _)))))
 have e3 : onE p.x p.y = p.y * p.y - p.x * p.x - (1 + dd * (p.x * p.x * (p.y * p.y))) := by unfold onE; grind
 unfold onB Pt.On
 rw [beq_iff_eq, e3]
 constructor
 ·intro h
  exact Zr.of_E (e1.symm.trans (E.trans h e2))
 ·intro h
  exact e1.trans ((Zr.to_E h).trans e2.symm)
def bs : Pt := ⟨15112221349535400772501151409588531511454012693041857206046113283949847762202, 46316835694926478169428394003475163141307993866256225615783033603165251855960⟩
theorem bs_on : bs.On := by unfold Pt.On bs onE Zr dd pp; decide +kernel
theorem bs_ok : bs.Ok := by unfold Pt.Ok bs pp; decide +kernel
def wbits (W : Wd) : List Bool → Wd → Wd
 | [], acc => acc
 | c :: t, acc => wbits W t (cond c (wplus (wplus acc acc) W) (wplus acc acc))
theorem rep_bits {W : Wd} {P : Pt} (hW : W.Rep P) (hP : P.On) : ∀ (l : List Bool) (acc : Wd) (k : Nat), acc.Rep (pmul P k) → (wbits W l acc).Rep (pmul P (bn l k))
 | [], _, _, h => h
 | c :: t, acc, k, h => by
  have h2 : (wplus acc acc).Rep (pmul P (2 * k)) := by
   rw [show 2 * k = k + k by omega, pmul_add hP]
   exact rep_plus h h (pmul_on hP k) (pmul_on hP k)
  cases c with
  | false => exact rep_bits hW hP t _ _ h2
  | true => exact rep_bits hW hP t _ _ (rep_plus h2 hW (pmul_on hP _) hP)
def ellBits : List Bool := [true, false, false, false, false, false, false, false, false, false, false, false, false, false, false, false, false, false, false, false, false, false, false, false, false, false, false, false, false, false, false, false, false, false, false, false, false, false, false, false, false, false, false, false, false, false, false, false, false, false, false, false, false, false, false, false, false, false, false, false, false, false, false, false, false, false, false, false, false, false, false, false, false, false, false, false, false, false, false, false, false, false, false, false, false, false, false, false, false, false, false, false, false, false, false, false, false, false, false, false, false, false, false, false, false, false, false, false, false, false, false, false, false, false, false, false, false, false, false, false, false, false, false, false, false, false, false, false, true, false, true, false, false, true, true, false, true, true, true, true, false, true, true, true, true, true, false, false, true, true, true, false, true, true, true, true, false, true, false, true, false, false, false, true, false, true, true, true, true, false, true, true, true, true, false, false, true, true, true, false, false, true, true, false, true, false, true, true, false, false, true, false, true, true, false, false, false, false, false, false, true, false, false, true, false, false, true, true, false, false, false, true, true, false, false, false, true, true, false, true, false, false, true, false, true, true, true, false, false, true, true, true, true, false, true, false, true, true, true, false, true, false, false, true, true, true, true, true, false, true, true, false, true]
theorem ellBits_num : bn ellBits 0 = ell := by decide +kernel
theorem rep_none : (⟨0, 1, 1, 0⟩ : Wd).Rep nonePt := ⟨one_not, rfl, rfl, rfl⟩
theorem rep_bs : (⟨bs.x, bs.y, 1, bs.x * bs.y % pp⟩ : Wd).Rep bs := by have := rep_widen bs; rwa [can_id bs_ok] at this
theorem rep_is_none {W : Wd} {P : Pt} (h : W.Rep P) (hP : P.Ok) (hx : W.x % pp = 0) (hy : W.y % pp = W.z % pp) : P = nonePt := by
 have h1 : Zr P.x := (Zr.or (E.zr h.hx.symm hx)).resolve_right h.nz
 have h2 : E P.y 1 := by
  have k : Zr (W.z * (P.y - 1)) := by
   have := Zr.of_E (h.hy.symm.trans (show E W.y W.z from hy))
   rwa [show P.y * W.z - W.z = W.z * (P.y - 1) by grind] at this
  exact Zr.to_E (k.or.resolve_left h.nz)
 have e1 : P.x = 0 := eq_of_E hP.1 none_ok.1 (show P.x % pp = 0 % pp from h1)
 have e2 : P.y = 1 := eq_of_E hP.2 none_ok.2 h2
 cases P
 simp only at e1 e2
 rw [e1, e2]; rfl
theorem ell_run : (wbits ⟨bs.x, bs.y, 1, bs.x * bs.y % pp⟩ ellBits ⟨0, 1, 1, 0⟩).x % pp = 0 ∧ (wbits ⟨bs.x, bs.y, 1, bs.x * bs.y % pp⟩ ellBits ⟨0, 1, 1, 0⟩).y % pp = (wbits ⟨bs.x, bs.y, 1, bs.x * bs.y % pp⟩ ellBits ⟨0, 1, 1, 0⟩).z % pp := by decide +kernel
theorem ell_none : pmul bs ell = nonePt := by
 have h := rep_bits rep_bs bs_on ellBits ⟨0, 1, 1, 0⟩ 0 rep_none
 rw [ellBits_num] at h
 exact rep_is_none h (pmul_ok _ _) ell_run.1 ell_run.2
end Go.Proofs.YtcgbgmbnagmohaaDoor
namespace Go.Proofs.YtcgbgmbnagmohaaDoor
open Go.RowKit
set_option maxRecDepth 20000
theorem qcg {w : World} {ρ : Operand → Value} {o : Oper} {x : Operand} {vs : Array Value} {i : Nat} {v : Value} (ho : o.op = .extract x i) (hx : ρ x = .tuple vs) (hv : vs[i]? = some v) : (execOp ρ o).run Tryd.prog w = .ok (.value v) w := by
 obtain ⟨dst, op, type, pos, after, guard⟩ := o
 subst ho
 go_simp
theorem Sown.var {u w : World} {g : Nat} (h : Sown u (.cells #[.int .u64 0, .int .u64 0, .int .u64 0, .int .u64 0] 66) g w) : Var4 g 0 w := by
 obtain ⟨_, hl, hb⟩ := h
 refine ⟨hl, ?_, ?_, ?_, ?_, ?_, ?_, ?_, ?_⟩ <;> simp [World.cell?, World.frozen?, hb, w0, w1, w2, w3]
theorem qdp : Enters 81 := qaq Tryd.func81 (by kernel_rfl) rfl
theorem enters_sub : Enters 80 := qaq Tryd.func80 (by kernel_rfl) rfl
theorem qbw : Enters 82 := qaq Tryd.func82 (by kernel_rfl) rfl
theorem enters_small : Enters 77 := qaq Tryd.func77 (by kernel_rfl) rfl
theorem enters_inv : Enters 84 := qaq Tryd.func84 (by kernel_rfl) rfl
theorem enters_bytes : Enters 57 := qaq Tryd.func57 (by kernel_rfl) rfl
end Go.Proofs.YtcgbgmbnagmohaaDoor
namespace Go.Proofs.YtcgbgmbnagmohaaDoor
open Go.RowKit
set_option maxRecDepth 20000
abbrev feL (X : Int) : List Value := [.int .u64 (w0 X), .int .u64 (w1 X), .int .u64 (w2 X), .int .u64 (w3 X)]
def zq (n : Nat) : List Value := List.replicate n (.int .u64 0)
def ptL (p : Pt) : List Value := feL p.x ++ feL p.y
def wdL (W : Wd) : List Value := feL W.x ++ (feL W.y ++ (feL W.z ++ feL W.t))
theorem oneFe (X : Int) : (feL X).toArray.all (·.oneCell') = true := by kernel_rfl
theorem onePt (p : Pt) : (ptL p).toArray.all (·.oneCell') = true := by kernel_rfl
theorem oneWd (W : Wd) : (wdL W).toArray.all (·.oneCell') = true := by kernel_rfl
theorem szFe (X : Int) : (Tryd.prog.info? 66).map (·.size) = some (feL X).length := by kernel_rfl
theorem szPt (p : Pt) : (Tryd.prog.info? 68).map (·.size) = some (ptL p).length := by kernel_rfl
theorem szWd (W : Wd) : (Tryd.prog.info? 98).map (·.size) = some (wdL W).length := by kernel_rfl
theorem alcFe (ρ : Operand → Value) (w : World) (o : Oper) (h : o.op = .alloc 66) : (execOp ρ o).run Tryd.prog w = .ok (.value (.pointer (some ⟨w.heap.size, 0, none⟩))) (w.alloc (.cells (zq 4).toArray 66)) := qat h (by kernel_rfl)
section
variable {g : Nat} {u : World} {p : Pt} {W : Wd}
theorem pt_x (h : Arr g (ptL p) u) : u.rangeAt g (0 + 0) (feL p.x) := h.part 0 4
theorem pt_y (h : Arr g (ptL p) u) : u.rangeAt g (0 + 4) (feL p.y) := h.part 4 4
theorem wd_x (h : Arr g (wdL W) u) : u.rangeAt g (0 + 0) (feL W.x) := h.part 0 4
theorem wd_y (h : Arr g (wdL W) u) : u.rangeAt g (0 + 4) (feL W.y) := h.part 4 4
theorem wd_z (h : Arr g (wdL W) u) : u.rangeAt g (0 + 8) (feL W.z) := h.part 8 4
theorem wd_t (h : Arr g (wdL W) u) : u.rangeAt g (0 + 12) (feL W.t) := h.part 12 4
end
theorem GCell.range {b : Nat} {N : Int} {w : World} (h : GCell b N w) : w.rangeAt b 0 (feL N) := fun j v hv => by
 match j, hv with
 | 0, hv => rw [Nat.add_zero, h.c0]; exact hv
 | 1, hv => rw [Nat.zero_add, h.c1]; exact hv
 | 2, hv => rw [Nat.zero_add, h.c2]; exact hv
 | 3, hv => rw [Nat.zero_add, h.c3]; exact hv
 | n + 4, hv => cases hv
def Pt.Nm (p : Pt) : Prop := Num p.x ∧ Num p.y
structure Wd.Nm (W : Wd) : Prop where
 x : Num W.x
 y : Num W.y
 z : Num W.z
 t : Num W.t
theorem num_lt {a : Int} (h : 0 ≤ a ∧ a < pp) : Num a := by have h1 := h.1; have h2 := h.2; unfold Num; unfold pp at h2; omega
theorem Pt.Ok.nm {p : Pt} (h : p.Ok) : p.Nm := ⟨num_lt h.1, num_lt h.2⟩
theorem num_1 : Num 1 := num_small (by omega) (by omega)
theorem num_dd : Num dd := by unfold Num dd; decide +kernel
theorem wplus_nm (W V : Wd) : (wplus W V).Nm := ⟨qa0 _, qa0 _, qa0 _, qa0 _⟩
theorem wwid_nm {p : Pt} (h : p.Nm) : (wwid p).Nm := ⟨h.1, h.2, num_1, qa0 _⟩
structure EG (w : World) : Prop where
 O : GCell 5 pp w
 T : GCell 6 (pp - 2) w
 D : GCell 2 dd w
 Bl : 1 < w.heap.size
 B : w.rangeAt 1 0 (ptL bs)
 R : GCell 7 rp w
 M : GCell 4 mp w
theorem EG.below {w w' : World} (h : EG w) (hb : Below w.heap.size w w') : EG w' where
 O := h.O.below hb
 T := h.T.below hb
 D := h.D.below hb
 Bl := Nat.lt_of_lt_of_le h.Bl hb.size
 B := qb9 h.B h.Bl hb
 R := h.R.below hb
 M := h.M.below hb
section
variable {w : World} {ρ : Operand → Value} {o : Oper} {t t' : TypeId} {x y z : Operand}
theorem qcv {vs : List Value} (ho : o.op = .box t x) (hx : ρ x = .agg vs.toArray) : (execOp ρ o).run Tryd.prog w = .ok (.value (.pointer (some ⟨w.heap.size, 0, none⟩))) (w.alloc (.cells vs.toArray t)) := run_box ho hx
theorem run_eqFeO {M Z : Int} {c : Bool} (hM : Num M) (hZ : Num Z) (ho : o.op = .binOp .eql 66 x y t) (hx : ρ x = feV M) (hy : ρ y = feV Z) (hc : (M == Z) = c) : (execOp ρ o).run Tryd.prog w = .ok (.value (.bool c)) w := by
 obtain ⟨dst, op, type, pos, after, guard⟩ := o
 subst ho
 have hE : (Op.equalIn 10000 66 (.agg (feL M).toArray) (.agg (feL Z).toArray)).run Tryd.prog w = .ok (decide (M = Z)) w := run_eqFe hM hZ w
 have e : decide (M = Z) = c := by rw [← hc]; rfl
 rw [e] at hE
 have hx' : ρ x = .agg (feL M).toArray := hx
 have hy' : ρ y = .agg (feL Z).toArray := hy
 clear hc e hx hy
 generalize (feL M).toArray = vs at *
 generalize (feL Z).toArray = vt at *
 go_simp
theorem run_bld2 {x0 x1 : Operand} {i0 i1 : Nat} {v0 v1 : Value} {cells : Array Value} (ho : o.op = .build t #[(i0, x0), (i1, x1)]) (h0 : ρ x0 = v0) (h1 : ρ x1 = v1) (h : Tryd.prog.built t [(i0, v0), (i1, v1)] = some cells) : (execOp ρ o).run Tryd.prog w = .ok (.value (.agg cells)) w :=
 run_bld ho (by
  have e : ((#[(i0, x0), (i1, x1)] : Array (Nat × Operand)).map fun (i, x) => (i, ρ x)).toList = [(i0, v0), (i1, v1)] := by simp [h0, h1]
  rw [e]; exact h)
theorem run_bld4 {x0 x1 x2 x3 : Operand} {i0 i1 i2 i3 : Nat} {v0 v1 v2 v3 : Value} {cells : Array Value} (ho : o.op = .build t #[(i0, x0), (i1, x1), (i2, x2), (i3, x3)]) (h0 : ρ x0 = v0) (h1 : ρ x1 = v1) (h2 : ρ x2 = v2) (h3 : ρ x3 = v3) (h : Tryd.prog.built t [(i0, v0), (i1, v1), (i2, v2), (i3, v3)] = some cells) : (execOp ρ o).run Tryd.prog w = .ok (.value (.agg cells)) w :=
 run_bld ho (by
  have e : ((#[(i0, x0), (i1, x1), (i2, x2), (i3, x3)] : Array (Nat × Operand)).map fun (i, x) => (i, ρ x)).toList = [(i0, v0), (i1, v1), (i2, v2), (i3, v3)] := by simp [h0, h1, h2, h3]
  rw [e]; exact h)
end
theorem built_pt (a b : Int) : Tryd.prog.built 68 [(0, feV a), (1, feV b)] = some (ptL ⟨a, b⟩).toArray := by kernel_rfl
theorem built_pt1 (b : Int) : Tryd.prog.built 68 [(1, feV b)] = some (ptL ⟨0, b⟩).toArray := by kernel_rfl
theorem built_wd (a b c d : Int) : Tryd.prog.built 98 [(0, feV a), (1, feV b), (2, feV c), (3, feV d)] = some (wdL ⟨a, b, c, d⟩).toArray := by kernel_rfl
end Go.Proofs.YtcgbgmbnagmohaaDoor
namespace Go.Proofs.YtcgbgmbnagmohaaDoor
open Go.RowKit
set_option maxRecDepth 20000
set_option maxHeartbeats 4000000 in
theorem sqr_any (X : Int) (w : World) (hX : Num X) (hG : EG w) : Calls Tryd.prog 78 #[feV X] w fun e w' => e = .returned (feV (X * X % pp)) ∧ Below w.heap.size w w' := by
 have hM := Lib.hid (Mv.nil w)
 have HG := Lib.hid hG; clear hG
 go_enter Tryd.func78, Tryd.ntmps78
 go_upto_region 0 with fail; refine wp_region_lit ?_
 refine qaa (qcv (vs := feL X) rfl rfl) rfl ?_; (try simp only [Act.put, lyy]); replace hM := Lib.hid (hM.out.new (feL X) 66); generalize w.alloc (.cells (feL X).toArray 66) = a1 at *; generalize w.heap.size = g1 at *
 refine qaa (qat (vs := zq 4) rfl (by kernel_rfl)) rfl ?_; (try simp only [Act.put, lyy]); replace hM := Lib.hid (hM.out.new (zq 4) 66); generalize a1.alloc (.cells (zq 4).toArray 66) = a2 at *; generalize a1.heap.size = g2 at *
 refine qab ?_
 go_upto_region 1 with fail; refine wp_region_lit ?_
 refine qaa (qaj (vs := feL X) rfl Tryd.underlying66 rfl (szFe X) rfl ((hM.out.get (i := 1) rfl).range)) rfl ?_; (try simp only [Act.put, lyy])
 refine qaa (qaj (vs := feL X) rfl Tryd.underlying66 rfl (szFe X) rfl ((hM.out.get (i := 1) rfl).range)) rfl ?_; (try simp only [Act.put, lyy])
 refine qam (qao qbw rfl rfl rfl rfl) rfl (qby X X _ hX hX (HG.out.below hM.out.bl).O) (fun a3 hb => ?_); (try simp only [Act.put, lyy]); replace hM := Lib.hid (hM.out.below hb); clear hb
 refine qag (qar (vs := feL (X * X % pp)) rfl (szFe _) rfl rfl (oneFe _) ((hM.out.get (i := 0) rfl).there)) rfl rfl ?_; replace hM := Lib.hid (hM.out.put 0 rfl (m := feL (X * X % pp)) rfl); generalize a3.setCells g2 0 (feL (X * X % pp)) = a4 at *
 refine qab ?_; go_wp2_with fail; refine bodyPost_ret (v := .agg (feL (X * X % pp)).toArray) (qa8 Tryd.results78 rfl Tryd.underlying66 rfl (szFe _) (hM.out.get (i := 0) rfl).range) rfl ⟨rfl, hM.out.bl⟩
theorem enters_sqr : Enters 78 := qaq Tryd.func78 (by kernel_rfl) rfl
set_option maxHeartbeats 4000000 in
theorem nothing_any (w : World) : Calls Tryd.prog 60 #[] w fun e w' => e = .returned (.agg (ptL nonePt).toArray) ∧ Below w.heap.size w w' := by
 have hM := Lib.hid (Mv.nil w)
 go_enter Tryd.func60, Tryd.ntmps60
 go_upto_region 0 with fail; refine wp_region_lit ?_
 refine qaa (qat (vs := zq 8) rfl (by kernel_rfl)) rfl ?_; (try simp only [Act.put, List.setIfInBounds_toArray, List.set_cons_zero]); replace hM := Lib.hid (hM.out.new (zq 8) 68); generalize w.alloc (.cells (zq 8).toArray 68) = a1 at *; generalize w.heap.size = g1 at *
 refine qab ?_
 go_upto_region 1 with fail; refine wp_region_lit ?_
 refine qam (qap enters_small rfl rfl rfl) rfl (small_any 1 _ (by omega) (by omega)) (fun a2 hb => ?_); (try simp only [Act.put, lyy]); replace hM := Lib.hid (hM.out.below hb); clear hb
 refine qaa (run_bld1 rfl rfl (built_pt1 1)) rfl ?_; (try simp only [Act.put, lyy])
 refine qag (qar (vs := ptL nonePt) rfl (szPt _) rfl rfl (onePt _) ((hM.out.get (i := 0) rfl).there)) rfl rfl ?_; replace hM := Lib.hid (hM.out.put 0 rfl (m := ptL nonePt) rfl); generalize a2.setCells g1 0 (ptL nonePt) = a3 at *
 refine qab ?_; go_wp2_with fail; refine bodyPost_ret (v := .agg (ptL nonePt).toArray) (qa8 Tryd.results60 rfl Tryd.underlying68 rfl (szPt _) (hM.out.get (i := 0) rfl).range) rfl ⟨rfl, hM.out.bl⟩
theorem qdc : Enters 60 := qaq Tryd.func60 (by kernel_rfl) rfl
set_option maxHeartbeats 4000000 in
theorem on_any (p : Pt) (w : World) (hp : p.Nm) (hG : EG w) : Calls Tryd.prog 59 #[.agg (ptL p).toArray] w fun e w' => e = .returned (.bool (onB p)) ∧ Below w.heap.size w w' := by
 have hM := Lib.hid (Mv.nil w)
 have HG := Lib.hid hG; clear hG
 have HB : Hid (onB p = ((p.y * p.y % pp - p.x * p.x % pp) % pp == (1 + dd * (p.x * p.x % pp * (p.y * p.y % pp) % pp) % pp) % pp)) := Lib.hid rfl
 generalize onB p = ob at *
 go_enter Tryd.func59, Tryd.ntmps59
 go_upto_region 0 with fail; refine wp_region_lit ?_
 refine qaa (qcv (vs := ptL p) rfl rfl) rfl ?_; (try simp only [Act.put, lyy]); replace hM := Lib.hid (hM.out.new (ptL p) 68); generalize w.alloc (.cells (ptL p).toArray 68) = a1 at *; generalize w.heap.size = g1 at *
 refine qaa (qaf (v := .bool _) rfl rfl) rfl ?_; (try simp only [Act.put, lyy])
 refine qab ?_
 go_upto_region 1 with fail; refine wp_region_sow2 6 66 (by kernel_rfl) rfl rfl (by kernel_rfl) (alcFe) ?_
 refine qad _ (fun V hV => qai (qan (s := 3) (k := 0) rfl Tryd.underlying68 rfl (by kernel_rfl) rfl rfl)) ?_; (try simp only [Act.put, lyy])
 refine qad _ (fun V hV => qai (qaj (vs := feL p.x) rfl Tryd.underlying66 rfl (szFe _) rfl (pt_x ((hM.out.below hV).get (i := 0) rfl)))) ?_; (try simp only [Act.put, lyy])
 refine qad _ (fun V hV => qax (qap enters_sqr rfl rfl rfl) (sqr_any p.x V hp.1 (HG.out.below (hM.out.below hV).bl))) ?_; (try simp only [Act.put, lyy])
 refine qad _ (fun V hV => qai (qan (s := 3) (k := 4) rfl Tryd.underlying68 rfl (by kernel_rfl) rfl rfl)) ?_; (try simp only [Act.put, lyy])
 refine qad _ (fun V hV => qai (qaj (vs := feL p.y) rfl Tryd.underlying66 rfl (szFe _) rfl (pt_y ((hM.out.below hV).get (i := 0) rfl)))) ?_; (try simp only [Act.put, lyy])
 refine qad _ (fun V hV => qax (qap enters_sqr rfl rfl rfl) (sqr_any p.y V hp.2 (HG.out.below (hM.out.below hV).bl))) ?_; (try simp only [Act.put, lyy])
 refine qbh ?_; intro g2 g3 a2 hpb s1 s2 hne; simp only [List.drop_succ_cons, List.drop_zero, List.setIfInBounds_toArray, List.set_cons_zero, List.set_cons_succ]; replace hM := Lib.hid (hM.out.sow2 hpb s1 s2 hne); clear hpb s1 s2 hne
 have hx := qa0 (p.x * p.x)
 have hy := qa0 (p.y * p.y)
 generalize p.x * p.x % pp = xx at *
 generalize p.y * p.y % pp = yy at *
 refine qag (qar (vs := feL xx) rfl (szFe _) rfl rfl (oneFe _) ((hM.out.get (i := 1) rfl).there)) rfl rfl ?_; replace hM := Lib.hid (hM.out.put 1 rfl (m := feL xx) rfl); generalize a2.setCells g2 0 (feL xx) = a3 at *
 refine qag (qar (vs := feL yy) rfl (szFe _) rfl rfl (oneFe _) ((hM.out.get (i := 0) rfl).there)) rfl rfl ?_; replace hM := Lib.hid (hM.out.put 0 rfl (m := feL yy) rfl); generalize a3.setCells g3 0 (feL yy) = a4 at *
 refine qab ?_
 go_upto_region 2 with fail; refine qbf 11 (by kernel_rfl) (by kernel_rfl) ?_
 refine qad _ (fun V hV => qai (qaj (vs := feL yy) rfl Tryd.underlying66 rfl (szFe _) rfl (((hM.out.below hV).get (i := 0) rfl).range))) ?_; (try simp only [Act.put, lyy])
 refine qad _ (fun V hV => qai (qaj (vs := feL xx) rfl Tryd.underlying66 rfl (szFe _) rfl (((hM.out.below hV).get (i := 1) rfl).range))) ?_; (try simp only [Act.put, lyy])
 refine qad _ (fun V hV => qax (qao enters_sub rfl rfl rfl rfl) (sub_any yy xx V hy hx (HG.out.below (hM.out.below hV).bl).O)) ?_; (try simp only [Act.put, lyy])
 refine qad _ (fun V hV => qax (qap enters_small rfl rfl rfl) (small_any 1 V (by omega) (by omega))) ?_; (try simp only [Act.put, lyy])
 refine qad _ (fun V hV => qai (qaj (vs := feL dd) rfl Tryd.underlying66 rfl (szFe _) rfl ((HG.out.below (hM.out.below hV).bl).D.range))) ?_; (try simp only [Act.put, lyy])
 refine qad _ (fun V hV => qai (qaj (vs := feL xx) rfl Tryd.underlying66 rfl (szFe _) rfl (((hM.out.below hV).get (i := 1) rfl).range))) ?_; (try simp only [Act.put, lyy])
 refine qad _ (fun V hV => qai (qaj (vs := feL yy) rfl Tryd.underlying66 rfl (szFe _) rfl (((hM.out.below hV).get (i := 0) rfl).range))) ?_; (try simp only [Act.put, lyy])
 refine qad _ (fun V hV => qax (qao qbw rfl rfl rfl rfl) (qby xx yy V hx hy (HG.out.below (hM.out.below hV).bl).O)) ?_; (try simp only [Act.put, lyy])
 refine qad _ (fun V hV => qax (qao qbw rfl rfl rfl rfl) (qby dd (xx * yy % pp) V num_dd (qa0 _) (HG.out.below (hM.out.below hV).bl).O)) ?_; (try simp only [Act.put, lyy])
 refine qad _ (fun V hV => qax (qao qdp rfl rfl rfl rfl) (add_any 1 (dd * (xx * yy % pp) % pp) V num_1 (qa0 _) (HG.out.below (hM.out.below hV).bl).O)) ?_; (try simp only [Act.put, lyy])
 refine qad _ (fun V hV => qai (run_eqFeO (c := ob) (qa0 _) (qa0 _) rfl rfl rfl HB.out.symm)) ?_; (try simp only [Act.put, lyy])
 refine qbh ?_; intro a5 hb; simp only [List.drop_succ_cons, List.drop_zero]
 replace hM := Lib.hid (hM.out.below hb)
 refine qaa (qaf (v := .bool _) rfl rfl) rfl ?_; (try simp only [Act.put, lyy])
 refine qab ?_
 go_wp2_with fail
 go_ret
 exact ⟨rfl, hM.out.bl⟩
theorem enters_on : Enters 59 := qaq Tryd.func59 (by kernel_rfl) rfl
end Go.Proofs.YtcgbgmbnagmohaaDoor
namespace Go.Proofs.YtcgbgmbnagmohaaDoor
open Go.RowKit
set_option maxRecDepth 20000
set_option maxHeartbeats 4000000 in
theorem widen_any (p : Pt) (w : World) (hp : p.Nm) (hG : EG w) : Calls Tryd.prog 61 #[.agg (ptL p).toArray] w fun e w' => e = .returned (.agg (wdL (wwid p)).toArray) ∧ Below w.heap.size w w' := by
 have hM := Lib.hid (Mv.nil w)
 have HG := Lib.hid hG; clear hG
 go_enter Tryd.func61, Tryd.ntmps61
 go_upto_region 0 with fail; refine wp_region_lit ?_
 refine qaa (qcv (vs := ptL p) rfl rfl) rfl ?_; (try simp only [Act.put, lyy]); replace hM := Lib.hid (hM.out.new (ptL p) 68); generalize w.alloc (.cells (ptL p).toArray 68) = a1 at *; generalize w.heap.size = g1 at *
 refine qaa (qat (vs := zq 16) rfl (by kernel_rfl)) rfl ?_; (try simp only [Act.put, lyy]); replace hM := Lib.hid (hM.out.new (zq 16) 98); generalize a1.alloc (.cells (zq 16).toArray 98) = a2 at *; generalize a1.heap.size = g2 at *
 refine qab ?_
 go_upto_region 1 with fail; refine qbf 11 (by kernel_rfl) (by kernel_rfl) ?_
 refine qad _ (fun V hV => qai (qan (s := 3) (k := 0) rfl Tryd.underlying68 rfl (by kernel_rfl) rfl rfl)) ?_; (try simp only [Act.put, lyy])
 refine qad _ (fun V hV => qai (qaj (vs := feL p.x) rfl Tryd.underlying66 rfl (szFe _) rfl (pt_x ((hM.out.below hV).get (i := 1) rfl)))) ?_; (try simp only [Act.put, lyy])
 refine qad _ (fun V hV => qai (qan (s := 3) (k := 4) rfl Tryd.underlying68 rfl (by kernel_rfl) rfl rfl)) ?_; (try simp only [Act.put, lyy])
 refine qad _ (fun V hV => qai (qaj (vs := feL p.y) rfl Tryd.underlying66 rfl (szFe _) rfl (pt_y ((hM.out.below hV).get (i := 1) rfl)))) ?_; (try simp only [Act.put, lyy])
 refine qad _ (fun V hV => qax (qap enters_small rfl rfl rfl) (small_any 1 V (by omega) (by omega))) ?_; (try simp only [Act.put, lyy])
 refine qad _ (fun V hV => qai (qan (s := 3) (k := 0) rfl Tryd.underlying68 rfl (by kernel_rfl) rfl rfl)) ?_; (try simp only [Act.put, lyy])
 refine qad _ (fun V hV => qai (qaj (vs := feL p.x) rfl Tryd.underlying66 rfl (szFe _) rfl (pt_x ((hM.out.below hV).get (i := 1) rfl)))) ?_; (try simp only [Act.put, lyy])
 refine qad _ (fun V hV => qai (qan (s := 3) (k := 4) rfl Tryd.underlying68 rfl (by kernel_rfl) rfl rfl)) ?_; (try simp only [Act.put, lyy])
 refine qad _ (fun V hV => qai (qaj (vs := feL p.y) rfl Tryd.underlying66 rfl (szFe _) rfl (pt_y ((hM.out.below hV).get (i := 1) rfl)))) ?_; (try simp only [Act.put, lyy])
 refine qad _ (fun V hV => qax (qao qbw rfl rfl rfl rfl) (qby p.x p.y V hp.1 hp.2 (HG.out.below (hM.out.below hV).bl).O)) ?_; (try simp only [Act.put, lyy])
 refine qad _ (fun V hV => qai (run_bld4 rfl rfl rfl rfl rfl (built_wd p.x p.y 1 (p.x * p.y % pp)))) ?_; (try simp only [Act.put, lyy])
 refine qbh ?_; intro a3 hb; simp only [List.drop_succ_cons, List.drop_zero]
 replace hM := Lib.hid (hM.out.below hb)
 clear hb
 refine qag (qar (vs := wdL (wwid p)) rfl (szWd _) rfl rfl (oneWd _) ((hM.out.get (i := 0) rfl).there)) rfl rfl ?_; replace hM := Lib.hid (hM.out.put 0 rfl (m := wdL (wwid p)) rfl); generalize a3.setCells g2 0 (wdL (wwid p)) = a4 at *
 refine qab ?_; go_wp2_with fail; refine bodyPost_ret (v := .agg (wdL (wwid p)).toArray) (qa8 Tryd.results61 rfl Tryd.underlying98 rfl (szWd _) (hM.out.get (i := 0) rfl).range) rfl ⟨rfl, hM.out.bl⟩
theorem enters_widen : Enters 61 := qaq Tryd.func61 (by kernel_rfl) rfl
set_option maxHeartbeats 4000000 in
theorem nrw_any (W : Wd) (w : World) (hW : W.Nm) (hG : EG w) : Calls Tryd.prog 64 #[.agg (wdL W).toArray] w fun e w' => e = .returned (.agg (ptL (wnar W)).toArray) ∧ Below w.heap.size w w' := by
 have hM := Lib.hid (Mv.nil w)
 have HG := Lib.hid hG; clear hG
 obtain ⟨iz, hiz⟩ : ∃ iz, iz = W.z ^ (pp - 2).toNat % pp := ⟨_, rfl⟩
 have HN : Hid (wnar W = ⟨W.x * iz % pp, W.y * iz % pp⟩) := Lib.hid (by rw [hiz]; rfl)
 have hin : Num iz := by rw [hiz]; exact qa0 _
 have HI : Hid (∀ u, EG u → Calls Tryd.prog 84 #[feV W.z] u fun e w' => e = .returned (feV iz) ∧ Below u.heap.size u w') := Lib.hid fun u hu => by rw [hiz]; exact inv_any W.z u hW.z hu.O hu.T
 clear hiz
 generalize wnar W = R at *
 go_enter Tryd.func64, Tryd.ntmps64
 go_upto_region 0 with fail; refine wp_region_lit ?_
 refine qaa (qcv (vs := wdL W) rfl rfl) rfl ?_; (try simp only [Act.put, lyy]); replace hM := Lib.hid (hM.out.new (wdL W) 98); generalize w.alloc (.cells (wdL W).toArray 98) = a1 at *; generalize w.heap.size = g1 at *
 refine qaa (qat (vs := zq 8) rfl (by kernel_rfl)) rfl ?_; (try simp only [Act.put, lyy]); replace hM := Lib.hid (hM.out.new (zq 8) 68); generalize a1.alloc (.cells (zq 8).toArray 68) = a2 at *; generalize a1.heap.size = g2 at *
 refine qab ?_
 go_upto_region 1 with fail; refine wp_region_lit ?_
 refine qaa (qan (s := 3) (k := 8) rfl Tryd.underlying98 rfl (by kernel_rfl) rfl rfl) rfl ?_; (try simp only [Act.put, lyy])
 refine qaa (qaj (vs := feL W.z) rfl Tryd.underlying66 rfl (szFe _) rfl (wd_z (hM.out.get (i := 1) rfl))) rfl ?_; (try simp only [Act.put, lyy])
 refine qam (qap enters_inv rfl rfl rfl) rfl (HI.out _ (HG.out.below hM.out.bl)) (fun a3 hb => ?_); (try simp only [Act.put, lyy]); replace hM := Lib.hid (hM.out.below hb); clear hb
 refine qaa (qat (vs := zq 4) rfl (by kernel_rfl)) rfl ?_; (try simp only [Act.put, lyy]); replace hM := Lib.hid (hM.out.new (zq 4) 66); generalize a3.alloc (.cells (zq 4).toArray 66) = a4 at *; generalize a3.heap.size = g3 at *
 refine qag (qar (vs := feL iz) rfl (szFe _) rfl rfl (oneFe _) ((hM.out.get (i := 0) rfl).there)) rfl rfl ?_; replace hM := Lib.hid (hM.out.put 0 rfl (m := feL iz) rfl); generalize a4.setCells g3 0 (feL iz) = a5 at *
 refine qab ?_
 go_upto_region 2 with fail; refine qbf 9 (by kernel_rfl) (by kernel_rfl) ?_
 refine qad _ (fun V hV => qai (qan (s := 3) (k := 0) rfl Tryd.underlying98 rfl (by kernel_rfl) rfl rfl)) ?_; (try simp only [Act.put, lyy])
 refine qad _ (fun V hV => qai (qaj (vs := feL W.x) rfl Tryd.underlying66 rfl (szFe _) rfl (wd_x ((hM.out.below hV).get (i := 2) rfl)))) ?_; (try simp only [Act.put, lyy])
 refine qad _ (fun V hV => qai (qaj (vs := feL iz) rfl Tryd.underlying66 rfl (szFe _) rfl (((hM.out.below hV).get (i := 0) rfl).range))) ?_; (try simp only [Act.put, lyy])
 refine qad _ (fun V hV => qax (qao qbw rfl rfl rfl rfl) (qby W.x iz V hW.x hin (HG.out.below (hM.out.below hV).bl).O)) ?_; (try simp only [Act.put, lyy])
 refine qad _ (fun V hV => qai (qan (s := 3) (k := 4) rfl Tryd.underlying98 rfl (by kernel_rfl) rfl rfl)) ?_; (try simp only [Act.put, lyy])
 refine qad _ (fun V hV => qai (qaj (vs := feL W.y) rfl Tryd.underlying66 rfl (szFe _) rfl (wd_y ((hM.out.below hV).get (i := 2) rfl)))) ?_; (try simp only [Act.put, lyy])
 refine qad _ (fun V hV => qai (qaj (vs := feL iz) rfl Tryd.underlying66 rfl (szFe _) rfl (((hM.out.below hV).get (i := 0) rfl).range))) ?_; (try simp only [Act.put, lyy])
 refine qad _ (fun V hV => qax (qao qbw rfl rfl rfl rfl) (qby W.y iz V hW.y hin (HG.out.below (hM.out.below hV).bl).O)) ?_; (try simp only [Act.put, lyy])
 refine qad _ (fun V hV => qai (run_bld2 rfl rfl rfl (built_pt (W.x * iz % pp) (W.y * iz % pp)))) ?_; (try simp only [Act.put, lyy])
 refine qbh ?_; intro a6 hb; simp only [List.drop_succ_cons, List.drop_zero]
 replace hM := Lib.hid (hM.out.below hb)
 clear hb
 refine qag (qar (vs := ptL ⟨W.x * iz % pp, W.y * iz % pp⟩) rfl (szPt _) rfl rfl (onePt _) ((hM.out.get (i := 1) rfl).there)) rfl rfl ?_; replace hM := Lib.hid (hM.out.put 1 rfl (m := ptL ⟨W.x * iz % pp, W.y * iz % pp⟩) rfl); generalize a6.setCells g2 0 (ptL ⟨W.x * iz % pp, W.y * iz % pp⟩) = a7 at *
 refine qab ?_; go_wp2_with fail; refine bodyPost_ret (v := .agg (ptL ⟨W.x * iz % pp, W.y * iz % pp⟩).toArray) (qa8 Tryd.results64 rfl Tryd.underlying68 rfl (szPt _) (hM.out.get (i := 1) rfl).range) rfl ⟨by rw [HN.out], hM.out.bl⟩
theorem enters_nrw : Enters 64 := qaq Tryd.func64 (by kernel_rfl) rfl
set_option maxHeartbeats 8000000 in
theorem plus_any (p q : Wd) (w : World) (hp : p.Nm) (hq : q.Nm) (hG : EG w) : Calls Tryd.prog 63 #[.agg (wdL p).toArray, .agg (wdL q).toArray] w fun e w' => e = .returned (.agg (wdL (wplus p q)).toArray) ∧ Below w.heap.size w w' := by
 have hM := Lib.hid (Mv.nil w)
 have HG := Lib.hid hG; clear hG
 have E1 : Hid ((p.x * q.y % pp + p.y * q.x % pp) % pp = wcr p q) := Lib.hid rfl
 have E2 : Hid ((p.y * q.y % pp + p.x * q.x % pp) % pp = wst p q) := Lib.hid rfl
 have E3 : Hid (p.z * q.z % pp = won p q) := Lib.hid rfl
 have E4 : Hid (dd * (p.t * q.t % pp) % pp = wpa p q) := Lib.hid rfl
 have E5 : Hid ((won p q + wpa p q) % pp = wab p q) := Lib.hid rfl
 have E6 : Hid ((won p q - wpa p q) % pp = wbe p q) := Lib.hid rfl
 have E7 : Hid (wplus p q = ⟨wcr p q * wbe p q % pp, wst p q * wab p q % pp, wab p q * wbe p q % pp, wcr p q * wst p q % pp⟩) := Lib.hid rfl
 have n1 : Num (wcr p q) := qa0 _
 have n2 : Num (wst p q) := qa0 _
 have n3 : Num (won p q) := qa0 _
 have n4 : Num (wpa p q) := qa0 _
 have n5 : Num (wab p q) := qa0 _
 have n6 : Num (wbe p q) := qa0 _
 generalize wplus p q = R at *
 generalize wcr p q = cr at *
 generalize wst p q = st at *
 generalize wab p q = ab at *
 generalize wbe p q = be at *
 generalize won p q = on at *
 generalize wpa p q = pa at *
 go_enter Tryd.func63, Tryd.ntmps63
 go_upto_region 0 with fail; refine wp_region_lit ?_
 refine qaa (qcv (vs := wdL p) rfl rfl) rfl ?_; (try simp only [Act.put, lyy]); replace hM := Lib.hid (hM.out.new (wdL p) 98); generalize w.alloc (.cells (wdL p).toArray 98) = a1 at *; generalize w.heap.size = g1 at *
 refine qaa (qcv (vs := wdL q) rfl rfl) rfl ?_; (try simp only [Act.put, lyy]); replace hM := Lib.hid (hM.out.new (wdL q) 98); generalize a1.alloc (.cells (wdL q).toArray 98) = a2 at *; generalize a1.heap.size = g2 at *
 refine qaa (qat (vs := zq 16) rfl (by kernel_rfl)) rfl ?_; (try simp only [Act.put, lyy]); replace hM := Lib.hid (hM.out.new (zq 16) 98); generalize a2.alloc (.cells (zq 16).toArray 98) = a3 at *; generalize a2.heap.size = g3 at *
 refine qab ?_
 go_upto_region 1 with fail; refine wp_region_sow1 11 66 (by kernel_rfl) rfl (by kernel_rfl) (alcFe) ?_
 refine qad _ (fun V hV => qai (qan (s := 3) (k := 0) rfl Tryd.underlying98 rfl (by kernel_rfl) rfl rfl)) ?_; (try simp only [Act.put, lyy])
 refine qad _ (fun V hV => qai (qaj (vs := feL p.x) rfl Tryd.underlying66 rfl (szFe _) rfl (wd_x ((hM.out.below hV).get (i := 2) rfl)))) ?_; (try simp only [Act.put, lyy])
 refine qad _ (fun V hV => qai (qan (s := 3) (k := 4) rfl Tryd.underlying98 rfl (by kernel_rfl) rfl rfl)) ?_; (try simp only [Act.put, lyy])
 refine qad _ (fun V hV => qai (qaj (vs := feL q.y) rfl Tryd.underlying66 rfl (szFe _) rfl (wd_y ((hM.out.below hV).get (i := 1) rfl)))) ?_; (try simp only [Act.put, lyy])
 refine qad _ (fun V hV => qax (qao qbw rfl rfl rfl rfl) (qby p.x q.y V hp.x hq.y (HG.out.below (hM.out.below hV).bl).O)) ?_; (try simp only [Act.put, lyy])
 refine qad _ (fun V hV => qai (qan (s := 3) (k := 4) rfl Tryd.underlying98 rfl (by kernel_rfl) rfl rfl)) ?_; (try simp only [Act.put, lyy])
 refine qad _ (fun V hV => qai (qaj (vs := feL p.y) rfl Tryd.underlying66 rfl (szFe _) rfl (wd_y ((hM.out.below hV).get (i := 2) rfl)))) ?_; (try simp only [Act.put, lyy])
 refine qad _ (fun V hV => qai (qan (s := 3) (k := 0) rfl Tryd.underlying98 rfl (by kernel_rfl) rfl rfl)) ?_; (try simp only [Act.put, lyy])
 refine qad _ (fun V hV => qai (qaj (vs := feL q.x) rfl Tryd.underlying66 rfl (szFe _) rfl (wd_x ((hM.out.below hV).get (i := 1) rfl)))) ?_; (try simp only [Act.put, lyy])
 refine qad _ (fun V hV => qax (qao qbw rfl rfl rfl rfl) (qby p.y q.x V hp.y hq.x (HG.out.below (hM.out.below hV).bl).O)) ?_; (try simp only [Act.put, lyy])
 refine qad _ (fun V hV => qax (qao qdp rfl rfl rfl rfl) (add_any (p.x * q.y % pp) (p.y * q.x % pp) V (qa0 _) (qa0 _) (HG.out.below (hM.out.below hV).bl).O)) ?_; (try simp only [Act.put, lyy])
 refine qbh ?_; intro g4 a4 hpb s1; simp only [List.drop_succ_cons, List.drop_zero, List.setIfInBounds_toArray, List.set_cons_zero, List.set_cons_succ]; replace hM := Lib.hid (hM.out.sow hpb s1); clear hpb s1
 rw [E1.out]
 refine qag (qar (vs := feL cr) rfl (szFe _) rfl rfl (oneFe _) ((hM.out.get (i := 0) rfl).there)) rfl rfl ?_; replace hM := Lib.hid (hM.out.put 0 rfl (m := feL cr) rfl); generalize a4.setCells g4 0 (feL cr) = a5 at *
 refine qab ?_
 go_upto_region 2 with fail; refine wp_region_sow1 11 66 (by kernel_rfl) rfl (by kernel_rfl) (alcFe) ?_
 refine qad _ (fun V hV => qai (qan (s := 3) (k := 4) rfl Tryd.underlying98 rfl (by kernel_rfl) rfl rfl)) ?_; (try simp only [Act.put, lyy])
 refine qad _ (fun V hV => qai (qaj (vs := feL p.y) rfl Tryd.underlying66 rfl (szFe _) rfl (wd_y ((hM.out.below hV).get (i := 3) rfl)))) ?_; (try simp only [Act.put, lyy])
 refine qad _ (fun V hV => qai (qan (s := 3) (k := 4) rfl Tryd.underlying98 rfl (by kernel_rfl) rfl rfl)) ?_; (try simp only [Act.put, lyy])
 refine qad _ (fun V hV => qai (qaj (vs := feL q.y) rfl Tryd.underlying66 rfl (szFe _) rfl (wd_y ((hM.out.below hV).get (i := 2) rfl)))) ?_; (try simp only [Act.put, lyy])
 refine qad _ (fun V hV => qax (qao qbw rfl rfl rfl rfl) (qby p.y q.y V hp.y hq.y (HG.out.below (hM.out.below hV).bl).O)) ?_; (try simp only [Act.put, lyy])
 refine qad _ (fun V hV => qai (qan (s := 3) (k := 0) rfl Tryd.underlying98 rfl (by kernel_rfl) rfl rfl)) ?_; (try simp only [Act.put, lyy])
 refine qad _ (fun V hV => qai (qaj (vs := feL p.x) rfl Tryd.underlying66 rfl (szFe _) rfl (wd_x ((hM.out.below hV).get (i := 3) rfl)))) ?_; (try simp only [Act.put, lyy])
 refine qad _ (fun V hV => qai (qan (s := 3) (k := 0) rfl Tryd.underlying98 rfl (by kernel_rfl) rfl rfl)) ?_; (try simp only [Act.put, lyy])
 refine qad _ (fun V hV => qai (qaj (vs := feL q.x) rfl Tryd.underlying66 rfl (szFe _) rfl (wd_x ((hM.out.below hV).get (i := 2) rfl)))) ?_; (try simp only [Act.put, lyy])
 refine qad _ (fun V hV => qax (qao qbw rfl rfl rfl rfl) (qby p.x q.x V hp.x hq.x (HG.out.below (hM.out.below hV).bl).O)) ?_; (try simp only [Act.put, lyy])
 refine qad _ (fun V hV => qax (qao qdp rfl rfl rfl rfl) (add_any (p.y * q.y % pp) (p.x * q.x % pp) V (qa0 _) (qa0 _) (HG.out.below (hM.out.below hV).bl).O)) ?_; (try simp only [Act.put, lyy])
 refine qbh ?_; intro g5 a6 hpb s1; simp only [List.drop_succ_cons, List.drop_zero, List.setIfInBounds_toArray, List.set_cons_zero, List.set_cons_succ]; replace hM := Lib.hid (hM.out.sow hpb s1); clear hpb s1
 rw [E2.out]
 refine qag (qar (vs := feL st) rfl (szFe _) rfl rfl (oneFe _) ((hM.out.get (i := 0) rfl).there)) rfl rfl ?_; replace hM := Lib.hid (hM.out.put 0 rfl (m := feL st) rfl); generalize a6.setCells g5 0 (feL st) = a7 at *
 refine qab ?_
 go_upto_region 3 with fail; refine wp_region_sow2 12 66 (by kernel_rfl) rfl rfl (by kernel_rfl) (alcFe) ?_
 refine qad _ (fun V hV => qai (qan (s := 3) (k := 8) rfl Tryd.underlying98 rfl (by kernel_rfl) rfl rfl)) ?_; (try simp only [Act.put, lyy])
 refine qad _ (fun V hV => qai (qaj (vs := feL p.z) rfl Tryd.underlying66 rfl (szFe _) rfl (wd_z ((hM.out.below hV).get (i := 4) rfl)))) ?_; (try simp only [Act.put, lyy])
 refine qad _ (fun V hV => qai (qan (s := 3) (k := 8) rfl Tryd.underlying98 rfl (by kernel_rfl) rfl rfl)) ?_; (try simp only [Act.put, lyy])
 refine qad _ (fun V hV => qai (qaj (vs := feL q.z) rfl Tryd.underlying66 rfl (szFe _) rfl (wd_z ((hM.out.below hV).get (i := 3) rfl)))) ?_; (try simp only [Act.put, lyy])
 refine qad _ (fun V hV => qax (qao qbw rfl rfl rfl rfl) (qby p.z q.z V hp.z hq.z (HG.out.below (hM.out.below hV).bl).O)) ?_; (try simp only [Act.put, lyy])
 refine qad _ (fun V hV => qai (qaj (vs := feL dd) rfl Tryd.underlying66 rfl (szFe _) rfl ((HG.out.below (hM.out.below hV).bl).D.range))) ?_; (try simp only [Act.put, lyy])
 refine qad _ (fun V hV => qai (qan (s := 3) (k := 12) rfl Tryd.underlying98 rfl (by kernel_rfl) rfl rfl)) ?_; (try simp only [Act.put, lyy])
 refine qad _ (fun V hV => qai (qaj (vs := feL p.t) rfl Tryd.underlying66 rfl (szFe _) rfl (wd_t ((hM.out.below hV).get (i := 4) rfl)))) ?_; (try simp only [Act.put, lyy])
 refine qad _ (fun V hV => qai (qan (s := 3) (k := 12) rfl Tryd.underlying98 rfl (by kernel_rfl) rfl rfl)) ?_; (try simp only [Act.put, lyy])
 refine qad _ (fun V hV => qai (qaj (vs := feL q.t) rfl Tryd.underlying66 rfl (szFe _) rfl (wd_t ((hM.out.below hV).get (i := 3) rfl)))) ?_; (try simp only [Act.put, lyy])
 refine qad _ (fun V hV => qax (qao qbw rfl rfl rfl rfl) (qby p.t q.t V hp.t hq.t (HG.out.below (hM.out.below hV).bl).O)) ?_; (try simp only [Act.put, lyy])
 refine qad _ (fun V hV => qax (qao qbw rfl rfl rfl rfl) (qby dd (p.t * q.t % pp) V num_dd (qa0 _) (HG.out.below (hM.out.below hV).bl).O)) ?_; (try simp only [Act.put, lyy])
 refine qbh ?_; intro g6 g7 a8 hpb s1 s2 hne; simp only [List.drop_succ_cons, List.drop_zero, List.setIfInBounds_toArray, List.set_cons_zero, List.set_cons_succ]; replace hM := Lib.hid (hM.out.sow2 hpb s1 s2 hne); clear hpb s1 s2 hne
 rw [E3.out, E4.out]
 refine qag (qar (vs := feL on) rfl (szFe _) rfl rfl (oneFe _) ((hM.out.get (i := 1) rfl).there)) rfl rfl ?_; replace hM := Lib.hid (hM.out.put 1 rfl (m := feL on) rfl); generalize a8.setCells g6 0 (feL on) = a9 at *
 refine qag (qar (vs := feL pa) rfl (szFe _) rfl rfl (oneFe _) ((hM.out.get (i := 0) rfl).there)) rfl rfl ?_; replace hM := Lib.hid (hM.out.put 0 rfl (m := feL pa) rfl); generalize a9.setCells g7 0 (feL pa) = a10 at *
 refine qab ?_
 go_upto_region 4 with fail; refine wp_region_sow2 6 66 (by kernel_rfl) rfl rfl (by kernel_rfl) (alcFe) ?_
 refine qad _ (fun V hV => qai (qaj (vs := feL on) rfl Tryd.underlying66 rfl (szFe _) rfl (((hM.out.below hV).get (i := 1) rfl).range))) ?_; (try simp only [Act.put, lyy])
 refine qad _ (fun V hV => qai (qaj (vs := feL pa) rfl Tryd.underlying66 rfl (szFe _) rfl (((hM.out.below hV).get (i := 0) rfl).range))) ?_; (try simp only [Act.put, lyy])
 refine qad _ (fun V hV => qax (qao qdp rfl rfl rfl rfl) (add_any on pa V n3 n4 (HG.out.below (hM.out.below hV).bl).O)) ?_; (try simp only [Act.put, lyy])
 refine qad _ (fun V hV => qai (qaj (vs := feL on) rfl Tryd.underlying66 rfl (szFe _) rfl (((hM.out.below hV).get (i := 1) rfl).range))) ?_; (try simp only [Act.put, lyy])
 refine qad _ (fun V hV => qai (qaj (vs := feL pa) rfl Tryd.underlying66 rfl (szFe _) rfl (((hM.out.below hV).get (i := 0) rfl).range))) ?_; (try simp only [Act.put, lyy])
 refine qad _ (fun V hV => qax (qao enters_sub rfl rfl rfl rfl) (sub_any on pa V n3 n4 (HG.out.below (hM.out.below hV).bl).O)) ?_; (try simp only [Act.put, lyy])
 refine qbh ?_; intro g8 g9 a11 hpb s1 s2 hne; simp only [List.drop_succ_cons, List.drop_zero, List.setIfInBounds_toArray, List.set_cons_zero, List.set_cons_succ]; replace hM := Lib.hid (hM.out.sow2 hpb s1 s2 hne); clear hpb s1 s2 hne
 rw [E5.out, E6.out]
 refine qag (qar (vs := feL ab) rfl (szFe _) rfl rfl (oneFe _) ((hM.out.get (i := 1) rfl).there)) rfl rfl ?_; replace hM := Lib.hid (hM.out.put 1 rfl (m := feL ab) rfl); generalize a11.setCells g8 0 (feL ab) = a12 at *
 refine qag (qar (vs := feL be) rfl (szFe _) rfl rfl (oneFe _) ((hM.out.get (i := 0) rfl).there)) rfl rfl ?_; replace hM := Lib.hid (hM.out.put 0 rfl (m := feL be) rfl); generalize a12.setCells g9 0 (feL be) = a13 at *
 refine qab ?_
 go_upto_region 5 with fail; refine qbf 13 (by kernel_rfl) (by kernel_rfl) ?_
 refine qad _ (fun V hV => qai (qaj (vs := feL cr) rfl Tryd.underlying66 rfl (szFe _) rfl (((hM.out.below hV).get (i := 5) rfl).range))) ?_; (try simp only [Act.put, lyy])
 refine qad _ (fun V hV => qai (qaj (vs := feL be) rfl Tryd.underlying66 rfl (szFe _) rfl (((hM.out.below hV).get (i := 0) rfl).range))) ?_; (try simp only [Act.put, lyy])
 refine qad _ (fun V hV => qax (qao qbw rfl rfl rfl rfl) (qby cr be V n1 n6 (HG.out.below (hM.out.below hV).bl).O)) ?_; (try simp only [Act.put, lyy])
 refine qad _ (fun V hV => qai (qaj (vs := feL st) rfl Tryd.underlying66 rfl (szFe _) rfl (((hM.out.below hV).get (i := 4) rfl).range))) ?_; (try simp only [Act.put, lyy])
 refine qad _ (fun V hV => qai (qaj (vs := feL ab) rfl Tryd.underlying66 rfl (szFe _) rfl (((hM.out.below hV).get (i := 1) rfl).range))) ?_; (try simp only [Act.put, lyy])
 refine qad _ (fun V hV => qax (qao qbw rfl rfl rfl rfl) (qby st ab V n2 n5 (HG.out.below (hM.out.below hV).bl).O)) ?_; (try simp only [Act.put, lyy])
 refine qad _ (fun V hV => qai (qaj (vs := feL ab) rfl Tryd.underlying66 rfl (szFe _) rfl (((hM.out.below hV).get (i := 1) rfl).range))) ?_; (try simp only [Act.put, lyy])
 refine qad _ (fun V hV => qai (qaj (vs := feL be) rfl Tryd.underlying66 rfl (szFe _) rfl (((hM.out.below hV).get (i := 0) rfl).range))) ?_; (try simp only [Act.put, lyy])
 refine qad _ (fun V hV => qax (qao qbw rfl rfl rfl rfl) (qby ab be V n5 n6 (HG.out.below (hM.out.below hV).bl).O)) ?_; (try simp only [Act.put, lyy])
 refine qad _ (fun V hV => qai (qaj (vs := feL cr) rfl Tryd.underlying66 rfl (szFe _) rfl (((hM.out.below hV).get (i := 5) rfl).range))) ?_; (try simp only [Act.put, lyy])
 refine qad _ (fun V hV => qai (qaj (vs := feL st) rfl Tryd.underlying66 rfl (szFe _) rfl (((hM.out.below hV).get (i := 4) rfl).range))) ?_; (try simp only [Act.put, lyy])
 refine qad _ (fun V hV => qax (qao qbw rfl rfl rfl rfl) (qby cr st V n1 n2 (HG.out.below (hM.out.below hV).bl).O)) ?_; (try simp only [Act.put, lyy])
 refine qad _ (fun V hV => qai (run_bld4 rfl rfl rfl rfl rfl (built_wd (cr * be % pp) (st * ab % pp) (ab * be % pp) (cr * st % pp)))) ?_; (try simp only [Act.put, lyy])
 refine qbh ?_; intro a14 hb; simp only [List.drop_succ_cons, List.drop_zero]
 replace hM := Lib.hid (hM.out.below hb)
 clear hb
 refine qag (qar (vs := wdL ⟨cr * be % pp, st * ab % pp, ab * be % pp, cr * st % pp⟩) rfl (szWd _) rfl rfl (oneWd _) ((hM.out.get (i := 6) rfl).there)) rfl rfl ?_; replace hM := Lib.hid (hM.out.put 6 rfl (m := wdL ⟨cr * be % pp, st * ab % pp, ab * be % pp, cr * st % pp⟩) rfl); generalize a14.setCells g3 0 (wdL ⟨cr * be % pp, st * ab % pp, ab * be % pp, cr * st % pp⟩) = a15 at *
 refine qab ?_; go_wp2_with fail; refine bodyPost_ret (v := .agg (wdL ⟨cr * be % pp, st * ab % pp, ab * be % pp, cr * st % pp⟩).toArray) (qa8 Tryd.results63 rfl Tryd.underlying98 rfl (szWd _) (hM.out.get (i := 6) rfl).range) rfl ⟨by rw [E7.out], hM.out.bl⟩
theorem enters_plus : Enters 63 := qaq Tryd.func63 (by kernel_rfl) rfl
end Go.Proofs.YtcgbgmbnagmohaaDoor
namespace Go.Proofs.YtcgbgmbnagmohaaDoor
open Go.RowKit
set_option maxRecDepth 20000
def addP (p q : Pt) : Pt := if onB p && onB q then padd p.can q.can else nonePt
def negP (p : Pt) : Pt := if onB p then ⟨-p.x % pp, p.y % pp⟩ else nonePt
def mulP (n : Nat) (p : Pt) : Pt := if onB p then pmul p.can n else nonePt
theorem addP_ok (p q : Pt) : (addP p q).Ok := by unfold addP; split; exact padd_ok _ _; exact none_ok
theorem negP_ok (p : Pt) : (negP p).Ok := by unfold negP; split; exact ⟨qca _, qca _⟩; exact none_ok
theorem mulP_ok (n : Nat) (p : Pt) : (mulP n p).Ok := by unfold mulP; split; exact pmul_ok _ _; exact none_ok
theorem onB_on {p : Pt} (h : p.On) : onB p = true := (onB_iff p).2 h
theorem addP_on {p q : Pt} (hp : p.On) (hq : q.On) (h1 : p.Ok) (h2 : q.Ok) : addP p q = padd p q := by
 unfold addP; rw [onB_on hp, onB_on hq, Bool.and_self, if_pos rfl, can_id h1, can_id h2]
theorem mulP_on {p : Pt} (hp : p.On) (h1 : p.Ok) (n : Nat) : mulP n p = pmul p n := by
 unfold mulP; rw [onB_on hp, if_pos rfl, can_id h1]
theorem wide_add {p q : Pt} (hp : onB p = true) (hq : onB q = true) : wnar (wplus (wwid p) (wwid q)) = addP p q := by
 unfold addP
 rw [hp, hq, Bool.and_self, if_pos rfl]
 exact wnar_eq (rep_plus (rep_widen p) (rep_widen q) (can_on ((onB_iff p).1 hp)) (can_on ((onB_iff q).1 hq))) (padd_ok _ _)
set_option maxHeartbeats 8000000 in
theorem addP_any (p q : Pt) (w : World) (hp : p.Nm) (hq : q.Nm) (hG : EG w) : Calls Tryd.prog 42 #[.agg (ptL p).toArray, .agg (ptL q).toArray] w fun e w' => e = .returned (.agg (ptL (addP p q)).toArray) ∧ Below w.heap.size w w' := by
 have hM := Lib.hid (Mv.nil w)
 have HG := Lib.hid hG; clear hG
 have HA : Hid (onB p = true → onB q = true → wnar (wplus (wwid p) (wwid q)) = addP p q) := Lib.hid wide_add
 have H1 : Hid (onB p = false → addP p q = nonePt) := Lib.hid fun h => by unfold addP; rw [h]; rfl
 have H2 : Hid (onB p = true → onB q = false → addP p q = nonePt) := Lib.hid fun h h' => by unfold addP; rw [h, h']; rfl
 generalize addP p q = R at *
 obtain ⟨b1, hb1⟩ : ∃ b, b = onB p := ⟨_, rfl⟩
 obtain ⟨b2, hb2⟩ : ∃ b, b = onB q := ⟨_, rfl⟩
 have C1 : Hid (∀ u, EG u → Calls Tryd.prog 59 #[.agg (ptL p).toArray] u fun e w' => e = .returned (.bool b1) ∧ Below u.heap.size u w') := Lib.hid fun u hu => by rw [hb1]; exact on_any p u hp hu
 have C2 : Hid (∀ u, EG u → Calls Tryd.prog 59 #[.agg (ptL q).toArray] u fun e w' => e = .returned (.bool b2) ∧ Below u.heap.size u w') := Lib.hid fun u hu => by rw [hb2]; exact on_any q u hq hu
 rw [← hb1, ← hb2] at HA H2
 rw [← hb1] at H1
 clear hb1 hb2
 go_enter Tryd.func42, Tryd.ntmps42
 go_upto_region 0 with fail; refine wp_region_lit ?_
 refine qaa (qcv (vs := ptL p) rfl rfl) rfl ?_; (try simp only [Act.put, lyy]); replace hM := Lib.hid (hM.out.new (ptL p) 68); generalize w.alloc (.cells (ptL p).toArray 68) = a1 at *; generalize w.heap.size = g1 at *
 refine qaa (qcv (vs := ptL q) rfl rfl) rfl ?_; (try simp only [Act.put, lyy]); replace hM := Lib.hid (hM.out.new (ptL q) 68); generalize a1.alloc (.cells (ptL q).toArray 68) = a2 at *; generalize a1.heap.size = g2 at *
 refine qaa (qat (vs := zq 8) rfl (by kernel_rfl)) rfl ?_; (try simp only [Act.put, lyy]); replace hM := Lib.hid (hM.out.new (zq 8) 68); generalize a2.alloc (.cells (zq 8).toArray 68) = a3 at *; generalize a2.heap.size = g3 at *
 refine qab ?_
 go_upto_region 1 with fail; refine wp_region_lit ?_
 refine qaa (qaj (vs := ptL p) rfl Tryd.underlying68 rfl (szPt _) rfl ((hM.out.get (i := 2) rfl).range)) rfl ?_; (try simp only [Act.put, lyy])
 refine qam (qap enters_on rfl rfl rfl) rfl (C1.out _ (HG.out.below hM.out.bl)) (fun a4 hb => ?_); (try simp only [Act.put, lyy]); replace hM := Lib.hid (hM.out.below hb); clear hb
 cases b1
 ·have e := H1.out rfl
  subst e
  refine qaa (qdf rfl rfl) rfl ?_; (try simp only [Act.put, lyy])
  refine qaa (qae (v := .bool true) rfl rfl) rfl ?_; (try simp only [Act.put, lyy])
  refine qa3 rfl ?_; (try simp only [Act.put, lyy])
  refine qa3 rfl ?_; (try simp only [Act.put, lyy])
  refine qa3 rfl ?_; (try simp only [Act.put, lyy])
  refine qaa (qaz (b := true) (v := .bool true) rfl rfl rfl) rfl ?_; (try simp only [Act.put, lyy])
  refine qab ?_
  go_upto_region 2 with fail; refine wp_region_lit ?_
  refine qam (qdt qdc rfl rfl) rfl (nothing_any _) (fun a5 hb => ?_); (try simp only [Act.put, lyy]); replace hM := Lib.hid (hM.out.below hb); clear hb
  refine qag (qar (vs := ptL nonePt) rfl (szPt _) rfl rfl (onePt _) ((hM.out.get (i := 0) rfl).there)) rfl rfl ?_; replace hM := Lib.hid (hM.out.put 0 rfl (m := ptL nonePt) rfl); generalize a5.setCells g3 0 (ptL nonePt) = a6 at *
  refine qab ?_; go_wp2_with fail; refine bodyPost_ret (v := .agg (ptL nonePt).toArray) (qa8 Tryd.results42 rfl Tryd.underlying68 rfl (szPt _) (hM.out.get (i := 0) rfl).range) rfl ⟨rfl, hM.out.bl⟩
 ·refine qaa (qdf rfl rfl) rfl ?_; (try simp only [Act.put, lyy])
  refine qaa (qae (v := .bool false) rfl rfl) rfl ?_; (try simp only [Act.put, lyy])
  refine qah (qaj (vs := ptL q) rfl Tryd.underlying68 rfl (szPt _) rfl (hM.out.get (i := 1) rfl).range) rfl ?_; (try simp only [Act.put, lyy])
  refine qbp (qap enters_on rfl rfl rfl) rfl (C2.out _ (HG.out.below hM.out.bl)) (fun a5 hb => ?_); (try simp only [Act.put, lyy])
  replace hM := Lib.hid (hM.out.below hb)
  clear hb
  cases b2
  ·have e := H2.out rfl rfl
   subst e
   refine qah (qdf rfl rfl) rfl ?_; (try simp only [Act.put, lyy])
   refine qaa (qaz (b := false) (v := .bool true) rfl rfl rfl) rfl ?_; (try simp only [Act.put, lyy])
   refine qab ?_
   go_upto_region 2 with fail; refine wp_region_lit ?_
   refine qam (qdt qdc rfl rfl) rfl (nothing_any _) (fun a6 hb => ?_); (try simp only [Act.put, lyy]); replace hM := Lib.hid (hM.out.below hb); clear hb
   refine qag (qar (vs := ptL nonePt) rfl (szPt _) rfl rfl (onePt _) ((hM.out.get (i := 0) rfl).there)) rfl rfl ?_; replace hM := Lib.hid (hM.out.put 0 rfl (m := ptL nonePt) rfl); generalize a6.setCells g3 0 (ptL nonePt) = a7 at *
   refine qab ?_; go_wp2_with fail; refine bodyPost_ret (v := .agg (ptL nonePt).toArray) (qa8 Tryd.results42 rfl Tryd.underlying68 rfl (szPt _) (hM.out.get (i := 0) rfl).range) rfl ⟨rfl, hM.out.bl⟩
  ·have e := H2
   refine qah (qdf rfl rfl) rfl ?_; (try simp only [Act.put, lyy])
   refine qaa (qaz (b := false) (v := .bool false) rfl rfl rfl) rfl ?_; (try simp only [Act.put, lyy])
   refine qab ?_
   clear e
   have hpw := wwid_nm hp
   have hqw := wwid_nm hq
   have hrw := wplus_nm (wwid p) (wwid q)
   go_upto_region 3 with fail; refine qbf 6 (by kernel_rfl) (by kernel_rfl) ?_
   refine qad _ (fun V hV => qai (qaj (vs := ptL p) rfl Tryd.underlying68 rfl (szPt _) rfl (((hM.out.below hV).get (i := 2) rfl).range))) ?_; (try simp only [Act.put, lyy])
   refine qad _ (fun V hV => qax (qap enters_widen rfl rfl rfl) (widen_any p V hp (HG.out.below (hM.out.below hV).bl))) ?_; (try simp only [Act.put, lyy])
   refine qad _ (fun V hV => qai (qaj (vs := ptL q) rfl Tryd.underlying68 rfl (szPt _) rfl (((hM.out.below hV).get (i := 1) rfl).range))) ?_; (try simp only [Act.put, lyy])
   refine qad _ (fun V hV => qax (qap enters_widen rfl rfl rfl) (widen_any q V hq (HG.out.below (hM.out.below hV).bl))) ?_; (try simp only [Act.put, lyy])
   refine qad _ (fun V hV => qax (qao enters_plus rfl rfl rfl rfl) (plus_any (wwid p) (wwid q) V hpw hqw (HG.out.below (hM.out.below hV).bl))) ?_; (try simp only [Act.put, lyy])
   refine qad _ (fun V hV => qax (qap enters_nrw rfl rfl rfl) (nrw_any (wplus (wwid p) (wwid q)) V hrw (HG.out.below (hM.out.below hV).bl))) ?_; (try simp only [Act.put, lyy])
   refine qbh ?_; intro a6 hb; simp only [List.drop_succ_cons, List.drop_zero]
   replace hM := Lib.hid (hM.out.below hb)
   clear hb
   rw [HA.out rfl rfl]
   refine qag (qar (vs := ptL R) rfl (szPt _) rfl rfl (onePt _) ((hM.out.get (i := 0) rfl).there)) rfl rfl ?_; replace hM := Lib.hid (hM.out.put 0 rfl (m := ptL R) rfl); generalize a6.setCells g3 0 (ptL R) = a7 at *
   refine qab ?_; go_wp2_with fail; refine bodyPost_ret (v := .agg (ptL R).toArray) (qa8 Tryd.results42 rfl Tryd.underlying68 rfl (szPt _) (hM.out.get (i := 0) rfl).range) rfl ⟨rfl, hM.out.bl⟩
theorem enters_addP : Enters 42 := qaq Tryd.func42 (by kernel_rfl) rfl
theorem enters_canon : Enters 72 := qaq Tryd.func72 (by kernel_rfl) rfl
theorem enters_neg : Enters 83 := qaq Tryd.func83 (by kernel_rfl) rfl
set_option maxHeartbeats 8000000 in
theorem negP_any (p : Pt) (w : World) (hp : p.Nm) (hG : EG w) : Calls Tryd.prog 58 #[.agg (ptL p).toArray] w fun e w' => e = .returned (.agg (ptL (negP p)).toArray) ∧ Below w.heap.size w w' := by
 have hM := Lib.hid (Mv.nil w)
 have HG := Lib.hid hG; clear hG
 have H1 : Hid (onB p = false → negP p = nonePt) := Lib.hid fun h => by unfold negP; rw [h]; rfl
 have H2 : Hid (onB p = true → negP p = ⟨-p.x % pp, p.y % pp⟩) := Lib.hid fun h => by unfold negP; rw [h]; rfl
 generalize negP p = R at *
 obtain ⟨b1, hb1⟩ : ∃ b, b = onB p := ⟨_, rfl⟩
 have C1 : Hid (∀ u, EG u → Calls Tryd.prog 59 #[.agg (ptL p).toArray] u fun e w' => e = .returned (.bool b1) ∧ Below u.heap.size u w') := Lib.hid fun u hu => by rw [hb1]; exact on_any p u hp hu
 rw [← hb1] at H1 H2
 clear hb1
 go_enter Tryd.func58, Tryd.ntmps58
 go_upto_region 0 with fail; refine wp_region_lit ?_
 refine qaa (qcv (vs := ptL p) rfl rfl) rfl ?_; (try simp only [Act.put, lyy]); replace hM := Lib.hid (hM.out.new (ptL p) 68); generalize w.alloc (.cells (ptL p).toArray 68) = a1 at *; generalize w.heap.size = g1 at *
 refine qaa (qat (vs := zq 8) rfl (by kernel_rfl)) rfl ?_; (try simp only [Act.put, lyy]); replace hM := Lib.hid (hM.out.new (zq 8) 68); generalize a1.alloc (.cells (zq 8).toArray 68) = a2 at *; generalize a1.heap.size = g2 at *
 refine qab ?_
 go_upto_region 1 with fail; refine wp_region_lit ?_
 refine qaa (qaj (vs := ptL p) rfl Tryd.underlying68 rfl (szPt _) rfl ((hM.out.get (i := 1) rfl).range)) rfl ?_; (try simp only [Act.put, lyy])
 refine qam (qap enters_on rfl rfl rfl) rfl (C1.out _ (HG.out.below hM.out.bl)) (fun a3 hb => ?_); (try simp only [Act.put, lyy]); replace hM := Lib.hid (hM.out.below hb); clear hb
 cases b1
 ·have e := H1.out rfl
  subst e
  refine qaa (qdf rfl rfl) rfl ?_; (try simp only [Act.put, lyy])
  refine qab ?_
  go_upto_region 2 with fail; refine wp_region_lit ?_
  refine qam (qdt qdc rfl rfl) rfl (nothing_any _) (fun a5 hb => ?_); (try simp only [Act.put, lyy]); replace hM := Lib.hid (hM.out.below hb); clear hb
  refine qag (qar (vs := ptL nonePt) rfl (szPt _) rfl rfl (onePt _) ((hM.out.get (i := 0) rfl).there)) rfl rfl ?_; replace hM := Lib.hid (hM.out.put 0 rfl (m := ptL nonePt) rfl); generalize a5.setCells g2 0 (ptL nonePt) = a6 at *
  refine qab ?_; go_wp2_with fail; refine bodyPost_ret (v := .agg (ptL nonePt).toArray) (qa8 Tryd.results58 rfl Tryd.underlying68 rfl (szPt _) (hM.out.get (i := 0) rfl).range) rfl ⟨rfl, hM.out.bl⟩
 ·have e := H2.out rfl
  subst e
  refine qaa (qdf rfl rfl) rfl ?_; (try simp only [Act.put, lyy])
  refine qab ?_
  go_upto_region 3 with fail; refine qbf 7 (by kernel_rfl) (by kernel_rfl) ?_
  refine qad _ (fun V hV => qai (qan (s := 3) (k := 0) rfl Tryd.underlying68 rfl (by kernel_rfl) rfl rfl)) ?_; (try simp only [Act.put, lyy])
  refine qad _ (fun V hV => qai (qaj (vs := feL p.x) rfl Tryd.underlying66 rfl (szFe _) rfl (pt_x ((hM.out.below hV).get (i := 1) rfl)))) ?_; (try simp only [Act.put, lyy])
  refine qad _ (fun V hV => qax (qap enters_neg rfl rfl rfl) (neg_any p.x V hp.1 (HG.out.below (hM.out.below hV).bl).O)) ?_; (try simp only [Act.put, lyy])
  refine qad _ (fun V hV => qai (qan (s := 3) (k := 4) rfl Tryd.underlying68 rfl (by kernel_rfl) rfl rfl)) ?_; (try simp only [Act.put, lyy])
  refine qad _ (fun V hV => qai (qaj (vs := feL p.y) rfl Tryd.underlying66 rfl (szFe _) rfl (pt_y ((hM.out.below hV).get (i := 1) rfl)))) ?_; (try simp only [Act.put, lyy])
  refine qad _ (fun V hV => qax (qap enters_canon rfl rfl rfl) (canon_any p.y V hp.2 (HG.out.below (hM.out.below hV).bl).O)) ?_; (try simp only [Act.put, lyy])
  refine qad _ (fun V hV => qai (run_bld2 rfl rfl rfl (built_pt (-p.x % pp) (p.y % pp)))) ?_; (try simp only [Act.put, lyy])
  refine qbh ?_; intro a4 hb; simp only [List.drop_succ_cons, List.drop_zero]
  replace hM := Lib.hid (hM.out.below hb)
  clear hb
  refine qag (qar (vs := ptL ⟨-p.x % pp, p.y % pp⟩) rfl (szPt _) rfl rfl (onePt _) ((hM.out.get (i := 0) rfl).there)) rfl rfl ?_; replace hM := Lib.hid (hM.out.put 0 rfl (m := ptL ⟨-p.x % pp, p.y % pp⟩) rfl); generalize a4.setCells g2 0 (ptL ⟨-p.x % pp, p.y % pp⟩) = a5 at *
  refine qab ?_; go_wp2_with fail; refine bodyPost_ret (v := .agg (ptL ⟨-p.x % pp, p.y % pp⟩).toArray) (qa8 Tryd.results58 rfl Tryd.underlying68 rfl (szPt _) (hM.out.get (i := 0) rfl).range) rfl ⟨rfl, hM.out.bl⟩
theorem enters_negP : Enters 58 := qaq Tryd.func58 (by kernel_rfl) rfl
set_option maxHeartbeats 4000000 in
theorem base_any (w : World) (hG : EG w) : Calls Tryd.prog 41 #[] w fun e w' => e = .returned (.agg (ptL bs).toArray) ∧ Below w.heap.size w w' := by
 have hM := Lib.hid (Mv.nil w)
 have HG := Lib.hid hG; clear hG
 obtain ⟨b, hb⟩ : ∃ b, b = bs := ⟨_, rfl⟩
 have HR : Hid (∀ u, EG u → u.rangeAt 1 0 (ptL b)) := Lib.hid fun u hu => by rw [hb]; exact hu.B
 rw [← hb]
 clear hb
 go_enter Tryd.func41, Tryd.ntmps41
 go_upto_region 0 with fail; refine wp_region_lit ?_
 refine qaa (qat (vs := zq 8) rfl (by kernel_rfl)) rfl ?_; (try simp only [Act.put, List.setIfInBounds_toArray, List.set_cons_zero]); replace hM := Lib.hid (hM.out.new (zq 8) 68); generalize w.alloc (.cells (zq 8).toArray 68) = a1 at *; generalize w.heap.size = g1 at *
 refine qab ?_
 go_upto_region 1 with fail; refine wp_region_lit ?_
 refine qaa (qaj (vs := ptL b) rfl Tryd.underlying68 rfl (szPt _) rfl (HR.out _ (HG.out.below hM.out.bl))) rfl ?_; (try simp only [Act.put, lyy])
 refine qag (qar (vs := ptL b) rfl (szPt _) rfl rfl (onePt _) ((hM.out.get (i := 0) rfl).there)) rfl rfl ?_; replace hM := Lib.hid (hM.out.put 0 rfl (m := ptL b) rfl); generalize a1.setCells g1 0 (ptL b) = a2 at *
 refine qab ?_; go_wp2_with fail; refine bodyPost_ret (v := .agg (ptL b).toArray) (qa8 Tryd.results41 rfl Tryd.underlying68 rfl (szPt _) (hM.out.get (i := 0) rfl).range) rfl ⟨rfl, hM.out.bl⟩
theorem enters_base : Enters 41 := qaq Tryd.func41 (by kernel_rfl) rfl
end Go.Proofs.YtcgbgmbnagmohaaDoor
namespace Go.Proofs.YtcgbgmbnagmohaaDoor
open Go.RowKit
set_option maxRecDepth 20000
def zW : Wd := ⟨0, 0, 0, 0⟩
def wsL : List Wd → List Value
 | [] => []
 | W :: l => wdL W ++ wsL l
theorem wdL_len (W : Wd) : (wdL W).length = 16 := rfl
theorem wsL_len : ∀ l : List Wd, (wsL l).length = l.length * 16
 | [] => rfl
 | W :: l => by rw [wsL, List.length_append, wsL_len l, wdL_len, List.length_cons]; omega
theorem wsL_drop : ∀ (l : List Wd) (i : Nat), (wsL l).drop (i * 16) = wsL (l.drop i)
 | l, 0 => by rw [Nat.zero_mul, List.drop_zero, List.drop_zero]
 | [], i + 1 => by simp [wsL]
 | W :: l, i + 1 => by
  rw [List.drop_succ_cons, ← wsL_drop l i, wsL, show (i + 1) * 16 = 16 + i * 16 by omega, ← List.drop_drop, List.drop_left' (wdL_len W)]
theorem wsL_take : ∀ (l : List Wd) (i : Nat), (wsL l).take (i * 16) = wsL (l.take i)
 | l, 0 => by simp [wsL]
 | [], i + 1 => by simp [wsL]
 | W :: l, i + 1 => by
  rw [List.take_succ_cons, wsL, wsL, ← wsL_take l i, show (i + 1) * 16 = (wdL W).length + i * 16 by rw [wdL_len]; omega, List.take_length_add_append]
theorem wsL_append : ∀ a b : List Wd, wsL (a ++ b) = wsL a ++ wsL b
 | [], _ => rfl
 | W :: a, b => by rw [List.cons_append, wsL, wsL_append a b, wsL, List.append_assoc]
theorem wsL_one : ∀ l : List Wd, ∀ v ∈ wsL l, v.oneCell' = true
 | [], v, h => by cases h
 | W :: l, v, h => by
  rw [wsL, List.mem_append] at h
  rcases h with h | h
  ·have := oneWd W
   rw [Array.all_eq_true'] at this
   exact this v (by simpa using h)
  ·exact wsL_one l v h
theorem ws_get {l : List Wd} {i : Nat} (hi : i < l.length) : ((wsL l).drop (i * 16)).take 16 = wdL (l.getD i zW) := by
 rw [wsL_drop, List.drop_eq_getElem_cons hi, wsL, List.take_left' (wdL_len _)]
 simp [hi]
theorem ws_set {l : List Wd} {i : Nat} (hi : i < l.length) (W : Wd) : (wsL l).take (i * 16) ++ (wdL W ++ (wsL l).drop (i * 16 + (wdL W).length)) = wsL (l.set i W) := by
 rw [wdL_len, show i * 16 + 16 = (i + 1) * 16 by omega, wsL_drop, wsL_take, List.set_eq_take_append_cons_drop, if_pos hi, wsL_append, wsL]
theorem ws_range {g : Nat} {l : List Wd} {u : World} (h : Arr g (wsL l) u) {i : Nat} (hi : i < l.length) : u.rangeAt g (0 + i * 16) (wdL (l.getD i zW)) := by
 rw [← ws_get hi, Nat.zero_add]; exact h.part _ _
theorem ws_there {g : Nat} {l : List Wd} {u : World} (h : Arr g (wsL l) u) {i : Nat} (hi : i < l.length) (W : Wd) : u.there g (0 + i * 16) (wdL W).length := by
 rw [Nat.zero_add]; exact h.thereM (by rw [wsL_len, wdL_len]; omega)
def tblF (f : Nat → Wd) (k j : Nat) : Wd := if j < k then f j else zW
def tbl (f : Nat → Wd) (k : Nat) : List Wd := (List.range 16).map (tblF f k)
theorem tbl_len (f : Nat → Wd) (k : Nat) : (tbl f k).length = 16 := by unfold tbl; rw [List.length_map, List.length_range]
theorem tbl_get (f : Nat → Wd) {k j : Nat} (hj : j < 16) (hk : j < k) : (tbl f k).getD j zW = f j := by
 unfold tbl
 rw [List.getD_eq_getElem?_getD, List.getElem?_map, List.getElem?_range hj]
 simp [tblF, hk]
theorem tbl_q (f : Nat → Wd) (k i : Nat) : (tbl f k)[i]? = if i < 16 then some (tblF f k i) else none := by
 unfold tbl
 rw [List.getElem?_map]
 by_cases h : i < 16
 ·rw [List.getElem?_range h, if_pos h]; rfl
 ·rw [if_neg h, List.getElem?_eq_none (by rw [List.length_range]; omega)]; rfl
theorem tbl_set (f : Nat → Wd) (k : Nat) : (tbl f k).set k (f k) = tbl f (k + 1) := by
 apply List.ext_getElem?
 intro i
 rw [List.getElem?_set, tbl_q, tbl_q, tbl_len]
 unfold tblF
 by_cases e : k = i
 ·subst e
  by_cases h : k < 16
  ·simp [h]
  ·simp [h]
 ·rw [if_neg e]
  by_cases h : i < k
  ·rw [if_pos h, if_pos (show i < k + 1 by omega)]
  ·rw [if_neg h, if_neg (show ¬ i < k + 1 by omega)]
theorem tbl_one (f : Nat → Wd) : tbl f 1 = f 0 :: List.replicate 15 zW := rfl
theorem built_ws (W : Wd) : Tryd.prog.built 99 [(0, .agg (wdL W).toArray)] = some (wsL (W :: List.replicate 15 zW)).toArray := by kernel_rfl
theorem szWs {l : List Wd} (h : l.length = 16) : (Tryd.prog.info? 99).map (·.size) = some (wsL l).length := by rw [wsL_len, h]; kernel_rfl
theorem oneWs (l : List Wd) : (wsL l).toArray.all (·.oneCell') = true := all_oneCell_toArray (wsL_one l)
def mtab (W : Wd) : Nat → Wd
 | 0 => wwid nonePt
 | i + 1 => wplus (mtab W i) W
theorem none_nm : nonePt.Nm := none_ok.nm
theorem mtab_nm (W : Wd) : ∀ i, (mtab W i).Nm
 | 0 => wwid_nm none_nm
 | _ + 1 => wplus_nm _ _
theorem mtab_rep {W : Wd} {P : Pt} (hW : W.Rep P) (hP : P.On) : ∀ i, (mtab W i).Rep (pmul P i)
 | 0 => by have := rep_widen nonePt; rwa [can_id none_ok] at this
 | i + 1 => rep_plus (mtab_rep hW hP i) hW (pmul_on hP i) hP
set_option maxHeartbeats 8000000 in
theorem multiples_any (W : Wd) (w : World) (hW : W.Nm) (hG : EG w) : Calls Tryd.prog 62 #[.agg (wdL W).toArray] w fun e w' => e = .returned (.agg (wsL (tbl (mtab W) 16)).toArray) ∧ Below w.heap.size w w' := by
 have hM := Lib.hid (Mv.nil w)
 have HG := Lib.hid hG; clear hG
 obtain ⟨f, hf⟩ : ∃ f, f = mtab W := ⟨_, rfl⟩
 have F0 : Hid (f 0 = wwid nonePt) := Lib.hid (by rw [hf]; rfl)
 have FS : Hid (∀ i, wplus (f i) W = f (i + 1)) := Lib.hid (by rw [hf]; intro i; rfl)
 have FN : Hid (∀ i, (f i).Nm) := Lib.hid (by rw [hf]; exact mtab_nm W)
 rw [← hf]
 clear hf
 have HL := Lib.hid (tbl_len f)
 have HS := Lib.hid (tbl_set f)
 have HT : Hid (∀ {k j : Nat}, j < 16 → j < k → (tbl f k).getD j zW = f j) := Lib.hid (fun h1 h2 => tbl_get f h1 h2)
 have H1 : Hid (wsL (wwid nonePt :: List.replicate 15 zW) = wsL (tbl f 1)) := Lib.hid (by rw [tbl_one, F0.out])
 obtain ⟨tb, htb⟩ : ∃ tb, tb = tbl f := ⟨_, rfl⟩
 rw [← htb] at HL HS HT H1 ⊢
 clear htb
 have BW := Lib.hid (built_ws (wwid nonePt))
 rw [H1.out] at BW
 have BT := Lib.hid (szWs (HL.out 1))
 have BO := Lib.hid (oneWs (tb 1))
 go_enter Tryd.func62, Tryd.ntmps62
 go_upto_region 0 with fail; refine wp_region_lit ?_
 refine qaa (qcv (vs := wdL W) rfl rfl) rfl ?_; (try simp only [Act.put, lyy]); replace hM := Lib.hid (hM.out.new (wdL W) 98); generalize w.alloc (.cells (wdL W).toArray 98) = a1 at *; generalize w.heap.size = g1 at *
 refine qaa (qat (vs := zq 256) rfl (by kernel_rfl)) rfl ?_; (try simp only [Act.put, lyy]); replace hM := Lib.hid (hM.out.new (zq 256) 99); generalize a1.alloc (.cells (zq 256).toArray 99) = a2 at *; generalize a1.heap.size = g2 at *
 refine qab ?_
 go_upto_region 1 with fail; refine wp_region_lit ?_
 refine qam (qdt qdc rfl rfl) rfl (nothing_any _) (fun a3 hb => ?_); (try simp only [Act.put, lyy]); replace hM := Lib.hid (hM.out.below hb); clear hb
 refine qam (qap enters_widen rfl rfl rfl) rfl (widen_any nonePt _ none_nm (HG.out.below hM.out.bl)) (fun a4 hb => ?_); (try simp only [Act.put, lyy]); replace hM := Lib.hid (hM.out.below hb); clear hb
 refine qaa (run_bld1 rfl rfl BW.out) rfl ?_; (try simp only [Act.put, lyy])
 refine qaa (qat (vs := zq 256) rfl (by kernel_rfl)) rfl ?_; (try simp only [Act.put, lyy]); replace hM := Lib.hid (hM.out.new (zq 256) 99); generalize a4.alloc (.cells (zq 256).toArray 99) = a5 at *; generalize a4.heap.size = g3 at *
 have L1 : Hid ((wsL (tb 1)).length = (zq 256).length) := Lib.hid (by rw [wsL_len, HL.out]; rfl)
 refine qag (qar (vs := wsL (tb 1)) rfl BT.out rfl rfl BO.out (by rw [L1.out]; exact (hM.out.get (i := 0) rfl).there)) rfl rfl ?_
 refine qab ?_
 replace hM := Lib.hid (hM.out.put 0 rfl (m := wsL (tb 1)) L1.out)
 generalize a5.setCells g3 0 (wsL (tb 1)) = a6 at *
 clear BW BT BO L1
 go_wp2_with fail
 go_loopw [8] (fun s u => ∃ n : Nat, n ≤ 15 ∧ s = .int .i64 (n : Int) ∧ Mv w [(g3, wsL (tb (n + 1))), (g2, zq 256), (g1, wdL W)] u) (fun s _ => (15 - intOf s).toNat)
 case atStart => exact ⟨0, by omega, rfl, hM.out⟩
 case round =>
  obtain ⟨n, hn, rfl, hJ⟩ := hrel
  replace hM := Lib.hid hJ
  clear hJ
  by_cases hlt : n = 15
  ·subst hlt
   have hk1 : ¬ (((15 : Nat) : Int) < 15) := by omega
   have BT := Lib.hid (szWs (HL.out 16))
   have BO := Lib.hid (oneWs (tb 16))
   have L1 : Hid ((wsL (tb 16)).length = (zq 256).length) := Lib.hid (by rw [wsL_len, HL.out]; rfl)
   go_upto_region 7 with fail; refine wp_region_lit ?_
   refine qaa (qaj (vs := wsL (tb 16)) rfl Tryd.underlying99 rfl BT.out rfl (hM.out.get (i := 0) rfl).range) rfl ?_; (try simp only [Act.put, lyy])
   refine qag (qar (vs := wsL (tb 16)) rfl BT.out rfl rfl BO.out (by rw [L1.out]; exact (hM.out.get (i := 1) rfl).there)) rfl rfl ?_
   replace hM := Lib.hid (hM.out.put 1 rfl (m := wsL (tb 16)) L1.out)
   refine qab ?_
   go_wp2_with fail
   exact bodyPost_ret (v := .agg (wsL (tb 16)).toArray) (qa8 Tryd.results62 rfl Tryd.underlying99 rfl BT.out (hM.out.get (i := 1) rfl).range) rfl ⟨rfl, hM.out.bl⟩
  ·have hk1 : (n : Int) < 15 := by omega
   have hl := HL.out (n + 1)
   have HR : Hid (∀ V, Arr g3 (wsL (tb (n + 1))) V → V.rangeAt g3 (0 + n * 16) (wdL (f n))) := Lib.hid fun V hV => by
    have := ws_range hV (i := n) (by omega)
    rwa [HT.out (by omega) (by omega)] at this
   have HP : Hid (∀ V, Arr g3 (wsL (tb (n + 1))) V → V.there g3 (0 + (n + 1) * 16) (wdL (f (n + 1))).length) := Lib.hid fun V hV => ws_there hV (i := n + 1) (by omega) _
   go_upto_region 4 with fail; refine wp_region_lit ?_
   refine qaa (qae (v := .int _ _) rfl rfl) rfl ?_; (try simp only [Act.put, lyy]); refine qaa (qaf (v := .int _ _) rfl rfl) rfl ?_; (try simp only [Act.put, lyy])
   refine qab ?_
   go_upto_region 5 with fail; refine qbf 8 (by kernel_rfl) (by kernel_rfl) ?_
   refine qad _ (fun V hV => qai (qae (v := .int _ _) rfl rfl)) ?_; (try simp only [Act.put, lyy])
   refine qad _ (fun V hV => qai (qb1 (a := n) (b := 1) rfl rfl rfl (by omega))) ?_; (try simp only [Act.put, lyy])
   refine qad _ (fun V hV => qai (qae (v := .int _ _) rfl rfl)) ?_; (try simp only [Act.put, lyy])
   refine qad _ (fun V hV => qai (run_ixN (s := 16) (i := n) rfl Tryd.underlying99 (by kernel_rfl) rfl rfl (by omega))) ?_; (try simp only [Act.put, lyy])
   refine qad _ (fun V hV => qai (qaj (vs := wdL (f n)) rfl Tryd.underlying98 rfl (szWd _) rfl (HR.out V ((hM.out.below hV).get (i := 0) rfl)))) ?_; (try simp only [Act.put, lyy])
   refine qad _ (fun V hV => qai (qaj (vs := wdL W) rfl Tryd.underlying98 rfl (szWd _) rfl ((hM.out.below hV).get (i := 2) rfl).range)) ?_; (try simp only [Act.put, lyy])
   refine qad _ (fun V hV => qax (qao enters_plus rfl rfl rfl rfl) (plus_any (f n) W V (FN.out n) hW (HG.out.below (hM.out.below hV).bl))) ?_; (try simp only [Act.put, lyy])
   refine qad _ (fun V hV => qai (run_ixN (s := 16) (i := n + 1) rfl Tryd.underlying99 (by kernel_rfl) rfl rfl (by omega))) ?_; (try simp only [Act.put, lyy])
   refine qbh ?_; intro a7 hb; simp only [List.drop_succ_cons, List.drop_zero]
   replace hM := Lib.hid (hM.out.below hb)
   clear hb
   rw [FS.out n]
   refine qag (qar (vs := wdL (f (n + 1))) rfl (szWd _) rfl rfl (oneWd _) (HP.out _ (hM.out.get (i := 0) rfl))) rfl rfl ?_
   refine qab ?_
   have hM2 : Hid (Mv w [(g3, wsL (tb (n + 1 + 1))), (g2, zq 256), (g1, wdL W)] (a7.setCells g3 (0 + (n + 1) * 16) (wdL (f (n + 1))))) := Lib.hid (by
    have h := hM.out.mid 0 rfl (f := 0 + (n + 1) * 16) (m := wdL (f (n + 1))) (by rw [wsL_len, hl, wdL_len]; omega)
    have e := ws_set (l := tb (n + 1)) (i := n + 1) (by omega) (f (n + 1))
    rw [HS.out] at e
    rw [Nat.zero_add] at h ⊢
    rw [e] at h
    exact h)
   generalize a7.setCells g3 (0 + (n + 1) * 16) (wdL (f (n + 1))) = a8 at *
   clear hM
   go_wp2_with fail
   exact ⟨⟨n + 1, by omega, by go_num, hM2.out⟩, by simp [intOf]; omega⟩
theorem enters_multiples : Enters 62 := qaq Tryd.func62 (by kernel_rfl) rfl
end Go.Proofs.YtcgbgmbnagmohaaDoor
namespace Go.Proofs.YtcgbgmbnagmohaaDoor
open Go.RowKit
set_option maxRecDepth 20000
def dig (l : List (BitVec 8)) (i : Nat) : BitVec 8 := (l.getD (31 - i / 2) 0 >>> (4 - i % 2 * 4)) &&& 15
def topN (l : List (BitVec 8)) : Nat → Nat
 | 0 => 0
 | i + 1 => 16 * topN l i + (dig l i).toNat
theorem nib_hi : ∀ b : BitVec 8, ((b >>> 4) &&& 15).toNat = b.toNat / 16 := by decide +kernel
theorem nib_lo : ∀ b : BitVec 8, ((b >>> 0) &&& 15).toNat = b.toNat % 16 := by decide +kernel
theorem nib_lt : ∀ b : BitVec 8, (b &&& 15).toNat < 16 := by decide +kernel
theorem topN_even {l : List (BitVec 8)} (hl : l.length = 32) : ∀ k, k ≤ 32 → topN l (2 * k) = leB (l.drop (32 - k))
 | 0, _ => by rw [Nat.sub_zero, List.drop_of_length_le (by omega)]; rfl
 | k + 1, h => by
  have ih := topN_even hl k (by omega)
  have e : l.drop (32 - (k + 1)) = l.getD (31 - k) 0 :: l.drop (32 - k) := by
   rw [show 32 - (k + 1) = 31 - k by omega, List.drop_eq_getElem_cons (by omega), show 31 - k + 1 = 32 - k by omega]
   simp [show 31 - k < l.length by omega]
  have d0 : (dig l (2 * k)).toNat = (l.getD (31 - k) 0).toNat / 16 := by
   unfold dig
   rw [show 2 * k / 2 = k by omega, show 2 * k % 2 = 0 by omega]
   exact nib_hi _
  have d1 : (dig l (2 * k + 1)).toNat = (l.getD (31 - k) 0).toNat % 16 := by
   unfold dig
   rw [show (2 * k + 1) / 2 = k by omega, show (2 * k + 1) % 2 = 1 by omega]
   exact nib_lo _
  rw [show 2 * (k + 1) = 2 * k + 1 + 1 by omega, topN, topN, ih, e, leB, d0, d1]
  omega
theorem topN_all {l : List (BitVec 8)} (hl : l.length = 32) : topN l 64 = leB l := by
 have := topN_even hl 32 (Nat.le_refl _)
 simpa using this
section
variable {w : World} {ρ : Operand → Value} {o : Oper} {t t' : TypeId} {x y : Operand}
theorem run_shr8k {k : IntKind} {a : BitVec 8} {n : Nat} (ho : o.op = .binOp .shr t x y t') (hx : ρ x = b8 a) (hy : ρ y = .int k (n : Int)) (hn : n ≤ 8) : (execOp ρ o).run Tryd.prog w = .ok (.value (b8 (a >>> n))) w := by
 obtain ⟨dst, op, type, pos, after, guard⟩ := o
 subst ho
 unfold b8 at *
 have e : (a.toNat : Int) / 2 ^ n = (((a >>> n).toNat : Nat) : Int) := by
  rw [BitVec.toNat_ushiftRight, Nat.shiftRight_eq_div_pow]; simp
 generalize (a >>> n).toNat = z at *
 have hn0 : (0 : Int) ≤ (n : Int) := by omega
 go_simp
 try exact e
end
theorem mul_end {p : Pt} (h : onB p = true) {l : List (BitVec 8)} (hl : l.length = 32) {W : Wd} (hW : W.Rep (pmul p.can (topN l 64))) : wnar W = mulP (leB l) p := by
 rw [topN_all hl] at hW
 unfold mulP
 rw [h, if_pos rfl]
 exact wnar_eq hW (pmul_ok _ _)
set_option maxHeartbeats 16000000 in
theorem mulP_any (l : List (BitVec 8)) (p : Pt) (w : World) (hl : l.length = 32) (hp : p.Nm) (hG : EG w) : Calls Tryd.prog 40 #[.agg (l.map b8).toArray, .agg (ptL p).toArray] w fun e w' => e = .returned (.agg (ptL (mulP (leB l) p)).toArray) ∧ Below w.heap.size w w' := by
 have hM := Lib.hid (Mv.nil w)
 have HG := Lib.hid hG; clear hG
 have H1 : Hid (onB p = false → mulP (leB l) p = nonePt) := Lib.hid fun h => by unfold mulP; rw [h]; rfl
 have H2 : Hid (onB p = true → ∀ W : Wd, W.Rep (pmul p.can (topN l 64)) → wnar W = mulP (leB l) p) := Lib.hid fun h W hW => mul_end h hl hW
 generalize mulP (leB l) p = R at *
 obtain ⟨b1, hb1⟩ : ∃ b, b = onB p := ⟨_, rfl⟩
 have C1 : Hid (∀ u, EG u → Calls Tryd.prog 59 #[.agg (ptL p).toArray] u fun e w' => e = .returned (.bool b1) ∧ Below u.heap.size u w') := Lib.hid fun u hu => by rw [hb1]; exact on_any p u hp hu
 have HO : Hid (b1 = true → p.can.On) := Lib.hid fun h => can_on ((onB_iff p).1 (by rw [← hb1, h]))
 rw [← hb1] at H1 H2
 clear hb1
 go_enter Tryd.func40, Tryd.ntmps40
 go_upto_region 0 with fail; refine wp_region_lit ?_
 refine qaa (qcv (vs := l.map b8) rfl rfl) rfl ?_; (try simp only [Act.put, lyy]); replace hM := Lib.hid (hM.out.new (l.map b8) 24); generalize w.alloc (.cells (l.map b8).toArray 24) = a1 at *; generalize w.heap.size = g1 at *
 refine qaa (qcv (vs := ptL p) rfl rfl) rfl ?_; (try simp only [Act.put, lyy]); replace hM := Lib.hid (hM.out.new (ptL p) 68); generalize a1.alloc (.cells (ptL p).toArray 68) = a2 at *; generalize a1.heap.size = g2 at *
 refine qaa (qat (vs := zq 8) rfl (by kernel_rfl)) rfl ?_; (try simp only [Act.put, lyy]); replace hM := Lib.hid (hM.out.new (zq 8) 68); generalize a2.alloc (.cells (zq 8).toArray 68) = a3 at *; generalize a2.heap.size = g3 at *
 refine qab ?_
 go_upto_region 1 with fail; refine wp_region_lit ?_
 refine qaa (qaj (vs := ptL p) rfl Tryd.underlying68 rfl (szPt _) rfl ((hM.out.get (i := 1) rfl).range)) rfl ?_; (try simp only [Act.put, lyy])
 refine qam (qap enters_on rfl rfl rfl) rfl (C1.out _ (HG.out.below hM.out.bl)) (fun a4 hb => ?_); (try simp only [Act.put, lyy]); replace hM := Lib.hid (hM.out.below hb); clear hb
 cases b1
 ·have e := H1.out rfl
  subst e
  refine qaa (qdf rfl rfl) rfl ?_; (try simp only [Act.put, lyy])
  refine qab ?_
  go_upto_region 2 with fail; refine wp_region_lit ?_
  refine qam (qdt qdc rfl rfl) rfl (nothing_any _) (fun a5 hb => ?_); (try simp only [Act.put, lyy]); replace hM := Lib.hid (hM.out.below hb); clear hb
  refine qag (qar (vs := ptL nonePt) rfl (szPt _) rfl rfl (onePt _) ((hM.out.get (i := 0) rfl).there)) rfl rfl ?_; replace hM := Lib.hid (hM.out.put 0 rfl (m := ptL nonePt) rfl); generalize a5.setCells g3 0 (ptL nonePt) = a6 at *
  refine qab ?_; go_wp2_with fail; refine bodyPost_ret (v := .agg (ptL nonePt).toArray) (qa8 Tryd.results40 rfl Tryd.underlying68 rfl (szPt _) (hM.out.get (i := 0) rfl).range) rfl ⟨rfl, hM.out.bl⟩
 ·refine qaa (qdf rfl rfl) rfl ?_; (try simp only [Act.put, lyy])
  refine qab ?_
  have hO := HO.out rfl
  replace H2 := Lib.hid (H2.out rfl)
  have hwn := wwid_nm hp
  obtain ⟨f, hf⟩ : ∃ f, f = mtab (wwid p) := ⟨_, rfl⟩
  have FN : Hid (∀ i, (f i).Nm) := Lib.hid (by rw [hf]; exact mtab_nm _)
  have FR : Hid (∀ i, (f i).Rep (pmul p.can i)) := Lib.hid (by rw [hf]; exact mtab_rep (rep_widen p) hO)
  obtain ⟨tb, htb⟩ : ∃ tb, tb = tbl f 16 := ⟨_, rfl⟩
  have TL : Hid (tb.length = 16) := Lib.hid (by rw [htb, tbl_len])
  have TG : Hid (∀ {j : Nat}, j < 16 → tb.getD j zW = f j) := Lib.hid (by rw [htb]; exact fun h => tbl_get f h h)
  have CM : Hid (∀ u, EG u → Calls Tryd.prog 62 #[.agg (wdL (wwid p)).toArray] u fun e w' => e = .returned (.agg (wsL tb).toArray) ∧ Below u.heap.size u w') := Lib.hid fun u hu => by rw [htb, hf]; exact multiples_any _ u hwn hu
  clear htb hf
  obtain ⟨P, hP⟩ : ∃ P : Nat → Pt, P = fun i => pmul p.can i := ⟨_, rfl⟩
  have PO : Hid (∀ i, (P i).On) := Lib.hid (by rw [hP]; exact pmul_on hO)
  have PA : Hid (∀ m n, padd (P m) (P n) = P (m + n)) := Lib.hid (by rw [hP]; exact fun m n => (pmul_add hO m n).symm)
  have FP : Hid (∀ i, (f i).Rep (P i)) := Lib.hid (by rw [hP]; exact FR.out)
  have HE : Hid (∀ W : Wd, W.Rep (P (topN l 64)) → wnar W = R) := Lib.hid (by rw [hP]; exact H2.out)
  clear hP FR H2 H1 HO C1
  have BT := Lib.hid (szWs TL.out)
  have BO := Lib.hid (oneWs tb)
  go_upto_region 3 with fail; refine wp_region_lit ?_
  refine qaa (qaj (vs := ptL p) rfl Tryd.underlying68 rfl (szPt _) rfl ((hM.out.get (i := 1) rfl).range)) rfl ?_; (try simp only [Act.put, lyy])
  refine qam (qap enters_widen rfl rfl rfl) rfl (widen_any p _ hp (HG.out.below hM.out.bl)) (fun a5 hb => ?_); (try simp only [Act.put, lyy]); replace hM := Lib.hid (hM.out.below hb); clear hb
  refine qam (qap enters_multiples rfl rfl rfl) rfl (CM.out _ (HG.out.below hM.out.bl)) (fun a6 hb => ?_); (try simp only [Act.put, lyy]); replace hM := Lib.hid (hM.out.below hb); clear hb
  refine qaa (qat (vs := zq 256) rfl (by kernel_rfl)) rfl ?_; (try simp only [Act.put, lyy]); replace hM := Lib.hid (hM.out.new (zq 256) 99); generalize a6.alloc (.cells (zq 256).toArray 99) = a7 at *; generalize a6.heap.size = g4 at *
  have L1 : Hid ((wsL tb).length = (zq 256).length) := Lib.hid (by rw [wsL_len, TL.out]; rfl)
  refine qag (qar (vs := wsL tb) rfl BT.out rfl rfl BO.out (by rw [L1.out]; exact (hM.out.get (i := 0) rfl).there)) rfl rfl ?_
  refine qab ?_
  replace hM := Lib.hid (hM.out.put 0 rfl (m := wsL tb) L1.out)
  generalize a7.setCells g4 0 (wsL tb) = a8 at *
  clear BT BO L1 CM
  have R0 : Hid (∀ V, Arr g4 (wsL tb) V → ∀ {j : Nat}, j < 16 → V.rangeAt g4 (0 + j * 16) (wdL (f j))) := Lib.hid fun V hV j hj => by
   have := ws_range hV (i := j) (by rw [TL.out]; exact hj)
   rwa [TG.out hj] at this
  go_upto_region 4 with fail; refine wp_region_lit ?_
  refine qaa (run_ixN (s := 16) (i := 0) rfl Tryd.underlying99 (by kernel_rfl) rfl rfl (by omega)) rfl ?_; (try simp only [Act.put, lyy])
  refine qaa (qaj (vs := wdL (f 0)) rfl Tryd.underlying98 rfl (szWd _) rfl (R0.out _ (hM.out.get (i := 0) rfl) (by omega))) rfl ?_; (try simp only [Act.put, lyy])
  refine qaa (qat (vs := zq 16) rfl (by kernel_rfl)) rfl ?_; (try simp only [Act.put, lyy]); replace hM := Lib.hid (hM.out.new (zq 16) 98); generalize a8.alloc (.cells (zq 16).toArray 98) = a9 at *; generalize a8.heap.size = g5 at *
  refine qag (qar (vs := wdL (f 0)) rfl (szWd _) rfl rfl (oneWd _) ((hM.out.get (i := 0) rfl).there)) rfl rfl ?_; replace hM := Lib.hid (hM.out.put 0 rfl (m := wdL (f 0)) rfl); generalize a9.setCells g5 0 (wdL (f 0)) = a10 at *
  refine qab ?_
  go_wp2_with fail
  go_loopw [18] (fun s u => ∃ (n : Nat) (W : Wd), n ≤ 64 ∧ s = .int .i64 (n : Int) ∧ W.Nm ∧ W.Rep (P (topN l n)) ∧ Mv w [(g5, wdL W), (g4, wsL tb), (g3, zq 8), (g2, ptL p), (g1, l.map b8)] u) (fun s _ => (64 - intOf s).toNat)
  case atStart => exact ⟨0, f 0, by omega, rfl, FN.out 0, FP.out 0, hM.out⟩
  case round =>
   obtain ⟨n, W, hn, rfl, hWn, hWr, hJ⟩ := hrel
   replace hM := Lib.hid hJ
   have HR := Lib.hid hWr
   clear hJ hWr
   by_cases hlt : n = 64
   ·subst hlt
    have hk1 : ¬ (((64 : Nat) : Int) < 64) := by omega
    have hw := HE.out W HR.out
    go_upto_region 15 with fail; refine wp_region_lit ?_
    refine qaa (qaj (vs := wdL W) rfl Tryd.underlying98 rfl (szWd _) rfl ((hM.out.get (i := 0) rfl).range)) rfl ?_; (try simp only [Act.put, lyy])
    refine qam (qap enters_nrw rfl rfl rfl) rfl (nrw_any W _ hWn (HG.out.below hM.out.bl)) (fun b1 hb => ?_); (try simp only [Act.put, lyy]); replace hM := Lib.hid (hM.out.below hb); clear hb
    rw [hw]
    refine qag (qar (vs := ptL R) rfl (szPt _) rfl rfl (onePt _) ((hM.out.get (i := 2) rfl).there)) rfl rfl ?_; replace hM := Lib.hid (hM.out.put 2 rfl (m := ptL R) rfl); generalize b1.setCells g3 0 (ptL R) = b2 at *
    refine qab ?_; go_wp2_with fail; refine bodyPost_ret (v := .agg (ptL R).toArray) (qa8 Tryd.results40 rfl Tryd.underlying68 rfl (szPt _) (hM.out.get (i := 2) rfl).range) rfl ⟨rfl, hM.out.bl⟩
   ·have hk1 : (n : Int) < 64 := by omega
    go_upto_region 7 with fail; refine wp_region_lit ?_
    refine qaa (qae (v := .int _ _) rfl rfl) rfl ?_; (try simp only [Act.put, lyy]); refine qaa (qaf (v := .int _ _) rfl rfl) rfl ?_; (try simp only [Act.put, lyy])
    refine qab ?_
    generalize hk : topN l n = k at *
    have HK := Lib.hid hk; clear hk
    go_wp2_with fail
    go_loopw [21] (fun s u => ∃ (m : Nat) (Yw : Wd), m ≤ 4 ∧ s = .int .i64 (m : Int) ∧ Yw.Nm ∧ Yw.Rep (P (2 ^ m * k)) ∧ Mv w [(g5, wdL Yw), (g4, wsL tb), (g3, zq 8), (g2, ptL p), (g1, l.map b8)] u) (fun s _ => (4 - intOf s).toNat)
    case atStart => exact ⟨0, W, by omega, rfl, hWn, by rw [Nat.pow_zero, Nat.one_mul]; exact HR.out, hM.out⟩
    case round =>
     obtain ⟨m, Yw, hm, rfl, hVn, hVr, hJ⟩ := hrel
     replace hM := Lib.hid hJ
     have HV := Lib.hid hVr
     clear hJ hVr
     by_cases hlm : m = 4
     ·subst hlm
      have hk2 : ¬ (((4 : Nat) : Int) < 4) := by omega
      have hx31 : 31 - n / 2 < l.length := by rw [hl]; omega
      have hd := nib_lt (l.getD (31 - n / 2) 0 >>> (4 - n % 2 * 4))
      have HD : Hid (dig l n = (l.getD (31 - n / 2) 0 >>> (4 - n % 2 * 4)) &&& 15) := Lib.hid rfl
      go_upto_region 12 with fail; refine wp_region_lit ?_
      refine qaa (qae (v := .int _ _) rfl rfl) rfl ?_; (try simp only [Act.put, lyy])
      refine qaa (run_quoN (b := 2) rfl rfl rfl (by omega) (by omega)) rfl ?_; (try simp only [Act.put, lyy])
      refine qaa (run_subN (a := 31) rfl rfl rfl (by omega) (by omega)) rfl ?_; (try simp only [Act.put, lyy])
      refine qaa (qbk rfl Tryd.underlying24 (by kernel_rfl) rfl rfl (by omega)) rfl ?_; (try simp only [Act.put, lyy])
      refine qaa (run_ld8 rfl rfl ((hM.out.get (i := 4) rfl).c _ _ (qbv b8 0 hx31))) rfl ?_; (try simp only [Act.put, lyy])
      refine qaa (qae (v := .int _ _) rfl rfl) rfl ?_; (try simp only [Act.put, lyy])
      refine qaa (run_remN (b := 2) rfl rfl rfl (by omega)) rfl ?_; (try simp only [Act.put, lyy])
      refine qaa (run_mulN (b := 4) rfl rfl rfl (by omega)) rfl ?_; (try simp only [Act.put, lyy])
      refine qaa (run_subN (a := 4) rfl rfl rfl (by omega) (by omega)) rfl ?_; (try simp only [Act.put, lyy])
      refine qaa (run_shr8k rfl rfl rfl (by omega)) rfl ?_; (try simp only [Act.put, lyy])
      refine qaa (qcw (b := 15) rfl rfl rfl) rfl ?_; (try simp only [Act.put, lyy])
      rw [← HD.out] at hd ⊢
      clear HD
      refine qaa (qaf (v := b8 _) rfl rfl) rfl ?_; (try simp only [Act.put, lyy])
      refine qab ?_
      have HN : Hid (topN l (n + 1) = 16 * k + (dig l n).toNat) := Lib.hid (by rw [topN, HK.out])
      generalize dig l n = d at *
      go_upto_region 13 with fail; refine qbf 5 (by kernel_rfl) (by kernel_rfl) ?_
      refine qad _ (fun V hV => qai (qaj (vs := wdL Yw) rfl Tryd.underlying98 rfl (szWd _) rfl ((hM.out.below hV).get (i := 0) rfl).range)) ?_; (try simp only [Act.put, lyy])
      refine qad _ (fun V hV => qai (qae (v := b8 d) rfl rfl)) ?_; (try simp only [Act.put, lyy])
      refine qad _ (fun V hV => qai (run_ixN (s := 16) (i := d.toNat) rfl Tryd.underlying99 (by kernel_rfl) rfl rfl hd)) ?_; (try simp only [Act.put, lyy])
      refine qad _ (fun V hV => qai (qaj (vs := wdL (f d.toNat)) rfl Tryd.underlying98 rfl (szWd _) rfl (R0.out _ ((hM.out.below hV).get (i := 1) rfl) hd))) ?_; (try simp only [Act.put, lyy])
      refine qad _ (fun V hV => qax (qao enters_plus rfl rfl rfl rfl) (plus_any Yw (f d.toNat) _ hVn (FN.out _) (HG.out.below (hM.out.below hV).bl))) ?_; (try simp only [Act.put, lyy])
      refine qbh ?_; intro b3 hb; simp only [List.drop_succ_cons, List.drop_zero]
      replace hM := Lib.hid (hM.out.below hb)
      clear hb
      have hrep : Hid ((wplus Yw (f d.toNat)).Rep (P (topN l (n + 1)))) := Lib.hid (by
       have := rep_plus HV.out (FP.out d.toNat) (PO.out _) (PO.out _)
       rw [PA.out] at this
       rw [HN.out]
       exact this)
      have hnm := wplus_nm Yw (f d.toNat)
      generalize wplus Yw (f d.toNat) = Z at *
      refine qag (qar (vs := wdL Z) rfl (szWd _) rfl rfl (oneWd _) ((hM.out.get (i := 0) rfl).there)) rfl rfl ?_; replace hM := Lib.hid (hM.out.put 0 rfl (m := wdL Z) rfl); generalize b3.setCells g5 0 (wdL Z) = b4 at *
      refine qab ?_
      go_wp2_with fail
      exact ⟨⟨n + 1, Z, by omega, by go_num, hnm, hrep.out, hM.out⟩, by simp [intOf]; omega⟩
     ·have hk2 : (m : Int) < 4 := by omega
      go_upto_region 10 with fail; refine wp_region_lit ?_
      refine qaa (qaj (vs := wdL Yw) rfl Tryd.underlying98 rfl (szWd _) rfl ((hM.out.get (i := 0) rfl).range)) rfl ?_; (try simp only [Act.put, lyy])
      refine qaa (qaj (vs := wdL Yw) rfl Tryd.underlying98 rfl (szWd _) rfl ((hM.out.get (i := 0) rfl).range)) rfl ?_; (try simp only [Act.put, lyy])
      refine qam (qao enters_plus rfl rfl rfl rfl) rfl (plus_any Yw Yw _ hVn hVn (HG.out.below hM.out.bl)) (fun b3 hb => ?_); (try simp only [Act.put, lyy]); replace hM := Lib.hid (hM.out.below hb); clear hb
      have hrep : Hid ((wplus Yw Yw).Rep (P (2 ^ (m + 1) * k))) := Lib.hid (by
       have := rep_plus HV.out HV.out (PO.out _) (PO.out _)
       rw [PA.out] at this
       rw [Nat.pow_succ, show 2 ^ m * 2 * k = 2 ^ m * k + 2 ^ m * k by rw [Nat.mul_right_comm]; omega]
       exact this)
      have hnm := wplus_nm Yw Yw
      generalize wplus Yw Yw = Z at *
      refine qag (qar (vs := wdL Z) rfl (szWd _) rfl rfl (oneWd _) ((hM.out.get (i := 0) rfl).there)) rfl rfl ?_; replace hM := Lib.hid (hM.out.put 0 rfl (m := wdL Z) rfl); generalize b3.setCells g5 0 (wdL Z) = b4 at *
      refine qab ?_
      go_wp2_with fail
      exact ⟨⟨m + 1, Z, by omega, by go_num, hnm, hrep.out, hM.out⟩, by simp [intOf]; omega⟩
theorem enters_mulP : Enters 40 := qaq Tryd.func40 (by kernel_rfl) rfl
end Go.Proofs.YtcgbgmbnagmohaaDoor
namespace Go.Proofs.YtcgbgmbnagmohaaDoor
open Go.RowKit
set_option maxRecDepth 20000
theorem eq4D (d : Nat) (a0 a1 a2 a3 b0 b1 b2 b3 : Int) (w : World) : (Op.equalIn (d + 2) 66 (.agg #[.int .u64 a0, .int .u64 a1, .int .u64 a2, .int .u64 a3]) (.agg #[.int .u64 b0, .int .u64 b1, .int .u64 b2, .int .u64 b3])).run Tryd.prog w = .ok (a0 == b0 && a1 == b1 && a2 == b2 && a3 == b3) w := by
 have hu := Tryd.underlying64
 have ha := Tryd.isAgg64
 have hz := Tryd.sizeOf64
 rw [show d + 2 = (d + 1) + 1 from rfl, Op.equalIn]
 simp only [Sem.run_bind, run_underlying Tryd.underlying66, Result.andThen_ok]
 simp only [Std.Legacy.Range.forIn_eq_forIn_range', Std.Legacy.Range.size, Nat.sub_zero, Nat.add_sub_cancel, Nat.div_one, List.range'_succ, List.range'_zero, List.forIn_cons, List.forIn_nil]
 go_simp
 by_cases h1 : a0 = b0 <;> by_cases h2 : a1 = b1 <;> by_cases h3 : a2 = b2 <;> by_cases h4 : a3 = b3 <;> simp [h1, h2, h3, h4]
theorem eqFeD (d : Nat) {M Z : Int} (hM : Num M) (hZ : Num Z) (w : World) : (Op.equalIn (d + 2) 66 (.agg (feL M).toArray) (.agg (feL Z).toArray)).run Tryd.prog w = .ok (decide (M = Z)) w := by
 rw [eq4D]
 congr 1
 by_cases h : M = Z
 ·subst h; simp
 ·have hn : ¬ (w0 M = w0 Z ∧ w1 M = w1 Z ∧ w2 M = w2 Z ∧ w3 M = w3 Z) := fun ⟨h0, h1, h2, h3⟩ => h (feV_inj hM hZ h0 h1 h2 h3)
  rw [decide_eq_false h, Bool.eq_false_iff]
  intro ht
  simp only [Bool.and_eq_true, beq_iff_eq] at ht
  exact hn ⟨ht.1.1.1, ht.1.1.2, ht.1.2, ht.2⟩
theorem ext_x (p : Pt) : (ptL p).toArray.extract 0 4 = (feL p.x).toArray := by kernel_rfl
theorem ext_y (p : Pt) : (ptL p).toArray.extract 4 8 = (feL p.y).toArray := by kernel_rfl
theorem pt_dec (p q : Pt) : decide (p = q) = (decide (p.x = q.x) && decide (p.y = q.y)) := by
 rw [Bool.eq_iff_iff]
 simp only [decide_eq_true_eq, Bool.and_eq_true]
 constructor
 ·rintro rfl; exact ⟨rfl, rfl⟩
 ·rintro ⟨h3, h4⟩
  cases p; cases q
  simp only at h3 h4
  rw [h3, h4]
theorem run_eqPt {p q : Pt} {c : Bool} (hp : p.Nm) (hq : q.Nm) {w : World} {ρ : Operand → Value} {o : Oper} {x y : Operand} {t : TypeId} (ho : o.op = .binOp .eql 68 x y t) (hx : ρ x = .agg (ptL p).toArray) (hy : ρ y = .agg (ptL q).toArray) (hc : decide (p = q) = c) : (execOp ρ o).run Tryd.prog w = .ok (.value (.bool c)) w := by
 obtain ⟨dst, op, type, pos, after, guard⟩ := o
 subst ho
 have h1 : ∀ w, (Op.equalIn 9999 66 (.agg (feL p.x).toArray) (.agg (feL q.x).toArray)).run Tryd.prog w = .ok (decide (p.x = q.x)) w := eqFeD 9997 hp.1 hq.1
 have h2 : ∀ w, (Op.equalIn 9999 66 (.agg (feL p.y).toArray) (.agg (feL q.y).toArray)).run Tryd.prog w = .ok (decide (p.y = q.y)) w := eqFeD 9997 hp.2 hq.2
 rw [pt_dec] at hc
 have p1 := ext_x p
 have p2 := ext_y p
 have q1 := ext_x q
 have q2 := ext_y q
 generalize (ptL p).toArray = vp at *
 generalize (ptL q).toArray = vq at *
 generalize (feL p.x).toArray = v1 at *
 generalize (feL p.y).toArray = v2 at *
 generalize (feL q.x).toArray = v3 at *
 generalize (feL q.y).toArray = v4 at *
 generalize decide (p.x = q.x) = c1 at *
 generalize decide (p.y = q.y) = c2 at *
 subst hc
 cases c1 <;> cases c2 <;> go_simp
end Go.Proofs.YtcgbgmbnagmohaaDoor
