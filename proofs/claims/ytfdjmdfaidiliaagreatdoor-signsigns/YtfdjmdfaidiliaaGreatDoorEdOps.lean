import Derived.Test.YtfdjmdfaidiliaaGreatDoorEMath
import Derived.Test.YtfdjmdfaidiliaaGreatDoorScMath
import Derived.Test.YtfdjmdfaidiliaaGreatDoorSown2
import Derived.Test.YtfdjmdfaidiliaaGreatDoorBase
import Derived.Test.YtfdjmdfaidiliaaGreatDoorOps
import Derived.Test.YtfdjmdfaidiliaaGreatDoorGen
import Derived.Test.YtfdjmdfaidiliaaGreatDoorRoot1
namespace Go.Proofs.YtfdjmdfaidiliaaGreatDoor
set_option maxRecDepth 20000
theorem E.add {a b c d : Int} (h : E a b) (k : E c d) : E (a + c) (b + d) := by
  show (a + c) % pp = (b + d) % pp
  rw [Int.add_emod, h, k, ← Int.add_emod]
theorem E.sub {a b c d : Int} (h : E a b) (k : E c d) : E (a - c) (b - d) := by
  show (a - c) % pp = (b - d) % pp
  rw [Int.sub_emod, h, k, ← Int.sub_emod]
def Zr (a : Int) : Prop := a % pp = 0
theorem Zr.of_E {a b : Int} (h : E a b) : Zr (a - b) := Int.emod_eq_emod_iff_emod_sub_eq_zero.1 h
theorem Zr.to_E {a b : Int} (h : Zr (a - b)) : E a b := Int.emod_eq_emod_iff_emod_sub_eq_zero.2 h
theorem Zr.mulr {a : Int} (h : Zr a) (c : Int) : Zr (c * a) := Int.emod_eq_zero_of_dvd (Int.dvd_trans (Int.dvd_of_emod_eq_zero h) (Int.dvd_mul_left _ _))
theorem Zr.add {a b : Int} (h : Zr a) (k : Zr b) : Zr (a + b) := Int.emod_eq_zero_of_dvd (Int.dvd_add (Int.dvd_of_emod_eq_zero h) (Int.dvd_of_emod_eq_zero k))
theorem Zr.neg {a : Int} (h : Zr a) : Zr (-a) := by have := h.mulr (-1); simpa using this
theorem Zr.or {a b : Int} (h : Zr (a * b)) : Zr a ∨ Zr b := no_zero h
theorem Zr.comb2 {n c1 c2 e1 e2 : Int} (h : n = c1 * e1 + c2 * e2) (h1 : Zr e1) (h2 : Zr e2) : Zr n := by rw [h]; exact (h1.mulr c1).add (h2.mulr c2)
theorem Zr.comb3 {n c1 c2 c3 e1 e2 e3 : Int} (h : n = c1 * e1 + c2 * e2 + c3 * e3) (h1 : Zr e1) (h2 : Zr e2) (h3 : Zr e3) : Zr n := by rw [h]; exact ((h1.mulr c1).add (h2.mulr c2)).add (h3.mulr c3)
theorem Zr.comb4 {n c1 c2 c3 c4 e1 e2 e3 e4 : Int} (h : n = c1 * e1 + c2 * e2 + c3 * e3 + c4 * e4) (h1 : Zr e1) (h2 : Zr e2) (h3 : Zr e3) (h4 : Zr e4) : Zr n := by rw [h]; exact (((h1.mulr c1).add (h2.mulr c2)).add (h3.mulr c3)).add (h4.mulr c4)
theorem qbo {a b : Int} (ha : ¬ Zr a) (hb : ¬ Zr b) : ¬ Zr (a * b) := fun h => h.or.elim ha hb
theorem E.zr {a b : Int} (h : E a b) (hb : Zr b) : Zr a := Eq.trans h hb
set_option maxHeartbeats 20000000 in
set_option maxRecDepth 100000 in
theorem idX (d x1 y1 x2 y2 x3 y3 : Int) :
    ((x1 * y2 + y1 * x2) * (1 - d * x1 * x2 * y1 * y2) * y3 + (y1 * y2 + x1 * x2) * (1 + d * x1 * x2 * y1 * y2) * x3) * ((1 + d * x2 * x3 * y2 * y3) * (1 - d * x2 * x3 * y2 * y3) + d * (x2 * y3 + y2 * x3) * (y2 * y3 + x2 * x3) * x1 * y1)
    - ((x2 * y3 + y2 * x3) * (1 - d * x2 * x3 * y2 * y3) * y1 + (y2 * y3 + x2 * x3) * (1 + d * x2 * x3 * y2 * y3) * x1) * ((1 + d * x1 * x2 * y1 * y2) * (1 - d * x1 * x2 * y1 * y2) + d * (x1 * y2 + y1 * x2) * (y1 * y2 + x1 * x2) * x3 * y3)
    = (- d * y1 * x2 * y2 * y2 * y2 * y2 * x3 * x3 * y3 - d * y1 * x2 * x2 * y2 * y2 * y2 * x3 - d * y1 * x2 * x2 * y2 * y2 * y2 * x3 * x3 * x3 - d * y1 * x2 * x2 * x2 * y2 * y2 * y3 + d * y1 * x2 * x2 * x2 * y2 * y2 * y3 * y3 * y3 + d * y1 * x2 * x2 * x2 * x2 * y2 * x3 * y3 * y3 + d * x1 * x2 * y2 * y2 * y2 * y2 * x3 * y3 * y3 - d * x1 * x2 * x2 * y2 * y2 * y2 * y3 + d * x1 * x2 * x2 * y2 * y2 * y2 * y3 * y3 * y3 - d * x1 * x2 * x2 * x2 * y2 * y2 * x3 - d * x1 * x2 * x2 * x2 * y2 * y2 * x3 * x3 * x3 - d * x1 * x2 * x2 * x2 * x2 * y2 * x3 * x3 * y3 + d * d * y1 * x2 * x2 * x2 * y2 * y2 * y2 * y2 * x3 * x3 * y3 + d * d * y1 * x2 * x2 * x2 * x2 * y2 * y2 * y2 * x3 * y3 * y3 - d * d * x1 * x2 * x2 * x2 * y2 * y2 * y2 * y2 * x3 * y3 * y3 - d * d * x1 * x2 * x2 * x2 * x2 * y2 * y2 * y2 * x3 * x3 * y3) * (y1 * y1 - x1 * x1 - 1 - d * x1 * x1 * y1 * y1) + (y1 * y2 * x3 - y1 * y2 * x3 * y3 * y3 + y1 * y2 * x3 * x3 * x3 + y1 * x2 * y3 - y1 * x2 * y3 * y3 * y3 + y1 * x2 * x3 * x3 * y3 - y1 * y1 * y1 * y2 * x3 + y1 * y1 * y1 * y2 * x3 * y3 * y3 - y1 * y1 * y1 * y2 * x3 * x3 * x3 - y1 * y1 * y1 * x2 * y3 + y1 * y1 * y1 * x2 * y3 * y3 * y3 - y1 * y1 * y1 * x2 * x3 * x3 * y3 + x1 * y2 * y3 - x1 * y2 * y3 * y3 * y3 + x1 * y2 * x3 * x3 * y3 + x1 * x2 * x3 - x1 * x2 * x3 * y3 * y3 + x1 * x2 * x3 * x3 * x3 - x1 * y1 * y1 * y2 * y3 + x1 * y1 * y1 * y2 * y3 * y3 * y3 - x1 * y1 * y1 * y2 * x3 * x3 * y3 - x1 * y1 * y1 * x2 * x3 + x1 * y1 * y1 * x2 * x3 * y3 * y3 - x1 * y1 * y1 * x2 * x3 * x3 * x3 + x1 * x1 * y1 * y2 * x3 - x1 * x1 * y1 * y2 * x3 * y3 * y3 + x1 * x1 * y1 * y2 * x3 * x3 * x3 + x1 * x1 * y1 * x2 * y3 - x1 * x1 * y1 * x2 * y3 * y3 * y3 + x1 * x1 * y1 * x2 * x3 * x3 * y3 + x1 * x1 * x1 * y2 * y3 - x1 * x1 * x1 * y2 * y3 * y3 * y3 + x1 * x1 * x1 * y2 * x3 * x3 * y3 + x1 * x1 * x1 * x2 * x3 - x1 * x1 * x1 * x2 * x3 * y3 * y3 + x1 * x1 * x1 * x2 * x3 * x3 * x3 + d * y1 * y2 * x3 * x3 * x3 * y3 * y3 + d * y1 * x2 * x3 * x3 * y3 * y3 * y3 - d * y1 * x2 * y2 * y2 * x3 * x3 * y3 - d * y1 * x2 * x2 * y2 * x3 * y3 * y3 - d * y1 * y1 * y1 * y2 * x3 * x3 * x3 * y3 * y3 - d * y1 * y1 * y1 * x2 * x3 * x3 * y3 * y3 * y3 + d * y1 * y1 * y1 * x2 * y2 * y2 * x3 * x3 * y3 + d * y1 * y1 * y1 * x2 * x2 * y2 * x3 * y3 * y3 + d * x1 * y2 * x3 * x3 * y3 * y3 * y3 + d * x1 * x2 * x3 * x3 * x3 * y3 * y3 + d * x1 * x2 * y2 * y2 * x3 * y3 * y3 + d * x1 * x2 * x2 * y2 * x3 * x3 * y3 - d * x1 * y1 * y1 * y2 * x3 * x3 * y3 * y3 * y3 - d * x1 * y1 * y1 * x2 * x3 * x3 * x3 * y3 * y3 - d * x1 * y1 * y1 * x2 * y2 * y2 * x3 * y3 * y3 - d * x1 * y1 * y1 * x2 * x2 * y2 * x3 * x3 * y3 + d * x1 * x1 * y1 * y2 * x3 * x3 * x3 * y3 * y3 + d * x1 * x1 * y1 * x2 * x3 * x3 * y3 * y3 * y3 - d * x1 * x1 * y1 * x2 * y2 * y2 * x3 * x3 * y3 - d * x1 * x1 * y1 * x2 * x2 * y2 * x3 * y3 * y3 + d * x1 * x1 * x1 * y2 * x3 * x3 * y3 * y3 * y3 + d * x1 * x1 * x1 * x2 * x3 * x3 * x3 * y3 * y3 + d * x1 * x1 * x1 * x2 * y2 * y2 * x3 * y3 * y3 + d * x1 * x1 * x1 * x2 * x2 * y2 * x3 * x3 * y3 + d * d * x1 * y1 * y1 * x2 * y2 * y2 * x3 * x3 * x3 * y3 * y3 - d * d * x1 * y1 * y1 * x2 * x2 * y2 * x3 * x3 * y3 * y3 * y3 - d * d * x1 * x1 * y1 * x2 * y2 * y2 * x3 * x3 * y3 * y3 * y3 + d * d * x1 * x1 * y1 * x2 * x2 * y2 * x3 * x3 * x3 * y3 * y3) * (y2 * y2 - x2 * x2 - 1 - d * x2 * x2 * y2 * y2) + (- y1 * y2 * x3 + y1 * y2 * y2 * y2 * x3 - y1 * x2 * y3 + y1 * x2 * y2 * y2 * y3 - y1 * x2 * x2 * y2 * x3 - y1 * x2 * x2 * x2 * y3 + y1 * y1 * y1 * y2 * x3 - y1 * y1 * y1 * y2 * y2 * y2 * x3 + y1 * y1 * y1 * x2 * y3 - y1 * y1 * y1 * x2 * y2 * y2 * y3 + y1 * y1 * y1 * x2 * x2 * y2 * x3 + y1 * y1 * y1 * x2 * x2 * x2 * y3 - x1 * y2 * y3 + x1 * y2 * y2 * y2 * y3 - x1 * x2 * x3 + x1 * x2 * y2 * y2 * x3 - x1 * x2 * x2 * y2 * y3 - x1 * x2 * x2 * x2 * x3 + x1 * y1 * y1 * y2 * y3 - x1 * y1 * y1 * y2 * y2 * y2 * y3 + x1 * y1 * y1 * x2 * x3 - x1 * y1 * y1 * x2 * y2 * y2 * x3 + x1 * y1 * y1 * x2 * x2 * y2 * y3 + x1 * y1 * y1 * x2 * x2 * x2 * x3 - x1 * x1 * y1 * y2 * x3 + x1 * x1 * y1 * y2 * y2 * y2 * x3 - x1 * x1 * y1 * x2 * y3 + x1 * x1 * y1 * x2 * y2 * y2 * y3 - x1 * x1 * y1 * x2 * x2 * y2 * x3 - x1 * x1 * y1 * x2 * x2 * x2 * y3 - x1 * x1 * x1 * y2 * y3 + x1 * x1 * x1 * y2 * y2 * y2 * y3 - x1 * x1 * x1 * x2 * x3 + x1 * x1 * x1 * x2 * y2 * y2 * x3 - x1 * x1 * x1 * x2 * x2 * y2 * y3 - x1 * x1 * x1 * x2 * x2 * x2 * x3 - d * x1 * y1 * y1 * x2 * y2 * y2 * x3 + d * x1 * y1 * y1 * x2 * x2 * y2 * y3 + d * x1 * x1 * y1 * x2 * y2 * y2 * y3 - d * x1 * x1 * y1 * x2 * x2 * y2 * x3) * (y3 * y3 - x3 * x3 - 1 - d * x3 * x3 * y3 * y3) := by grind
set_option maxHeartbeats 20000000 in
set_option maxRecDepth 100000 in
theorem idY (d x1 y1 x2 y2 x3 y3 : Int) :
    ((y1 * y2 + x1 * x2) * (1 + d * x1 * x2 * y1 * y2) * y3 + (x1 * y2 + y1 * x2) * (1 - d * x1 * x2 * y1 * y2) * x3) * ((1 + d * x2 * x3 * y2 * y3) * (1 - d * x2 * x3 * y2 * y3) - d * (x2 * y3 + y2 * x3) * (y2 * y3 + x2 * x3) * x1 * y1)
    - ((y2 * y3 + x2 * x3) * (1 + d * x2 * x3 * y2 * y3) * y1 + (x2 * y3 + y2 * x3) * (1 - d * x2 * x3 * y2 * y3) * x1) * ((1 + d * x1 * x2 * y1 * y2) * (1 - d * x1 * x2 * y1 * y2) - d * (x1 * y2 + y1 * x2) * (y1 * y2 + x1 * x2) * x3 * y3)
    = (d * y1 * x2 * y2 * y2 * y2 * y2 * x3 * y3 * y3 - d * y1 * x2 * x2 * y2 * y2 * y2 * y3 + d * y1 * x2 * x2 * y2 * y2 * y2 * y3 * y3 * y3 - d * y1 * x2 * x2 * x2 * y2 * y2 * x3 - d * y1 * x2 * x2 * x2 * y2 * y2 * x3 * x3 * x3 - d * y1 * x2 * x2 * x2 * x2 * y2 * x3 * x3 * y3 - d * x1 * x2 * y2 * y2 * y2 * y2 * x3 * x3 * y3 - d * x1 * x2 * x2 * y2 * y2 * y2 * x3 - d * x1 * x2 * x2 * y2 * y2 * y2 * x3 * x3 * x3 - d * x1 * x2 * x2 * x2 * y2 * y2 * y3 + d * x1 * x2 * x2 * x2 * y2 * y2 * y3 * y3 * y3 + d * x1 * x2 * x2 * x2 * x2 * y2 * x3 * y3 * y3 - d * d * y1 * x2 * x2 * x2 * y2 * y2 * y2 * y2 * x3 * y3 * y3 - d * d * y1 * x2 * x2 * x2 * x2 * y2 * y2 * y2 * x3 * x3 * y3 + d * d * x1 * x2 * x2 * x2 * y2 * y2 * y2 * y2 * x3 * x3 * y3 + d * d * x1 * x2 * x2 * x2 * x2 * y2 * y2 * y2 * x3 * y3 * y3) * (y1 * y1 - x1 * x1 - 1 - d * x1 * x1 * y1 * y1) + (y1 * y2 * y3 - y1 * y2 * y3 * y3 * y3 + y1 * y2 * x3 * x3 * y3 + y1 * x2 * x3 - y1 * x2 * x3 * y3 * y3 + y1 * x2 * x3 * x3 * x3 - y1 * y1 * y1 * y2 * y3 + y1 * y1 * y1 * y2 * y3 * y3 * y3 - y1 * y1 * y1 * y2 * x3 * x3 * y3 - y1 * y1 * y1 * x2 * x3 + y1 * y1 * y1 * x2 * x3 * y3 * y3 - y1 * y1 * y1 * x2 * x3 * x3 * x3 + x1 * y2 * x3 - x1 * y2 * x3 * y3 * y3 + x1 * y2 * x3 * x3 * x3 + x1 * x2 * y3 - x1 * x2 * y3 * y3 * y3 + x1 * x2 * x3 * x3 * y3 - x1 * y1 * y1 * y2 * x3 + x1 * y1 * y1 * y2 * x3 * y3 * y3 - x1 * y1 * y1 * y2 * x3 * x3 * x3 - x1 * y1 * y1 * x2 * y3 + x1 * y1 * y1 * x2 * y3 * y3 * y3 - x1 * y1 * y1 * x2 * x3 * x3 * y3 + x1 * x1 * y1 * y2 * y3 - x1 * x1 * y1 * y2 * y3 * y3 * y3 + x1 * x1 * y1 * y2 * x3 * x3 * y3 + x1 * x1 * y1 * x2 * x3 - x1 * x1 * y1 * x2 * x3 * y3 * y3 + x1 * x1 * y1 * x2 * x3 * x3 * x3 + x1 * x1 * x1 * y2 * x3 - x1 * x1 * x1 * y2 * x3 * y3 * y3 + x1 * x1 * x1 * y2 * x3 * x3 * x3 + x1 * x1 * x1 * x2 * y3 - x1 * x1 * x1 * x2 * y3 * y3 * y3 + x1 * x1 * x1 * x2 * x3 * x3 * y3 + d * y1 * y2 * x3 * x3 * y3 * y3 * y3 + d * y1 * x2 * x3 * x3 * x3 * y3 * y3 + d * y1 * x2 * y2 * y2 * x3 * y3 * y3 + d * y1 * x2 * x2 * y2 * x3 * x3 * y3 - d * y1 * y1 * y1 * y2 * x3 * x3 * y3 * y3 * y3 - d * y1 * y1 * y1 * x2 * x3 * x3 * x3 * y3 * y3 - d * y1 * y1 * y1 * x2 * y2 * y2 * x3 * y3 * y3 - d * y1 * y1 * y1 * x2 * x2 * y2 * x3 * x3 * y3 + d * x1 * y2 * x3 * x3 * x3 * y3 * y3 + d * x1 * x2 * x3 * x3 * y3 * y3 * y3 - d * x1 * x2 * y2 * y2 * x3 * x3 * y3 - d * x1 * x2 * x2 * y2 * x3 * y3 * y3 - d * x1 * y1 * y1 * y2 * x3 * x3 * x3 * y3 * y3 - d * x1 * y1 * y1 * x2 * x3 * x3 * y3 * y3 * y3 + d * x1 * y1 * y1 * x2 * y2 * y2 * x3 * x3 * y3 + d * x1 * y1 * y1 * x2 * x2 * y2 * x3 * y3 * y3 + d * x1 * x1 * y1 * y2 * x3 * x3 * y3 * y3 * y3 + d * x1 * x1 * y1 * x2 * x3 * x3 * x3 * y3 * y3 + d * x1 * x1 * y1 * x2 * y2 * y2 * x3 * y3 * y3 + d * x1 * x1 * y1 * x2 * x2 * y2 * x3 * x3 * y3 + d * x1 * x1 * x1 * y2 * x3 * x3 * x3 * y3 * y3 + d * x1 * x1 * x1 * x2 * x3 * x3 * y3 * y3 * y3 - d * x1 * x1 * x1 * x2 * y2 * y2 * x3 * x3 * y3 - d * x1 * x1 * x1 * x2 * x2 * y2 * x3 * y3 * y3 + d * d * x1 * y1 * y1 * x2 * y2 * y2 * x3 * x3 * y3 * y3 * y3 - d * d * x1 * y1 * y1 * x2 * x2 * y2 * x3 * x3 * x3 * y3 * y3 - d * d * x1 * x1 * y1 * x2 * y2 * y2 * x3 * x3 * x3 * y3 * y3 + d * d * x1 * x1 * y1 * x2 * x2 * y2 * x3 * x3 * y3 * y3 * y3) * (y2 * y2 - x2 * x2 - 1 - d * x2 * x2 * y2 * y2) + (- y1 * y2 * y3 + y1 * y2 * y2 * y2 * y3 - y1 * x2 * x3 + y1 * x2 * y2 * y2 * x3 - y1 * x2 * x2 * y2 * y3 - y1 * x2 * x2 * x2 * x3 + y1 * y1 * y1 * y2 * y3 - y1 * y1 * y1 * y2 * y2 * y2 * y3 + y1 * y1 * y1 * x2 * x3 - y1 * y1 * y1 * x2 * y2 * y2 * x3 + y1 * y1 * y1 * x2 * x2 * y2 * y3 + y1 * y1 * y1 * x2 * x2 * x2 * x3 - x1 * y2 * x3 + x1 * y2 * y2 * y2 * x3 - x1 * x2 * y3 + x1 * x2 * y2 * y2 * y3 - x1 * x2 * x2 * y2 * x3 - x1 * x2 * x2 * x2 * y3 + x1 * y1 * y1 * y2 * x3 - x1 * y1 * y1 * y2 * y2 * y2 * x3 + x1 * y1 * y1 * x2 * y3 - x1 * y1 * y1 * x2 * y2 * y2 * y3 + x1 * y1 * y1 * x2 * x2 * y2 * x3 + x1 * y1 * y1 * x2 * x2 * x2 * y3 - x1 * x1 * y1 * y2 * y3 + x1 * x1 * y1 * y2 * y2 * y2 * y3 - x1 * x1 * y1 * x2 * x3 + x1 * x1 * y1 * x2 * y2 * y2 * x3 - x1 * x1 * y1 * x2 * x2 * y2 * y3 - x1 * x1 * y1 * x2 * x2 * x2 * x3 - x1 * x1 * x1 * y2 * x3 + x1 * x1 * x1 * y2 * y2 * y2 * x3 - x1 * x1 * x1 * x2 * y3 + x1 * x1 * x1 * x2 * y2 * y2 * y3 - x1 * x1 * x1 * x2 * x2 * y2 * x3 - x1 * x1 * x1 * x2 * x2 * x2 * y3 - d * x1 * y1 * y1 * x2 * y2 * y2 * y3 + d * x1 * y1 * y1 * x2 * x2 * y2 * x3 + d * x1 * x1 * y1 * x2 * y2 * y2 * x3 - d * x1 * x1 * y1 * x2 * x2 * y2 * y3) * (y3 * y3 - x3 * x3 - 1 - d * x3 * x3 * y3 * y3) := by grind
set_option maxHeartbeats 20000000 in
set_option maxRecDepth 100000 in
theorem idO (d x1 y1 x2 y2 : Int) :
    (y1 * y2 + x1 * x2) * (y1 * y2 + x1 * x2) * ((1 + d * x1 * x2 * y1 * y2) * (1 + d * x1 * x2 * y1 * y2)) - (x1 * y2 + y1 * x2) * (x1 * y2 + y1 * x2) * ((1 - d * x1 * x2 * y1 * y2) * (1 - d * x1 * x2 * y1 * y2)) - (1 + d * x1 * x2 * y1 * y2) * (1 + d * x1 * x2 * y1 * y2) * ((1 - d * x1 * x2 * y1 * y2) * (1 - d * x1 * x2 * y1 * y2)) - d * ((x1 * y2 + y1 * x2) * (x1 * y2 + y1 * x2)) * ((y1 * y2 + x1 * x2) * (y1 * y2 + x1 * x2))
    = (y2 * y2 * y2 * y2 - 4 * x2 * x2 * y2 * y2 + 2 * x2 * x2 * y2 * y2 * y2 * y2 + x2 * x2 * x2 * x2 - 2 * x2 * x2 * x2 * x2 * y2 * y2 - 2 * d * x2 * x2 * y2 * y2 - 2 * d * x2 * x2 * x2 * x2 * y2 * y2 * y2 * y2 - d * y1 * y1 * x2 * x2 * y2 * y2 * y2 * y2 + d * y1 * y1 * x2 * x2 * x2 * x2 * y2 * y2 + d * x1 * x1 * x2 * x2 * y2 * y2 * y2 * y2 - d * x1 * x1 * x2 * x2 * x2 * x2 * y2 * y2 - d * d * x2 * x2 * x2 * x2 * y2 * y2 * y2 * y2 + d * d * y1 * y1 * x2 * x2 * x2 * x2 * y2 * y2 * y2 * y2 - d * d * x1 * x1 * x2 * x2 * x2 * x2 * y2 * y2 * y2 * y2 + d * d * d * x1 * x1 * y1 * y1 * x2 * x2 * x2 * x2 * y2 * y2 * y2 * y2) * (y1 * y1 - x1 * x1 - 1 - d * x1 * x1 * y1 * y1) + (1 + y2 * y2 - x2 * x2 + 2 * x2 * x2 * y2 * y2 - y1 * y1 * y2 * y2 + y1 * y1 * x2 * x2 - 2 * y1 * y1 * x2 * x2 * y2 * y2 + x1 * x1 * y2 * y2 - x1 * x1 * x2 * x2 + 2 * x1 * x1 * x2 * x2 * y2 * y2 + d * x2 * x2 * y2 * y2 - 2 * d * y1 * y1 * x2 * x2 * y2 * y2 + d * y1 * y1 * y1 * y1 * x2 * x2 * y2 * y2 + 2 * d * x1 * x1 * x2 * x2 * y2 * y2 + d * x1 * x1 * x1 * x1 * x2 * x2 * y2 * y2) * (y2 * y2 - x2 * x2 - 1 - d * x2 * x2 * y2 * y2) := by grind
def dd : Int := 37095705934669439343138083508754565189542113879843219016388785533085940283555
def ii : Int := 19681161376707505956807079304988542015446066515923890162744021073123829784752
theorem ii_sq : Zr (ii * ii + 1) := by unfold Zr ii pp; decide +kernel
theorem dd_not : ¬ Zr dd := by unfold Zr dd pp; decide +kernel
theorem one_not : ¬ Zr 1 := by unfold Zr pp; decide +kernel
theorem two_not : ¬ Zr 2 := by unfold Zr pp; decide +kernel
def hN : Nat := 28948022309329048855892746252171976963317496166410141009864396001978282409974
def hBits : List Bool := ones 250 ++ [false, true, true, false]
theorem hBits_num : bn hBits 0 = hN := by decide +kernel
theorem hN_two : hN + hN = pN - 1 := by decide +kernel
theorem dd_half : E (dd ^ hN) (-1) := by
  have h := ipow_eval 37095705934669439343138083508754565189542113879843219016388785533085940283555 57896044618658097711785492504343953926634992332820282019728792003956564819949 hN hBits hBits_num
  have e : ((37095705934669439343138083508754565189542113879843219016388785533085940283555 : Nat) : Int) = dd := rfl
  rw [e, ← pp_nat] at h
  exact h.trans (by unfold pp; decide +kernel)
theorem no_root {a b : Int} (h : E (a * a) (dd * (b * b))) : Zr b := Classical.byContradiction fun hb => by
  by_cases ha : Zr a
  · have h1 : Zr (dd * (b * b)) := E.zr h.symm (ha.mulr a)
    rcases h1.or with h2 | h2
    · exact dd_not h2
    · exact h2.or.elim hb hb
  · have h1 := h.pow hN
    have e1 : (a * a) ^ hN = a ^ (pN - 1) := by rw [← hN_two, Int.pow_add, Int.mul_pow]
    have e2 : (dd * (b * b)) ^ hN = dd ^ hN * b ^ (pN - 1) := by rw [← hN_two, Int.pow_add, Int.mul_pow, Int.mul_pow]
    rw [e1, e2] at h1
    have h2 : E 1 (-1 * 1) := (E.symm (show E (a ^ (pN - 1)) 1 from (fermat_int ha).trans (by unfold pp; decide +kernel))).trans (h1.trans (dd_half.mul (show E (b ^ (pN - 1)) 1 from (fermat_int hb).trans (by unfold pp; decide +kernel))))
    exact absurd h2 (by unfold E pp; decide +kernel)
def onE (x y : Int) : Int := y * y - x * x - 1 - dd * x * x * y * y
structure Pt where
  x : Int
  y : Int
  deriving DecidableEq
def Pt.On (p : Pt) : Prop := Zr (onE p.x p.y)
def Pt.Ok (p : Pt) : Prop := (0 ≤ p.x ∧ p.x < pp) ∧ (0 ≤ p.y ∧ p.y < pp)
def prt (p q : Pt) : Int := dd * p.x * q.x * p.y * q.y
theorem id_root (d i x1 y1 x2 y2 s : Int) (hs : s * s = 1) : (i * x1 + s * (d * x1 * x2 * y1 * y2 * y1)) * (i * x1 + s * (d * x1 * x2 * y1 * y2 * y1)) - d * (x1 * y1 * (i * x2 + s * y2) * (x1 * y1 * (i * x2 + s * y2))) =
    (x1 * x1 - d * x1 * x1 * y1 * y1 * x2 * x2) * (i * i + 1) + (y1 * y1 - 1) * (d * x1 * x2 * y1 * y2 * (d * x1 * x2 * y1 * y2) - 1) + 1 * (y1 * y1 - x1 * x1 - 1 - d * x1 * x1 * y1 * y1) + (-(d * x1 * x1 * y1 * y1)) * (y2 * y2 - x2 * x2 - 1 - d * x2 * x2 * y2 * y2) := by grind
theorem prt_sq {p q : Pt} (hp : p.On) (hq : q.On) (h : Zr (prt p q * prt p q - 1)) : False := by
  have hn : ¬ Zr (prt p q) := fun h0 => one_not (by
    have := (h0.mulr (prt p q)).add h.neg
    rwa [show prt p q * prt p q + -(prt p q * prt p q - 1) = 1 by omega] at this)
  have k1 : Zr (p.x * p.y * (ii * q.x + 1 * q.y)) := no_root (Zr.to_E (Zr.comb4 (id_root dd ii p.x p.y q.x q.y 1 (by decide)) ii_sq h hp hq))
  have k2 : Zr (p.x * p.y * (ii * q.x + -1 * q.y)) := no_root (Zr.to_E (Zr.comb4 (id_root dd ii p.x p.y q.x q.y (-1) (by decide)) ii_sq h hp hq))
  have hx : ¬ Zr (p.x * p.y) := fun h0 => hn (by
    have := h0.mulr (dd * q.x * q.y)
    rwa [show dd * q.x * q.y * (p.x * p.y) = prt p q by unfold prt; grind] at this)
  have hy : ¬ Zr q.y := fun h0 => hn (by
    have := h0.mulr (dd * p.x * q.x * p.y)
    exact this)
  have j1 := k1.or.resolve_left hx
  have j2 := k2.or.resolve_left hx
  have j3 : Zr (2 * q.y) := by
    have := j1.add j2.neg
    rwa [show ii * q.x + 1 * q.y + -(ii * q.x + -1 * q.y) = 2 * q.y by omega] at this
  exact j3.or.elim two_not hy
theorem div_add {p q : Pt} (hp : p.On) (hq : q.On) : ¬ Zr (1 + prt p q) := fun h => prt_sq hp hq (by
  have := h.mulr (prt p q - 1)
  rwa [show (prt p q - 1) * (1 + prt p q) = prt p q * prt p q - 1 by grind] at this)
theorem div_sub {p q : Pt} (hp : p.On) (hq : q.On) : ¬ Zr (1 - prt p q) := fun h => prt_sq hp hq (by
  have := h.mulr (-(prt p q + 1))
  rwa [show -(prt p q + 1) * (1 - prt p q) = prt p q * prt p q - 1 by grind] at this)
def iv (a : Int) : Int := a ^ (pp - 2).toNat % pp
theorem iv_one {a : Int} (h : ¬ Zr a) : E (a * iv a) 1 := (inv_one h).trans (by unfold pp; decide +kernel)
def padd (p q : Pt) : Pt := ⟨(p.x * q.y + p.y * q.x) * iv (1 + prt p q) % pp, (p.y * q.y + p.x * q.x) * iv (1 - prt p q) % pp⟩
theorem padd_ok (p q : Pt) : (padd p q).Ok := ⟨qbp _, qbp _⟩
theorem prt_comm (p q : Pt) : prt p q = prt q p := by unfold prt; grind
theorem padd_comm (p q : Pt) : padd p q = padd q p := by
  unfold padd
  rw [prt_comm p q, show p.x * q.y + p.y * q.x = q.x * p.y + q.y * p.x by grind, show p.y * q.y + p.x * q.x = q.y * p.y + q.x * p.x by grind]
theorem div_E {a b : Int} (h : ¬ Zr b) : E (a * iv b % pp * b) a := by
  refine ((E.rest _).mul (E.rfl' b)).trans ?_
  have := (E.rfl' a).mul (iv_one h)
  rw [Int.mul_one] at this
  exact (E.of_eq (by grind)).trans this
theorem padd_x {p q : Pt} (hp : p.On) (hq : q.On) : Zr ((padd p q).x * (1 + prt p q) - (p.x * q.y + p.y * q.x)) := Zr.of_E (div_E (div_add hp hq))
theorem padd_y {p q : Pt} (hp : p.On) (hq : q.On) : Zr ((padd p q).y * (1 - prt p q) - (p.y * q.y + p.x * q.x)) := Zr.of_E (div_E (div_sub hp hq))
theorem id_on (d a b x y B D : Int) : B * B * (D * D) * (y * y - x * x - 1 - d * x * x * y * y) =
    (-(D * D) * (x * B + a) - d * (x * B + a) * (y * D * (y * D))) * (x * B - a) + (B * B * (y * D + b) - d * (a * a) * (y * D + b)) * (y * D - b) + 1 * (b * b * (B * B) - a * a * (D * D) - B * B * (D * D) - d * (a * a) * (b * b)) := by grind
theorem padd_on {p q : Pt} (hp : p.On) (hq : q.On) : (padd p q).On := by
  have hB := div_add hp hq
  have hD := div_sub hp hq
  have h1 := Zr.comb3 (id_on dd (p.x * q.y + p.y * q.x) (p.y * q.y + p.x * q.x) (padd p q).x (padd p q).y (1 + prt p q) (1 - prt p q)) (padd_x hp hq) (padd_y hp hq)
    (Zr.comb2 (idO dd p.x p.y q.x q.y) hp hq)
  exact h1.or.resolve_left (qbo (qbo hB hB) (qbo hD hD))
theorem id_mx (d rx ry a b A B C D x y t : Int) (ha : a = A) (hb : b = C) : t * (B * D + d * A * C * x * y) - (A * D * y + C * B * x) =
    B * D * (t * (1 + d * rx * x * ry * y) - (rx * y + ry * x)) + (D * y - t * d * x * y * C) * (rx * B - a) + (B * x - t * d * x * y * rx * B) * (ry * D - b) := by subst ha hb; grind
theorem id_my (d rx ry a b A B C D x y t : Int) (ha : a = A) (hb : b = C) : t * (B * D - d * A * C * x * y) - (C * B * y + A * D * x) =
    B * D * (t * (1 - d * rx * x * ry * y) - (ry * y + rx * x)) + (D * x + t * d * x * y * C) * (rx * B - a) + (B * y + t * d * x * y * rx * B) * (ry * D - b) := by subst ha hb; grind
theorem id_l (d rx ry a b B D x y : Int) : B * D + d * a * b * x * y - B * D * (1 + d * rx * x * ry * y) = (-(d * b * x * y)) * (rx * B - a) + (-(d * rx * B * x * y)) * (ry * D - b) := by grind
theorem id_l' (d rx ry a b B D x y : Int) : B * D - d * a * b * x * y - B * D * (1 - d * rx * x * ry * y) = (d * b * x * y) * (rx * B - a) + (d * rx * B * x * y) * (ry * D - b) := by grind
section
variable {p q r : Pt}
def lx (p q r : Pt) : Int := (1 + prt p q) * (1 - prt p q) + dd * (p.x * q.y + p.y * q.x) * (p.y * q.y + p.x * q.x) * r.x * r.y
def ly (p q r : Pt) : Int := (1 + prt p q) * (1 - prt p q) - dd * (p.x * q.y + p.y * q.x) * (p.y * q.y + p.x * q.x) * r.x * r.y
def mx (p q r : Pt) : Int := (p.x * q.y + p.y * q.x) * (1 - prt p q) * r.y + (p.y * q.y + p.x * q.x) * (1 + prt p q) * r.x
def my (p q r : Pt) : Int := (p.y * q.y + p.x * q.x) * (1 + prt p q) * r.y + (p.x * q.y + p.y * q.x) * (1 - prt p q) * r.x
theorem three_x (hp : p.On) (hq : q.On) (hr : r.On) : Zr ((padd (padd p q) r).x * lx p q r - mx p q r) :=
  Zr.comb3 (id_mx dd (padd p q).x (padd p q).y _ _ (p.x * q.y + p.y * q.x) (1 + prt p q) (p.y * q.y + p.x * q.x) (1 - prt p q) r.x r.y (padd (padd p q) r).x rfl rfl) (padd_x (padd_on hp hq) hr) (padd_x hp hq) (padd_y hp hq)
theorem three_y (hp : p.On) (hq : q.On) (hr : r.On) : Zr ((padd (padd p q) r).y * ly p q r - my p q r) :=
  Zr.comb3 (id_my dd (padd p q).x (padd p q).y _ _ (p.x * q.y + p.y * q.x) (1 + prt p q) (p.y * q.y + p.x * q.x) (1 - prt p q) r.x r.y (padd (padd p q) r).y rfl rfl) (padd_y (padd_on hp hq) hr) (padd_x hp hq) (padd_y hp hq)
theorem lx_not (hp : p.On) (hq : q.On) (hr : r.On) : ¬ Zr (lx p q r) := fun h => by
  have h1 : Zr (lx p q r - (1 + prt p q) * (1 - prt p q) * (1 + prt (padd p q) r)) := Zr.comb2 (id_l dd (padd p q).x (padd p q).y (p.x * q.y + p.y * q.x) (p.y * q.y + p.x * q.x) (1 + prt p q) (1 - prt p q) r.x r.y) (padd_x hp hq) (padd_y hp hq)
  exact qbo (qbo (div_add hp hq) (div_sub hp hq)) (div_add (padd_on hp hq) hr) (E.zr (Zr.to_E h1).symm h)
theorem ly_not (hp : p.On) (hq : q.On) (hr : r.On) : ¬ Zr (ly p q r) := fun h => by
  have h1 : Zr (ly p q r - (1 + prt p q) * (1 - prt p q) * (1 - prt (padd p q) r)) := Zr.comb2 (id_l' dd (padd p q).x (padd p q).y (p.x * q.y + p.y * q.x) (p.y * q.y + p.x * q.x) (1 + prt p q) (1 - prt p q) r.x r.y) (padd_x hp hq) (padd_y hp hq)
  exact qbo (qbo (div_add hp hq) (div_sub hp hq)) (div_sub (padd_on hp hq) hr) (E.zr (Zr.to_E h1).symm h)
theorem eq_of_E {a b : Int} (ha : 0 ≤ a ∧ a < pp) (hb : 0 ≤ b ∧ b < pp) (h : E a b) : a = b := by
  have : a % pp = b % pp := h
  rwa [Int.emod_eq_of_lt ha.1 ha.2, Int.emod_eq_of_lt hb.1 hb.2] at this
theorem cross_eq {t u l m l' m' : Int} (h1 : Zr (t * l - m)) (h2 : Zr (u * l' - m')) (h : Zr (m * l' - m' * l)) (hl : ¬ Zr l) (hl' : ¬ Zr l') : E t u := by
  have k : Zr (l * l' * (t - u)) := Zr.comb3 (c1 := l') (c2 := -l) (c3 := 1) (by grind) h1 h2 h
  exact Zr.to_E (k.or.resolve_left (qbo hl hl'))
theorem padd_turn (hp : p.On) (hq : q.On) (hr : r.On) : padd (padd p q) r = padd (padd q r) p := by
  have hx : (padd (padd p q) r).x = (padd (padd q r) p).x := eq_of_E (padd_ok _ _).1 (padd_ok _ _).1
    (cross_eq (three_x hp hq hr) (three_x hq hr hp) (Zr.comb3 (idX dd p.x p.y q.x q.y r.x r.y) hp hq hr) (lx_not hp hq hr) (lx_not hq hr hp))
  have hy : (padd (padd p q) r).y = (padd (padd q r) p).y := eq_of_E (padd_ok _ _).2 (padd_ok _ _).2
    (cross_eq (three_y hp hq hr) (three_y hq hr hp) (Zr.comb3 (idY dd p.x p.y q.x q.y r.x r.y) hp hq hr) (ly_not hp hq hr) (ly_not hq hr hp))
  generalize padd (padd p q) r = a at *
  generalize padd (padd q r) p = b at *
  cases a; cases b
  simp only at hx hy
  rw [hx, hy]
theorem padd_assoc (hp : p.On) (hq : q.On) (hr : r.On) : padd (padd p q) r = padd p (padd q r) := by rw [padd_turn hp hq hr, padd_comm]
end
end Go.Proofs.YtfdjmdfaidiliaaGreatDoor
namespace Go.Proofs.YtfdjmdfaidiliaaGreatDoor
set_option maxRecDepth 20000
def nonePt : Pt := ⟨0, 1⟩
theorem none_on : nonePt.On := by unfold Pt.On nonePt onE Zr; decide +kernel
theorem none_ok : nonePt.Ok := by unfold Pt.Ok nonePt pp; decide +kernel
theorem iv_1 : iv 1 = 1 := by unfold iv; rw [Int.one_pow]; unfold pp; decide +kernel
theorem padd_none {p : Pt} (h : p.Ok) : padd nonePt p = p := by
  have e : prt nonePt p = 0 := by simp [prt, nonePt]
  unfold padd
  rw [e, Int.add_zero, Int.sub_zero, iv_1]
  simp only [nonePt, Int.zero_mul, Int.one_mul, Int.zero_add, Int.mul_one, Int.add_zero]
  rw [Int.emod_eq_of_lt h.1.1 h.1.2, Int.emod_eq_of_lt h.2.1 h.2.2]
theorem padd_none' {p : Pt} (h : p.Ok) : padd p nonePt = p := by rw [padd_comm, padd_none h]
def pmul (p : Pt) : Nat → Pt
  | 0 => nonePt
  | n + 1 => padd (pmul p n) p
theorem qdh {p : Pt} (hp : p.On) : ∀ n, (pmul p n).On
  | 0 => none_on
  | n + 1 => padd_on (qdh hp n) hp
theorem qdi (p : Pt) : ∀ n, (pmul p n).Ok
  | 0 => none_ok
  | _ + 1 => padd_ok _ _
theorem pmul_succ (p : Pt) (n : Nat) : pmul p (n + 1) = padd (pmul p n) p := rfl
theorem pmul_zero (p : Pt) : pmul p 0 = nonePt := rfl
theorem pmul_one {p : Pt} (h : p.Ok) : pmul p 1 = p := padd_none h
theorem pmul_add {p : Pt} (hp : p.On) (m : Nat) : ∀ n, pmul p (m + n) = padd (pmul p m) (pmul p n)
  | 0 => (padd_none' (qdi p m)).symm
  | n + 1 => by rw [← Nat.add_assoc, pmul_succ, pmul_add hp m n, padd_assoc (qdh hp m) (qdh hp n) hp, pmul_succ]
theorem pmul_mul {p : Pt} (hp : p.On) (n : Nat) : ∀ m, pmul p (m * n) = pmul (pmul p n) m
  | 0 => by rw [Nat.zero_mul, pmul_zero, pmul_zero]
  | m + 1 => by rw [Nat.succ_mul, pmul_add hp, pmul_mul hp n m, pmul_succ]
theorem pmul_none : ∀ n, pmul nonePt n = nonePt
  | 0 => rfl
  | n + 1 => by rw [pmul_succ, pmul_none n, padd_none none_ok]
theorem pmul_rest {p : Pt} (hp : p.On) {l : Nat} (h : pmul p l = nonePt) (n : Nat) : pmul p (n % l) = pmul p n := by
  have e : n = n / l * l + n % l := by rw [Nat.mul_comm]; exact (Nat.div_add_mod n l).symm
  have h2 : pmul p (n / l * l + n % l) = pmul p (n % l) := by rw [pmul_add hp, pmul_mul hp, h, pmul_none, padd_none (qdi _ _)]
  rw [← e] at h2
  exact h2.symm
structure Wd where
  x : Int
  y : Int
  z : Int
  t : Int
  deriving DecidableEq
structure Wd.Rep (W : Wd) (P : Pt) : Prop where
  nz : ¬ Zr W.z
  hx : E W.x (P.x * W.z)
  hy : E W.y (P.y * W.z)
  ht : E W.t (P.x * P.y * W.z)
def wcr (p q : Wd) : Int := (p.x * q.y % pp + p.y * q.x % pp) % pp
def wst (p q : Wd) : Int := (p.y * q.y % pp + p.x * q.x % pp) % pp
def won (p q : Wd) : Int := p.z * q.z % pp
def wpa (p q : Wd) : Int := dd * (p.t * q.t % pp) % pp
def wab (p q : Wd) : Int := (won p q + wpa p q) % pp
def wbe (p q : Wd) : Int := (won p q - wpa p q) % pp
def wplus (p q : Wd) : Wd := ⟨wcr p q * wbe p q % pp, wst p q * wab p q % pp, wab p q * wbe p q % pp, wcr p q * wst p q % pp⟩
theorem rep_plus {W V : Wd} {P Q : Pt} (hW : W.Rep P) (hV : V.Rep Q) (hP : P.On) (hQ : Q.On) : (wplus W V).Rep (padd P Q) := by
  have hcr : E (wcr W V) ((P.x * Q.y + P.y * Q.x) * (W.z * V.z)) :=
    (E.rest _).trans ((E.add ((E.rest _).trans (hW.hx.mul hV.hy)) ((E.rest _).trans (hW.hy.mul hV.hx))).trans (E.of_eq (by grind)))
  have hst : E (wst W V) ((P.y * Q.y + P.x * Q.x) * (W.z * V.z)) :=
    (E.rest _).trans ((E.add ((E.rest _).trans (hW.hy.mul hV.hy)) ((E.rest _).trans (hW.hx.mul hV.hx))).trans (E.of_eq (by grind)))
  have hon : E (won W V) (W.z * V.z) := E.rest _
  have hpa : E (wpa W V) (prt P Q * (W.z * V.z)) :=
    (E.rest _).trans (((E.rfl' dd).mul ((E.rest _).trans (hW.ht.mul hV.ht))).trans (E.of_eq (by unfold prt; grind)))
  have hab : E (wab W V) ((1 + prt P Q) * (W.z * V.z)) := (E.rest _).trans ((hon.add hpa).trans (E.of_eq (by grind)))
  have hbe : E (wbe W V) ((1 - prt P Q) * (W.z * V.z)) := (E.rest _).trans ((hon.sub hpa).trans (E.of_eq (by grind)))
  have hA := div_add hP hQ
  have hB := div_sub hP hQ
  have rx : E ((padd P Q).x * (1 + prt P Q)) (P.x * Q.y + P.y * Q.x) := Zr.to_E (padd_x hP hQ)
  have ry : E ((padd P Q).y * (1 - prt P Q)) (P.y * Q.y + P.x * Q.x) := Zr.to_E (padd_y hP hQ)
  have hz : E (wplus W V).z ((1 + prt P Q) * (W.z * V.z) * ((1 - prt P Q) * (W.z * V.z))) := (E.rest _).trans (hab.mul hbe)
  have nz := qbo hW.nz hV.nz
  generalize padd P Q = R at *
  generalize prt P Q = e at *
  generalize W.z * V.z = z at *
  refine ⟨fun h => ?_, ?_, ?_, ?_⟩
  · exact qbo (qbo hA nz) (qbo hB nz) (E.zr hz.symm h)
  · refine (E.rest _).trans ((hcr.mul hbe).trans (E.trans ?_ ((E.rfl' R.x).mul hz).symm))
    exact ((rx.symm.mul (E.rfl' z)).mul (E.rfl' ((1 - e) * z))).trans (E.of_eq (by grind))
  · refine (E.rest _).trans ((hst.mul hab).trans (E.trans ?_ ((E.rfl' R.y).mul hz).symm))
    exact ((ry.symm.mul (E.rfl' z)).mul (E.rfl' ((1 + e) * z))).trans (E.of_eq (by grind))
  · refine (E.rest _).trans ((hcr.mul hst).trans (E.trans ?_ ((E.rfl' (R.x * R.y)).mul hz).symm))
    exact ((rx.symm.mul (E.rfl' z)).mul (ry.symm.mul (E.rfl' z))).trans (E.of_eq (by grind))
def wnar (W : Wd) : Pt := ⟨W.x * iv W.z % pp, W.y * iv W.z % pp⟩
theorem nar_E {a b z : Int} (h : E a (b * z)) (hz : ¬ Zr z) : E (a * iv z % pp) b := by
  refine (E.rest _).trans ((h.mul (E.rfl' (iv z))).trans ?_)
  have := (E.rfl' b).mul (iv_one hz)
  rw [Int.mul_one] at this
  exact (E.of_eq (by grind)).trans this
theorem wnar_eq {W : Wd} {P : Pt} (h : W.Rep P) (hP : P.Ok) : wnar W = P := by
  have h1 : W.x * iv W.z % pp = P.x := eq_of_E (qbp _) hP.1 (nar_E h.hx h.nz)
  have h2 : W.y * iv W.z % pp = P.y := eq_of_E (qbp _) hP.2 (nar_E h.hy h.nz)
  unfold wnar; rw [h1, h2]
def wwid (p : Pt) : Wd := ⟨p.x, p.y, 1, p.x * p.y % pp⟩
def Pt.can (p : Pt) : Pt := ⟨p.x % pp, p.y % pp⟩
theorem can_id {p : Pt} (h : p.Ok) : p.can = p := by
  unfold Pt.can; rw [Int.emod_eq_of_lt h.1.1 h.1.2, Int.emod_eq_of_lt h.2.1 h.2.2]
theorem rep_widen (p : Pt) : (wwid p).Rep p.can := by
  refine ⟨one_not, ?_, ?_, ?_⟩
  · exact (E.rest p.x).symm.trans (E.of_eq (Int.mul_one _).symm)
  · exact (E.rest p.y).symm.trans (E.of_eq (Int.mul_one _).symm)
  · exact (E.rest _).trans (((E.rest p.x).symm.mul (E.rest p.y).symm).trans (E.of_eq (Int.mul_one _).symm))
theorem on_E {x y x' y' : Int} (hx : E x x') (hy : E y y') : E (onE x y) (onE x' y') := by
  unfold onE
  exact (((hy.mul hy).sub (hx.mul hx)).sub (E.rfl' 1)).sub (((((E.rfl' dd).mul hx).mul hx).mul hy).mul hy)
theorem can_on {p : Pt} (h : p.On) : p.can.On := E.zr (on_E (E.rest p.x) (E.rest p.y)) h
def onB (p : Pt) : Bool := (p.y * p.y % pp - p.x * p.x % pp) % pp == (1 + dd * (p.x * p.x % pp * (p.y * p.y % pp) % pp) % pp) % pp
theorem onB_iff (p : Pt) : onB p = true ↔ p.On := by
  have e1 : E (p.y * p.y % pp - p.x * p.x % pp) (p.y * p.y - p.x * p.x) := (E.rest _).sub (E.rest _)
  have e2 : E (1 + dd * (p.x * p.x % pp * (p.y * p.y % pp) % pp) % pp) (1 + dd * (p.x * p.x * (p.y * p.y))) :=
    (E.rfl' 1).add ((E.rest _).trans ((E.rfl' dd).mul ((E.rest _).trans ((E.rest _).mul (E.rest _)))))
  have e3 : onE p.x p.y = p.y * p.y - p.x * p.x - (1 + dd * (p.x * p.x * (p.y * p.y))) := by unfold onE; grind
  unfold onB Pt.On
  rw [beq_iff_eq, e3]
  constructor
  · intro h
    exact Zr.of_E (e1.symm.trans (E.trans h e2))
  · intro h
    exact e1.trans ((Zr.to_E h).trans e2.symm)
def bs : Pt := ⟨15112221349535400772501151409588531511454012693041857206046113283949847762202, 46316835694926478169428394003475163141307993866256225615783033603165251855960⟩
theorem bs_on : bs.On := by unfold Pt.On bs onE Zr dd pp; decide +kernel
theorem bs_ok : bs.Ok := by unfold Pt.Ok bs pp; decide +kernel
def wbits (W : Wd) : List Bool → Wd → Wd
  | [], acc => acc
  | c :: t, acc => wbits W t (cond c (wplus (wplus acc acc) W) (wplus acc acc))
theorem rep_bits {W : Wd} {P : Pt} (hW : W.Rep P) (hP : P.On) : ∀ (l : List Bool) (acc : Wd) (k : Nat), acc.Rep (pmul P k) → (wbits W l acc).Rep (pmul P (bn l k))
  | [], _, _, h => h
  | c :: t, acc, k, h => by
    have h2 : (wplus acc acc).Rep (pmul P (2 * k)) := by
      rw [show 2 * k = k + k by omega, pmul_add hP]
      exact rep_plus h h (qdh hP k) (qdh hP k)
    cases c with
    | false => exact rep_bits hW hP t _ _ h2
    | true => exact rep_bits hW hP t _ _ (rep_plus h2 hW (qdh hP _) hP)
def ellBits : List Bool := [true, false, false, false, false, false, false, false, false, false, false, false, false, false, false, false, false, false, false, false, false, false, false, false, false, false, false, false, false, false, false, false, false, false, false, false, false, false, false, false, false, false, false, false, false, false, false, false, false, false, false, false, false, false, false, false, false, false, false, false, false, false, false, false, false, false, false, false, false, false, false, false, false, false, false, false, false, false, false, false, false, false, false, false, false, false, false, false, false, false, false, false, false, false, false, false, false, false, false, false, false, false, false, false, false, false, false, false, false, false, false, false, false, false, false, false, false, false, false, false, false, false, false, false, false, false, false, false, true, false, true, false, false, true, true, false, true, true, true, true, false, true, true, true, true, true, false, false, true, true, true, false, true, true, true, true, false, true, false, true, false, false, false, true, false, true, true, true, true, false, true, true, true, true, false, false, true, true, true, false, false, true, true, false, true, false, true, true, false, false, true, false, true, true, false, false, false, false, false, false, true, false, false, true, false, false, true, true, false, false, false, true, true, false, false, false, true, true, false, true, false, false, true, false, true, true, true, false, false, true, true, true, true, false, true, false, true, true, true, false, true, false, false, true, true, true, true, true, false, true, true, false, true]
theorem ellBits_num : bn ellBits 0 = ell := by decide +kernel
theorem rep_none : (⟨0, 1, 1, 0⟩ : Wd).Rep nonePt := ⟨one_not, rfl, rfl, rfl⟩
theorem rep_bs : (⟨bs.x, bs.y, 1, bs.x * bs.y % pp⟩ : Wd).Rep bs := by have := rep_widen bs; rwa [can_id bs_ok] at this
theorem rep_is_none {W : Wd} {P : Pt} (h : W.Rep P) (hP : P.Ok) (hx : W.x % pp = 0) (hy : W.y % pp = W.z % pp) : P = nonePt := by
  have h1 : Zr P.x := (Zr.or (E.zr h.hx.symm hx)).resolve_right h.nz
  have h2 : E P.y 1 := by
    have k : Zr (W.z * (P.y - 1)) := by
      have := Zr.of_E (h.hy.symm.trans (show E W.y W.z from hy))
      rwa [show P.y * W.z - W.z = W.z * (P.y - 1) by grind] at this
    exact Zr.to_E (k.or.resolve_left h.nz)
  have e1 : P.x = 0 := eq_of_E hP.1 none_ok.1 (show P.x % pp = 0 % pp from h1)
  have e2 : P.y = 1 := eq_of_E hP.2 none_ok.2 h2
  cases P
  simp only at e1 e2
  rw [e1, e2]; rfl
theorem ell_run : (wbits ⟨bs.x, bs.y, 1, bs.x * bs.y % pp⟩ ellBits ⟨0, 1, 1, 0⟩).x % pp = 0 ∧ (wbits ⟨bs.x, bs.y, 1, bs.x * bs.y % pp⟩ ellBits ⟨0, 1, 1, 0⟩).y % pp = (wbits ⟨bs.x, bs.y, 1, bs.x * bs.y % pp⟩ ellBits ⟨0, 1, 1, 0⟩).z % pp := by decide +kernel
theorem ell_none : pmul bs ell = nonePt := by
  have h := rep_bits rep_bs bs_on ellBits ⟨0, 1, 1, 0⟩ 0 rep_none
  rw [ellBits_num] at h
  exact rep_is_none h (qdi _ _) ell_run.1 ell_run.2
end Go.Proofs.YtfdjmdfaidiliaaGreatDoor
namespace Go.Proofs.YtfdjmdfaidiliaaGreatDoor
open Go.RowKit
set_option maxRecDepth 20000
theorem qb1 {w : World} {ρ : Operand → Value} {o : Oper} {x : Operand} {vs : Array Value} {i : Nat} {v : Value} (ho : o.op = .extract x i) (hx : ρ x = .tuple vs) (hv : vs[i]? = some v) : (execOp ρ o).run Tryz.prog w = .ok (.value v) w := by
  obtain ⟨dst, op, type, pos, after, guard⟩ := o
  subst ho
  go_simp
theorem Sown.var {u w : World} {g : Nat} (h : Sown u (.cells #[.int .u64 0, .int .u64 0, .int .u64 0, .int .u64 0] 47) g w) : Var4 g 0 w := by
  obtain ⟨_, hl, hb⟩ := h
  refine ⟨hl, ?_, ?_, ?_, ?_, ?_, ?_, ?_, ?_⟩ <;> simp [World.cell?, World.frozen?, hb, w0, w1, w2, w3]
theorem qc9 : Enters 80 := qao Tryz.func80 (by kernel_rfl) rfl
theorem enters_sub : Enters 79 := qao Tryz.func79 (by kernel_rfl) rfl
theorem qbl : Enters 81 := qao Tryz.func81 (by kernel_rfl) rfl
theorem enters_small : Enters 76 := qao Tryz.func76 (by kernel_rfl) rfl
theorem enters_inv : Enters 83 := qao Tryz.func83 (by kernel_rfl) rfl
theorem enters_bytes : Enters 50 := qao Tryz.func50 (by kernel_rfl) rfl
end Go.Proofs.YtfdjmdfaidiliaaGreatDoor
namespace Go.Proofs.YtfdjmdfaidiliaaGreatDoor
open Go.RowKit
set_option maxRecDepth 20000
abbrev feL (X : Int) : List Value := [.int .u64 (w0 X), .int .u64 (w1 X), .int .u64 (w2 X), .int .u64 (w3 X)]
def zq (n : Nat) : List Value := List.replicate n (.int .u64 0)
def ptL (p : Pt) : List Value := feL p.x ++ feL p.y
def wdL (W : Wd) : List Value := feL W.x ++ (feL W.y ++ (feL W.z ++ feL W.t))
theorem oneFe (X : Int) : (feL X).toArray.all (·.oneCell') = true := by kernel_rfl
theorem onePt (p : Pt) : (ptL p).toArray.all (·.oneCell') = true := by kernel_rfl
theorem oneWd (W : Wd) : (wdL W).toArray.all (·.oneCell') = true := by kernel_rfl
theorem szFe (X : Int) : (Tryz.prog.info? 47).map (·.size) = some (feL X).length := by kernel_rfl
theorem szPt (p : Pt) : (Tryz.prog.info? 49).map (·.size) = some (ptL p).length := by kernel_rfl
theorem szWd (W : Wd) : (Tryz.prog.info? 83).map (·.size) = some (wdL W).length := by kernel_rfl
theorem alcFe (ρ : Operand → Value) (w : World) (o : Oper) (h : o.op = .alloc 47) : (execOp ρ o).run Tryz.prog w = .ok (.value (.pointer (some ⟨w.heap.size, 0, none⟩))) (w.alloc (.cells (zq 4).toArray 47)) := qar h (by kernel_rfl)
section
variable {g : Nat} {u : World} {p : Pt} {W : Wd}
theorem pt_x (h : Arr g (ptL p) u) : u.rangeAt g (0 + 0) (feL p.x) := h.part 0 4
theorem pt_y (h : Arr g (ptL p) u) : u.rangeAt g (0 + 4) (feL p.y) := h.part 4 4
theorem wd_x (h : Arr g (wdL W) u) : u.rangeAt g (0 + 0) (feL W.x) := h.part 0 4
theorem wd_y (h : Arr g (wdL W) u) : u.rangeAt g (0 + 4) (feL W.y) := h.part 4 4
theorem wd_z (h : Arr g (wdL W) u) : u.rangeAt g (0 + 8) (feL W.z) := h.part 8 4
theorem wd_t (h : Arr g (wdL W) u) : u.rangeAt g (0 + 12) (feL W.t) := h.part 12 4
end
theorem GCell.range {b : Nat} {N : Int} {w : World} (h : GCell b N w) : w.rangeAt b 0 (feL N) := fun j v hv => by
  match j, hv with
  | 0, hv => rw [Nat.add_zero, h.c0]; exact hv
  | 1, hv => rw [Nat.zero_add, h.c1]; exact hv
  | 2, hv => rw [Nat.zero_add, h.c2]; exact hv
  | 3, hv => rw [Nat.zero_add, h.c3]; exact hv
  | n + 4, hv => cases hv
def Pt.Nm (p : Pt) : Prop := Num p.x ∧ Num p.y
structure Wd.Nm (W : Wd) : Prop where
  x : Num W.x
  y : Num W.y
  z : Num W.z
  t : Num W.t
theorem num_lt {a : Int} (h : 0 ≤ a ∧ a < pp) : Num a := by have h1 := h.1; have h2 := h.2; unfold Num; unfold pp at h2; omega
theorem Pt.Ok.nm {p : Pt} (h : p.Ok) : p.Nm := ⟨num_lt h.1, num_lt h.2⟩
theorem num_1 : Num 1 := num_small (by omega) (by omega)
theorem num_dd : Num dd := by unfold Num dd; decide +kernel
theorem wplus_nm (W V : Wd) : (wplus W V).Nm := ⟨qap _, qap _, qap _, qap _⟩
theorem wwid_nm {p : Pt} (h : p.Nm) : (wwid p).Nm := ⟨h.1, h.2, num_1, qap _⟩
structure EG (w : World) : Prop where
  O : GCell 5 pp w
  T : GCell 6 (pp - 2) w
  D : GCell 2 dd w
  Bl : 1 < w.heap.size
  B : w.rangeAt 1 0 (ptL bs)
  R : GCell 7 rp w
  M : GCell 4 mp w
theorem EG.below {w w' : World} (h : EG w) (hb : Below w.heap.size w w') : EG w' where
  O := h.O.below hb
  T := h.T.below hb
  D := h.D.below hb
  Bl := Nat.lt_of_lt_of_le h.Bl hb.size
  B := qa8 h.B h.Bl hb
  R := h.R.below hb
  M := h.M.below hb
section
variable {w : World} {ρ : Operand → Value} {o : Oper} {t t' : TypeId} {x y z : Operand}
theorem qbf {vs : List Value} (ho : o.op = .box t x) (hx : ρ x = .agg vs.toArray) : (execOp ρ o).run Tryz.prog w = .ok (.value (.pointer (some ⟨w.heap.size, 0, none⟩))) (w.alloc (.cells vs.toArray t)) := run_box ho hx
theorem run_eqFeO {M Z : Int} {c : Bool} (hM : Num M) (hZ : Num Z) (ho : o.op = .binOp .eql 47 x y t) (hx : ρ x = feV M) (hy : ρ y = feV Z) (hc : (M == Z) = c) : (execOp ρ o).run Tryz.prog w = .ok (.value (.bool c)) w := by
  obtain ⟨dst, op, type, pos, after, guard⟩ := o
  subst ho
  have hE : (Op.equalIn 10000 47 (.agg (feL M).toArray) (.agg (feL Z).toArray)).run Tryz.prog w = .ok (decide (M = Z)) w := run_eqFe hM hZ w
  have e : decide (M = Z) = c := by rw [← hc]; rfl
  rw [e] at hE
  have hx' : ρ x = .agg (feL M).toArray := hx
  have hy' : ρ y = .agg (feL Z).toArray := hy
  clear hc e hx hy
  generalize (feL M).toArray = vs at *
  generalize (feL Z).toArray = vt at *
  go_simp
theorem run_bld2 {x0 x1 : Operand} {i0 i1 : Nat} {v0 v1 : Value} {cells : Array Value} (ho : o.op = .build t #[(i0, x0), (i1, x1)]) (h0 : ρ x0 = v0) (h1 : ρ x1 = v1) (h : Tryz.prog.built t [(i0, v0), (i1, v1)] = some cells) : (execOp ρ o).run Tryz.prog w = .ok (.value (.agg cells)) w :=
  run_bld ho (by
    have e : ((#[(i0, x0), (i1, x1)] : Array (Nat × Operand)).map fun (i, x) => (i, ρ x)).toList = [(i0, v0), (i1, v1)] := by simp [h0, h1]
    rw [e]; exact h)
theorem run_bld4 {x0 x1 x2 x3 : Operand} {i0 i1 i2 i3 : Nat} {v0 v1 v2 v3 : Value} {cells : Array Value} (ho : o.op = .build t #[(i0, x0), (i1, x1), (i2, x2), (i3, x3)]) (h0 : ρ x0 = v0) (h1 : ρ x1 = v1) (h2 : ρ x2 = v2) (h3 : ρ x3 = v3) (h : Tryz.prog.built t [(i0, v0), (i1, v1), (i2, v2), (i3, v3)] = some cells) : (execOp ρ o).run Tryz.prog w = .ok (.value (.agg cells)) w :=
  run_bld ho (by
    have e : ((#[(i0, x0), (i1, x1), (i2, x2), (i3, x3)] : Array (Nat × Operand)).map fun (i, x) => (i, ρ x)).toList = [(i0, v0), (i1, v1), (i2, v2), (i3, v3)] := by simp [h0, h1, h2, h3]
    rw [e]; exact h)
end
theorem built_pt (a b : Int) : Tryz.prog.built 49 [(0, feV a), (1, feV b)] = some (ptL ⟨a, b⟩).toArray := by kernel_rfl
theorem built_pt1 (b : Int) : Tryz.prog.built 49 [(1, feV b)] = some (ptL ⟨0, b⟩).toArray := by kernel_rfl
theorem built_wd (a b c d : Int) : Tryz.prog.built 83 [(0, feV a), (1, feV b), (2, feV c), (3, feV d)] = some (wdL ⟨a, b, c, d⟩).toArray := by kernel_rfl
end Go.Proofs.YtfdjmdfaidiliaaGreatDoor
