/- The curve -x^2 + y^2 = 1 + d x^2 y^2 by the prime 2^255 - 19: sums are of it, their divisors are never nothing, and points are added in whatever order. Plain facts on integers; no conditions beyond those that stand in each theorem. -/
import Derived.Test.YtefaihdhnnldmaaDoorEMath
namespace Go.Proofs.YtefaihdhnnldmaaDoor
set_option maxRecDepth 20000

theorem E.add {a b c d : Int} (h : E a b) (k : E c d) : E (a + c) (b + d) := by
  show (a + c) % pp = (b + d) % pp
  rw [Int.add_emod, h, k, ← Int.add_emod]
theorem E.sub {a b c d : Int} (h : E a b) (k : E c d) : E (a - c) (b - d) := by
  show (a - c) % pp = (b - d) % pp
  rw [Int.sub_emod, h, k, ← Int.sub_emod]
/-- Nothing, by the prime. -/
def Zr (a : Int) : Prop := a % pp = 0
theorem Zr.of_E {a b : Int} (h : E a b) : Zr (a - b) := Int.emod_eq_emod_iff_emod_sub_eq_zero.1 h
theorem Zr.to_E {a b : Int} (h : Zr (a - b)) : E a b := Int.emod_eq_emod_iff_emod_sub_eq_zero.2 h
theorem Zr.mulr {a : Int} (h : Zr a) (c : Int) : Zr (c * a) := Int.emod_eq_zero_of_dvd (Int.dvd_trans (Int.dvd_of_emod_eq_zero h) (Int.dvd_mul_left _ _))
theorem Zr.add {a b : Int} (h : Zr a) (k : Zr b) : Zr (a + b) := Int.emod_eq_zero_of_dvd (Int.dvd_add (Int.dvd_of_emod_eq_zero h) (Int.dvd_of_emod_eq_zero k))
theorem Zr.neg {a : Int} (h : Zr a) : Zr (-a) := by have := h.mulr (-1); simpa using this
theorem Zr.or {a b : Int} (h : Zr (a * b)) : Zr a ∨ Zr b := no_zero h
theorem Zr.comb2 {n c1 c2 e1 e2 : Int} (h : n = c1 * e1 + c2 * e2) (h1 : Zr e1) (h2 : Zr e2) : Zr n := by rw [h]; exact (h1.mulr c1).add (h2.mulr c2)
theorem Zr.comb3 {n c1 c2 c3 e1 e2 e3 : Int} (h : n = c1 * e1 + c2 * e2 + c3 * e3) (h1 : Zr e1) (h2 : Zr e2) (h3 : Zr e3) : Zr n := by rw [h]; exact ((h1.mulr c1).add (h2.mulr c2)).add (h3.mulr c3)
theorem Zr.comb4 {n c1 c2 c3 c4 e1 e2 e3 e4 : Int} (h : n = c1 * e1 + c2 * e2 + c3 * e3 + c4 * e4) (h1 : Zr e1) (h2 : Zr e2) (h3 : Zr e3) (h4 : Zr e4) : Zr n := by rw [h]; exact (((h1.mulr c1).add (h2.mulr c2)).add (h3.mulr c3)).add (h4.mulr c4)
theorem not_zr_mul {a b : Int} (ha : ¬ Zr a) (hb : ¬ Zr b) : ¬ Zr (a * b) := fun h => h.or.elim ha hb
theorem E.zr {a b : Int} (h : E a b) (hb : Zr b) : Zr a := Eq.trans h hb

set_option maxHeartbeats 20000000 in
set_option maxRecDepth 100000 in
theorem idX (d x1 y1 x2 y2 x3 y3 : Int) :
    ((x1 * y2 + y1 * x2) * (1 - d * x1 * x2 * y1 * y2) * y3 + (y1 * y2 + x1 * x2) * (1 + d * x1 * x2 * y1 * y2) * x3) * ((1 + d * x2 * x3 * y2 * y3) * (1 - d * x2 * x3 * y2 * y3) + d * (x2 * y3 + y2 * x3) * (y2 * y3 + x2 * x3) * x1 * y1)
    - ((x2 * y3 + y2 * x3) * (1 - d * x2 * x3 * y2 * y3) * y1 + (y2 * y3 + x2 * x3) * (1 + d * x2 * x3 * y2 * y3) * x1) * ((1 + d * x1 * x2 * y1 * y2) * (1 - d * x1 * x2 * y1 * y2) + d * (x1 * y2 + y1 * x2) * (y1 * y2 + x1 * x2) * x3 * y3)
    = (- d * y1 * x2 * y2 * y2 * y2 * y2 * x3 * x3 * y3 - d * y1 * x2 * x2 * y2 * y2 * y2 * x3 - d * y1 * x2 * x2 * y2 * y2 * y2 * x3 * x3 * x3 - d * y1 * x2 * x2 * x2 * y2 * y2 * y3 + d * y1 * x2 * x2 * x2 * y2 * y2 * y3 * y3 * y3 + d * y1 * x2 * x2 * x2 * x2 * y2 * x3 * y3 * y3 + d * x1 * x2 * y2 * y2 * y2 * y2 * x3 * y3 * y3 - d * x1 * x2 * x2 * y2 * y2 * y2 * y3 + d * x1 * x2 * x2 * y2 * y2 * y2 * y3 * y3 * y3 - d * x1 * x2 * x2 * x2 * y2 * y2 * x3 - d * x1 * x2 * x2 * x2 * y2 * y2 * x3 * x3 * x3 - d * x1 * x2 * x2 * x2 * x2 * y2 * x3 * x3 * y3 + d * d * y1 * x2 * x2 * x2 * y2 * y2 * y2 * y2 * x3 * x3 * y3 + d * d * y1 * x2 * x2 * x2 * x2 * y2 * y2 * y2 * x3 * y3 * y3 - d * d * x1 * x2 * x2 * x2 * y2 * y2 * y2 * y2 * x3 * y3 * y3 - d * d * x1 * x2 * x2 * x2 * x2 * y2 * y2 * y2 * x3 * x3 * y3) * (y1 * y1 - x1 * x1 - 1 - d * x1 * x1 * y1 * y1) + (y1 * y2 * x3 - y1 * y2 * x3 * y3 * y3 + y1 * y2 * x3 * x3 * x3 + y1 * x2 * y3 - y1 * x2 * y3 * y3 * y3 + y1 * x2 * x3 * x3 * y3 - y1 * y1 * y1 * y2 * x3 + y1 * y1 * y1 * y2 * x3 * y3 * y3 - y1 * y1 * y1 * y2 * x3 * x3 * x3 - y1 * y1 * y1 * x2 * y3 + y1 * y1 * y1 * x2 * y3 * y3 * y3 - y1 * y1 * y1 * x2 * x3 * x3 * y3 + x1 * y2 * y3 - x1 * y2 * y3 * y3 * y3 + x1 * y2 * x3 * x3 * y3 + x1 * x2 * x3 - x1 * x2 * x3 * y3 * y3 + x1 * x2 * x3 * x3 * x3 - x1 * y1 * y1 * y2 * y3 + x1 * y1 * y1 * y2 * y3 * y3 * y3 - x1 * y1 * y1 * y2 * x3 * x3 * y3 - x1 * y1 * y1 * x2 * x3 + x1 * y1 * y1 * x2 * x3 * y3 * y3 - x1 * y1 * y1 * x2 * x3 * x3 * x3 + x1 * x1 * y1 * y2 * x3 - x1 * x1 * y1 * y2 * x3 * y3 * y3 + x1 * x1 * y1 * y2 * x3 * x3 * x3 + x1 * x1 * y1 * x2 * y3 - x1 * x1 * y1 * x2 * y3 * y3 * y3 + x1 * x1 * y1 * x2 * x3 * x3 * y3 + x1 * x1 * x1 * y2 * y3 - x1 * x1 * x1 * y2 * y3 * y3 * y3 + x1 * x1 * x1 * y2 * x3 * x3 * y3 + x1 * x1 * x1 * x2 * x3 - x1 * x1 * x1 * x2 * x3 * y3 * y3 + x1 * x1 * x1 * x2 * x3 * x3 * x3 + d * y1 * y2 * x3 * x3 * x3 * y3 * y3 + d * y1 * x2 * x3 * x3 * y3 * y3 * y3 - d * y1 * x2 * y2 * y2 * x3 * x3 * y3 - d * y1 * x2 * x2 * y2 * x3 * y3 * y3 - d * y1 * y1 * y1 * y2 * x3 * x3 * x3 * y3 * y3 - d * y1 * y1 * y1 * x2 * x3 * x3 * y3 * y3 * y3 + d * y1 * y1 * y1 * x2 * y2 * y2 * x3 * x3 * y3 + d * y1 * y1 * y1 * x2 * x2 * y2 * x3 * y3 * y3 + d * x1 * y2 * x3 * x3 * y3 * y3 * y3 + d * x1 * x2 * x3 * x3 * x3 * y3 * y3 + d * x1 * x2 * y2 * y2 * x3 * y3 * y3 + d * x1 * x2 * x2 * y2 * x3 * x3 * y3 - d * x1 * y1 * y1 * y2 * x3 * x3 * y3 * y3 * y3 - d * x1 * y1 * y1 * x2 * x3 * x3 * x3 * y3 * y3 - d * x1 * y1 * y1 * x2 * y2 * y2 * x3 * y3 * y3 - d * x1 * y1 * y1 * x2 * x2 * y2 * x3 * x3 * y3 + d * x1 * x1 * y1 * y2 * x3 * x3 * x3 * y3 * y3 + d * x1 * x1 * y1 * x2 * x3 * x3 * y3 * y3 * y3 - d * x1 * x1 * y1 * x2 * y2 * y2 * x3 * x3 * y3 - d * x1 * x1 * y1 * x2 * x2 * y2 * x3 * y3 * y3 + d * x1 * x1 * x1 * y2 * x3 * x3 * y3 * y3 * y3 + d * x1 * x1 * x1 * x2 * x3 * x3 * x3 * y3 * y3 + d * x1 * x1 * x1 * x2 * y2 * y2 * x3 * y3 * y3 + d * x1 * x1 * x1 * x2 * x2 * y2 * x3 * x3 * y3 + d * d * x1 * y1 * y1 * x2 * y2 * y2 * x3 * x3 * x3 * y3 * y3 - d * d * x1 * y1 * y1 * x2 * x2 * y2 * x3 * x3 * y3 * y3 * y3 - d * d * x1 * x1 * y1 * x2 * y2 * y2 * x3 * x3 * y3 * y3 * y3 + d * d * x1 * x1 * y1 * x2 * x2 * y2 * x3 * x3 * x3 * y3 * y3) * (y2 * y2 - x2 * x2 - 1 - d * x2 * x2 * y2 * y2) + (- y1 * y2 * x3 + y1 * y2 * y2 * y2 * x3 - y1 * x2 * y3 + y1 * x2 * y2 * y2 * y3 - y1 * x2 * x2 * y2 * x3 - y1 * x2 * x2 * x2 * y3 + y1 * y1 * y1 * y2 * x3 - y1 * y1 * y1 * y2 * y2 * y2 * x3 + y1 * y1 * y1 * x2 * y3 - y1 * y1 * y1 * x2 * y2 * y2 * y3 + y1 * y1 * y1 * x2 * x2 * y2 * x3 + y1 * y1 * y1 * x2 * x2 * x2 * y3 - x1 * y2 * y3 + x1 * y2 * y2 * y2 * y3 - x1 * x2 * x3 + x1 * x2 * y2 * y2 * x3 - x1 * x2 * x2 * y2 * y3 - x1 * x2 * x2 * x2 * x3 + x1 * y1 * y1 * y2 * y3 - x1 * y1 * y1 * y2 * y2 * y2 * y3 + x1 * y1 * y1 * x2 * x3 - x1 * y1 * y1 * x2 * y2 * y2 * x3 + x1 * y1 * y1 * x2 * x2 * y2 * y3 + x1 * y1 * y1 * x2 * x2 * x2 * x3 - x1 * x1 * y1 * y2 * x3 + x1 * x1 * y1 * y2 * y2 * y2 * x3 - x1 * x1 * y1 * x2 * y3 + x1 * x1 * y1 * x2 * y2 * y2 * y3 - x1 * x1 * y1 * x2 * x2 * y2 * x3 - x1 * x1 * y1 * x2 * x2 * x2 * y3 - x1 * x1 * x1 * y2 * y3 + x1 * x1 * x1 * y2 * y2 * y2 * y3 - x1 * x1 * x1 * x2 * x3 + x1 * x1 * x1 * x2 * y2 * y2 * x3 - x1 * x1 * x1 * x2 * x2 * y2 * y3 - x1 * x1 * x1 * x2 * x2 * x2 * x3 - d * x1 * y1 * y1 * x2 * y2 * y2 * x3 + d * x1 * y1 * y1 * x2 * x2 * y2 * y3 + d * x1 * x1 * y1 * x2 * y2 * y2 * y3 - d * x1 * x1 * y1 * x2 * x2 * y2 * x3) * (y3 * y3 - x3 * x3 - 1 - d * x3 * x3 * y3 * y3) := by grind
set_option maxHeartbeats 20000000 in
set_option maxRecDepth 100000 in
theorem idY (d x1 y1 x2 y2 x3 y3 : Int) :
    ((y1 * y2 + x1 * x2) * (1 + d * x1 * x2 * y1 * y2) * y3 + (x1 * y2 + y1 * x2) * (1 - d * x1 * x2 * y1 * y2) * x3) * ((1 + d * x2 * x3 * y2 * y3) * (1 - d * x2 * x3 * y2 * y3) - d * (x2 * y3 + y2 * x3) * (y2 * y3 + x2 * x3) * x1 * y1)
    - ((y2 * y3 + x2 * x3) * (1 + d * x2 * x3 * y2 * y3) * y1 + (x2 * y3 + y2 * x3) * (1 - d * x2 * x3 * y2 * y3) * x1) * ((1 + d * x1 * x2 * y1 * y2) * (1 - d * x1 * x2 * y1 * y2) - d * (x1 * y2 + y1 * x2) * (y1 * y2 + x1 * x2) * x3 * y3)
    = (d * y1 * x2 * y2 * y2 * y2 * y2 * x3 * y3 * y3 - d * y1 * x2 * x2 * y2 * y2 * y2 * y3 + d * y1 * x2 * x2 * y2 * y2 * y2 * y3 * y3 * y3 - d * y1 * x2 * x2 * x2 * y2 * y2 * x3 - d * y1 * x2 * x2 * x2 * y2 * y2 * x3 * x3 * x3 - d * y1 * x2 * x2 * x2 * x2 * y2 * x3 * x3 * y3 - d * x1 * x2 * y2 * y2 * y2 * y2 * x3 * x3 * y3 - d * x1 * x2 * x2 * y2 * y2 * y2 * x3 - d * x1 * x2 * x2 * y2 * y2 * y2 * x3 * x3 * x3 - d * x1 * x2 * x2 * x2 * y2 * y2 * y3 + d * x1 * x2 * x2 * x2 * y2 * y2 * y3 * y3 * y3 + d * x1 * x2 * x2 * x2 * x2 * y2 * x3 * y3 * y3 - d * d * y1 * x2 * x2 * x2 * y2 * y2 * y2 * y2 * x3 * y3 * y3 - d * d * y1 * x2 * x2 * x2 * x2 * y2 * y2 * y2 * x3 * x3 * y3 + d * d * x1 * x2 * x2 * x2 * y2 * y2 * y2 * y2 * x3 * x3 * y3 + d * d * x1 * x2 * x2 * x2 * x2 * y2 * y2 * y2 * x3 * y3 * y3) * (y1 * y1 - x1 * x1 - 1 - d * x1 * x1 * y1 * y1) + (y1 * y2 * y3 - y1 * y2 * y3 * y3 * y3 + y1 * y2 * x3 * x3 * y3 + y1 * x2 * x3 - y1 * x2 * x3 * y3 * y3 + y1 * x2 * x3 * x3 * x3 - y1 * y1 * y1 * y2 * y3 + y1 * y1 * y1 * y2 * y3 * y3 * y3 - y1 * y1 * y1 * y2 * x3 * x3 * y3 - y1 * y1 * y1 * x2 * x3 + y1 * y1 * y1 * x2 * x3 * y3 * y3 - y1 * y1 * y1 * x2 * x3 * x3 * x3 + x1 * y2 * x3 - x1 * y2 * x3 * y3 * y3 + x1 * y2 * x3 * x3 * x3 + x1 * x2 * y3 - x1 * x2 * y3 * y3 * y3 + x1 * x2 * x3 * x3 * y3 - x1 * y1 * y1 * y2 * x3 + x1 * y1 * y1 * y2 * x3 * y3 * y3 - x1 * y1 * y1 * y2 * x3 * x3 * x3 - x1 * y1 * y1 * x2 * y3 + x1 * y1 * y1 * x2 * y3 * y3 * y3 - x1 * y1 * y1 * x2 * x3 * x3 * y3 + x1 * x1 * y1 * y2 * y3 - x1 * x1 * y1 * y2 * y3 * y3 * y3 + x1 * x1 * y1 * y2 * x3 * x3 * y3 + x1 * x1 * y1 * x2 * x3 - x1 * x1 * y1 * x2 * x3 * y3 * y3 + x1 * x1 * y1 * x2 * x3 * x3 * x3 + x1 * x1 * x1 * y2 * x3 - x1 * x1 * x1 * y2 * x3 * y3 * y3 + x1 * x1 * x1 * y2 * x3 * x3 * x3 + x1 * x1 * x1 * x2 * y3 - x1 * x1 * x1 * x2 * y3 * y3 * y3 + x1 * x1 * x1 * x2 * x3 * x3 * y3 + d * y1 * y2 * x3 * x3 * y3 * y3 * y3 + d * y1 * x2 * x3 * x3 * x3 * y3 * y3 + d * y1 * x2 * y2 * y2 * x3 * y3 * y3 + d * y1 * x2 * x2 * y2 * x3 * x3 * y3 - d * y1 * y1 * y1 * y2 * x3 * x3 * y3 * y3 * y3 - d * y1 * y1 * y1 * x2 * x3 * x3 * x3 * y3 * y3 - d * y1 * y1 * y1 * x2 * y2 * y2 * x3 * y3 * y3 - d * y1 * y1 * y1 * x2 * x2 * y2 * x3 * x3 * y3 + d * x1 * y2 * x3 * x3 * x3 * y3 * y3 + d * x1 * x2 * x3 * x3 * y3 * y3 * y3 - d * x1 * x2 * y2 * y2 * x3 * x3 * y3 - d * x1 * x2 * x2 * y2 * x3 * y3 * y3 - d * x1 * y1 * y1 * y2 * x3 * x3 * x3 * y3 * y3 - d * x1 * y1 * y1 * x2 * x3 * x3 * y3 * y3 * y3 + d * x1 * y1 * y1 * x2 * y2 * y2 * x3 * x3 * y3 + d * x1 * y1 * y1 * x2 * x2 * y2 * x3 * y3 * y3 + d * x1 * x1 * y1 * y2 * x3 * x3 * y3 * y3 * y3 + d * x1 * x1 * y1 * x2 * x3 * x3 * x3 * y3 * y3 + d * x1 * x1 * y1 * x2 * y2 * y2 * x3 * y3 * y3 + d * x1 * x1 * y1 * x2 * x2 * y2 * x3 * x3 * y3 + d * x1 * x1 * x1 * y2 * x3 * x3 * x3 * y3 * y3 + d * x1 * x1 * x1 * x2 * x3 * x3 * y3 * y3 * y3 - d * x1 * x1 * x1 * x2 * y2 * y2 * x3 * x3 * y3 - d * x1 * x1 * x1 * x2 * x2 * y2 * x3 * y3 * y3 + d * d * x1 * y1 * y1 * x2 * y2 * y2 * x3 * x3 * y3 * y3 * y3 - d * d * x1 * y1 * y1 * x2 * x2 * y2 * x3 * x3 * x3 * y3 * y3 - d * d * x1 * x1 * y1 * x2 * y2 * y2 * x3 * x3 * x3 * y3 * y3 + d * d * x1 * x1 * y1 * x2 * x2 * y2 * x3 * x3 * y3 * y3 * y3) * (y2 * y2 - x2 * x2 - 1 - d * x2 * x2 * y2 * y2) + (- y1 * y2 * y3 + y1 * y2 * y2 * y2 * y3 - y1 * x2 * x3 + y1 * x2 * y2 * y2 * x3 - y1 * x2 * x2 * y2 * y3 - y1 * x2 * x2 * x2 * x3 + y1 * y1 * y1 * y2 * y3 - y1 * y1 * y1 * y2 * y2 * y2 * y3 + y1 * y1 * y1 * x2 * x3 - y1 * y1 * y1 * x2 * y2 * y2 * x3 + y1 * y1 * y1 * x2 * x2 * y2 * y3 + y1 * y1 * y1 * x2 * x2 * x2 * x3 - x1 * y2 * x3 + x1 * y2 * y2 * y2 * x3 - x1 * x2 * y3 + x1 * x2 * y2 * y2 * y3 - x1 * x2 * x2 * y2 * x3 - x1 * x2 * x2 * x2 * y3 + x1 * y1 * y1 * y2 * x3 - x1 * y1 * y1 * y2 * y2 * y2 * x3 + x1 * y1 * y1 * x2 * y3 - x1 * y1 * y1 * x2 * y2 * y2 * y3 + x1 * y1 * y1 * x2 * x2 * y2 * x3 + x1 * y1 * y1 * x2 * x2 * x2 * y3 - x1 * x1 * y1 * y2 * y3 + x1 * x1 * y1 * y2 * y2 * y2 * y3 - x1 * x1 * y1 * x2 * x3 + x1 * x1 * y1 * x2 * y2 * y2 * x3 - x1 * x1 * y1 * x2 * x2 * y2 * y3 - x1 * x1 * y1 * x2 * x2 * x2 * x3 - x1 * x1 * x1 * y2 * x3 + x1 * x1 * x1 * y2 * y2 * y2 * x3 - x1 * x1 * x1 * x2 * y3 + x1 * x1 * x1 * x2 * y2 * y2 * y3 - x1 * x1 * x1 * x2 * x2 * y2 * x3 - x1 * x1 * x1 * x2 * x2 * x2 * y3 - d * x1 * y1 * y1 * x2 * y2 * y2 * y3 + d * x1 * y1 * y1 * x2 * x2 * y2 * x3 + d * x1 * x1 * y1 * x2 * y2 * y2 * x3 - d * x1 * x1 * y1 * x2 * x2 * y2 * y3) * (y3 * y3 - x3 * x3 - 1 - d * x3 * x3 * y3 * y3) := by grind
set_option maxHeartbeats 20000000 in
set_option maxRecDepth 100000 in
theorem idO (d x1 y1 x2 y2 : Int) :
    (y1 * y2 + x1 * x2) * (y1 * y2 + x1 * x2) * ((1 + d * x1 * x2 * y1 * y2) * (1 + d * x1 * x2 * y1 * y2)) - (x1 * y2 + y1 * x2) * (x1 * y2 + y1 * x2) * ((1 - d * x1 * x2 * y1 * y2) * (1 - d * x1 * x2 * y1 * y2)) - (1 + d * x1 * x2 * y1 * y2) * (1 + d * x1 * x2 * y1 * y2) * ((1 - d * x1 * x2 * y1 * y2) * (1 - d * x1 * x2 * y1 * y2)) - d * ((x1 * y2 + y1 * x2) * (x1 * y2 + y1 * x2)) * ((y1 * y2 + x1 * x2) * (y1 * y2 + x1 * x2))
    = (y2 * y2 * y2 * y2 - 4 * x2 * x2 * y2 * y2 + 2 * x2 * x2 * y2 * y2 * y2 * y2 + x2 * x2 * x2 * x2 - 2 * x2 * x2 * x2 * x2 * y2 * y2 - 2 * d * x2 * x2 * y2 * y2 - 2 * d * x2 * x2 * x2 * x2 * y2 * y2 * y2 * y2 - d * y1 * y1 * x2 * x2 * y2 * y2 * y2 * y2 + d * y1 * y1 * x2 * x2 * x2 * x2 * y2 * y2 + d * x1 * x1 * x2 * x2 * y2 * y2 * y2 * y2 - d * x1 * x1 * x2 * x2 * x2 * x2 * y2 * y2 - d * d * x2 * x2 * x2 * x2 * y2 * y2 * y2 * y2 + d * d * y1 * y1 * x2 * x2 * x2 * x2 * y2 * y2 * y2 * y2 - d * d * x1 * x1 * x2 * x2 * x2 * x2 * y2 * y2 * y2 * y2 + d * d * d * x1 * x1 * y1 * y1 * x2 * x2 * x2 * x2 * y2 * y2 * y2 * y2) * (y1 * y1 - x1 * x1 - 1 - d * x1 * x1 * y1 * y1) + (1 + y2 * y2 - x2 * x2 + 2 * x2 * x2 * y2 * y2 - y1 * y1 * y2 * y2 + y1 * y1 * x2 * x2 - 2 * y1 * y1 * x2 * x2 * y2 * y2 + x1 * x1 * y2 * y2 - x1 * x1 * x2 * x2 + 2 * x1 * x1 * x2 * x2 * y2 * y2 + d * x2 * x2 * y2 * y2 - 2 * d * y1 * y1 * x2 * x2 * y2 * y2 + d * y1 * y1 * y1 * y1 * x2 * x2 * y2 * y2 + 2 * d * x1 * x1 * x2 * x2 * y2 * y2 + d * x1 * x1 * x1 * x1 * x2 * x2 * y2 * y2) * (y2 * y2 - x2 * x2 - 1 - d * x2 * x2 * y2 * y2) := by grind

/-- The curve's number, and a root of -1. -/
def dd : Int := 37095705934669439343138083508754565189542113879843219016388785533085940283555
def ii : Int := 19681161376707505956807079304988542015446066515923890162744021073123829784752
theorem ii_sq : Zr (ii * ii + 1) := by unfold Zr ii pp; decide +kernel
theorem dd_not : ¬ Zr dd := by unfold Zr dd pp; decide +kernel
theorem one_not : ¬ Zr 1 := by unfold Zr pp; decide +kernel
theorem two_not : ¬ Zr 2 := by unfold Zr pp; decide +kernel
def hN : Nat := 28948022309329048855892746252171976963317496166410141009864396001978282409974
def hBits : List Bool := ones 250 ++ [false, true, true, false]
theorem hBits_num : bn hBits 0 = hN := by decide +kernel
theorem hN_two : hN + hN = pN - 1 := by decide +kernel
theorem dd_half : E (dd ^ hN) (-1) := by
  have h := ipow_eval 37095705934669439343138083508754565189542113879843219016388785533085940283555 57896044618658097711785492504343953926634992332820282019728792003956564819949 hN hBits hBits_num
  have e : ((37095705934669439343138083508754565189542113879843219016388785533085940283555 : Nat) : Int) = dd := rfl
  rw [e, ← pp_nat] at h
  exact h.trans (by unfold pp; decide +kernel)
/-- The curve's number is no square. -/
theorem no_root {a b : Int} (h : E (a * a) (dd * (b * b))) : Zr b := Classical.byContradiction fun hb => by
  by_cases ha : Zr a
  · have h1 : Zr (dd * (b * b)) := E.zr h.symm (ha.mulr a)
    rcases h1.or with h2 | h2
    · exact dd_not h2
    · exact h2.or.elim hb hb
  · have h1 := h.pow hN
    have e1 : (a * a) ^ hN = a ^ (pN - 1) := by rw [← hN_two, Int.pow_add, Int.mul_pow]
    have e2 : (dd * (b * b)) ^ hN = dd ^ hN * b ^ (pN - 1) := by rw [← hN_two, Int.pow_add, Int.mul_pow, Int.mul_pow]
    rw [e1, e2] at h1
    have h2 : E 1 (-1 * 1) := (E.symm (show E (a ^ (pN - 1)) 1 from (fermat_int ha).trans (by unfold pp; decide +kernel))).trans (h1.trans (dd_half.mul (show E (b ^ (pN - 1)) 1 from (fermat_int hb).trans (by unfold pp; decide +kernel))))
    exact absurd h2 (by unfold E pp; decide +kernel)

/-- What is nothing at a point of the curve. -/
def onE (x y : Int) : Int := y * y - x * x - 1 - dd * x * x * y * y
structure Pt where
  x : Int
  y : Int
  deriving DecidableEq
def Pt.On (p : Pt) : Prop := Zr (onE p.x p.y)
def Pt.Ok (p : Pt) : Prop := (0 ≤ p.x ∧ p.x < pp) ∧ (0 ≤ p.y ∧ p.y < pp)
/-- What makes a sum's divisors. -/
def prt (p q : Pt) : Int := dd * p.x * q.x * p.y * q.y
theorem id_root (d i x1 y1 x2 y2 s : Int) (hs : s * s = 1) : (i * x1 + s * (d * x1 * x2 * y1 * y2 * y1)) * (i * x1 + s * (d * x1 * x2 * y1 * y2 * y1)) - d * (x1 * y1 * (i * x2 + s * y2) * (x1 * y1 * (i * x2 + s * y2))) =
    (x1 * x1 - d * x1 * x1 * y1 * y1 * x2 * x2) * (i * i + 1) + (y1 * y1 - 1) * (d * x1 * x2 * y1 * y2 * (d * x1 * x2 * y1 * y2) - 1) + 1 * (y1 * y1 - x1 * x1 - 1 - d * x1 * x1 * y1 * y1) + (-(d * x1 * x1 * y1 * y1)) * (y2 * y2 - x2 * x2 - 1 - d * x2 * x2 * y2 * y2) := by grind
theorem prt_sq {p q : Pt} (hp : p.On) (hq : q.On) (h : Zr (prt p q * prt p q - 1)) : False := by
  have hn : ¬ Zr (prt p q) := fun h0 => one_not (by
    have := (h0.mulr (prt p q)).add h.neg
    rwa [show prt p q * prt p q + -(prt p q * prt p q - 1) = 1 by omega] at this)
  have k1 : Zr (p.x * p.y * (ii * q.x + 1 * q.y)) := no_root (Zr.to_E (Zr.comb4 (id_root dd ii p.x p.y q.x q.y 1 (by decide)) ii_sq h hp hq))
  have k2 : Zr (p.x * p.y * (ii * q.x + -1 * q.y)) := no_root (Zr.to_E (Zr.comb4 (id_root dd ii p.x p.y q.x q.y (-1) (by decide)) ii_sq h hp hq))
  have hx : ¬ Zr (p.x * p.y) := fun h0 => hn (by
    have := h0.mulr (dd * q.x * q.y)
    rwa [show dd * q.x * q.y * (p.x * p.y) = prt p q by unfold prt; grind] at this)
  have hy : ¬ Zr q.y := fun h0 => hn (by
    have := h0.mulr (dd * p.x * q.x * p.y)
    exact this)
  have j1 := k1.or.resolve_left hx
  have j2 := k2.or.resolve_left hx
  have j3 : Zr (2 * q.y) := by
    have := j1.add j2.neg
    rwa [show ii * q.x + 1 * q.y + -(ii * q.x + -1 * q.y) = 2 * q.y by omega] at this
  exact j3.or.elim two_not hy
theorem div_add {p q : Pt} (hp : p.On) (hq : q.On) : ¬ Zr (1 + prt p q) := fun h => prt_sq hp hq (by
  have := h.mulr (prt p q - 1)
  rwa [show (prt p q - 1) * (1 + prt p q) = prt p q * prt p q - 1 by grind] at this)
theorem div_sub {p q : Pt} (hp : p.On) (hq : q.On) : ¬ Zr (1 - prt p q) := fun h => prt_sq hp hq (by
  have := h.mulr (-(prt p q + 1))
  rwa [show -(prt p q + 1) * (1 - prt p q) = prt p q * prt p q - 1 by grind] at this)

/-- What makes 1 with a number. -/
def iv (a : Int) : Int := a ^ (pp - 2).toNat % pp
theorem iv_one {a : Int} (h : ¬ Zr a) : E (a * iv a) 1 := (inv_one h).trans (by unfold pp; decide +kernel)
/-- The sum. -/
def padd (p q : Pt) : Pt := ⟨(p.x * q.y + p.y * q.x) * iv (1 + prt p q) % pp, (p.y * q.y + p.x * q.x) * iv (1 - prt p q) % pp⟩
theorem padd_ok (p q : Pt) : (padd p q).Ok := ⟨emod_pp_lt _, emod_pp_lt _⟩
theorem prt_comm (p q : Pt) : prt p q = prt q p := by unfold prt; grind
theorem padd_comm (p q : Pt) : padd p q = padd q p := by
  unfold padd
  rw [prt_comm p q, show p.x * q.y + p.y * q.x = q.x * p.y + q.y * p.x by grind, show p.y * q.y + p.x * q.x = q.y * p.y + q.x * p.x by grind]
theorem div_E {a b : Int} (h : ¬ Zr b) : E (a * iv b % pp * b) a := by
  refine ((E.rest _).mul (E.rfl' b)).trans ?_
  have := (E.rfl' a).mul (iv_one h)
  rw [Int.mul_one] at this
  exact (E.of_eq (by grind)).trans this
theorem padd_x {p q : Pt} (hp : p.On) (hq : q.On) : Zr ((padd p q).x * (1 + prt p q) - (p.x * q.y + p.y * q.x)) := Zr.of_E (div_E (div_add hp hq))
theorem padd_y {p q : Pt} (hp : p.On) (hq : q.On) : Zr ((padd p q).y * (1 - prt p q) - (p.y * q.y + p.x * q.x)) := Zr.of_E (div_E (div_sub hp hq))
theorem id_on (d a b x y B D : Int) : B * B * (D * D) * (y * y - x * x - 1 - d * x * x * y * y) =
    (-(D * D) * (x * B + a) - d * (x * B + a) * (y * D * (y * D))) * (x * B - a) + (B * B * (y * D + b) - d * (a * a) * (y * D + b)) * (y * D - b) + 1 * (b * b * (B * B) - a * a * (D * D) - B * B * (D * D) - d * (a * a) * (b * b)) := by grind
theorem padd_on {p q : Pt} (hp : p.On) (hq : q.On) : (padd p q).On := by
  have hB := div_add hp hq
  have hD := div_sub hp hq
  have h1 := Zr.comb3 (id_on dd (p.x * q.y + p.y * q.x) (p.y * q.y + p.x * q.x) (padd p q).x (padd p q).y (1 + prt p q) (1 - prt p q)) (padd_x hp hq) (padd_y hp hq)
    (Zr.comb2 (idO dd p.x p.y q.x q.y) hp hq)
  exact h1.or.resolve_left (not_zr_mul (not_zr_mul hB hB) (not_zr_mul hD hD))

theorem id_mx (d rx ry a b A B C D x y t : Int) (ha : a = A) (hb : b = C) : t * (B * D + d * A * C * x * y) - (A * D * y + C * B * x) =
    B * D * (t * (1 + d * rx * x * ry * y) - (rx * y + ry * x)) + (D * y - t * d * x * y * C) * (rx * B - a) + (B * x - t * d * x * y * rx * B) * (ry * D - b) := by subst ha hb; grind
theorem id_my (d rx ry a b A B C D x y t : Int) (ha : a = A) (hb : b = C) : t * (B * D - d * A * C * x * y) - (C * B * y + A * D * x) =
    B * D * (t * (1 - d * rx * x * ry * y) - (ry * y + rx * x)) + (D * x + t * d * x * y * C) * (rx * B - a) + (B * y + t * d * x * y * rx * B) * (ry * D - b) := by subst ha hb; grind
theorem id_l (d rx ry a b B D x y : Int) : B * D + d * a * b * x * y - B * D * (1 + d * rx * x * ry * y) = (-(d * b * x * y)) * (rx * B - a) + (-(d * rx * B * x * y)) * (ry * D - b) := by grind
theorem id_l' (d rx ry a b B D x y : Int) : B * D - d * a * b * x * y - B * D * (1 - d * rx * x * ry * y) = (d * b * x * y) * (rx * B - a) + (d * rx * B * x * y) * (ry * D - b) := by grind
section
variable {p q r : Pt}
def lx (p q r : Pt) : Int := (1 + prt p q) * (1 - prt p q) + dd * (p.x * q.y + p.y * q.x) * (p.y * q.y + p.x * q.x) * r.x * r.y
def ly (p q r : Pt) : Int := (1 + prt p q) * (1 - prt p q) - dd * (p.x * q.y + p.y * q.x) * (p.y * q.y + p.x * q.x) * r.x * r.y
def mx (p q r : Pt) : Int := (p.x * q.y + p.y * q.x) * (1 - prt p q) * r.y + (p.y * q.y + p.x * q.x) * (1 + prt p q) * r.x
def my (p q r : Pt) : Int := (p.y * q.y + p.x * q.x) * (1 + prt p q) * r.y + (p.x * q.y + p.y * q.x) * (1 - prt p q) * r.x
theorem three_x (hp : p.On) (hq : q.On) (hr : r.On) : Zr ((padd (padd p q) r).x * lx p q r - mx p q r) :=
  Zr.comb3 (id_mx dd (padd p q).x (padd p q).y _ _ (p.x * q.y + p.y * q.x) (1 + prt p q) (p.y * q.y + p.x * q.x) (1 - prt p q) r.x r.y (padd (padd p q) r).x rfl rfl) (padd_x (padd_on hp hq) hr) (padd_x hp hq) (padd_y hp hq)
theorem three_y (hp : p.On) (hq : q.On) (hr : r.On) : Zr ((padd (padd p q) r).y * ly p q r - my p q r) :=
  Zr.comb3 (id_my dd (padd p q).x (padd p q).y _ _ (p.x * q.y + p.y * q.x) (1 + prt p q) (p.y * q.y + p.x * q.x) (1 - prt p q) r.x r.y (padd (padd p q) r).y rfl rfl) (padd_y (padd_on hp hq) hr) (padd_x hp hq) (padd_y hp hq)
theorem lx_not (hp : p.On) (hq : q.On) (hr : r.On) : ¬ Zr (lx p q r) := fun h => by
  have h1 : Zr (lx p q r - (1 + prt p q) * (1 - prt p q) * (1 + prt (padd p q) r)) := Zr.comb2 (id_l dd (padd p q).x (padd p q).y (p.x * q.y + p.y * q.x) (p.y * q.y + p.x * q.x) (1 + prt p q) (1 - prt p q) r.x r.y) (padd_x hp hq) (padd_y hp hq)
  exact not_zr_mul (not_zr_mul (div_add hp hq) (div_sub hp hq)) (div_add (padd_on hp hq) hr) (E.zr (Zr.to_E h1).symm h)
theorem ly_not (hp : p.On) (hq : q.On) (hr : r.On) : ¬ Zr (ly p q r) := fun h => by
  have h1 : Zr (ly p q r - (1 + prt p q) * (1 - prt p q) * (1 - prt (padd p q) r)) := Zr.comb2 (id_l' dd (padd p q).x (padd p q).y (p.x * q.y + p.y * q.x) (p.y * q.y + p.x * q.x) (1 + prt p q) (1 - prt p q) r.x r.y) (padd_x hp hq) (padd_y hp hq)
  exact not_zr_mul (not_zr_mul (div_add hp hq) (div_sub hp hq)) (div_sub (padd_on hp hq) hr) (E.zr (Zr.to_E h1).symm h)
theorem eq_of_E {a b : Int} (ha : 0 ≤ a ∧ a < pp) (hb : 0 ≤ b ∧ b < pp) (h : E a b) : a = b := by
  have : a % pp = b % pp := h
  rwa [Int.emod_eq_of_lt ha.1 ha.2, Int.emod_eq_of_lt hb.1 hb.2] at this
theorem cross_eq {t u l m l' m' : Int} (h1 : Zr (t * l - m)) (h2 : Zr (u * l' - m')) (h : Zr (m * l' - m' * l)) (hl : ¬ Zr l) (hl' : ¬ Zr l') : E t u := by
  have k : Zr (l * l' * (t - u)) := Zr.comb3 (c1 := l') (c2 := -l) (c3 := 1) (by grind) h1 h2 h
  exact Zr.to_E (k.or.resolve_left (not_zr_mul hl hl'))
theorem padd_turn (hp : p.On) (hq : q.On) (hr : r.On) : padd (padd p q) r = padd (padd q r) p := by
  have hx : (padd (padd p q) r).x = (padd (padd q r) p).x := eq_of_E (padd_ok _ _).1 (padd_ok _ _).1
    (cross_eq (three_x hp hq hr) (three_x hq hr hp) (Zr.comb3 (idX dd p.x p.y q.x q.y r.x r.y) hp hq hr) (lx_not hp hq hr) (lx_not hq hr hp))
  have hy : (padd (padd p q) r).y = (padd (padd q r) p).y := eq_of_E (padd_ok _ _).2 (padd_ok _ _).2
    (cross_eq (three_y hp hq hr) (three_y hq hr hp) (Zr.comb3 (idY dd p.x p.y q.x q.y r.x r.y) hp hq hr) (ly_not hp hq hr) (ly_not hq hr hp))
  generalize padd (padd p q) r = a at *
  generalize padd (padd q r) p = b at *
  cases a; cases b
  simp only at hx hy
  rw [hx, hy]
/-- Points are added in whatever order. -/
theorem padd_assoc (hp : p.On) (hq : q.On) (hr : r.On) : padd (padd p q) r = padd p (padd q r) := by rw [padd_turn hp hq hr, padd_comm]
end
end Go.Proofs.YtefaihdhnnldmaaDoor
