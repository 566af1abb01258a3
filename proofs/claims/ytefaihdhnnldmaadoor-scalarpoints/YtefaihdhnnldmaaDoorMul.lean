/- What field.addTimes and field.Mul do. -/
import Derived.Test.YtefaihdhnnldmaaDoorMulw
import Derived.Test.YtefaihdhnnldmaaDoorSettle
namespace Go.Proofs.YtefaihdhnnldmaaDoor
open Go.RowKit
set_option maxRecDepth 20000

/-- A package-level number of four words stands in memory. -/
structure GCell (b : Nat) (N : Int) (w : World) : Prop where
  lt : b < w.heap.size
  c0 : w.cell? ⟨b, 0, none⟩ = some (.int .u64 (w0 N))
  c1 : w.cell? ⟨b, 1, none⟩ = some (.int .u64 (w1 N))
  c2 : w.cell? ⟨b, 2, none⟩ = some (.int .u64 (w2 N))
  c3 : w.cell? ⟨b, 3, none⟩ = some (.int .u64 (w3 N))
theorem GCell.below {b : Nat} {N : Int} {w w' : World} (h : GCell b N w) (hb : Below w.heap.size w w') : GCell b N w' := by
  obtain ⟨l, c0, c1, c2, c3⟩ := h
  refine ⟨Nat.lt_of_lt_of_le l hb.size, ?_, ?_, ?_, ?_⟩ <;> rw [hb.cell (p := ⟨b, _, none⟩) l] <;> assumption
theorem settle_g (a b c d o : Int) (w : World) (ha : Word a) (hb : Word b) (hc : Word c) (hd : Word d) (ho0 : 0 ≤ o) (ho : o ≤ 38) (hG : GCell 3 pp w) :
    Calls Tryd.prog 68 #[.int .u64 a, .int .u64 b, .int .u64 c, .int .u64 d, .int .u64 o] w fun e w' =>
      e = .returned (feV ((val a b c d + 115792089237316195423570985008687907853269984665640564039457584007913129639936 * o) % pp)) ∧ Below w.heap.size w w' :=
  settle_any a b c d o w ha hb hc hd ho0 ho hG.lt hG.c0 hG.c1 hG.c2 hG.c3

def w4 (n : Int) : Int := n / 115792089237316195423570985008687907853269984665640564039457584007913129639936
def sT (a b c d x0 x1 x2 x3 n : Int) : Int := val a b c d + val x0 x1 x2 x3 * n

theorem addTimes_math (a b c d x0 x1 x2 x3 n : Int) :
    maL x0 n a 0 = w0 (sT a b c d x0 x1 x2 x3 n) ∧ maL x1 n b (maH x0 n a 0) = w1 (sT a b c d x0 x1 x2 x3 n) ∧
    maL x2 n c (maH x1 n b (maH x0 n a 0)) = w2 (sT a b c d x0 x1 x2 x3 n) ∧ maL x3 n d (maH x2 n c (maH x1 n b (maH x0 n a 0))) = w3 (sT a b c d x0 x1 x2 x3 n) ∧
    maH x3 n d (maH x2 n c (maH x1 n b (maH x0 n a 0))) = w4 (sT a b c d x0 x1 x2 x3 n) := by
  have e0 := ma_eq x0 n a 0
  have e1 := ma_eq x1 n b (maH x0 n a 0)
  have e2 := ma_eq x2 n c (maH x1 n b (maH x0 n a 0))
  have e3 := ma_eq x3 n d (maH x2 n c (maH x1 n b (maH x0 n a 0)))
  have k0 := maL_word x0 n a 0
  have k1 := maL_word x1 n b (maH x0 n a 0)
  have k2 := maL_word x2 n c (maH x1 n b (maH x0 n a 0))
  have k3 := maL_word x3 n d (maH x2 n c (maH x1 n b (maH x0 n a 0)))
  generalize maH x3 n d (maH x2 n c (maH x1 n b (maH x0 n a 0))) = h3 at *
  generalize maL x3 n d (maH x2 n c (maH x1 n b (maH x0 n a 0))) = l3 at *
  generalize maH x2 n c (maH x1 n b (maH x0 n a 0)) = h2 at *
  generalize maL x2 n c (maH x1 n b (maH x0 n a 0)) = l2 at *
  generalize maH x1 n b (maH x0 n a 0) = h1 at *
  generalize maL x1 n b (maH x0 n a 0) = l1 at *
  generalize maH x0 n a 0 = h0 at *
  generalize maL x0 n a 0 = l0 at *
  have es : sT a b c d x0 x1 x2 x3 n = a + 18446744073709551616 * b + 340282366920938463463374607431768211456 * c + 6277101735386680763835789423207666416102355444464034512896 * d + (x0 * n + 18446744073709551616 * (x1 * n) + 340282366920938463463374607431768211456 * (x2 * n) + 6277101735386680763835789423207666416102355444464034512896 * (x3 * n)) := by
    unfold sT val; rw [Int.add_mul, Int.add_mul, Int.add_mul, Int.mul_assoc, Int.mul_assoc, Int.mul_assoc]
  rw [es]
  generalize x0 * n = p0 at *
  generalize x1 * n = p1 at *
  generalize x2 * n = p2 at *
  generalize x3 * n = p3 at *
  unfold Word w0 w1 w2 w3 w4 at *
  refine ⟨by omega, by omega, by omega, by omega, by omega⟩

set_option maxHeartbeats 400000 in
theorem addTimes_raw (a b c d x0 x1 x2 x3 n : Int) (w : World) (ha : Word a) (hb : Word b) (hc : Word c) (hd : Word d) (hx0 : Word x0) (hx1 : Word x1) (hx2 : Word x2) (hx3 : Word x3) (hn : Word n) :
    Calls Tryd.prog 69 #[.int .u64 a, .int .u64 b, .int .u64 c, .int .u64 d, .agg #[.int .u64 x0, .int .u64 x1, .int .u64 x2, .int .u64 x3], .int .u64 n] w fun e w' =>
      e = .returned (.tuple #[.int .u64 (w0 (sT a b c d x0 x1 x2 x3 n)), .int .u64 (w1 (sT a b c d x0 x1 x2 x3 n)), .int .u64 (w2 (sT a b c d x0 x1 x2 x3 n)), .int .u64 (w3 (sT a b c d x0 x1 x2 x3 n)), .int .u64 (w4 (sT a b c d x0 x1 x2 x3 n))]) ∧ Below w.heap.size w w' := by
  have k0 := maH_word hx0 hn ha word0
  have k1 := maH_word hx1 hn hb k0
  have k2 := maH_word hx2 hn hc k1
  have M := Lib.hid (addTimes_math a b c d x0 x1 x2 x3 n)
  go_enter Tryd.func69, Tryd.ntmps69
  go_wp2_with (go_at_call 76; refine (mulAdd_any _ _ _ _ _ (by first | exact word0 | exact w0_word _ | exact w1_word _ | exact w2_word _ | exact w3_word _ | exact adW_word _ _ _ | exact sbW_word _ _ _ | assumption) (by first | exact word0 | exact w0_word _ | exact w1_word _ | exact w2_word _ | exact w3_word _ | exact adW_word _ _ _ | exact sbW_word _ _ _ | assumption) (by first | exact word0 | exact w0_word _ | exact w1_word _ | exact w2_word _ | exact w3_word _ | exact adW_word _ _ _ | exact sbW_word _ _ _ | assumption) (by first | exact word0 | exact w0_word _ | exact w1_word _ | exact w2_word _ | exact w3_word _ | exact adW_word _ _ _ | exact sbW_word _ _ _ | assumption)).mono ?_; rintro e w' ⟨rfl, rfl⟩)
  refine bodyPost_ret (v := .tuple #[.int .u64 (maL x0 n a 0), .int .u64 (maL x1 n b (maH x0 n a 0)), .int .u64 (maL x2 n c (maH x1 n b (maH x0 n a 0))), .int .u64 (maL x3 n d (maH x2 n c (maH x1 n b (maH x0 n a 0)))), .int .u64 (maH x3 n d (maH x2 n c (maH x1 n b (maH x0 n a 0))))]) (by simp [results, Tryd.results69, go_sem]) rfl ⟨?_, ?_⟩
  · obtain ⟨m0, m1, m2, m3, m4⟩ := M.out
    rw [m0, m1, m2, m3, m4]
  · repeat' (first | exact Below.refl _ _ | assumption | refine Below.setCell ?_ ?_ _ | refine Below.alloc ?_ ?_ _ | refine Below.drew ?_ | refine Below.trans ?_ (Below.mono (by assumption) ?_) | (simp; done) | (simp; omega))

theorem w4_word {a b c d x0 x1 x2 x3 n : Int} (ha : Word a) (hb : Word b) (hc : Word c) (hd : Word d) (hx0 : Word x0) (hx1 : Word x1) (hx2 : Word x2) (hx3 : Word x3) (hn : Word n) : Word (w4 (sT a b c d x0 x1 x2 x3 n)) := by
  have h := (addTimes_math a b c d x0 x1 x2 x3 n).2.2.2.2
  rw [← h]
  exact maH_word hx3 hn hd (maH_word hx2 hn hc (maH_word hx1 hn hb (maH_word hx0 hn ha word0)))
theorem val_shift (T : Int) : val (w1 T) (w2 T) (w3 T) (w4 T) = T / 18446744073709551616 := by
  unfold val w1 w2 w3 w4; omega

/-- What the five calls of addTimes make of two numbers: the rest of their product is that of the last. -/
theorem mul_math {X Y T0 T1 T2 T3 S : Int} (hX : Num X) (hY : Num Y)
    (h0 : sT 0 0 0 0 (w0 X) (w1 X) (w2 X) (w3 X) (w0 Y) = T0) (h1 : sT (w1 T0) (w2 T0) (w3 T0) (w4 T0) (w0 X) (w1 X) (w2 X) (w3 X) (w1 Y) = T1)
    (h2 : sT (w1 T1) (w2 T1) (w3 T1) (w4 T1) (w0 X) (w1 X) (w2 X) (w3 X) (w2 Y) = T2) (h3 : sT (w1 T2) (w2 T2) (w3 T2) (w4 T2) (w0 X) (w1 X) (w2 X) (w3 X) (w3 Y) = T3)
    (hS : sT (w0 T0) (w0 T1) (w0 T2) (w0 T3) (w1 T3) (w2 T3) (w3 T3) (w4 T3) 38 = S)
    (k3 : Word (w4 T3)) :
    0 ≤ w4 S ∧ w4 S ≤ 38 ∧ (val (w0 S) (w1 S) (w2 S) (w3 S) + 115792089237316195423570985008687907853269984665640564039457584007913129639936 * w4 S) % pp = X * Y % pp := by
  have eY := val_w hY
  unfold sT at h0 h1 h2 h3 hS
  rw [val_w hX] at h0 h1 h2 h3
  rw [val_shift T0] at h1
  rw [val_shift T1] at h2
  rw [val_shift T2] at h3
  rw [val_shift T3] at hS
  have b3 : 0 ≤ T3 / 18446744073709551616 ∧ T3 / 18446744073709551616 < 115792089237316195423570985008687907853269984665640564039457584007913129639936 := by
    have := val_num (w1_word T3) (w2_word T3) (w3_word T3) k3
    rw [val_shift T3] at this; exact this
  have bl := val_num (w0_word T0) (w0_word T1) (w0_word T2) (w0_word T3)
  have eXY : X * Y = val (w0 T0) (w0 T1) (w0 T2) (w0 T3) + 115792089237316195423570985008687907853269984665640564039457584007913129639936 * (T3 / 18446744073709551616) := by
    have e : X * Y = X * w0 Y + 18446744073709551616 * (X * w1 Y) + 340282366920938463463374607431768211456 * (X * w2 Y) + 6277101735386680763835789423207666416102355444464034512896 * (X * w3 Y) := by
      conv => lhs; rw [← eY]
      unfold val
      rw [Int.mul_add, Int.mul_add, Int.mul_add, Int.mul_left_comm X 18446744073709551616, Int.mul_left_comm X 340282366920938463463374607431768211456, Int.mul_left_comm X 6277101735386680763835789423207666416102355444464034512896]
    rw [e]
    generalize X * w0 Y = p0 at *
    generalize X * w1 Y = p1 at *
    generalize X * w2 Y = p2 at *
    generalize X * w3 Y = p3 at *
    clear e eY
    have z : val 0 0 0 0 = 0 := by unfold val; omega
    rw [z] at h0
    unfold val w0
    omega
  have nS : 0 ≤ S := by have := bl.1; omega
  have w4S : w4 S ≤ 38 := by unfold w4; unfold Num at bl; omega
  have w4n : 0 ≤ w4 S := by unfold w4; omega
  refine ⟨w4n, w4S, ?_⟩
  have eS : val (w0 S) (w1 S) (w2 S) (w3 S) + 115792089237316195423570985008687907853269984665640564039457584007913129639936 * w4 S = S := by unfold val w0 w1 w2 w3 w4; omega
  rw [eS, eXY]
  have : val (w0 T0) (w0 T1) (w0 T2) (w0 T3) + 115792089237316195423570985008687907853269984665640564039457584007913129639936 * (T3 / 18446744073709551616) = S + pp * (2 * (T3 / 18446744073709551616)) := by
    rw [← hS]; unfold pp; omega
  rw [this, Int.add_mul_emod_self_left]

/-- Two numbers in blocks of their own, and room for a third: what stays so while others make memory. -/
structure Box2 (w : World) (X Y : Int) (u : World) : Prop where
  bl : Below w.heap.size w u
  l0 : w.heap.size < u.heap.size
  l1 : w.heap.size + 1 < u.heap.size
  l2 : w.heap.size + 1 + 1 < u.heap.size
  x0 : u.cell? ⟨w.heap.size, 0, none⟩ = some (.int .u64 (w0 X))
  x1 : u.cell? ⟨w.heap.size, 1, none⟩ = some (.int .u64 (w1 X))
  x2 : u.cell? ⟨w.heap.size, 2, none⟩ = some (.int .u64 (w2 X))
  x3 : u.cell? ⟨w.heap.size, 3, none⟩ = some (.int .u64 (w3 X))
  y0 : u.cell? ⟨w.heap.size + 1, 0, none⟩ = some (.int .u64 (w0 Y))
  y1 : u.cell? ⟨w.heap.size + 1, 1, none⟩ = some (.int .u64 (w1 Y))
  y2 : u.cell? ⟨w.heap.size + 1, 2, none⟩ = some (.int .u64 (w2 Y))
  y3 : u.cell? ⟨w.heap.size + 1, 3, none⟩ = some (.int .u64 (w3 Y))
  r0 : u.cell? ⟨w.heap.size + 1 + 1, 0, none⟩ = some (.int .u64 0)
  r1 : u.cell? ⟨w.heap.size + 1 + 1, 1, none⟩ = some (.int .u64 0)
  r2 : u.cell? ⟨w.heap.size + 1 + 1, 2, none⟩ = some (.int .u64 0)
  r3 : u.cell? ⟨w.heap.size + 1 + 1, 3, none⟩ = some (.int .u64 0)
  f0 : u.frozen? ⟨w.heap.size + 1 + 1, 0, none⟩ = false
  f1 : u.frozen? ⟨w.heap.size + 1 + 1, 1, none⟩ = false
  f2 : u.frozen? ⟨w.heap.size + 1 + 1, 2, none⟩ = false
  f3 : u.frozen? ⟨w.heap.size + 1 + 1, 3, none⟩ = false
theorem Box2.start (w : World) (X Y : Int) : Box2 w X Y (((w.alloc (.cells #[.int .u64 (w0 X), .int .u64 (w1 X), .int .u64 (w2 X), .int .u64 (w3 X)] 40)).alloc (.cells #[.int .u64 (w0 Y), .int .u64 (w1 Y), .int .u64 (w2 Y), .int .u64 (w3 Y)] 40)).alloc (.cells #[.int .u64 0, .int .u64 0, .int .u64 0, .int .u64 0] 40)) := by
  constructor
  · repeat' (first | exact Below.refl _ _ | assumption | refine Below.setCell ?_ ?_ _ | refine Below.alloc ?_ ?_ _ | refine Below.drew ?_ | refine Below.trans ?_ (Below.mono (by assumption) ?_) | (simp; done) | (simp; omega))
  all_goals simp [go_sem]
theorem Box2.next {w u u' : World} {X Y : Int} (h : Box2 w X Y u) (hb : Below u.heap.size u u') : Box2 w X Y u' := by
  obtain ⟨bl, l0, l1, l2, x0, x1, x2, x3, y0, y1, y2, y3, r0, r1, r2, r3, f0, f1, f2, f3⟩ := h
  have hs := hb.size
  refine ⟨bl.trans (hb.mono bl.size), Nat.lt_of_lt_of_le l0 hs, Nat.lt_of_lt_of_le l1 hs, Nat.lt_of_lt_of_le l2 hs, ?_, ?_, ?_, ?_, ?_, ?_, ?_, ?_, ?_, ?_, ?_, ?_, ?_, ?_, ?_, ?_⟩
  · rw [hb.cell (p := ⟨w.heap.size, 0, none⟩) l0]; exact x0
  · rw [hb.cell (p := ⟨w.heap.size, 1, none⟩) l0]; exact x1
  · rw [hb.cell (p := ⟨w.heap.size, 2, none⟩) l0]; exact x2
  · rw [hb.cell (p := ⟨w.heap.size, 3, none⟩) l0]; exact x3
  · rw [hb.cell (p := ⟨w.heap.size + 1, 0, none⟩) l1]; exact y0
  · rw [hb.cell (p := ⟨w.heap.size + 1, 1, none⟩) l1]; exact y1
  · rw [hb.cell (p := ⟨w.heap.size + 1, 2, none⟩) l1]; exact y2
  · rw [hb.cell (p := ⟨w.heap.size + 1, 3, none⟩) l1]; exact y3
  · rw [hb.cell (p := ⟨w.heap.size + 1 + 1, 0, none⟩) l2]; exact r0
  · rw [hb.cell (p := ⟨w.heap.size + 1 + 1, 1, none⟩) l2]; exact r1
  · rw [hb.cell (p := ⟨w.heap.size + 1 + 1, 2, none⟩) l2]; exact r2
  · rw [hb.cell (p := ⟨w.heap.size + 1 + 1, 3, none⟩) l2]; exact r3
  · rw [hb.frozen (p := ⟨w.heap.size + 1 + 1, 0, none⟩) l2]; exact f0
  · rw [hb.frozen (p := ⟨w.heap.size + 1 + 1, 1, none⟩) l2]; exact f1
  · rw [hb.frozen (p := ⟨w.heap.size + 1 + 1, 2, none⟩) l2]; exact f2
  · rw [hb.frozen (p := ⟨w.heap.size + 1 + 1, 3, none⟩) l2]; exact f3

set_option maxHeartbeats 1000000 in
/-- Mul: the rest of the product. -/
theorem mul_any (X Y : Int) (w : World) (hX : Num X) (hY : Num Y) (hG : GCell 3 pp w) :
    Calls Tryd.prog 52 #[feV X, feV Y] w fun e w' => e = .returned (feV (X * Y % pp)) ∧ Below w.heap.size w w' := by
  have B := Lib.hid (Box2.start w X Y)
  go_enter Tryd.func52, Tryd.ntmps52
  go_wp2_with fail
  refine (addTimes_raw _ _ _ _ _ _ _ _ _ _ (by first | exact word0 | exact w0_word _ | exact w1_word _ | exact w2_word _ | exact w3_word _ | exact adW_word _ _ _ | exact sbW_word _ _ _ | assumption) (by first | exact word0 | exact w0_word _ | exact w1_word _ | exact w2_word _ | exact w3_word _ | exact adW_word _ _ _ | exact sbW_word _ _ _ | assumption) (by first | exact word0 | exact w0_word _ | exact w1_word _ | exact w2_word _ | exact w3_word _ | exact adW_word _ _ _ | exact sbW_word _ _ _ | assumption) (by first | exact word0 | exact w0_word _ | exact w1_word _ | exact w2_word _ | exact w3_word _ | exact adW_word _ _ _ | exact sbW_word _ _ _ | assumption) (by first | exact word0 | exact w0_word _ | exact w1_word _ | exact w2_word _ | exact w3_word _ | exact adW_word _ _ _ | exact sbW_word _ _ _ | assumption) (by first | exact word0 | exact w0_word _ | exact w1_word _ | exact w2_word _ | exact w3_word _ | exact adW_word _ _ _ | exact sbW_word _ _ _ | assumption) (by first | exact word0 | exact w0_word _ | exact w1_word _ | exact w2_word _ | exact w3_word _ | exact adW_word _ _ _ | exact sbW_word _ _ _ | assumption) (by first | exact word0 | exact w0_word _ | exact w1_word _ | exact w2_word _ | exact w3_word _ | exact adW_word _ _ _ | exact sbW_word _ _ _ | assumption) (by first | exact word0 | exact w0_word _ | exact w1_word _ | exact w2_word _ | exact w3_word _ | exact adW_word _ _ _ | exact sbW_word _ _ _ | assumption)).mono ?_
  rintro e u ⟨rfl, hb⟩
  have k0 := w4_word word0 word0 word0 word0 (w0_word X) (w1_word X) (w2_word X) (w3_word X) (w0_word Y)
  generalize e0 : sT 0 0 0 0 (w0 X) (w1 X) (w2 X) (w3 X) (w0 Y) = T0 at *
  have E0 := Lib.hid e0; clear e0
  replace B := Lib.hid (B.out.next hb); obtain ⟨bl, l0, l1, l2, x0, x1, x2, x3, y0, y1, y2, y3, r0, r1, r2, r3, f0, f1, f2, f3⟩ := B.out; clear hb
  go_wp2_with fail
  refine (addTimes_raw _ _ _ _ _ _ _ _ _ _ (by first | exact word0 | exact w0_word _ | exact w1_word _ | exact w2_word _ | exact w3_word _ | exact adW_word _ _ _ | exact sbW_word _ _ _ | assumption) (by first | exact word0 | exact w0_word _ | exact w1_word _ | exact w2_word _ | exact w3_word _ | exact adW_word _ _ _ | exact sbW_word _ _ _ | assumption) (by first | exact word0 | exact w0_word _ | exact w1_word _ | exact w2_word _ | exact w3_word _ | exact adW_word _ _ _ | exact sbW_word _ _ _ | assumption) (by first | exact word0 | exact w0_word _ | exact w1_word _ | exact w2_word _ | exact w3_word _ | exact adW_word _ _ _ | exact sbW_word _ _ _ | assumption) (by first | exact word0 | exact w0_word _ | exact w1_word _ | exact w2_word _ | exact w3_word _ | exact adW_word _ _ _ | exact sbW_word _ _ _ | assumption) (by first | exact word0 | exact w0_word _ | exact w1_word _ | exact w2_word _ | exact w3_word _ | exact adW_word _ _ _ | exact sbW_word _ _ _ | assumption) (by first | exact word0 | exact w0_word _ | exact w1_word _ | exact w2_word _ | exact w3_word _ | exact adW_word _ _ _ | exact sbW_word _ _ _ | assumption) (by first | exact word0 | exact w0_word _ | exact w1_word _ | exact w2_word _ | exact w3_word _ | exact adW_word _ _ _ | exact sbW_word _ _ _ | assumption) (by first | exact word0 | exact w0_word _ | exact w1_word _ | exact w2_word _ | exact w3_word _ | exact adW_word _ _ _ | exact sbW_word _ _ _ | assumption)).mono ?_
  clear bl l0 l1 l2 x0 x1 x2 x3 y0 y1 y2 y3 r0 r1 r2 r3 f0 f1 f2 f3
  rintro e u ⟨rfl, hb⟩
  have k1 := w4_word (w1_word T0) (w2_word T0) (w3_word T0) k0 (w0_word X) (w1_word X) (w2_word X) (w3_word X) (w1_word Y)
  generalize e0 : sT (w1 T0) (w2 T0) (w3 T0) (w4 T0) (w0 X) (w1 X) (w2 X) (w3 X) (w1 Y) = T1 at *
  have E1 := Lib.hid e0; clear e0
  replace B := Lib.hid (B.out.next hb); obtain ⟨bl, l0, l1, l2, x0, x1, x2, x3, y0, y1, y2, y3, r0, r1, r2, r3, f0, f1, f2, f3⟩ := B.out; clear hb
  go_wp2_with fail
  refine (addTimes_raw _ _ _ _ _ _ _ _ _ _ (by first | exact word0 | exact w0_word _ | exact w1_word _ | exact w2_word _ | exact w3_word _ | exact adW_word _ _ _ | exact sbW_word _ _ _ | assumption) (by first | exact word0 | exact w0_word _ | exact w1_word _ | exact w2_word _ | exact w3_word _ | exact adW_word _ _ _ | exact sbW_word _ _ _ | assumption) (by first | exact word0 | exact w0_word _ | exact w1_word _ | exact w2_word _ | exact w3_word _ | exact adW_word _ _ _ | exact sbW_word _ _ _ | assumption) (by first | exact word0 | exact w0_word _ | exact w1_word _ | exact w2_word _ | exact w3_word _ | exact adW_word _ _ _ | exact sbW_word _ _ _ | assumption) (by first | exact word0 | exact w0_word _ | exact w1_word _ | exact w2_word _ | exact w3_word _ | exact adW_word _ _ _ | exact sbW_word _ _ _ | assumption) (by first | exact word0 | exact w0_word _ | exact w1_word _ | exact w2_word _ | exact w3_word _ | exact adW_word _ _ _ | exact sbW_word _ _ _ | assumption) (by first | exact word0 | exact w0_word _ | exact w1_word _ | exact w2_word _ | exact w3_word _ | exact adW_word _ _ _ | exact sbW_word _ _ _ | assumption) (by first | exact word0 | exact w0_word _ | exact w1_word _ | exact w2_word _ | exact w3_word _ | exact adW_word _ _ _ | exact sbW_word _ _ _ | assumption) (by first | exact word0 | exact w0_word _ | exact w1_word _ | exact w2_word _ | exact w3_word _ | exact adW_word _ _ _ | exact sbW_word _ _ _ | assumption)).mono ?_
  clear bl l0 l1 l2 x0 x1 x2 x3 y0 y1 y2 y3 r0 r1 r2 r3 f0 f1 f2 f3
  rintro e u ⟨rfl, hb⟩
  have k2 := w4_word (w1_word T1) (w2_word T1) (w3_word T1) k1 (w0_word X) (w1_word X) (w2_word X) (w3_word X) (w2_word Y)
  generalize e0 : sT (w1 T1) (w2 T1) (w3 T1) (w4 T1) (w0 X) (w1 X) (w2 X) (w3 X) (w2 Y) = T2 at *
  have E2 := Lib.hid e0; clear e0
  replace B := Lib.hid (B.out.next hb); obtain ⟨bl, l0, l1, l2, x0, x1, x2, x3, y0, y1, y2, y3, r0, r1, r2, r3, f0, f1, f2, f3⟩ := B.out; clear hb
  go_wp2_with fail
  refine (addTimes_raw _ _ _ _ _ _ _ _ _ _ (by first | exact word0 | exact w0_word _ | exact w1_word _ | exact w2_word _ | exact w3_word _ | exact adW_word _ _ _ | exact sbW_word _ _ _ | assumption) (by first | exact word0 | exact w0_word _ | exact w1_word _ | exact w2_word _ | exact w3_word _ | exact adW_word _ _ _ | exact sbW_word _ _ _ | assumption) (by first | exact word0 | exact w0_word _ | exact w1_word _ | exact w2_word _ | exact w3_word _ | exact adW_word _ _ _ | exact sbW_word _ _ _ | assumption) (by first | exact word0 | exact w0_word _ | exact w1_word _ | exact w2_word _ | exact w3_word _ | exact adW_word _ _ _ | exact sbW_word _ _ _ | assumption) (by first | exact word0 | exact w0_word _ | exact w1_word _ | exact w2_word _ | exact w3_word _ | exact adW_word _ _ _ | exact sbW_word _ _ _ | assumption) (by first | exact word0 | exact w0_word _ | exact w1_word _ | exact w2_word _ | exact w3_word _ | exact adW_word _ _ _ | exact sbW_word _ _ _ | assumption) (by first | exact word0 | exact w0_word _ | exact w1_word _ | exact w2_word _ | exact w3_word _ | exact adW_word _ _ _ | exact sbW_word _ _ _ | assumption) (by first | exact word0 | exact w0_word _ | exact w1_word _ | exact w2_word _ | exact w3_word _ | exact adW_word _ _ _ | exact sbW_word _ _ _ | assumption) (by first | exact word0 | exact w0_word _ | exact w1_word _ | exact w2_word _ | exact w3_word _ | exact adW_word _ _ _ | exact sbW_word _ _ _ | assumption)).mono ?_
  clear bl l0 l1 l2 x0 x1 x2 x3 y0 y1 y2 y3 r0 r1 r2 r3 f0 f1 f2 f3
  rintro e u ⟨rfl, hb⟩
  have k3 := w4_word (w1_word T2) (w2_word T2) (w3_word T2) k2 (w0_word X) (w1_word X) (w2_word X) (w3_word X) (w3_word Y)
  generalize e0 : sT (w1 T2) (w2 T2) (w3 T2) (w4 T2) (w0 X) (w1 X) (w2 X) (w3 X) (w3 Y) = T3 at *
  have E3 := Lib.hid e0; clear e0
  replace B := Lib.hid (B.out.next hb); obtain ⟨bl, l0, l1, l2, x0, x1, x2, x3, y0, y1, y2, y3, r0, r1, r2, r3, f0, f1, f2, f3⟩ := B.out; clear hb
  go_wp2_with fail
  have k38 : Word 38 := by unfold Word; omega
  refine (addTimes_raw _ _ _ _ _ _ _ _ _ _ (by first | exact word0 | exact w0_word _ | exact w1_word _ | exact w2_word _ | exact w3_word _ | exact adW_word _ _ _ | exact sbW_word _ _ _ | assumption) (by first | exact word0 | exact w0_word _ | exact w1_word _ | exact w2_word _ | exact w3_word _ | exact adW_word _ _ _ | exact sbW_word _ _ _ | assumption) (by first | exact word0 | exact w0_word _ | exact w1_word _ | exact w2_word _ | exact w3_word _ | exact adW_word _ _ _ | exact sbW_word _ _ _ | assumption) (by first | exact word0 | exact w0_word _ | exact w1_word _ | exact w2_word _ | exact w3_word _ | exact adW_word _ _ _ | exact sbW_word _ _ _ | assumption) (by first | exact word0 | exact w0_word _ | exact w1_word _ | exact w2_word _ | exact w3_word _ | exact adW_word _ _ _ | exact sbW_word _ _ _ | assumption) (by first | exact word0 | exact w0_word _ | exact w1_word _ | exact w2_word _ | exact w3_word _ | exact adW_word _ _ _ | exact sbW_word _ _ _ | assumption) (by first | exact word0 | exact w0_word _ | exact w1_word _ | exact w2_word _ | exact w3_word _ | exact adW_word _ _ _ | exact sbW_word _ _ _ | assumption) (by first | exact word0 | exact w0_word _ | exact w1_word _ | exact w2_word _ | exact w3_word _ | exact adW_word _ _ _ | exact sbW_word _ _ _ | assumption) (by first | exact word0 | exact w0_word _ | exact w1_word _ | exact w2_word _ | exact w3_word _ | exact adW_word _ _ _ | exact sbW_word _ _ _ | assumption)).mono ?_
  clear bl l0 l1 l2 x0 x1 x2 x3 y0 y1 y2 y3 r0 r1 r2 r3 f0 f1 f2 f3
  rintro e u ⟨rfl, hb⟩
  generalize e0 : sT (w0 T0) (w0 T1) (w0 T2) (w0 T3) (w1 T3) (w2 T3) (w3 T3) (w4 T3) 38 = S at *
  obtain ⟨s0, s1, s2⟩ := mul_math hX hY E0.out E1.out E2.out E3.out e0 k3
  have ES := Lib.hid s2; clear s2
  clear e0
  replace B := Lib.hid (B.out.next hb); obtain ⟨bl, l0, l1, l2, x0, x1, x2, x3, y0, y1, y2, y3, r0, r1, r2, r3, f0, f1, f2, f3⟩ := B.out; clear hb
  go_wp2_with fail
  refine (settle_g _ _ _ _ _ _ (by first | exact word0 | exact w0_word _ | exact w1_word _ | exact w2_word _ | exact w3_word _ | exact adW_word _ _ _ | exact sbW_word _ _ _ | assumption) (by first | exact word0 | exact w0_word _ | exact w1_word _ | exact w2_word _ | exact w3_word _ | exact adW_word _ _ _ | exact sbW_word _ _ _ | assumption) (by first | exact word0 | exact w0_word _ | exact w1_word _ | exact w2_word _ | exact w3_word _ | exact adW_word _ _ _ | exact sbW_word _ _ _ | assumption) (by first | exact word0 | exact w0_word _ | exact w1_word _ | exact w2_word _ | exact w3_word _ | exact adW_word _ _ _ | exact sbW_word _ _ _ | assumption) s0 s1 (hG.below bl)).mono ?_
  clear bl l0 l1 l2 x0 x1 x2 x3 y0 y1 y2 y3 r0 r1 r2 r3 f0 f1 f2 f3
  rintro e u ⟨rfl, hb⟩
  rw [ES.out]
  replace B := Lib.hid (B.out.next hb); obtain ⟨bl, l0, l1, l2, x0, x1, x2, x3, y0, y1, y2, y3, r0, r1, r2, r3, f0, f1, f2, f3⟩ := B.out; clear hb
  go_wp2_with fail
  refine bodyPost_ret (v := feV (X * Y % pp)) (by simp [results, Tryd.results52, go_sem, r0, r1, r2, r3]) rfl ⟨rfl, ?_⟩
  repeat' (first | exact Below.refl _ _ | assumption | refine Below.setCell ?_ ?_ _ | refine Below.alloc ?_ ?_ _ | refine Below.drew ?_ | refine Below.trans ?_ (Below.mono (by assumption) ?_) | (simp; done) | (simp; omega))
end Go.Proofs.YtefaihdhnnldmaaDoor
