/- What field.Canon, Add, Small, Sub and Neg do. -/
import Derived.Test.YtefaihdhnnldmaaDoorMul
import Derived.Deep.RegionHeld3
namespace Go.Proofs.YtefaihdhnnldmaaDoor
open Go.RowKit
set_option maxRecDepth 20000

/-- A number in a block of its own, and room for another: what stays so while others make memory. -/
structure Box1 (w : World) (X : Int) (u : World) : Prop where
  bl : Below w.heap.size w u
  l0 : w.heap.size < u.heap.size
  l1 : w.heap.size + 1 < u.heap.size
  x0 : u.cell? ⟨w.heap.size, 0, none⟩ = some (.int .u64 (w0 X))
  x1 : u.cell? ⟨w.heap.size, 1, none⟩ = some (.int .u64 (w1 X))
  x2 : u.cell? ⟨w.heap.size, 2, none⟩ = some (.int .u64 (w2 X))
  x3 : u.cell? ⟨w.heap.size, 3, none⟩ = some (.int .u64 (w3 X))
  r0 : u.cell? ⟨w.heap.size + 1, 0, none⟩ = some (.int .u64 0)
  r1 : u.cell? ⟨w.heap.size + 1, 1, none⟩ = some (.int .u64 0)
  r2 : u.cell? ⟨w.heap.size + 1, 2, none⟩ = some (.int .u64 0)
  r3 : u.cell? ⟨w.heap.size + 1, 3, none⟩ = some (.int .u64 0)
  f0 : u.frozen? ⟨w.heap.size + 1, 0, none⟩ = false
  f1 : u.frozen? ⟨w.heap.size + 1, 1, none⟩ = false
  f2 : u.frozen? ⟨w.heap.size + 1, 2, none⟩ = false
  f3 : u.frozen? ⟨w.heap.size + 1, 3, none⟩ = false
theorem Box1.start (w : World) (X : Int) : Box1 w X ((w.alloc (.cells #[.int .u64 (w0 X), .int .u64 (w1 X), .int .u64 (w2 X), .int .u64 (w3 X)] 40)).alloc (.cells #[.int .u64 0, .int .u64 0, .int .u64 0, .int .u64 0] 40)) := by
  constructor
  · repeat' (first | exact Below.refl _ _ | assumption | refine Below.setCell ?_ ?_ _ | refine Below.alloc ?_ ?_ _ | refine Below.drew ?_ | refine Below.trans ?_ (Below.mono (by assumption) ?_) | (simp; done) | (simp; omega))
  all_goals simp [go_sem]
theorem Box1.next {w u u' : World} {X : Int} (h : Box1 w X u) (hb : Below u.heap.size u u') : Box1 w X u' := by
  obtain ⟨bl, l0, l1, x0, x1, x2, x3, r0, r1, r2, r3, f0, f1, f2, f3⟩ := h
  have hs := hb.size
  refine ⟨bl.trans (hb.mono bl.size), Nat.lt_of_lt_of_le l0 hs, Nat.lt_of_lt_of_le l1 hs, ?_, ?_, ?_, ?_, ?_, ?_, ?_, ?_, ?_, ?_, ?_, ?_⟩
  · rw [hb.cell (p := ⟨w.heap.size, 0, none⟩) l0]; exact x0
  · rw [hb.cell (p := ⟨w.heap.size, 1, none⟩) l0]; exact x1
  · rw [hb.cell (p := ⟨w.heap.size, 2, none⟩) l0]; exact x2
  · rw [hb.cell (p := ⟨w.heap.size, 3, none⟩) l0]; exact x3
  · rw [hb.cell (p := ⟨w.heap.size + 1, 0, none⟩) l1]; exact r0
  · rw [hb.cell (p := ⟨w.heap.size + 1, 1, none⟩) l1]; exact r1
  · rw [hb.cell (p := ⟨w.heap.size + 1, 2, none⟩) l1]; exact r2
  · rw [hb.cell (p := ⟨w.heap.size + 1, 3, none⟩) l1]; exact r3
  · rw [hb.frozen (p := ⟨w.heap.size + 1, 0, none⟩) l1]; exact f0
  · rw [hb.frozen (p := ⟨w.heap.size + 1, 1, none⟩) l1]; exact f1
  · rw [hb.frozen (p := ⟨w.heap.size + 1, 2, none⟩) l1]; exact f2
  · rw [hb.frozen (p := ⟨w.heap.size + 1, 3, none⟩) l1]; exact f3

theorem Box1.dnext {w u u' : World} {X : Int} (h : Box1 w X u) (hb : Below u.drew.heap.size u.drew u') : Box1 w X u' := (h.next (Below.refl _ _).drew).next hb
theorem Box2.dnext {w u u' : World} {X Y : Int} (h : Box2 w X Y u) (hb : Below u.drew.heap.size u.drew u') : Box2 w X Y u' := (h.next (Below.refl _ _).drew).next hb
theorem GCell.drew {b : Nat} {N : Int} {w : World} (h : GCell b N w) : GCell b N w.drew := h.below (Below.refl _ _).drew
theorem GCell.dbelow {b : Nat} {N : Int} {w w' : World} (h : GCell b N w) (hb : Below w.drew.heap.size w.drew w') : GCell b N w' := h.drew.below hb

set_option maxHeartbeats 400000 in
theorem canon_any (X : Int) (w : World) (hX : Num X) (hG : GCell 3 pp w) :
    Calls Tryd.prog 67 #[feV X] w fun e w' => e = .returned (feV (X % pp)) ∧ Below w.heap.size w w' := by
  have B := Lib.hid (Box1.start w X)
  go_enter Tryd.func67, Tryd.ntmps67
  go_wp2_with fail
  refine (settle_g _ _ _ _ _ _ (by first | exact word0 | exact w0_word _ | exact w1_word _ | exact w2_word _ | exact w3_word _ | exact adW_word _ _ _ | exact sbW_word _ _ _ | assumption) (by first | exact word0 | exact w0_word _ | exact w1_word _ | exact w2_word _ | exact w3_word _ | exact adW_word _ _ _ | exact sbW_word _ _ _ | assumption) (by first | exact word0 | exact w0_word _ | exact w1_word _ | exact w2_word _ | exact w3_word _ | exact adW_word _ _ _ | exact sbW_word _ _ _ | assumption) (by first | exact word0 | exact w0_word _ | exact w1_word _ | exact w2_word _ | exact w3_word _ | exact adW_word _ _ _ | exact sbW_word _ _ _ | assumption) (by omega) (by omega) (hG.below B.out.bl)).mono ?_
  rintro e u ⟨rfl, hb⟩
  rw [val_w hX, Int.mul_zero, Int.add_zero]
  replace B := Lib.hid (B.out.next hb); obtain ⟨bl, l0, l1, x0, x1, x2, x3, r0, r1, r2, r3, f0, f1, f2, f3⟩ := B.out; clear hb
  go_wp2_with fail
  refine bodyPost_ret (v := feV (X % pp)) (by simp [results, Tryd.results67, go_sem, r0, r1, r2, r3]) rfl ⟨rfl, ?_⟩
  repeat' (first | exact Below.refl _ _ | assumption | refine Below.setCell ?_ ?_ _ | refine Below.alloc ?_ ?_ _ | refine Below.drew ?_ | refine Below.trans ?_ (Below.mono (by assumption) ?_) | (simp; done) | (simp; omega))

theorem add_math {x0 x1 x2 x3 y0 y1 y2 y3 : Int} :
    val (adW x0 y0 0) (adW x1 y1 (adC x0 y0 0)) (adW x2 y2 (adC x1 y1 (adC x0 y0 0))) (adW x3 y3 (adC x2 y2 (adC x1 y1 (adC x0 y0 0)))) + 115792089237316195423570985008687907853269984665640564039457584007913129639936 * adC x3 y3 (adC x2 y2 (adC x1 y1 (adC x0 y0 0))) = val x0 x1 x2 x3 + val y0 y1 y2 y3 := by
  have e0 := ad_eq x0 y0 0
  have e1 := ad_eq x1 y1 (adC x0 y0 0)
  have e2 := ad_eq x2 y2 (adC x1 y1 (adC x0 y0 0))
  have e3 := ad_eq x3 y3 (adC x2 y2 (adC x1 y1 (adC x0 y0 0)))
  generalize adC x3 y3 (adC x2 y2 (adC x1 y1 (adC x0 y0 0))) = c3 at *
  generalize adW x3 y3 (adC x2 y2 (adC x1 y1 (adC x0 y0 0))) = s3 at *
  generalize adC x2 y2 (adC x1 y1 (adC x0 y0 0)) = c2 at *
  generalize adW x2 y2 (adC x1 y1 (adC x0 y0 0)) = s2 at *
  generalize adC x1 y1 (adC x0 y0 0) = c1 at *
  generalize adW x1 y1 (adC x0 y0 0) = s1 at *
  generalize adC x0 y0 0 = c0 at *
  generalize adW x0 y0 0 = s0 at *
  unfold val
  omega

set_option maxHeartbeats 400000 in
theorem add_any (X Y : Int) (w : World) (hX : Num X) (hY : Num Y) (hG : GCell 3 pp w) :
    Calls Tryd.prog 50 #[feV X, feV Y] w fun e w' => e = .returned (feV ((X + Y) % pp)) ∧ Below w.heap.size w w' := by
  have B := Lib.hid (Box2.start w X Y)
  have k0 := adC_bit (w0_word X) (w0_word Y) bit0
  have k1 := adC_bit (w1_word X) (w1_word Y) k0
  have k2 := adC_bit (w2_word X) (w2_word Y) k1
  have k3 := adC_bit (w3_word X) (w3_word Y) k2
  go_enter Tryd.func50, Tryd.ntmps50
  go_wp2_with (first | simp only [run_add64_at (w0_word X) (w0_word Y) bit0, run_add64_at (w1_word X) (w1_word Y) k0, run_add64_at (w2_word X) (w2_word Y) k1, run_add64_at (w3_word X) (w3_word Y) k2] | fail)
  refine (settle_g _ _ _ _ _ _ (by first | exact word0 | exact w0_word _ | exact w1_word _ | exact w2_word _ | exact w3_word _ | exact adW_word _ _ _ | exact sbW_word _ _ _ | assumption) (by first | exact word0 | exact w0_word _ | exact w1_word _ | exact w2_word _ | exact w3_word _ | exact adW_word _ _ _ | exact sbW_word _ _ _ | assumption) (by first | exact word0 | exact w0_word _ | exact w1_word _ | exact w2_word _ | exact w3_word _ | exact adW_word _ _ _ | exact sbW_word _ _ _ | assumption) (by first | exact word0 | exact w0_word _ | exact w1_word _ | exact w2_word _ | exact w3_word _ | exact adW_word _ _ _ | exact sbW_word _ _ _ | assumption) k3.1 (by have := k3.2; omega) (hG.below B.out.bl)).mono ?_
  rintro e u ⟨rfl, hb⟩
  rw [add_math, val_w hX, val_w hY]
  replace B := Lib.hid (B.out.next hb); obtain ⟨bl, l0, l1, l2, x0, x1, x2, x3, y0, y1, y2, y3, r0, r1, r2, r3, f0, f1, f2, f3⟩ := B.out; clear hb
  go_wp2_with fail
  refine bodyPost_ret (v := feV ((X + Y) % pp)) (by simp [results, Tryd.results50, go_sem, r0, r1, r2, r3]) rfl ⟨rfl, ?_⟩
  repeat' (first | exact Below.refl _ _ | assumption | refine Below.setCell ?_ ?_ _ | refine Below.alloc ?_ ?_ _ | refine Below.drew ?_ | refine Below.trans ?_ (Below.mono (by assumption) ?_) | (simp; done) | (simp; omega))

set_option maxHeartbeats 400000 in
theorem small_any (n : Int) (w : World) (h0 : 0 ≤ n) (h1 : n < 4294967296) :
    Calls Tryd.prog 51 #[.int .u32 n] w fun e w' => e = .returned (feV n) ∧ Below w.heap.size w w' := by
  have e0 : IntKind.u64.wrap n = w0 n := by rw [IntKind.wrap_u64]; rfl
  have e1 : w1 n = 0 := by unfold w1; omega
  have e2 : w2 n = 0 := by unfold w2; omega
  have e3 : w3 n = 0 := by unfold w3; omega
  have E1 := Lib.hid e1; clear e1
  have E2 := Lib.hid e2; clear e2
  have E3 := Lib.hid e3; clear e3
  go_enter Tryd.func51, Tryd.ntmps51
  go_wp2_with fail
  refine bodyPost_ret (v := .agg #[.int .u64 (w0 n), .int .u64 0, .int .u64 0, .int .u64 0]) (by simp [results, Tryd.results51, go_sem]) rfl ⟨by unfold feV; rw [E1.out, E2.out, E3.out], ?_⟩
  repeat' (first | exact Below.refl _ _ | assumption | refine Below.setCell ?_ ?_ _ | refine Below.alloc ?_ ?_ _ | refine Below.drew ?_ | refine Below.trans ?_ (Below.mono (by assumption) ?_) | (simp; done) | (simp; omega))
end Go.Proofs.YtefaihdhnnldmaaDoor
