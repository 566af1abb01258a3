/- FieldProducts: its walk. -/
import Derived.Test.YtabfjdljeebjbaaDoorRefMul
import Derived.Test.YtabfjdljeebjbaaDoorFe
import Derived.Test.YtabfjdljeebjbaaDoorQuiet
namespace Go.Proofs.YtabfjdljeebjbaaDoor
open Go.RowKit Go.Sort

theorem refmul_regrown {u : World} {X Y : Int} (hX : Num X) (hY : Num Y) : ∀ d os, Calls Tryd.prog 22 #[feV X, feV Y] (grow (redrawn u d) os) fun e w'' => e = .returned (feV (X * Y % pp)) ∧ ∃ p : Regrown, w'' = grow (redrawn u p.d) p.os := fun _ _ => Calls.regrown_of (refmul_any X Y _ hX hY)

set_option maxHeartbeats 4000000 in
theorem products_walk (X Y a b k j : Int) (w : World) (hX : Num X) (hY : Num Y) (ha : Word a) (hb : Word b) (k0 : 0 ≤ k) (k1 : k ≤ 255) (j0 : 0 ≤ j) (j1 : j ≤ 255) (hG : Globs w) :
    Calls Tryd.prog 5 #[feV X, feV Y, .int .u64 a, .int .u64 b, .int .u8 k, .int .u8 j] w fun e w' => e = .returned (.bool true) ∧ Below w.heap.size w w' := by
  have c0 : Below w.heap.size w ((w.alloc (.cells #[.int .u64 (w0 X), .int .u64 (w1 X), .int .u64 (w2 X), .int .u64 (w3 X)] 26)).alloc (.cells #[.int .u64 (w0 Y), .int .u64 (w1 Y), .int .u64 (w2 Y), .int .u64 (w3 Y)] 26)) := by repeat' (first | exact Below.refl _ _ | assumption | refine Below.setCell ?_ ?_ _ | refine Below.alloc ?_ ?_ _ | refine Below.drew ?_ | refine Below.trans ?_ (Below.mono (by assumption) ?_) | (simp; done) | (simp; omega))
  have vX := Var4.new w X
  go_enter Tryd.func5, Tryd.ntmps5
  go_upto_region 1 with fail
  have hs : w.heap.size + 1 = (w.alloc (.cells #[.int .u64 (w0 X), .int .u64 (w1 X), .int .u64 (w2 X), .int .u64 (w3 X)] 26)).heap.size := by simp
  rw [hs]
  generalize w.alloc (.cells #[.int .u64 (w0 X), .int .u64 (w1 X), .int .u64 (w2 X), .int .u64 (w3 X)] 26) = u1 at *
  clear hs
  have vY := Var4.new u1 Y
  have b2 : Below u1.heap.size u1 (u1.alloc (.cells #[.int .u64 (w0 Y), .int .u64 (w1 Y), .int .u64 (w2 Y), .int .u64 (w3 Y)] 26)) := (Below.refl _ _).alloc (Nat.le_refl _) _
  replace vX := vX.below b2
  generalize u1.alloc (.cells #[.int .u64 (w0 Y), .int .u64 (w1 Y), .int .u64 (w2 Y), .int .u64 (w3 Y)] 26) = u2 at *
  generalize u1.heap.size = g1 at *
  clear b2 u1
  go_wp2_with fail
  refine (fe_any a b k _ ha hb k0 k1).mono ?_
  rintro e u ⟨U, hU, rfl, hc⟩
  replace c0 := c0.trans (hc.mono c0.size)
  replace vX := vX.below hc
  replace vY := vY.below hc
  clear hc
  go_upto_region 2 with fail
  have hd : Below u.heap.size u (u.alloc (.cells #[.int .u64 (w0 U), .int .u64 (w1 U), .int .u64 (w2 U), .int .u64 (w3 U)] 26)) := (Below.refl _ _).alloc (Nat.le_refl _) _
  replace c0 := c0.trans (hd.mono c0.size)
  replace vX := vX.below hd
  replace vY := vY.below hd
  have vU := Var4.new u U
  clear hd
  generalize u.alloc (.cells #[.int .u64 (w0 U), .int .u64 (w1 U), .int .u64 (w2 U), .int .u64 (w3 U)] 26) = u0 at *
  generalize u.heap.size = g2 at *
  clear u
  go_wp2_with fail
  refine (fe_any b a j _ hb ha j0 j1).mono ?_
  rintro e u ⟨V, hV, rfl, hc⟩
  replace c0 := c0.trans (hc.mono c0.size)
  replace vX := vX.below hc
  replace vY := vY.below hc
  replace vU := vU.below hc
  clear hc
  go_upto_region 3 with fail
  have hd : Below u.heap.size u (u.alloc (.cells #[.int .u64 (w0 V), .int .u64 (w1 V), .int .u64 (w2 V), .int .u64 (w3 V)] 26)) := (Below.refl _ _).alloc (Nat.le_refl _) _
  replace c0 := c0.trans (hd.mono c0.size)
  replace vX := vX.below hd
  replace vY := vY.below hd
  replace vU := vU.below hd
  have vV := Var4.new u V
  clear hd u0
  generalize u.alloc (.cells #[.int .u64 (w0 V), .int .u64 (w1 V), .int .u64 (w2 V), .int .u64 (w3 V)] 26) = u0 at *
  generalize u.heap.size = g3 at *
  clear u
  replace hG := hG.below c0
  have kX := cells_regrown (u := u0) ⟨vX.c0, vX.c1, vX.c2, vX.c3⟩
  have kY := cells_regrown (u := u0) ⟨vY.c0, vY.c1, vY.c2, vY.c3⟩
  have kU := cells_regrown (u := u0) ⟨vU.c0, vU.c1, vU.c2, vU.c3⟩
  have kV' := cells_regrown (u := u0) ⟨vV.c0, vV.c1, vV.c2, vV.c3⟩
  have cK := Lib.hid (known_regrown hG)
  have m1 := Lib.hid (mul_regrown hG hX hY)
  have m2 := Lib.hid (mul_regrown hG hU hV)
  have m3 := Lib.hid (mul_regrown hG hU hX)
  have r1 := Lib.hid (refmul_regrown (u := u0) hX hY)
  have r2 := Lib.hid (refmul_regrown (u := u0) hU hV)
  have r3 := Lib.hid (refmul_regrown (u := u0) hU hX)
  clear vX vY vU vV
  have hE1 := eqFe_true (M := X * Y % pp) (Z := X * Y % pp) (num_emod_pp _) rfl
  have hE2 := eqFe_true (M := U * V % pp) (Z := U * V % pp) (num_emod_pp _) rfl
  have hE3 := eqFe_true (M := U * X % pp) (Z := U * X % pp) (num_emod_pp _) rfl
  refine wp_region_quiet_below (by kernel_rfl) (by kernel_rfl) ?_
  repeat (quiet_step (first | (with_reducible exact cK.out _ _) | (with_reducible exact m1.out _ _) | (with_reducible exact m2.out _ _) | (with_reducible exact m3.out _ _) | (with_reducible exact r1.out _ _) | (with_reducible exact r2.out _ _) | (with_reducible exact r3.out _ _)))
  refine wpQuiet_nil ?_
  intro _ hw'
  obtain ⟨⟨dq, osq⟩, hw''⟩ := hw'
  subst hw''
  go_wp2_with fail
  go_ret
  exact ⟨rfl, c0.trans ((below_regrown u0 dq osq).mono c0.size)⟩
end Go.Proofs.YtabfjdljeebjbaaDoor
