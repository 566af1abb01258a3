/- FieldRoots: its walk. -/
import Derived.Test.YtabfjdljeebjbaaDoorRootMath
import Derived.Test.YtabfjdljeebjbaaDoorQuiet
namespace Go.Proofs.YtabfjdljeebjbaaDoor
open Go.RowKit Go.Sort

theorem rootN_num (Z V : Int) : Num (rootN Z V) := by
  have h : ∀ A, Num (evn (A % pp)) := fun A => by
    have := emod_pp_lt A
    have := evn_facts this.1 this.2
    unfold Num pp at *; omega
  unfold rootN
  split
  · unfold nearOf; exact h _
  · split
    · exact h _
    · exact num0
theorem root_none {Z V : Int} (h : rootB Z V = false) : rootN Z V = 0 := by
  unfold rootB at h
  rw [Bool.or_eq_false_iff, beq_eq_false_iff_ne, beq_eq_false_iff_ne] at h
  unfold rootN
  rw [if_neg h.1, if_neg h.2]
theorem eq_word_not {M n : Int} (hM : Num M) (hn : Word n) (h : M ≠ n) : ∀ v, (Op.equalIn 10000 26 (feV M) (.agg #[.int .u64 n, .int .u64 0, .int .u64 0, .int .u64 0])).run Tryd.prog v = .ok false v := fun v => by
  rw [fe_word hn, run_eqFe hM hn.num, decide_eq_false h]

set_option maxHeartbeats 4000000 in
theorem roots_walk (X Y : Int) (w : World) (hX : Num X) (hY : Num Y) (hG : Globs w) :
    Calls Tryd.prog 9 #[feV X, feV Y] w fun e w' => e = .returned (.bool true) ∧ Below w.heap.size w w' := by
  have c0 : Below w.heap.size w ((w.alloc (.cells #[.int .u64 (w0 X), .int .u64 (w1 X), .int .u64 (w2 X), .int .u64 (w3 X)] 26)).alloc (.cells #[.int .u64 (w0 Y), .int .u64 (w1 Y), .int .u64 (w2 Y), .int .u64 (w3 Y)] 26)) := by repeat' (first | exact Below.refl _ _ | assumption | refine Below.setCell ?_ ?_ _ | refine Below.alloc ?_ ?_ _ | refine Below.drew ?_ | refine Below.trans ?_ (Below.mono (by assumption) ?_) | (simp; done) | (simp; omega))
  have vY : Cells4 (w.heap.size + 1) Y ((w.alloc (.cells #[.int .u64 (w0 X), .int .u64 (w1 X), .int .u64 (w2 X), .int .u64 (w3 X)] 26)).alloc (.cells #[.int .u64 (w0 Y), .int .u64 (w1 Y), .int .u64 (w2 Y), .int .u64 (w3 Y)] 26)) := by unfold Cells4; simp [go_sem]
  have hs : w.heap.size + 1 < ((w.alloc (.cells #[.int .u64 (w0 X), .int .u64 (w1 X), .int .u64 (w2 X), .int .u64 (w3 X)] 26)).alloc (.cells #[.int .u64 (w0 Y), .int .u64 (w1 Y), .int .u64 (w2 Y), .int .u64 (w3 Y)] 26)).heap.size := by simp
  go_enter Tryd.func9, Tryd.ntmps9
  go_wp2_with fail
  refine (mul_any X X _ hX hX (hG.below c0).O).mono ?_
  rintro e u ⟨rfl, hc⟩
  replace c0 := c0.trans (hc.mono c0.size)
  replace vY := vY.of_below hs hc
  replace hs := Nat.lt_of_lt_of_le hs hc.size
  clear hc
  go_upto_region 2 with fail
  have hd : Below u.heap.size u (u.alloc (.cells #[.int .u64 (w0 (X * X % pp)), .int .u64 (w1 (X * X % pp)), .int .u64 (w2 (X * X % pp)), .int .u64 (w3 (X * X % pp))] 26)) := (Below.refl _ _).alloc (Nat.le_refl _) _
  replace c0 := c0.trans (hd.mono c0.size)
  replace vY := vY.of_below hs hd
  have vZ := Var4.new u (X * X % pp)
  clear hd
  generalize u.alloc (.cells #[.int .u64 (w0 (X * X % pp)), .int .u64 (w1 (X * X % pp)), .int .u64 (w2 (X * X % pp)), .int .u64 (w3 (X * X % pp))] 26) = u0 at *
  generalize u.heap.size = g at *
  clear u
  have lZ := vZ.lt
  replace hG := hG.below c0
  have HS : Hid (∀ V, Below u0.heap.size u0 V → Cells4 (w.heap.size + 1) Y V ∧ Cells4 g (X * X % pp) V) := Lib.hid fun V hV => ⟨vY.of_below (by omega) hV, Cells4.of_below ⟨vZ.c0, vZ.c1, vZ.c2, vZ.c3⟩ lZ hV⟩
  go_cut [6, 7] (fun s6 s7 u => Made u0 (rootN (X * X % pp) (Y * Y % pp)) s6 u ∧ s7 = .bool (rootB (X * X % pp) (Y * Y % pp)))
  case first =>
    unfold Cells4 at HS vY
    obtain ⟨y0, y1, y2, y3⟩ := vY
    obtain ⟨vl, v0, v1, v2, v3, vf0, vf1, vf2, vf3⟩ := vZ
    go_region_held3 (fun u => (u.cell? ⟨(w.heap.size + 1), 0, none⟩ = some (.int .u64 (w0 Y)) ∧ u.cell? ⟨(w.heap.size + 1), 1, none⟩ = some (.int .u64 (w1 Y)) ∧ u.cell? ⟨(w.heap.size + 1), 2, none⟩ = some (.int .u64 (w2 Y)) ∧ u.cell? ⟨(w.heap.size + 1), 3, none⟩ = some (.int .u64 (w3 Y))) ∧ (u.cell? ⟨g, 0, none⟩ = some (.int .u64 (w0 (X * X % pp))) ∧ u.cell? ⟨g, 1, none⟩ = some (.int .u64 (w1 (X * X % pp))) ∧ u.cell? ⟨g, 2, none⟩ = some (.int .u64 (w2 (X * X % pp))) ∧ u.cell? ⟨g, 3, none⟩ = some (.int .u64 (w3 (X * X % pp))))) (exact HS.out _ (by repeat' (first | exact Below.refl _ _ | assumption | refine Below.setCell ?_ ?_ _ | refine Below.alloc ?_ ?_ _ | refine Below.drew ?_ | refine Below.trans ?_ (Below.mono (by assumption) ?_) | (simp; done) | (simp; omega))))
      (first | (go_at_call 15; refine (mul_any Y Y _ hY hY (hG.O.below (by first | exact Below.refl _ _ | assumption | (repeat' (first | exact Below.refl _ _ | assumption | refine Below.setCell ?_ ?_ _ | refine Below.alloc ?_ ?_ _ | refine Below.drew ?_ | refine Below.trans ?_ (Below.mono (by assumption) ?_) | (simp; done) | (simp; omega)))))).mono ?_; rintro e u1 ⟨rfl, hu1⟩; have bu1 : Below u0.heap.size u0 u1 := (by repeat' (first | exact Below.refl _ _ | assumption | refine Below.setCell ?_ ?_ _ | refine Below.alloc ?_ ?_ _ | refine Below.drew ?_ | refine Below.trans ?_ (Below.mono (by assumption) ?_) | (simp; done) | (simp; omega))); have su1 : u0.heap.size ≤ u1.heap.size := Below.size bu1; obtain ⟨cu1, fu1⟩ := bcell hu1; have tu1 := Below.size hu1; (try simp at tu1); (try rw [Nat.add_one_le_iff] at tu1)) | (go_at_call 27; refine (root_any (X * X % pp) (Y * Y % pp) _ (num_emod_pp _) (num_emod_pp _) (hG.O.below (by first | exact Below.refl _ _ | assumption | (repeat' (first | exact Below.refl _ _ | assumption | refine Below.setCell ?_ ?_ _ | refine Below.alloc ?_ ?_ _ | refine Below.drew ?_ | refine Below.trans ?_ (Below.mono (by assumption) ?_) | (simp; done) | (simp; omega))))) (hG.R.below (by first | exact Below.refl _ _ | assumption | (repeat' (first | exact Below.refl _ _ | assumption | refine Below.setCell ?_ ?_ _ | refine Below.alloc ?_ ?_ _ | refine Below.drew ?_ | refine Below.trans ?_ (Below.mono (by assumption) ?_) | (simp; done) | (simp; omega))))) (hG.M.below (by first | exact Below.refl _ _ | assumption | (repeat' (first | exact Below.refl _ _ | assumption | refine Below.setCell ?_ ?_ _ | refine Below.alloc ?_ ?_ _ | refine Below.drew ?_ | refine Below.trans ?_ (Below.mono (by assumption) ?_) | (simp; done) | (simp; omega)))))).mono ?_; rintro e u2 ⟨rfl, hu2⟩; have bu2 : Below u0.heap.size u0 u2 := (by repeat' (first | exact Below.refl _ _ | assumption | refine Below.setCell ?_ ?_ _ | refine Below.alloc ?_ ?_ _ | refine Below.drew ?_ | refine Below.trans ?_ (Below.mono (by assumption) ?_) | (simp; done) | (simp; omega))); have su2 : u0.heap.size ≤ u2.heap.size := Below.size bu2; obtain ⟨cu2, fu2⟩ := bcell hu2; have tu2 := Below.size hu2; (try simp at tu2); (try rw [Nat.add_one_le_iff] at tu2)))
    all_goals (go_wp2_with fail; go_meet; refine ⟨?_, rfl⟩; first | ((with_reducible refine made_new ?_); repeat' (first | exact Below.refl _ _ | assumption | refine Below.setCell ?_ ?_ _ | refine Below.alloc ?_ ?_ _ | refine Below.drew ?_ | refine Below.trans ?_ (Below.mono (by assumption) ?_) | (simp; done) | (simp; omega)); done) | ((with_reducible refine made_old ?_ ?_ ?_ ?_ ?_ ?_ ?_) <;> (first | exact Nat.le_refl _ | assumption | omega | (first | (rw [cu2 _ _ (by simp; done)]; simp [go_sem]; done) | (rw [cu2 _ _ tu1, cu1 _ _ (by simp; done)]; simp [go_sem]; done)) | (repeat' (first | exact Below.refl _ _ | assumption | refine Below.setCell ?_ ?_ _ | refine Below.alloc ?_ ?_ _ | refine Below.drew ?_ | refine Below.trans ?_ (Below.mono (by assumption) ?_) | (simp; done) | (simp; omega)); done))))
  case rest =>
    obtain ⟨⟨gr, rfl, hr1, hr2, hb1, vR⟩, rfl⟩ := hcut
    clear HS
    replace vY := vY.of_below (by omega) hb1
    replace vZ := vZ.below hb1
    replace hG := hG.below hb1
    replace c0 := c0.trans (hb1.mono c0.size)
    have ls : w.heap.size + 1 < wc.heap.size := by have := hb1.size; omega
    clear hb1 hr1 lZ hs u0
    generalize wc = u0 at *
    obtain ⟨y0, y1, y2, y3⟩ := id vY
    have hR := rootN_num (X * X % pp) (Y * Y % pp)
    by_cases hy : Y % pp = 0
    · have hE := eq_word (M := Y % pp) (n := 0) (num_emod_pp _) word0 hy
      have Hy := Lib.hid hy; clear hy
      cases hb : rootB (X * X % pp) (Y * Y % pp) with
      | true =>
        go_wp2_with fail
        refine (canon_any Y _ hY hG.O).mono ?_
        rintro e u1 ⟨rfl, hc⟩
        go_wp2_with fail
        refine (known_any _ (hG.below hc)).mono ?_
        rintro e u2 ⟨rfl, hd⟩
        go_wp2_with fail
        go_ret
        exact ⟨rfl, (c0.trans (hc.mono c0.size)).trans (hd.mono (Nat.le_trans c0.size hc.size))⟩
      | false =>
        have hr := root_none hb
        rw [hr] at vR
        have hE0 := eq_word (M := 0) (n := 0) num0 word0 rfl
        go_wp2_with fail
        refine (canon_any Y _ hY hG.O).mono ?_
        rintro e u1 ⟨rfl, hc⟩
        replace vR := vR.of_below hr2 hc
        go_wp2_with fail
        refine (known_any _ (hG.below hc)).mono ?_
        rintro e u2 ⟨rfl, hd⟩
        replace vR := vR.of_below (Nat.lt_of_lt_of_le hr2 hc.size) hd
        obtain ⟨r0, r1, r2, r3⟩ := vR
        go_wp2_with fail
        go_ret
        exact ⟨rfl, (c0.trans (hc.mono c0.size)).trans (hd.mono (Nat.le_trans c0.size hc.size))⟩
    · obtain ⟨k1, k2, k3, k4, k5⟩ := roots_ok (X := X) hy
      rw [k1]
      have hE := eq_word_not (M := Y % pp) (n := 0) (num_emod_pp _) word0 hy
      have Hy := Lib.hid hy; clear hy
      generalize rootN (X * X % pp) (Y * Y % pp) = R at *
      have hE1 := eqFe_true (M := R * R % pp * (Y * Y % pp) % pp) (Z := X * X % pp) (num_emod_pp _) k5
      have hE2 := eqFe_true (M := R) (Z := R % pp) hR (Int.emod_eq_of_lt k2 k3).symm
      have hw : w0 R % 2 = 0 := by unfold w0; omega
      have hw0 : 0 ≤ w0 R := (w0_word R).1
      have hw2 : (w0 R).tmod 2 = 0 := by rw [Int.tmod_eq_emod_of_nonneg hw0]; exact hw
      clear k1 k2 k3 k4 k5
      go_wp2_with fail
      refine (canon_any Y _ hY hG.O).mono ?_
      rintro e u1 ⟨rfl, hc⟩
      clear y0 y1 y2 y3
      replace vY := vY.of_below ls hc
      replace vZ := vZ.below hc
      replace vR := vR.of_below hr2 hc
      replace hG := hG.below hc
      replace c0 := c0.trans (hc.mono c0.size)
      clear hc ls hr2 u0
      go_wp2_with fail
      have kY := cells_regrown vY
      have kZ := cells_regrown (u := u1) ⟨vZ.c0, vZ.c1, vZ.c2, vZ.c3⟩
      have kR := cells_regrown vR
      have cK := Lib.hid (known_regrown hG)
      have cR := Lib.hid (canon_regrown hG hR)
      have cRR := Lib.hid (mul_regrown hG hR hR)
      have cYY := Lib.hid (mul_regrown hG hY hY)
      have cM := Lib.hid (mul_regrown hG (num_emod_pp (R * R)) (num_emod_pp (Y * Y)))
      clear vY vZ vR
      refine wp_region_quiet_below (by kernel_rfl) (by kernel_rfl) ?_
      repeat (quiet_step (first | (with_reducible exact cK.out _ _) | (with_reducible exact cR.out _ _) | (with_reducible exact cRR.out _ _) | (with_reducible exact cYY.out _ _) | (with_reducible exact cM.out _ _)))
      refine wpQuiet_nil ?_
      intro _ hw'
      obtain ⟨⟨dq, osq⟩, hw''⟩ := hw'
      subst hw''
      go_wp2_with fail
      go_ret
      exact ⟨rfl, c0.trans ((below_regrown u1 dq osq).mono c0.size)⟩
end Go.Proofs.YtabfjdljeebjbaaDoor
