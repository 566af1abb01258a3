/- FieldInverse: its walk. -/
import Derived.Test.YtabfjdljeebjbaaDoorFe
import Derived.Test.YtabfjdljeebjbaaDoorInvMath
import Derived.Test.YtabfjdljeebjbaaDoorQuiet
namespace Go.Proofs.YtabfjdljeebjbaaDoor
open Go.RowKit Go.Sort

theorem eq_word_no {M n : Int} (hM : Num M) (hn : Word n) (h : M ≠ n) : ∀ v, (Op.equalIn 10000 26 (feV M) (.agg #[.int .u64 n, .int .u64 0, .int .u64 0, .int .u64 0])).run Tryd.prog v = .ok false v := fun v => by
  rw [fe_word hn, run_eqFe hM hn.num, decide_eq_false h]
theorem num1 : Num 1 := by unfold Num; omega

set_option maxHeartbeats 4000000 in
theorem inverse_walk (X a b k : Int) (w : World) (hX : Num X) (ha : Word a) (hb : Word b) (k0 : 0 ≤ k) (k1 : k ≤ 255) (hG : Globs w) (hT : GCell 1 (pp - 2) w) :
    Calls Tryd.prog 8 #[feV X, .int .u64 a, .int .u64 b, .int .u8 k] w fun e w' => e = .returned (.bool true) ∧ Below w.heap.size w w' := by
  have c0 : Below w.heap.size w (w.alloc (.cells #[.int .u64 (w0 X), .int .u64 (w1 X), .int .u64 (w2 X), .int .u64 (w3 X)] 26)) := by repeat' (first | exact Below.refl _ _ | assumption | refine Below.setCell ?_ ?_ _ | refine Below.alloc ?_ ?_ _ | refine Below.drew ?_ | refine Below.trans ?_ (Below.mono (by assumption) ?_) | (simp; done) | (simp; omega))
  have vX := Var4.new w X
  go_enter Tryd.func8, Tryd.ntmps8
  go_wp2_with fail
  refine (fe_any a b k _ ha hb k0 k1).mono ?_
  rintro e u ⟨U, hU, rfl, hc⟩
  replace c0 := c0.trans (hc.mono c0.size)
  replace vX := vX.below hc
  clear hc
  go_upto_region 2 with fail
  have hd : Below u.heap.size u (u.alloc (.cells #[.int .u64 (w0 U), .int .u64 (w1 U), .int .u64 (w2 U), .int .u64 (w3 U)] 26)) := (Below.refl _ _).alloc (Nat.le_refl _) _
  replace c0 := c0.trans (hd.mono c0.size)
  have lX := vX.lt
  replace vX := vX.below hd
  have vU := Var4.new u U
  clear hd
  generalize u.alloc (.cells #[.int .u64 (w0 U), .int .u64 (w1 U), .int .u64 (w2 U), .int .u64 (w3 U)] 26) = u0 at *
  generalize u.heap.size = g at *
  clear u
  replace hG := hG.below c0
  replace hT := hT.below c0
  have HS : Hid (∀ V, Below u0.heap.size u0 V → Cells4 w.heap.size X V) := Lib.hid fun V hV => Cells4.of_below ⟨vX.c0, vX.c1, vX.c2, vX.c3⟩ vX.lt hV
  obtain ⟨vl, v0, v1, v2, v3, vf0, vf1, vf2, vf3⟩ := id vX
  go_cut [10] (fun s u => Made u0 (X * (X ^ (pp - 2).toNat % pp) % pp) s u)
  case first =>
    unfold Cells4 at HS
    go_region_held3 (fun u => (u.cell? ⟨w.heap.size, 0, none⟩ = some (.int .u64 (w0 X)) ∧ u.cell? ⟨w.heap.size, 1, none⟩ = some (.int .u64 (w1 X)) ∧ u.cell? ⟨w.heap.size, 2, none⟩ = some (.int .u64 (w2 X)) ∧ u.cell? ⟨w.heap.size, 3, none⟩ = some (.int .u64 (w3 X)))) (exact HS.out _ (by repeat' (first | exact Below.refl _ _ | assumption | refine Below.setCell ?_ ?_ _ | refine Below.alloc ?_ ?_ _ | refine Below.drew ?_ | refine Below.trans ?_ (Below.mono (by assumption) ?_) | (simp; done) | (simp; omega))))
      (first | (go_at_call 21; refine (inv_any X _ hX (hG.O.below (by first | exact Below.refl _ _ | assumption | (repeat' (first | exact Below.refl _ _ | assumption | refine Below.setCell ?_ ?_ _ | refine Below.alloc ?_ ?_ _ | refine Below.drew ?_ | refine Below.trans ?_ (Below.mono (by assumption) ?_) | (simp; done) | (simp; omega))))) (hT.below (by first | exact Below.refl _ _ | assumption | (repeat' (first | exact Below.refl _ _ | assumption | refine Below.setCell ?_ ?_ _ | refine Below.alloc ?_ ?_ _ | refine Below.drew ?_ | refine Below.trans ?_ (Below.mono (by assumption) ?_) | (simp; done) | (simp; omega)))))).mono ?_; rintro e u1 ⟨rfl, hu1⟩; have bu1 : Below u0.heap.size u0 u1 := (by repeat' (first | exact Below.refl _ _ | assumption | refine Below.setCell ?_ ?_ _ | refine Below.alloc ?_ ?_ _ | refine Below.drew ?_ | refine Below.trans ?_ (Below.mono (by assumption) ?_) | (simp; done) | (simp; omega))); have su1 : u0.heap.size ≤ u1.heap.size := Below.size bu1; obtain ⟨cu1, fu1⟩ := bcell hu1; have tu1 := Below.size hu1; (try simp at tu1); (try rw [Nat.add_one_le_iff] at tu1)) | (go_at_call 15; refine (mul_any X _ _ hX (num_emod_pp _) (hG.O.below (by first | exact Below.refl _ _ | assumption | (repeat' (first | exact Below.refl _ _ | assumption | refine Below.setCell ?_ ?_ _ | refine Below.alloc ?_ ?_ _ | refine Below.drew ?_ | refine Below.trans ?_ (Below.mono (by assumption) ?_) | (simp; done) | (simp; omega)))))).mono ?_; rintro e u2 ⟨rfl, hu2⟩; have bu2 : Below u0.heap.size u0 u2 := (by repeat' (first | exact Below.refl _ _ | assumption | refine Below.setCell ?_ ?_ _ | refine Below.alloc ?_ ?_ _ | refine Below.drew ?_ | refine Below.trans ?_ (Below.mono (by assumption) ?_) | (simp; done) | (simp; omega))); have su2 : u0.heap.size ≤ u2.heap.size := Below.size bu2; obtain ⟨cu2, fu2⟩ := bcell hu2; have tu2 := Below.size hu2; (try simp at tu2); (try rw [Nat.add_one_le_iff] at tu2)))
    all_goals (go_wp2_with fail; go_meet; first | ((with_reducible refine made_new ?_); repeat' (first | exact Below.refl _ _ | assumption | refine Below.setCell ?_ ?_ _ | refine Below.alloc ?_ ?_ _ | refine Below.drew ?_ | refine Below.trans ?_ (Below.mono (by assumption) ?_) | (simp; done) | (simp; omega)); done) | ((with_reducible refine made_old ?_ ?_ ?_ ?_ ?_ ?_ ?_) <;> (first | exact Nat.le_refl _ | assumption | omega | (first | (rw [cu2 _ _ (by simp; done)]; simp [go_sem]; done) | (rw [cu2 _ _ tu1, cu1 _ _ (by simp; done)]; simp [go_sem]; done)) | (repeat' (first | exact Below.refl _ _ | assumption | refine Below.setCell ?_ ?_ _ | refine Below.alloc ?_ ?_ _ | refine Below.drew ?_ | refine Below.trans ?_ (Below.mono (by assumption) ?_) | (simp; done) | (simp; omega)); done))))
  case rest =>
    obtain ⟨gc, rfl, hc1, hc2, hb1, vC⟩ := hcut
    clear vl v0 v1 v2 v3 vf0 vf1 vf2 vf3
    clear HS
    replace vX := vX.below hb1
    replace vU := vU.below hb1
    replace hG := hG.below hb1
    replace hT := hT.below hb1
    replace c0 := c0.trans (hb1.mono c0.size)
    clear hb1 hc1
    generalize hC : X * (X ^ (pp - 2).toNat % pp) % pp = C at *
    have HC := Lib.hid hC; clear hC
    clear u0
    generalize wc = u0 at *
    go_upto_region 3 with fail
    have HS : Hid (∀ V, Below u0.heap.size u0 V → Cells4 g U V) := Lib.hid fun V hV => Cells4.of_below ⟨vU.c0, vU.c1, vU.c2, vU.c3⟩ vU.lt hV
    obtain ⟨vl, v0, v1, v2, v3, vf0, vf1, vf2, vf3⟩ := id vU
    go_cut [11] (fun s u => Made u0 (U * (U ^ (pp - 2).toNat % pp) % pp) s u)
    case first =>
      unfold Cells4 at HS
      go_region_held3 (fun u => (u.cell? ⟨g, 0, none⟩ = some (.int .u64 (w0 U)) ∧ u.cell? ⟨g, 1, none⟩ = some (.int .u64 (w1 U)) ∧ u.cell? ⟨g, 2, none⟩ = some (.int .u64 (w2 U)) ∧ u.cell? ⟨g, 3, none⟩ = some (.int .u64 (w3 U)))) (exact HS.out _ (by repeat' (first | exact Below.refl _ _ | assumption | refine Below.setCell ?_ ?_ _ | refine Below.alloc ?_ ?_ _ | refine Below.drew ?_ | refine Below.trans ?_ (Below.mono (by assumption) ?_) | (simp; done) | (simp; omega))))
        (first | (go_at_call 21; refine (inv_any U _ hU (hG.O.below (by first | exact Below.refl _ _ | assumption | (repeat' (first | exact Below.refl _ _ | assumption | refine Below.setCell ?_ ?_ _ | refine Below.alloc ?_ ?_ _ | refine Below.drew ?_ | refine Below.trans ?_ (Below.mono (by assumption) ?_) | (simp; done) | (simp; omega))))) (hT.below (by first | exact Below.refl _ _ | assumption | (repeat' (first | exact Below.refl _ _ | assumption | refine Below.setCell ?_ ?_ _ | refine Below.alloc ?_ ?_ _ | refine Below.drew ?_ | refine Below.trans ?_ (Below.mono (by assumption) ?_) | (simp; done) | (simp; omega)))))).mono ?_; rintro e u1 ⟨rfl, hu1⟩; have bu1 : Below u0.heap.size u0 u1 := (by repeat' (first | exact Below.refl _ _ | assumption | refine Below.setCell ?_ ?_ _ | refine Below.alloc ?_ ?_ _ | refine Below.drew ?_ | refine Below.trans ?_ (Below.mono (by assumption) ?_) | (simp; done) | (simp; omega))); have su1 : u0.heap.size ≤ u1.heap.size := Below.size bu1; obtain ⟨cu1, fu1⟩ := bcell hu1; have tu1 := Below.size hu1; (try simp at tu1); (try rw [Nat.add_one_le_iff] at tu1)) | (go_at_call 15; refine (mul_any U _ _ hU (num_emod_pp _) (hG.O.below (by first | exact Below.refl _ _ | assumption | (repeat' (first | exact Below.refl _ _ | assumption | refine Below.setCell ?_ ?_ _ | refine Below.alloc ?_ ?_ _ | refine Below.drew ?_ | refine Below.trans ?_ (Below.mono (by assumption) ?_) | (simp; done) | (simp; omega)))))).mono ?_; rintro e u2 ⟨rfl, hu2⟩; have bu2 : Below u0.heap.size u0 u2 := (by repeat' (first | exact Below.refl _ _ | assumption | refine Below.setCell ?_ ?_ _ | refine Below.alloc ?_ ?_ _ | refine Below.drew ?_ | refine Below.trans ?_ (Below.mono (by assumption) ?_) | (simp; done) | (simp; omega))); have su2 : u0.heap.size ≤ u2.heap.size := Below.size bu2; obtain ⟨cu2, fu2⟩ := bcell hu2; have tu2 := Below.size hu2; (try simp at tu2); (try rw [Nat.add_one_le_iff] at tu2)))
      all_goals (go_wp2_with fail; go_meet; first | ((with_reducible refine made_new ?_); repeat' (first | exact Below.refl _ _ | assumption | refine Below.setCell ?_ ?_ _ | refine Below.alloc ?_ ?_ _ | refine Below.drew ?_ | refine Below.trans ?_ (Below.mono (by assumption) ?_) | (simp; done) | (simp; omega)); done) | ((with_reducible refine made_old ?_ ?_ ?_ ?_ ?_ ?_ ?_) <;> (first | exact Nat.le_refl _ | assumption | omega | (first | (rw [cu2 _ _ (by simp; done)]; simp [go_sem]; done) | (rw [cu2 _ _ tu1, cu1 _ _ (by simp; done)]; simp [go_sem]; done)) | (repeat' (first | exact Below.refl _ _ | assumption | refine Below.setCell ?_ ?_ _ | refine Below.alloc ?_ ?_ _ | refine Below.drew ?_ | refine Below.trans ?_ (Below.mono (by assumption) ?_) | (simp; done) | (simp; omega)); done))))
    case rest =>
      obtain ⟨gd, rfl, hd1, hd2, hb1, vD⟩ := hcut
      clear vl v0 v1 v2 v3 vf0 vf1 vf2 vf3
      clear HS
      replace vX := vX.below hb1
      replace vU := vU.below hb1
      replace hG := hG.below hb1
      replace c0 := c0.trans (hb1.mono c0.size)
      replace vC := vC.of_below hc2 hb1
      replace hc2 := Nat.lt_of_lt_of_le hc2 hb1.size
      clear hb1 hd1 hT
      generalize hD : U * (U ^ (pp - 2).toNat % pp) % pp = D at *
      have HD := Lib.hid hD; clear hD
      clear u0
      generalize wc = u0 at *
      go_wp2_with fail
      refine (small_any 1 _ (by omega) (by omega)).mono ?_
      rintro e u ⟨rfl, hb1⟩
      go_upto_region 5 with fail
      have hd : Below u.heap.size u (u.alloc (.cells #[.int .u64 (w0 1), .int .u64 (w1 1), .int .u64 (w2 1), .int .u64 (w3 1)] 26)) := (Below.refl _ _).alloc (Nat.le_refl _) _
      have vO := Var4.new u 1
      replace hb1 := hb1.trans (hd.mono hb1.size)
      clear hd
      generalize u.alloc (.cells #[.int .u64 (w0 1), .int .u64 (w1 1), .int .u64 (w2 1), .int .u64 (w3 1)] 26) = u3 at *
      generalize u.heap.size = go at *
      clear u
      replace vX := vX.below hb1
      replace vU := vU.below hb1
      replace hG := hG.below hb1
      replace c0 := c0.trans (hb1.mono c0.size)
      replace vC := vC.of_below hc2 hb1
      replace hc2 := Nat.lt_of_lt_of_le hc2 hb1.size
      replace vD := vD.of_below hd2 hb1
      replace hd2 := Nat.lt_of_lt_of_le hd2 hb1.size
      clear hb1 u0
      obtain ⟨u0, hu0⟩ : ∃ u', u' = u3 := ⟨_, rfl⟩
      subst hu0
      have kX := cells_regrown (u := u0) ⟨vX.c0, vX.c1, vX.c2, vX.c3⟩
      have kU := cells_regrown (u := u0) ⟨vU.c0, vU.c1, vU.c2, vU.c3⟩
      have kO := cells_regrown (u := u0) ⟨vO.c0, vO.c1, vO.c2, vO.c3⟩
      have kC := cells_regrown vC
      have kD := cells_regrown vD
      have cK := Lib.hid (known_regrown hG)
      have cX := Lib.hid (canon_regrown hG hX)
      have cU := Lib.hid (canon_regrown hG hU)
      clear vX vU vC vD vO hc2 hd2
      have hE11 := eqFe_true (M := 1) (Z := 1) num1 rfl
      have hE01 := eqFe_false (M := 0) (Z := 1) num0 num1 (by omega)
      have hE00 := eq_word (M := 0) (n := 0) num0 word0 rfl
      by_cases hx : X % pp = 0
      · have eC : C = 0 := by rw [← HC.out, inv_none hx]
        have hEx := eq_word (M := X % pp) (n := 0) (num_emod_pp _) word0 hx
        have Hx := Lib.hid hx; clear hx
        subst eC
        by_cases hu : U % pp = 0
        · have eD : D = 0 := by rw [← HD.out, inv_none hu]
          have hEu := eq_word (M := U % pp) (n := 0) (num_emod_pp _) word0 hu
          have Hu := Lib.hid hu; clear hu
          subst eD
          refine wp_region_quiet_below (by kernel_rfl) (by kernel_rfl) ?_
          repeat (quiet_step (first | (with_reducible exact cK.out _ _) | (with_reducible exact cX.out _ _) | (with_reducible exact cU.out _ _)))
          refine wpQuiet_nil ?_
          intro _ hw'
          obtain ⟨⟨dq, osq⟩, hw''⟩ := hw'
          subst hw''
          go_wp2_with fail
          go_ret
          exact ⟨rfl, c0.trans ((below_regrown u0 dq osq).mono c0.size)⟩
        · have eD : D = 1 := by rw [← HD.out, inv_one hu]
          have hEu := eq_word_no (M := U % pp) (n := 0) (num_emod_pp _) word0 hu
          have Hu := Lib.hid hu; clear hu
          subst eD
          refine wp_region_quiet_below (by kernel_rfl) (by kernel_rfl) ?_
          repeat (quiet_step (first | (with_reducible exact cK.out _ _) | (with_reducible exact cX.out _ _) | (with_reducible exact cU.out _ _)))
          refine wpQuiet_nil ?_
          intro _ hw'
          obtain ⟨⟨dq, osq⟩, hw''⟩ := hw'
          subst hw''
          go_wp2_with fail
          go_ret
          exact ⟨rfl, c0.trans ((below_regrown u0 dq osq).mono c0.size)⟩
      · have eC : C = 1 := by rw [← HC.out, inv_one hx]
        have hEx := eq_word_no (M := X % pp) (n := 0) (num_emod_pp _) word0 hx
        have Hx := Lib.hid hx; clear hx
        subst eC
        by_cases hu : U % pp = 0
        · have eD : D = 0 := by rw [← HD.out, inv_none hu]
          have hEu := eq_word (M := U % pp) (n := 0) (num_emod_pp _) word0 hu
          have Hu := Lib.hid hu; clear hu
          subst eD
          refine wp_region_quiet_below (by kernel_rfl) (by kernel_rfl) ?_
          repeat (quiet_step (first | (with_reducible exact cK.out _ _) | (with_reducible exact cX.out _ _) | (with_reducible exact cU.out _ _)))
          refine wpQuiet_nil ?_
          intro _ hw'
          obtain ⟨⟨dq, osq⟩, hw''⟩ := hw'
          subst hw''
          go_wp2_with fail
          go_ret
          exact ⟨rfl, c0.trans ((below_regrown u0 dq osq).mono c0.size)⟩
        · have eD : D = 1 := by rw [← HD.out, inv_one hu]
          have hEu := eq_word_no (M := U % pp) (n := 0) (num_emod_pp _) word0 hu
          have Hu := Lib.hid hu; clear hu
          subst eD
          refine wp_region_quiet_below (by kernel_rfl) (by kernel_rfl) ?_
          repeat (quiet_step (first | (with_reducible exact cK.out _ _) | (with_reducible exact cX.out _ _) | (with_reducible exact cU.out _ _)))
          refine wpQuiet_nil ?_
          intro _ hw'
          obtain ⟨⟨dq, osq⟩, hw''⟩ := hw'
          subst hw''
          go_wp2_with fail
          go_ret
          exact ⟨rfl, c0.trans ((below_regrown u0 dq osq).mono c0.size)⟩
end Go.Proofs.YtabfjdljeebjbaaDoor
