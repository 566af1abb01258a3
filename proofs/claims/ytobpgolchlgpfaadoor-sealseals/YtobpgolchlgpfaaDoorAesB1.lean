/- What aes' small steps on blocks do: xor, box, unbox, boxWord, turn, next. -/
import Derived.Test.YtobpgolchlgpfaaDoorAesMs
namespace Go.Proofs.YtobpgolchlgpfaaDoor
open Go.RowKit
set_option maxRecDepth 20000

section
variable {w : World} {ρ : Operand → Value} {o : Oper} {t t' : TypeId} {x y : Operand} {a b : Nat}
theorem run_addN (ho : o.op = .binOp .add t x y t') (hx : ρ x = .int .i64 (a : Int)) (hy : ρ y = .int .i64 (b : Int)) (h : a + b < 4611686018427387904) : (execOp ρ o).run Tryd.prog w = .ok (.value (.int .i64 ((a + b : Nat) : Int))) w := by
  rw [run_add ho hx hy (by omega) (by omega), Int.natCast_add]
theorem run_subN (ho : o.op = .binOp .sub t x y t') (hx : ρ x = .int .i64 (a : Int)) (hy : ρ y = .int .i64 (b : Int)) (h : b ≤ a) (h1 : a < 4611686018427387904) : (execOp ρ o).run Tryd.prog w = .ok (.value (.int .i64 ((a - b : Nat) : Int))) w := by
  rw [run_sub ho hx hy (by omega) (by omega), Int.natCast_sub h]
theorem run_mulN (ho : o.op = .binOp .mul t x y t') (hx : ρ x = .int .i64 (a : Int)) (hy : ρ y = .int .i64 (b : Int)) (h : a * b < 4611686018427387904) : (execOp ρ o).run Tryd.prog w = .ok (.value (.int .i64 ((a * b : Nat) : Int))) w := by
  have e := Int.natCast_mul a b
  rw [run_mul ho hx hy (by rw [← e]; omega) (by rw [← e]; omega), e]
theorem run_quoN (ho : o.op = .binOp .quo t x y t') (hx : ρ x = .int .i64 (a : Int)) (hy : ρ y = .int .i64 (b : Int)) (h : a < 4611686018427387904) (h2 : 0 < b) : (execOp ρ o).run Tryd.prog w = .ok (.value (.int .i64 ((a / b : Nat) : Int))) w := by
  rw [run_quo ho hx hy (by omega) (by omega) (by omega), Int.natCast_ediv]
theorem run_remN (ho : o.op = .binOp .rem t x y t') (hx : ρ x = .int .i64 (a : Int)) (hy : ρ y = .int .i64 (b : Int)) (h2 : 0 < b) : (execOp ρ o).run Tryd.prog w = .ok (.value (.int .i64 ((a % b : Nat) : Int))) w := by
  rw [run_rem ho hx hy (by omega) (by omega), Int.natCast_emod]
end
theorem getD_app {l m : List (BitVec 8)} {i : Nat} (h : i < l.length) : (l ++ m).getD i 0 = l.getD i 0 := by
  rw [List.getD_eq_getElem?_getD, List.getElem?_append_left h, ← List.getD_eq_getElem?_getD]
theorem there_get {g : Nat} {R : List (BitVec 8)} {u : World} (h : Arr g ((boxT ++ R).map b8) u) (x : BitVec 8) : u.cell? ⟨g, x.toNat, none⟩ = some (b8 (bx x)) := by
  have hx := x.isLt
  rw [h.get8 (by rw [List.length_append, boxT_len]; omega), getD_app (by rw [boxT_len]; omega), boxT_there]
theorem back_get {g : Nat} {R : List (BitVec 8)} {u : World} (h : Arr g ((boxT ++ R).map b8) u) (x : BitVec 8) : u.cell? ⟨g, 256 + x.toNat, none⟩ = some (b8 (ub x)) := by
  have hx := x.isLt
  rw [h.get8 (by rw [List.length_append, boxT_len]; omega), getD_app (by rw [boxT_len]; omega), boxT_back]
set_option maxHeartbeats 1000000 in
theorem xor_any (l k : List (BitVec 8)) (w : World) (hl : l.length = 16) (hk : k.length = 16) : Calls Tryd.prog 42 #[.agg (l.map b8).toArray, .agg (k.map b8).toArray] w fun e w' => e = .returned (.agg ((xorB l k).map b8).toArray) ∧ Below w.heap.size w w' := by
  have hM := Lib.hid (Ms.nil w)
  obtain ⟨f, hf⟩ : ∃ f : Nat → BitVec 8, f = fun i => l.getD i 0 ^^^ k.getD i 0 := ⟨_, rfl⟩
  have EF : Hid (∀ i, f i = l.getD i 0 ^^^ k.getD i 0) := Lib.hid fun i => by rw [hf]
  have EX : Hid (xorB l k = tab 16 f) := Lib.hid (by rw [hf]; rfl)
  clear hf
  go_enter Tryd.func42, Tryd.ntmps42
  go_upto_region 0 with fail; refine wp_region_lit ?_
  refine wpList_val (run_box rfl rfl) rfl ?_; (try simp only [Act.put, List.setIfInBounds_toArray, List.set_cons_zero, List.set_cons_succ]); replace hM := Lib.hid (hM.out.new (l) 55); generalize w.alloc (.cells ((l).map b8).toArray 55) = a1 at *; generalize w.heap.size = g1 at *
  refine wpList_val (run_box rfl rfl) rfl ?_; (try simp only [Act.put, List.setIfInBounds_toArray, List.set_cons_zero, List.set_cons_succ]); replace hM := Lib.hid (hM.out.new (k) 55); generalize a1.alloc (.cells ((k).map b8).toArray 55) = a2 at *; generalize a1.heap.size = g2 at *
  refine wpList_val (run_alc (vs := z8 16) rfl (by kernel_rfl)) rfl ?_; (try simp only [Act.put, List.setIfInBounds_toArray, List.set_cons_zero, List.set_cons_succ]); replace hM := Lib.hid (hM.out.newZ 16 55); generalize a2.alloc (.cells (z8 16).toArray 55) = a3 at *; generalize a2.heap.size = g3 at *
  refine wpList_end ?_
  replace hM : Hid (Ms w [(g3, List.replicate 16 0), (g2, k), (g1, upd f l 0)] a3) := Lib.hid (by rw [upd_zero]; exact hM.out)
  go_wp2_with fail
  go_loopw [6] (fun s u => ∃ j : Nat, j ≤ 16 ∧ s = .int .i64 (j : Int) ∧ Ms w [(g3, List.replicate 16 0), (g2, k), (g1, upd f l j)] u) (fun s _ => (16 - intOf s).toNat)
  case atStart => exact ⟨0, by omega, rfl, hM.out⟩
  case round =>
    obtain ⟨j, hj, rfl, hJ⟩ := hrel
    replace hM := Lib.hid hJ
    clear hJ
    have hul := upd_len f l j
    by_cases hlt : j = 16
    · subst hlt
      have hk1 : ¬ (((16 : Nat) : Int) < 16) := by omega
      rw [upd_all hl] at hM
      have htl := tab_len 16 f
      generalize tab 16 f = r at *
      go_upto_region 6 with fail; refine wp_region_lit ?_; refine wpList_val (run_ldM (vs := (r).map b8) rfl Tryd.underlying55 rfl (sz szBlock htl) rfl (hM.out.get (i := 2) rfl).range) rfl ?_; (try simp only [Act.put, List.setIfInBounds_toArray, List.set_cons_zero, List.set_cons_succ]); refine wpList_skip (run_stA (vs := (r).map b8) rfl (sz szBlock htl) rfl rfl (oneB _) ((hM.out.get (i := 0) rfl).there8 (by rw [htl, List.length_replicate]))) rfl rfl ?_; refine wpList_end ?_; replace hM := Lib.hid (hM.out.put 0 rfl (m := r) (by rw [htl, List.length_replicate])); go_wp2_with fail; refine bodyPost_ret (v := .agg ((r).map b8).toArray) (results_rowB Tryd.results42 rfl Tryd.underlying55 rfl (sz szBlock htl) (hM.out.get (i := 0) rfl).range) rfl ⟨by rw [EX.out], hM.out.bl⟩
    · have hk1 : (j : Int) < 16 := by omega
      have C1 : Hid (∀ V, Below wr.heap.size wr V → V.cell? ⟨g1, j, none⟩ = some (b8 (l.getD j 0))) := Lib.hid fun V hV => by
        rw [((hM.out.below hV).get (i := 2) rfl).get8 (i := j) (by omega), upd_get (Nat.le_refl _)]
      have C2 : Hid (∀ V, Below wr.heap.size wr V → V.cell? ⟨g2, j, none⟩ = some (b8 (k.getD j 0))) := Lib.hid fun V hV => ((hM.out.below hV).get (i := 1) rfl).get8 (i := j) (by omega)
      go_upto_region 3 with fail; refine wp_region_lit ?_
      refine wpList_val (run_mv (v := .int _ _) rfl rfl) rfl ?_; (try simp only [Act.put, List.setIfInBounds_toArray, List.set_cons_zero, List.set_cons_succ]); refine wpList_val (run_asg (v := .int _ _) rfl rfl) rfl ?_; (try simp only [Act.put, List.setIfInBounds_toArray, List.set_cons_zero, List.set_cons_succ])
      refine wpList_end ?_
      go_upto_region 4 with fail; refine wp_region_calm 7 (by kernel_rfl) (by kernel_rfl) ?_
      refine wpCalm_step _ (fun V hV => calm_run (run_mv (v := .int _ _) rfl rfl)) ?_; (try simp only [Act.put, List.setIfInBounds_toArray, List.set_cons_zero, List.set_cons_succ])
      refine wpCalm_step _ (fun V hV => calm_run (run_ix0 rfl Tryd.underlying55 (by kernel_rfl) rfl rfl (by omega))) ?_; (try simp only [Act.put, List.setIfInBounds_toArray, List.set_cons_zero, List.set_cons_succ])
      refine wpCalm_step _ (fun V hV => calm_run (run_ld8 rfl rfl (C1.out V hV))) ?_; (try simp only [Act.put, List.setIfInBounds_toArray, List.set_cons_zero, List.set_cons_succ])
      refine wpCalm_step _ (fun V hV => calm_run (run_mv (v := .int _ _) rfl rfl)) ?_; (try simp only [Act.put, List.setIfInBounds_toArray, List.set_cons_zero, List.set_cons_succ])
      refine wpCalm_step _ (fun V hV => calm_run (run_ix0 rfl Tryd.underlying55 (by kernel_rfl) rfl rfl (by omega))) ?_; (try simp only [Act.put, List.setIfInBounds_toArray, List.set_cons_zero, List.set_cons_succ])
      refine wpCalm_step _ (fun V hV => calm_run (run_ld8 rfl rfl (C2.out V hV))) ?_; (try simp only [Act.put, List.setIfInBounds_toArray, List.set_cons_zero, List.set_cons_succ])
      refine wpCalm_step _ (fun V hV => calm_run (run_xor8 rfl rfl rfl)) ?_; (try simp only [Act.put, List.setIfInBounds_toArray, List.set_cons_zero, List.set_cons_succ])
      refine wpCalm_done ?_; intro a4 hb; simp only [List.drop_succ_cons, List.drop_zero]
      replace hM := Lib.hid (hM.out.below hb)
      clear hb C1 C2
      refine wpList_val (run_ix0 rfl Tryd.underlying55 (by kernel_rfl) rfl rfl (by omega)) rfl ?_; (try simp only [Act.put, List.setIfInBounds_toArray, List.set_cons_zero, List.set_cons_succ])
      rw [← EF.out j]
      refine wpList_skip (run_st8 rfl rfl rfl ((hM.out.get (i := 2) rfl).get8 (by omega)) ((hM.out.get (i := 2) rfl).f _)) rfl rfl ?_
      refine wpList_end ?_
      replace hM : Hid (Ms w [(g3, List.replicate 16 0), (g2, k), (g1, upd f l (j + 1))] (a4.setCell ⟨g1, j, none⟩ (b8 (f j)))) := Lib.hid (by rw [← upd_set (by omega)]; exact hM.out.set 2 rfl (by omega) (f j))
      generalize a4.setCell ⟨g1, j, none⟩ (b8 (f j)) = a5 at *
      go_wp2_with fail
      go_roundw
      case rel => exact ⟨j + 1, by omega, by go_num, hM.out⟩
      case measure => simp [intOf]; omega
theorem enters_xor : Enters 42 := enters_of Tryd.func42 (by kernel_rfl) rfl
set_option maxRecDepth 20000 in
set_option maxHeartbeats 1000000 in
theorem boxw_any (g : Nat) (R l : List (BitVec 8)) (w : World) (hA : Arr g ((boxT ++ R).map b8) w) (hl : l.length = 4) : Calls Tryd.prog 61 #[.pointer (some ⟨g, 0, none⟩), .agg (l.map b8).toArray] w fun e w' => e = .returned (.agg ((boxW l).map b8).toArray) ∧ Below w.heap.size w w' := by
  have hM := Lib.hid (Ms.nil w)
  have HA := Lib.hid hA; clear hA
  obtain ⟨f, hf⟩ : ∃ f : Nat → BitVec 8, f = fun i => bx (l.getD i 0) := ⟨_, rfl⟩
  have EF : Hid (∀ i, f i = bx (l.getD i 0)) := Lib.hid fun i => by rw [hf]
  have EX : Hid (boxW l = tab 4 f) := Lib.hid (by rw [hf]; rfl)
  clear hf
  go_enter Tryd.func61, Tryd.ntmps61
  go_upto_region 0 with fail; refine wp_region_lit ?_
  refine wpList_val (run_box rfl rfl) rfl ?_; (try simp only [Act.put, List.setIfInBounds_toArray, List.set_cons_zero, List.set_cons_succ]); replace hM := Lib.hid (hM.out.new (l) 75); generalize w.alloc (.cells ((l).map b8).toArray 75) = a1 at *; generalize w.heap.size = g1 at *
  refine wpList_val (run_alc (vs := z8 4) rfl (by kernel_rfl)) rfl ?_; (try simp only [Act.put, List.setIfInBounds_toArray, List.set_cons_zero, List.set_cons_succ]); replace hM := Lib.hid (hM.out.newZ 4 75); generalize a1.alloc (.cells (z8 4).toArray 75) = a2 at *; generalize a1.heap.size = g2 at *
  refine wpList_end ?_
  replace hM : Hid (Ms w [(g2, List.replicate 4 0), (g1, upd f l 0)] a2) := Lib.hid (by rw [upd_zero]; exact hM.out)
  go_wp2_with fail
  go_loopw [6] (fun s u => ∃ j : Nat, j ≤ 4 ∧ s = .int .i64 (j : Int) ∧ Ms w [(g2, List.replicate 4 0), (g1, upd f l j)] u) (fun s _ => (4 - intOf s).toNat)
  case atStart => exact ⟨0, by omega, rfl, hM.out⟩
  case round =>
    obtain ⟨j, hj, rfl, hJ⟩ := hrel
    replace hM := Lib.hid hJ
    clear hJ
    have hul := upd_len f l j
    by_cases hlt : j = 4
    · subst hlt
      have hk1 : ¬ (((4 : Nat) : Int) < 4) := by omega
      rw [upd_all hl] at hM
      have htl := tab_len 4 f
      generalize tab 4 f = r at *
      go_upto_region 6 with fail; refine wp_region_lit ?_; refine wpList_val (run_ldM (vs := (r).map b8) rfl Tryd.underlying75 rfl (sz szWord htl) rfl (hM.out.get (i := 1) rfl).range) rfl ?_; (try simp only [Act.put, List.setIfInBounds_toArray, List.set_cons_zero, List.set_cons_succ]); refine wpList_skip (run_stA (vs := (r).map b8) rfl (sz szWord htl) rfl rfl (oneB _) ((hM.out.get (i := 0) rfl).there8 (by rw [htl, List.length_replicate]))) rfl rfl ?_; refine wpList_end ?_; replace hM := Lib.hid (hM.out.put 0 rfl (m := r) (by rw [htl, List.length_replicate])); go_wp2_with fail; refine bodyPost_ret (v := .agg ((r).map b8).toArray) (results_rowB Tryd.results61 rfl Tryd.underlying75 rfl (sz szWord htl) (hM.out.get (i := 0) rfl).range) rfl ⟨by rw [EX.out], hM.out.bl⟩
    · have hk1 : (j : Int) < 4 := by omega
      have C1 : Hid (∀ V, Below wr.heap.size wr V → V.cell? ⟨g1, j, none⟩ = some (b8 (l.getD j 0))) := Lib.hid fun V hV => by
        rw [((hM.out.below hV).get (i := 1) rfl).get8 (i := j) (by omega), upd_get (Nat.le_refl _)]
      have C2 : Hid (∀ V, Below wr.heap.size wr V → V.cell? ⟨g, (l.getD j 0).toNat, none⟩ = some (b8 (f j))) := Lib.hid fun V hV => by
        rw [EF.out]; exact there_get (HA.out.below (hM.out.below hV).bl) _
      have hx := (l.getD j 0).isLt
      generalize l.getD j 0 = x at *
      go_upto_region 3 with fail; refine wp_region_lit ?_
      refine wpList_val (run_mv (v := .int _ _) rfl rfl) rfl ?_; (try simp only [Act.put, List.setIfInBounds_toArray, List.set_cons_zero, List.set_cons_succ]); refine wpList_val (run_asg (v := .int _ _) rfl rfl) rfl ?_; (try simp only [Act.put, List.setIfInBounds_toArray, List.set_cons_zero, List.set_cons_succ])
      refine wpList_end ?_
      go_upto_region 4 with fail; refine wp_region_calm 9 (by kernel_rfl) (by kernel_rfl) ?_
      refine wpCalm_step _ (fun V hV => calm_run (run_mv (v := .int _ _) rfl rfl)) ?_; (try simp only [Act.put, List.setIfInBounds_toArray, List.set_cons_zero, List.set_cons_succ]); refine wpCalm_step _ (fun V hV => calm_run (run_mv (v := .pointer (some _)) rfl rfl)) ?_; (try simp only [Act.put, List.setIfInBounds_toArray, List.set_cons_zero, List.set_cons_succ]); refine wpCalm_step _ (fun V hV => calm_run (run_mv (v := .int _ _) rfl rfl)) ?_; (try simp only [Act.put, List.setIfInBounds_toArray, List.set_cons_zero, List.set_cons_succ])
      refine wpCalm_step _ (fun V hV => calm_run (run_ix0 rfl Tryd.underlying75 (by kernel_rfl) rfl rfl (by omega))) ?_; (try simp only [Act.put, List.setIfInBounds_toArray, List.set_cons_zero, List.set_cons_succ])
      refine wpCalm_step _ (fun V hV => calm_run (run_ld8 rfl rfl (C1.out V hV))) ?_; (try simp only [Act.put, List.setIfInBounds_toArray, List.set_cons_zero, List.set_cons_succ])
      refine wpCalm_step _ (fun V hV => calm_run (run_nck rfl rfl)) ?_; (try simp only [Act.put, List.setIfInBounds_toArray, List.set_cons_zero, List.set_cons_succ])
      refine wpCalm_step _ (fun V hV => calm_run (run_fad (s := 255) (k := 0) rfl Tryd.underlying69 rfl (by kernel_rfl) rfl rfl)) ?_; (try simp only [Act.put, List.setIfInBounds_toArray, List.set_cons_zero, List.set_cons_succ])
      refine wpCalm_step _ (fun V hV => calm_run (run_ix0 rfl Tryd.underlying67 (by kernel_rfl) rfl rfl hx)) ?_; (try simp only [Act.put, List.setIfInBounds_toArray, List.set_cons_zero, List.set_cons_succ])
      refine wpCalm_step _ (fun V hV => calm_run (run_ld8 rfl rfl (C2.out V hV))) ?_; (try simp only [Act.put, List.setIfInBounds_toArray, List.set_cons_zero, List.set_cons_succ])
      refine wpCalm_done ?_; intro a4 hb; simp only [List.drop_succ_cons, List.drop_zero]
      replace hM := Lib.hid (hM.out.below hb)
      clear hb C1 C2
      refine wpList_val (run_ix0 rfl Tryd.underlying75 (by kernel_rfl) rfl rfl (by omega)) rfl ?_; (try simp only [Act.put, List.setIfInBounds_toArray, List.set_cons_zero, List.set_cons_succ])
      refine wpList_skip (run_st8 rfl rfl rfl ((hM.out.get (i := 1) rfl).get8 (by omega)) ((hM.out.get (i := 1) rfl).f _)) rfl rfl ?_
      refine wpList_end ?_
      replace hM : Hid (Ms w [(g2, List.replicate 4 0), (g1, upd f l (j + 1))] (a4.setCell ⟨g1, j, none⟩ (b8 (f j)))) := Lib.hid (by rw [← upd_set (by omega)]; exact hM.out.set 1 rfl (by omega) (f j))
      generalize a4.setCell ⟨g1, j, none⟩ (b8 (f j)) = a5 at *
      go_wp2_with fail
      go_roundw
      case rel => exact ⟨j + 1, by omega, by go_num, hM.out⟩
      case measure => simp [intOf]; omega
theorem enters_boxw : Enters 61 := enters_of Tryd.func61 (by kernel_rfl) rfl
set_option maxRecDepth 20000 in
set_option maxHeartbeats 1000000 in
theorem boxb_any (g : Nat) (R l : List (BitVec 8)) (w : World) (hA : Arr g ((boxT ++ R).map b8) w) (hl : l.length = 16) : Calls Tryd.prog 43 #[.pointer (some ⟨g, 0, none⟩), .agg (l.map b8).toArray] w fun e w' => e = .returned (.agg ((boxB l).map b8).toArray) ∧ Below w.heap.size w w' := by
  have hM := Lib.hid (Ms.nil w)
  have HA := Lib.hid hA; clear hA
  obtain ⟨f, hf⟩ : ∃ f : Nat → BitVec 8, f = fun i => bx (l.getD i 0) := ⟨_, rfl⟩
  have EF : Hid (∀ i, f i = bx (l.getD i 0)) := Lib.hid fun i => by rw [hf]
  have EX : Hid (boxB l = tab 16 f) := Lib.hid (by rw [hf]; rfl)
  clear hf
  go_enter Tryd.func43, Tryd.ntmps43
  go_upto_region 0 with fail; refine wp_region_lit ?_
  refine wpList_val (run_box rfl rfl) rfl ?_; (try simp only [Act.put, List.setIfInBounds_toArray, List.set_cons_zero, List.set_cons_succ]); replace hM := Lib.hid (hM.out.new (l) 55); generalize w.alloc (.cells ((l).map b8).toArray 55) = a1 at *; generalize w.heap.size = g1 at *
  refine wpList_val (run_alc (vs := z8 16) rfl (by kernel_rfl)) rfl ?_; (try simp only [Act.put, List.setIfInBounds_toArray, List.set_cons_zero, List.set_cons_succ]); replace hM := Lib.hid (hM.out.newZ 16 55); generalize a1.alloc (.cells (z8 16).toArray 55) = a2 at *; generalize a1.heap.size = g2 at *
  refine wpList_end ?_
  replace hM : Hid (Ms w [(g2, List.replicate 16 0), (g1, upd f l 0)] a2) := Lib.hid (by rw [upd_zero]; exact hM.out)
  go_wp2_with fail
  go_loopw [6] (fun s u => ∃ j : Nat, j ≤ 16 ∧ s = .int .i64 (j : Int) ∧ Ms w [(g2, List.replicate 16 0), (g1, upd f l j)] u) (fun s _ => (16 - intOf s).toNat)
  case atStart => exact ⟨0, by omega, rfl, hM.out⟩
  case round =>
    obtain ⟨j, hj, rfl, hJ⟩ := hrel
    replace hM := Lib.hid hJ
    clear hJ
    have hul := upd_len f l j
    by_cases hlt : j = 16
    · subst hlt
      have hk1 : ¬ (((16 : Nat) : Int) < 16) := by omega
      rw [upd_all hl] at hM
      have htl := tab_len 16 f
      generalize tab 16 f = r at *
      go_upto_region 6 with fail; refine wp_region_lit ?_; refine wpList_val (run_ldM (vs := (r).map b8) rfl Tryd.underlying55 rfl (sz szBlock htl) rfl (hM.out.get (i := 1) rfl).range) rfl ?_; (try simp only [Act.put, List.setIfInBounds_toArray, List.set_cons_zero, List.set_cons_succ]); refine wpList_skip (run_stA (vs := (r).map b8) rfl (sz szBlock htl) rfl rfl (oneB _) ((hM.out.get (i := 0) rfl).there8 (by rw [htl, List.length_replicate]))) rfl rfl ?_; refine wpList_end ?_; replace hM := Lib.hid (hM.out.put 0 rfl (m := r) (by rw [htl, List.length_replicate])); go_wp2_with fail; refine bodyPost_ret (v := .agg ((r).map b8).toArray) (results_rowB Tryd.results43 rfl Tryd.underlying55 rfl (sz szBlock htl) (hM.out.get (i := 0) rfl).range) rfl ⟨by rw [EX.out], hM.out.bl⟩
    · have hk1 : (j : Int) < 16 := by omega
      have C1 : Hid (∀ V, Below wr.heap.size wr V → V.cell? ⟨g1, j, none⟩ = some (b8 (l.getD j 0))) := Lib.hid fun V hV => by
        rw [((hM.out.below hV).get (i := 1) rfl).get8 (i := j) (by omega), upd_get (Nat.le_refl _)]
      have C2 : Hid (∀ V, Below wr.heap.size wr V → V.cell? ⟨g, (l.getD j 0).toNat, none⟩ = some (b8 (f j))) := Lib.hid fun V hV => by
        rw [EF.out]; exact there_get (HA.out.below (hM.out.below hV).bl) _
      have hx := (l.getD j 0).isLt
      generalize l.getD j 0 = x at *
      go_upto_region 3 with fail; refine wp_region_lit ?_
      refine wpList_val (run_mv (v := .int _ _) rfl rfl) rfl ?_; (try simp only [Act.put, List.setIfInBounds_toArray, List.set_cons_zero, List.set_cons_succ]); refine wpList_val (run_asg (v := .int _ _) rfl rfl) rfl ?_; (try simp only [Act.put, List.setIfInBounds_toArray, List.set_cons_zero, List.set_cons_succ])
      refine wpList_end ?_
      go_upto_region 4 with fail; refine wp_region_calm 9 (by kernel_rfl) (by kernel_rfl) ?_
      refine wpCalm_step _ (fun V hV => calm_run (run_mv (v := .int _ _) rfl rfl)) ?_; (try simp only [Act.put, List.setIfInBounds_toArray, List.set_cons_zero, List.set_cons_succ]); refine wpCalm_step _ (fun V hV => calm_run (run_mv (v := .pointer (some _)) rfl rfl)) ?_; (try simp only [Act.put, List.setIfInBounds_toArray, List.set_cons_zero, List.set_cons_succ]); refine wpCalm_step _ (fun V hV => calm_run (run_mv (v := .int _ _) rfl rfl)) ?_; (try simp only [Act.put, List.setIfInBounds_toArray, List.set_cons_zero, List.set_cons_succ])
      refine wpCalm_step _ (fun V hV => calm_run (run_ix0 rfl Tryd.underlying55 (by kernel_rfl) rfl rfl (by omega))) ?_; (try simp only [Act.put, List.setIfInBounds_toArray, List.set_cons_zero, List.set_cons_succ])
      refine wpCalm_step _ (fun V hV => calm_run (run_ld8 rfl rfl (C1.out V hV))) ?_; (try simp only [Act.put, List.setIfInBounds_toArray, List.set_cons_zero, List.set_cons_succ])
      refine wpCalm_step _ (fun V hV => calm_run (run_nck rfl rfl)) ?_; (try simp only [Act.put, List.setIfInBounds_toArray, List.set_cons_zero, List.set_cons_succ])
      refine wpCalm_step _ (fun V hV => calm_run (run_fad (s := 255) (k := 0) rfl Tryd.underlying69 rfl (by kernel_rfl) rfl rfl)) ?_; (try simp only [Act.put, List.setIfInBounds_toArray, List.set_cons_zero, List.set_cons_succ])
      refine wpCalm_step _ (fun V hV => calm_run (run_ix0 rfl Tryd.underlying67 (by kernel_rfl) rfl rfl hx)) ?_; (try simp only [Act.put, List.setIfInBounds_toArray, List.set_cons_zero, List.set_cons_succ])
      refine wpCalm_step _ (fun V hV => calm_run (run_ld8 rfl rfl (C2.out V hV))) ?_; (try simp only [Act.put, List.setIfInBounds_toArray, List.set_cons_zero, List.set_cons_succ])
      refine wpCalm_done ?_; intro a4 hb; simp only [List.drop_succ_cons, List.drop_zero]
      replace hM := Lib.hid (hM.out.below hb)
      clear hb C1 C2
      refine wpList_val (run_ix0 rfl Tryd.underlying55 (by kernel_rfl) rfl rfl (by omega)) rfl ?_; (try simp only [Act.put, List.setIfInBounds_toArray, List.set_cons_zero, List.set_cons_succ])
      refine wpList_skip (run_st8 rfl rfl rfl ((hM.out.get (i := 1) rfl).get8 (by omega)) ((hM.out.get (i := 1) rfl).f _)) rfl rfl ?_
      refine wpList_end ?_
      replace hM : Hid (Ms w [(g2, List.replicate 16 0), (g1, upd f l (j + 1))] (a4.setCell ⟨g1, j, none⟩ (b8 (f j)))) := Lib.hid (by rw [← upd_set (by omega)]; exact hM.out.set 1 rfl (by omega) (f j))
      generalize a4.setCell ⟨g1, j, none⟩ (b8 (f j)) = a5 at *
      go_wp2_with fail
      go_roundw
      case rel => exact ⟨j + 1, by omega, by go_num, hM.out⟩
      case measure => simp [intOf]; omega
theorem enters_boxb : Enters 43 := enters_of Tryd.func43 (by kernel_rfl) rfl
set_option maxHeartbeats 1000000 in
theorem turn_any (n : Nat) (l : List (BitVec 8)) (w : World) (hn : n ≤ 3) (hl : l.length = 16) : Calls Tryd.prog 44 #[.agg (l.map b8).toArray, .int .i64 (n : Int)] w fun e w' => e = .returned (.agg ((turnB n l).map b8).toArray) ∧ Below w.heap.size w w' := by
  have hM := Lib.hid (Ms.nil w)
  obtain ⟨f, hf⟩ : ∃ f : Nat → BitVec 8, f = fun i => l.getD (turnI n i) 0 := ⟨_, rfl⟩
  have EF : Hid (∀ i, f i = l.getD (turnI n i) 0) := Lib.hid fun i => by rw [hf]
  have EX : Hid (turnB n l = tab 16 f) := Lib.hid (by rw [hf]; rfl)
  clear hf
  go_enter Tryd.func44, Tryd.ntmps44
  go_upto_region 0 with fail; refine wp_region_lit ?_
  refine wpList_val (run_box rfl rfl) rfl ?_; (try simp only [Act.put, List.setIfInBounds_toArray, List.set_cons_zero, List.set_cons_succ]); replace hM := Lib.hid (hM.out.new (l) 55); generalize w.alloc (.cells ((l).map b8).toArray 55) = a1 at *; generalize w.heap.size = g1 at *
  refine wpList_val (run_alc (vs := z8 16) rfl (by kernel_rfl)) rfl ?_; (try simp only [Act.put, List.setIfInBounds_toArray, List.set_cons_zero, List.set_cons_succ]); replace hM := Lib.hid (hM.out.newZ 16 55); generalize a1.alloc (.cells (z8 16).toArray 55) = a2 at *; generalize a1.heap.size = g2 at *
  refine wpList_end ?_
  go_upto_region 1 with fail; refine wp_region_lit ?_
  refine wpList_val (run_alc (vs := z8 16) rfl (by kernel_rfl)) rfl ?_; (try simp only [Act.put, List.setIfInBounds_toArray, List.set_cons_zero, List.set_cons_succ]); replace hM := Lib.hid (hM.out.newZ 16 55); generalize a2.alloc (.cells (z8 16).toArray 55) = a3 at *; generalize a2.heap.size = g3 at *
  refine wpList_end ?_
  replace hM : Hid (Ms w [(g3, upd f (List.replicate 16 0) 0), (g2, List.replicate 16 0), (g1, l)] a3) := Lib.hid (by rw [upd_zero]; exact hM.out)
  go_wp2_with fail
  go_loopw [9] (fun s u => ∃ j : Nat, j ≤ 16 ∧ s = .int .i64 (j : Int) ∧ Ms w [(g3, upd f (List.replicate 16 0) j), (g2, List.replicate 16 0), (g1, l)] u) (fun s _ => (16 - intOf s).toNat)
  case atStart => exact ⟨0, by omega, rfl, hM.out⟩
  case round =>
    obtain ⟨j, hj, rfl, hJ⟩ := hrel
    replace hM := Lib.hid hJ
    clear hJ
    have hul : (upd f (List.replicate 16 0) j).length = 16 := by rw [upd_len, List.length_replicate]
    by_cases hlt : j = 16
    · subst hlt
      have hk1 : ¬ (((16 : Nat) : Int) < 16) := by omega
      rw [upd_all List.length_replicate] at hM
      have htl := tab_len 16 f
      generalize tab 16 f = r at *
      go_upto_region 8 with fail; refine wp_region_lit ?_; refine wpList_val (run_ldM (vs := (r).map b8) rfl Tryd.underlying55 rfl (sz szBlock htl) rfl (hM.out.get (i := 0) rfl).range) rfl ?_; (try simp only [Act.put, List.setIfInBounds_toArray, List.set_cons_zero, List.set_cons_succ]); refine wpList_skip (run_stA (vs := (r).map b8) rfl (sz szBlock htl) rfl rfl (oneB _) ((hM.out.get (i := 1) rfl).there8 (by rw [htl, List.length_replicate]))) rfl rfl ?_; refine wpList_end ?_; replace hM := Lib.hid (hM.out.put 1 rfl (m := r) (by rw [htl, List.length_replicate])); go_wp2_with fail; refine bodyPost_ret (v := .agg ((r).map b8).toArray) (results_rowB Tryd.results44 rfl Tryd.underlying55 rfl (sz szBlock htl) (hM.out.get (i := 1) rfl).range) rfl ⟨by rw [EX.out], hM.out.bl⟩
    · have hk1 : (j : Int) < 16 := by omega
      have C1 : Hid (wr.cell? ⟨g1, 4 * ((j / 4 + n * (j % 4)) % 4) + j % 4, none⟩ = some (b8 (f j))) := Lib.hid (by
        rw [EF.out]; exact (hM.out.get (i := 2) rfl).get8 (i := turnI n j) (by unfold turnI; omega))
      have hm : n * (j % 4) ≤ 3 * 3 := Nat.mul_le_mul hn (by omega)
      go_upto_region 4 with fail; refine wp_region_lit ?_
      refine wpList_val (run_mv (v := .int _ _) rfl rfl) rfl ?_; (try simp only [Act.put, List.setIfInBounds_toArray, List.set_cons_zero, List.set_cons_succ]); refine wpList_val (run_asg (v := .int _ _) rfl rfl) rfl ?_; (try simp only [Act.put, List.setIfInBounds_toArray, List.set_cons_zero, List.set_cons_succ])
      refine wpList_end ?_
      go_upto_region 5 with fail; refine wp_region_lit ?_
      refine wpList_val (run_mv (v := .int _ _) rfl rfl) rfl ?_; (try simp only [Act.put, List.setIfInBounds_toArray, List.set_cons_zero, List.set_cons_succ])
      refine wpList_val (run_quoN (b := 4) rfl rfl rfl (by omega) (by omega)) rfl ?_; (try simp only [Act.put, List.setIfInBounds_toArray, List.set_cons_zero, List.set_cons_succ])
      refine wpList_val (run_mv (v := .int _ _) rfl rfl) rfl ?_; (try simp only [Act.put, List.setIfInBounds_toArray, List.set_cons_zero, List.set_cons_succ])
      refine wpList_val (run_remN (b := 4) rfl rfl rfl (by omega)) rfl ?_; (try simp only [Act.put, List.setIfInBounds_toArray, List.set_cons_zero, List.set_cons_succ])
      refine wpList_val (run_asg (v := .int _ _) rfl rfl) rfl ?_; (try simp only [Act.put, List.setIfInBounds_toArray, List.set_cons_zero, List.set_cons_succ]); refine wpList_val (run_asg (v := .int _ _) rfl rfl) rfl ?_; (try simp only [Act.put, List.setIfInBounds_toArray, List.set_cons_zero, List.set_cons_succ])
      refine wpList_end ?_
      go_upto_region 6 with fail; refine wp_region_lit ?_
      refine wpList_val (run_mv (v := .int _ _) rfl rfl) rfl ?_; (try simp only [Act.put, List.setIfInBounds_toArray, List.set_cons_zero, List.set_cons_succ]); refine wpList_val (run_mv (v := .int _ _) rfl rfl) rfl ?_; (try simp only [Act.put, List.setIfInBounds_toArray, List.set_cons_zero, List.set_cons_succ]); refine wpList_val (run_mv (v := .int _ _) rfl rfl) rfl ?_; (try simp only [Act.put, List.setIfInBounds_toArray, List.set_cons_zero, List.set_cons_succ]); refine wpList_val (run_mv (v := .int _ _) rfl rfl) rfl ?_; (try simp only [Act.put, List.setIfInBounds_toArray, List.set_cons_zero, List.set_cons_succ])
      refine wpList_val (run_mulN rfl rfl rfl (by omega)) rfl ?_; (try simp only [Act.put, List.setIfInBounds_toArray, List.set_cons_zero, List.set_cons_succ])
      refine wpList_val (run_addN rfl rfl rfl (by omega)) rfl ?_; (try simp only [Act.put, List.setIfInBounds_toArray, List.set_cons_zero, List.set_cons_succ])
      refine wpList_val (run_remN (b := 4) rfl rfl rfl (by omega)) rfl ?_; (try simp only [Act.put, List.setIfInBounds_toArray, List.set_cons_zero, List.set_cons_succ])
      refine wpList_val (run_mulN (a := 4) rfl rfl rfl (by omega)) rfl ?_; (try simp only [Act.put, List.setIfInBounds_toArray, List.set_cons_zero, List.set_cons_succ])
      refine wpList_val (run_mv (v := .int _ _) rfl rfl) rfl ?_; (try simp only [Act.put, List.setIfInBounds_toArray, List.set_cons_zero, List.set_cons_succ])
      refine wpList_val (run_addN rfl rfl rfl (by omega)) rfl ?_; (try simp only [Act.put, List.setIfInBounds_toArray, List.set_cons_zero, List.set_cons_succ])
      refine wpList_val (run_ix0 rfl Tryd.underlying55 (by kernel_rfl) rfl rfl (by omega)) rfl ?_; (try simp only [Act.put, List.setIfInBounds_toArray, List.set_cons_zero, List.set_cons_succ])
      refine wpList_val (run_ld8 rfl rfl C1.out) rfl ?_; (try simp only [Act.put, List.setIfInBounds_toArray, List.set_cons_zero, List.set_cons_succ])
      refine wpList_val (run_ix0 rfl Tryd.underlying55 (by kernel_rfl) rfl rfl (by omega)) rfl ?_; (try simp only [Act.put, List.setIfInBounds_toArray, List.set_cons_zero, List.set_cons_succ])
      refine wpList_skip (run_st8 rfl rfl rfl ((hM.out.get (i := 0) rfl).get8 (by omega)) ((hM.out.get (i := 0) rfl).f _)) rfl rfl ?_
      refine wpList_end ?_
      replace hM : Hid (Ms w [(g3, upd f (List.replicate 16 0) (j + 1)), (g2, List.replicate 16 0), (g1, l)] (wr.setCell ⟨g3, j, none⟩ (b8 (f j)))) := Lib.hid (by rw [← upd_set (by rw [List.length_replicate]; omega)]; exact hM.out.set 0 rfl (by omega) (f j))
      generalize wr.setCell ⟨g3, j, none⟩ (b8 (f j)) = a5 at *
      go_wp2_with fail
      go_roundw
      case rel => exact ⟨j + 1, by omega, by go_num, hM.out⟩
      case measure => simp [intOf]; omega
theorem enters_turn : Enters 44 := enters_of Tryd.func44 (by kernel_rfl) rfl
set_option maxHeartbeats 1000000 in
theorem next_any (l : List (BitVec 8)) (w : World) (hl : l.length = 16) : Calls Tryd.prog 28 #[.agg (l.map b8).toArray] w fun e w' => e = .returned (.agg ((nxt 16 l).map b8).toArray) ∧ Below w.heap.size w w' := by
  have hM := Lib.hid (Ms.nil w)
  have hnl : (nxt 16 l).length = 16 := by rw [nxt_len, hl]
  obtain ⟨r, hr⟩ : ∃ r, r = nxt 16 l := ⟨_, rfl⟩
  have EX : Hid (nxt 16 l = r) := Lib.hid hr.symm
  rw [← hr] at hnl
  clear hr
  go_enter Tryd.func28, Tryd.ntmps28
  go_upto_region 0 with fail; refine wp_region_lit ?_
  refine wpList_val (run_box rfl rfl) rfl ?_; (try simp only [Act.put, List.setIfInBounds_toArray, List.set_cons_zero, List.set_cons_succ]); replace hM := Lib.hid (hM.out.new (l) 55); generalize w.alloc (.cells ((l).map b8).toArray 55) = a1 at *; generalize w.heap.size = g1 at *
  refine wpList_val (run_alc (vs := z8 16) rfl (by kernel_rfl)) rfl ?_; (try simp only [Act.put, List.setIfInBounds_toArray, List.set_cons_zero, List.set_cons_succ]); replace hM := Lib.hid (hM.out.newZ 16 55); generalize a1.alloc (.cells (z8 16).toArray 55) = a2 at *; generalize a1.heap.size = g2 at *
  refine wpList_end ?_
  go_wp2_with fail
  go_loopw [3] (fun s u => ∃ (i : Nat) (m : List (BitVec 8)), i ≤ 16 ∧ s = .int .i64 ((i : Int) - 1) ∧ m.length = 16 ∧ nxt i m = r ∧ Ms w [(g2, List.replicate 16 0), (g1, m)] u) (fun s _ => (intOf s + 1).toNat)
  case atStart => exact ⟨16, l, by omega, rfl, hl, EX.out, hM.out⟩
  case round =>
    obtain ⟨i, m, hi, rfl, hm, he, hJ⟩ := hrel
    replace hM := Lib.hid hJ
    have HE := Lib.hid he
    clear hJ he
    by_cases h0 : i = 0
    · subst h0
      have hk1 : ¬ ((0 : Int) ≤ ((0 : Nat) : Int) - 1) := by omega
      obtain rfl : m = r := HE.out
      go_upto_region 6 with fail; refine wp_region_lit ?_; refine wpList_val (run_ldM (vs := (m).map b8) rfl Tryd.underlying55 rfl (sz szBlock hm) rfl (hM.out.get (i := 1) rfl).range) rfl ?_; (try simp only [Act.put, List.setIfInBounds_toArray, List.set_cons_zero, List.set_cons_succ]); refine wpList_skip (run_stA (vs := (m).map b8) rfl (sz szBlock hm) rfl rfl (oneB _) ((hM.out.get (i := 0) rfl).there8 (by rw [hm, List.length_replicate]))) rfl rfl ?_; refine wpList_end ?_; replace hM := Lib.hid (hM.out.put 0 rfl (m := m) (by rw [hm, List.length_replicate])); go_wp2_with fail; refine bodyPost_ret (v := .agg ((m).map b8).toArray) (results_rowB Tryd.results28 rfl Tryd.underlying55 rfl (sz szBlock hm) (hM.out.get (i := 0) rfl).range) rfl ⟨by rw [EX.out], hM.out.bl⟩
    · obtain ⟨i, rfl⟩ : ∃ j, i = j + 1 := ⟨i - 1, by omega⟩
      have e1 : (((i + 1 : Nat) : Int) - 1) = (i : Int) := by omega
      rw [e1]
      have hk1 : (0 : Int) ≤ (i : Int) := by omega
      rw [nxt] at HE
      go_upto_region 4 with fail; refine wp_region_lit ?_
      refine wpList_val (run_mv (v := .int _ _) rfl rfl) rfl ?_; (try simp only [Act.put, List.setIfInBounds_toArray, List.set_cons_zero, List.set_cons_succ])
      refine wpList_val (run_ix0 rfl Tryd.underlying55 (by kernel_rfl) rfl rfl (by omega)) rfl ?_; (try simp only [Act.put, List.setIfInBounds_toArray, List.set_cons_zero, List.set_cons_succ])
      refine wpList_val (run_ld8 rfl rfl ((hM.out.get (i := 1) rfl).get8 (by omega))) rfl ?_; (try simp only [Act.put, List.setIfInBounds_toArray, List.set_cons_zero, List.set_cons_succ])
      refine wpList_val (run_add8 (b := 1) rfl rfl rfl) rfl ?_; (try simp only [Act.put, List.setIfInBounds_toArray, List.set_cons_zero, List.set_cons_succ])
      refine wpList_val (run_ix0 rfl Tryd.underlying55 (by kernel_rfl) rfl rfl (by omega)) rfl ?_; (try simp only [Act.put, List.setIfInBounds_toArray, List.set_cons_zero, List.set_cons_succ])
      refine wpList_skip (run_st8 rfl rfl rfl ((hM.out.get (i := 1) rfl).get8 (by omega)) ((hM.out.get (i := 1) rfl).f _)) rfl rfl ?_
      refine wpList_end ?_
      generalize m.getD i 0 + 1 = x at *
      replace hM : Hid (Ms w [(g2, List.replicate 16 0), (g1, m.set i x)] (wr.setCell ⟨g1, i, none⟩ (b8 x))) := Lib.hid (hM.out.set 1 rfl (by omega) x)
      have hx : (m.set i x).getD i 0 = x := by rw [getD_setB _ _ _ _ (by omega), if_pos rfl]
      replace hm : (m.set i x).length = 16 := by rw [List.length_set, hm]
      generalize m.set i x = m' at *
      generalize wr.setCell ⟨g1, i, none⟩ (b8 x) = a5 at *
      go_upto_region 5 with fail; refine wp_region_lit ?_
      refine wpList_val (run_mv (v := .int _ _) rfl rfl) rfl ?_; (try simp only [Act.put, List.setIfInBounds_toArray, List.set_cons_zero, List.set_cons_succ])
      refine wpList_val (run_ix0 rfl Tryd.underlying55 (by kernel_rfl) rfl rfl (by omega)) rfl ?_; (try simp only [Act.put, List.setIfInBounds_toArray, List.set_cons_zero, List.set_cons_succ])
      refine wpList_val (run_ld8 rfl rfl ((hM.out.get (i := 1) rfl).get8 (by omega))) rfl ?_; (try simp only [Act.put, List.setIfInBounds_toArray, List.set_cons_zero, List.set_cons_succ])
      rw [hx]
      by_cases hz : x ≠ 0
      · rw [if_pos hz] at HE
        refine wpList_val (run_neq8 (b := 0) (c := true) rfl rfl rfl (decide_eq_true hz)) rfl ?_; (try simp only [Act.put, List.setIfInBounds_toArray, List.set_cons_zero, List.set_cons_succ])
        refine wpList_end ?_
        obtain rfl : m' = r := HE.out
        go_upto_region 6 with fail; refine wp_region_lit ?_; refine wpList_val (run_ldM (vs := (m').map b8) rfl Tryd.underlying55 rfl (sz szBlock hm) rfl (hM.out.get (i := 1) rfl).range) rfl ?_; (try simp only [Act.put, List.setIfInBounds_toArray, List.set_cons_zero, List.set_cons_succ]); refine wpList_skip (run_stA (vs := (m').map b8) rfl (sz szBlock hm) rfl rfl (oneB _) ((hM.out.get (i := 0) rfl).there8 (by rw [hm, List.length_replicate]))) rfl rfl ?_; refine wpList_end ?_; replace hM := Lib.hid (hM.out.put 0 rfl (m := m') (by rw [hm, List.length_replicate])); go_wp2_with fail; refine bodyPost_ret (v := .agg ((m').map b8).toArray) (results_rowB Tryd.results28 rfl Tryd.underlying55 rfl (sz szBlock hm) (hM.out.get (i := 0) rfl).range) rfl ⟨by rw [EX.out], hM.out.bl⟩
      · rw [if_neg hz] at HE
        refine wpList_val (run_neq8 (b := 0) (c := false) rfl rfl rfl (decide_eq_false hz)) rfl ?_; (try simp only [Act.put, List.setIfInBounds_toArray, List.set_cons_zero, List.set_cons_succ])
        refine wpList_end ?_
        clear hx hz
        go_wp2_with fail
        go_roundw
        case rel => exact ⟨i, m', by omega, by go_num, hm, HE.out, hM.out⟩
        case measure => simp [intOf]
theorem enters_next : Enters 28 := enters_of Tryd.func28 (by kernel_rfl) rfl
end Go.Proofs.YtobpgolchlgpfaaDoor
