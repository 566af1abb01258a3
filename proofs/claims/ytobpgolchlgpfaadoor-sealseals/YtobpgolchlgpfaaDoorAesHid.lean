/- What aes' hide and show do. -/
import Derived.Test.YtobpgolchlgpfaaDoorAesB1
import Derived.Test.YtobpgolchlgpfaaDoorAesBox
import Derived.Test.YtobpgolchlgpfaaDoorAesMath
import Derived.Test.YtobpgolchlgpfaaDoorAesKey
namespace Go.Proofs.YtobpgolchlgpfaaDoor
open Go.RowKit
set_option maxRecDepth 20000

set_option maxRecDepth 20000 in
set_option maxHeartbeats 1000000 in
theorem column_any (l : List (BitVec 8)) (c : Nat) (w : World) (hl : l.length = 16) (hc : c < 4) : Calls Tryd.prog 62 #[.agg (l.map b8).toArray, .int .i64 (c : Int)] w fun e w' => e = .returned (.agg ((col l c).map b8).toArray) ∧ Below w.heap.size w w' := by
  have hM := Lib.hid (Ms.nil w)
  have hcl := col_len l c
  have hcg : ∀ i, i < (col l c).length → (col l c).getD i 0 = l.getD (0 + 4 * c + i) 0 := fun i hi => by
    rw [col_len] at hi
    rw [col, tab_get _ hi, Nat.zero_add]
  obtain ⟨r, hr⟩ : ∃ r, r = col l c := ⟨_, rfl⟩
  have EX : Hid (col l c = r) := Lib.hid hr.symm
  rw [← hr] at hcl hcg
  have HG := Lib.hid hcg
  clear hr hcg
  go_enter Tryd.func62, Tryd.ntmps62
  go_upto_region 0 with fail; refine wp_region_lit ?_
  refine wpList_val (run_box rfl rfl) rfl ?_; (try simp only [Act.put, List.setIfInBounds_toArray, List.set_cons_zero, List.set_cons_succ]); replace hM := Lib.hid (hM.out.new (l) 55); generalize w.alloc (.cells ((l).map b8).toArray 55) = a1 at *; generalize w.heap.size = g1 at *
  refine wpList_val (run_alc (vs := z8 4) rfl (by kernel_rfl)) rfl ?_; (try simp only [Act.put, List.setIfInBounds_toArray, List.set_cons_zero, List.set_cons_succ]); replace hM := Lib.hid (hM.out.newZ 4 75); generalize a1.alloc (.cells (z8 4).toArray 75) = a2 at *; generalize a1.heap.size = g2 at *
  refine wpList_end ?_
  go_upto_region 1 with fail; refine wp_region_lit ?_
  refine wpList_val (run_mv (v := .int _ _) rfl rfl) rfl ?_; (try simp only [Act.put, List.setIfInBounds_toArray, List.set_cons_zero, List.set_cons_succ])
  refine wpList_val (run_mulN (a := 4) rfl rfl rfl (by omega)) rfl ?_; (try simp only [Act.put, List.setIfInBounds_toArray, List.set_cons_zero, List.set_cons_succ])
  refine wpList_val (run_mv (v := .int _ _) rfl rfl) rfl ?_; (try simp only [Act.put, List.setIfInBounds_toArray, List.set_cons_zero, List.set_cons_succ])
  refine wpList_val (run_mulN (a := 4) rfl rfl rfl (by omega)) rfl ?_; (try simp only [Act.put, List.setIfInBounds_toArray, List.set_cons_zero, List.set_cons_succ])
  refine wpList_val (run_addN (b := 4) rfl rfl rfl (by omega)) rfl ?_; (try simp only [Act.put, List.setIfInBounds_toArray, List.set_cons_zero, List.set_cons_succ])
  refine wpList_val (run_slAlh rfl Tryd.underlying55 (by kernel_rfl) rfl rfl rfl (by omega) (by omega) (by omega)) rfl ?_; (try simp only [Act.put, List.setIfInBounds_toArray, List.set_cons_zero, List.set_cons_succ])
  refine wpList_val (run_s2a rfl Tryd.underlying75 rfl (by omega)) rfl ?_; (try simp only [Act.put, List.setIfInBounds_toArray, List.set_cons_zero, List.set_cons_succ])
  refine wpList_val (run_ldM (vs := r.map b8) rfl Tryd.underlying75 rfl (sz szWord hcl) rfl ((hM.out.get (i := 1) rfl).tab8 (by omega) HG.out)) rfl ?_; (try simp only [Act.put, List.setIfInBounds_toArray, List.set_cons_zero, List.set_cons_succ])
  refine wpList_skip (run_stA (vs := r.map b8) rfl (sz szWord hcl) rfl rfl (oneB _) ((hM.out.get (i := 0) rfl).there8 (by rw [hcl, List.length_replicate]))) rfl rfl ?_
  refine wpList_end ?_
  replace hM := Lib.hid (hM.out.put 0 rfl (m := r) (by rw [hcl, List.length_replicate]))
  go_wp2_with fail
  refine bodyPost_ret (v := .agg (r.map b8).toArray) (results_rowB Tryd.results62 rfl Tryd.underlying75 rfl (sz szWord hcl) (hM.out.get (i := 0) rfl).range) rfl ⟨by rw [EX.out], hM.out.bl⟩
theorem enters_column : Enters 62 := enters_of Tryd.func62 (by kernel_rfl) rfl
set_option maxRecDepth 20000 in
set_option maxHeartbeats 2000000 in
theorem mixW_any (l : List (BitVec 8)) (w : World) (hl : l.length = 4) : Calls Tryd.prog 63 #[.agg (l.map b8).toArray] w fun e w' => e = .returned (.agg ((mixW l).map b8).toArray) ∧ Below w.heap.size w w' := by
  have hM := Lib.hid (Ms.nil w)
  obtain ⟨f, hf⟩ : ∃ f : Nat → BitVec 8, f = fun k => dbl (l.getD k 0) ^^^ tri (l.getD ((k + 1) % 4) 0) ^^^ l.getD ((k + 2) % 4) 0 ^^^ l.getD ((k + 3) % 4) 0 := ⟨_, rfl⟩
  have EF : Hid (∀ k, f k = dbl (l.getD k 0) ^^^ tri (l.getD ((k + 1) % 4) 0) ^^^ l.getD ((k + 2) % 4) 0 ^^^ l.getD ((k + 3) % 4) 0) := Lib.hid fun i => by rw [hf]
  have EX : Hid (mixW l = tab 4 f) := Lib.hid (by rw [hf]; rfl)
  clear hf
  go_enter Tryd.func63, Tryd.ntmps63
  go_upto_region 0 with fail; refine wp_region_lit ?_
  refine wpList_val (run_box rfl rfl) rfl ?_; (try simp only [Act.put, List.setIfInBounds_toArray, List.set_cons_zero, List.set_cons_succ]); replace hM := Lib.hid (hM.out.new (l) 75); generalize w.alloc (.cells ((l).map b8).toArray 75) = a1 at *; generalize w.heap.size = g1 at *
  refine wpList_val (run_alc (vs := z8 4) rfl (by kernel_rfl)) rfl ?_; (try simp only [Act.put, List.setIfInBounds_toArray, List.set_cons_zero, List.set_cons_succ]); replace hM := Lib.hid (hM.out.newZ 4 75); generalize a1.alloc (.cells (z8 4).toArray 75) = a2 at *; generalize a1.heap.size = g2 at *
  refine wpList_end ?_
  go_upto_region 1 with fail; refine wp_region_lit ?_
  refine wpList_val (run_alc (vs := z8 4) rfl (by kernel_rfl)) rfl ?_; (try simp only [Act.put, List.setIfInBounds_toArray, List.set_cons_zero, List.set_cons_succ]); replace hM := Lib.hid (hM.out.newZ 4 75); generalize a2.alloc (.cells (z8 4).toArray 75) = a3 at *; generalize a2.heap.size = g3 at *
  refine wpList_end ?_
  replace hM : Hid (Ms w [(g3, upd f (List.replicate 4 0) 0), (g2, List.replicate 4 0), (g1, l)] a3) := Lib.hid (by rw [upd_zero]; exact hM.out)
  go_wp2_with fail
  go_loopw [5] (fun s u => ∃ j : Nat, j ≤ 4 ∧ s = .int .i64 (j : Int) ∧ Ms w [(g3, upd f (List.replicate 4 0) j), (g2, List.replicate 4 0), (g1, l)] u) (fun s _ => (4 - intOf s).toNat)
  case atStart => exact ⟨0, by omega, rfl, hM.out⟩
  case round =>
    obtain ⟨j, hj, rfl, hJ⟩ := hrel
    replace hM := Lib.hid hJ
    clear hJ
    have hul : (upd f (List.replicate 4 0) j).length = 4 := by rw [upd_len, List.length_replicate]
    by_cases hlt : j = 4
    · subst hlt
      have hk1 : ¬ (((4 : Nat) : Int) < 4) := by omega
      rw [upd_all List.length_replicate] at hM
      have htl := tab_len 4 f
      generalize tab 4 f = r at *
      go_upto_region 7 with fail; refine wp_region_lit ?_; refine wpList_val (run_ldM (vs := (r).map b8) rfl Tryd.underlying75 rfl (sz szWord htl) rfl (hM.out.get (i := 0) rfl).range) rfl ?_; (try simp only [Act.put, List.setIfInBounds_toArray, List.set_cons_zero, List.set_cons_succ]); refine wpList_skip (run_stA (vs := (r).map b8) rfl (sz szWord htl) rfl rfl (oneB _) ((hM.out.get (i := 1) rfl).there8 (by rw [htl, List.length_replicate]))) rfl rfl ?_; refine wpList_end ?_; replace hM := Lib.hid (hM.out.put 1 rfl (m := r) (by rw [htl, List.length_replicate])); go_wp2_with fail; refine bodyPost_ret (v := .agg ((r).map b8).toArray) (results_rowB Tryd.results63 rfl Tryd.underlying75 rfl (sz szWord htl) (hM.out.get (i := 1) rfl).range) rfl ⟨by rw [EX.out], hM.out.bl⟩
    · have hk1 : (j : Int) < 4 := by omega
      have C : Hid (∀ V, Below wr.heap.size wr V → ∀ i, i < 4 → V.cell? ⟨g1, i, none⟩ = some (b8 (l.getD i 0))) := Lib.hid fun V hV i hi => ((hM.out.below hV).get (i := 2) rfl).get8 (i := i) (by omega)
      have EJ := EF.out j
      go_upto_region 4 with fail; refine wp_region_lit ?_
      refine wpList_val (run_mv (v := .int _ _) rfl rfl) rfl ?_; (try simp only [Act.put, List.setIfInBounds_toArray, List.set_cons_zero, List.set_cons_succ]); refine wpList_val (run_asg (v := .int _ _) rfl rfl) rfl ?_; (try simp only [Act.put, List.setIfInBounds_toArray, List.set_cons_zero, List.set_cons_succ])
      refine wpList_end ?_
      go_upto_region 5 with fail; refine wp_region_calm 24 (by kernel_rfl) (by kernel_rfl) ?_
      refine wpCalm_step _ (fun V hV => calm_run (run_mv (v := .int _ _) rfl rfl)) ?_; (try simp only [Act.put, List.setIfInBounds_toArray, List.set_cons_zero, List.set_cons_succ]); refine wpCalm_step _ (fun V hV => calm_run (run_mv (v := .int _ _) rfl rfl)) ?_; (try simp only [Act.put, List.setIfInBounds_toArray, List.set_cons_zero, List.set_cons_succ])
      refine wpCalm_step _ (fun V hV => calm_run (run_ix0 rfl Tryd.underlying75 (by kernel_rfl) rfl rfl (by omega))) ?_; (try simp only [Act.put, List.setIfInBounds_toArray, List.set_cons_zero, List.set_cons_succ])
      refine wpCalm_step _ (fun V hV => calm_run (run_ld8 rfl rfl (C.out V hV j (by omega)))) ?_; (try simp only [Act.put, List.setIfInBounds_toArray, List.set_cons_zero, List.set_cons_succ])
      refine wpCalm_step _ (fun V hV => calm_still (run_call1 enters_double rfl rfl rfl) (double_any _ _)) ?_; (try simp only [Act.put, List.setIfInBounds_toArray, List.set_cons_zero, List.set_cons_succ])
      refine wpCalm_step _ (fun V hV => calm_run (run_mv (v := .int _ _) rfl rfl)) ?_; (try simp only [Act.put, List.setIfInBounds_toArray, List.set_cons_zero, List.set_cons_succ])
      refine wpCalm_step _ (fun V hV => calm_run (run_addN (b := 1) rfl rfl rfl (by omega))) ?_; (try simp only [Act.put, List.setIfInBounds_toArray, List.set_cons_zero, List.set_cons_succ])
      refine wpCalm_step _ (fun V hV => calm_run (run_remN (b := 4) rfl rfl rfl (by omega))) ?_; (try simp only [Act.put, List.setIfInBounds_toArray, List.set_cons_zero, List.set_cons_succ])
      refine wpCalm_step _ (fun V hV => calm_run (run_ix0 rfl Tryd.underlying75 (by kernel_rfl) rfl rfl (by omega))) ?_; (try simp only [Act.put, List.setIfInBounds_toArray, List.set_cons_zero, List.set_cons_succ])
      refine wpCalm_step _ (fun V hV => calm_run (run_ld8 rfl rfl (C.out V hV ((j + 1) % 4) (by omega)))) ?_; (try simp only [Act.put, List.setIfInBounds_toArray, List.set_cons_zero, List.set_cons_succ])
      refine wpCalm_step _ (fun V hV => calm_still (run_call1 enters_triple rfl rfl rfl) (triple_any _ _)) ?_; (try simp only [Act.put, List.setIfInBounds_toArray, List.set_cons_zero, List.set_cons_succ])
      refine wpCalm_step _ (fun V hV => calm_run (run_xor8 rfl rfl rfl)) ?_; (try simp only [Act.put, List.setIfInBounds_toArray, List.set_cons_zero, List.set_cons_succ]); refine wpCalm_step _ (fun V hV => calm_run (run_mv (v := .int _ _) rfl rfl)) ?_; (try simp only [Act.put, List.setIfInBounds_toArray, List.set_cons_zero, List.set_cons_succ])
      refine wpCalm_step _ (fun V hV => calm_run (run_addN (b := 2) rfl rfl rfl (by omega))) ?_; (try simp only [Act.put, List.setIfInBounds_toArray, List.set_cons_zero, List.set_cons_succ])
      refine wpCalm_step _ (fun V hV => calm_run (run_remN (b := 4) rfl rfl rfl (by omega))) ?_; (try simp only [Act.put, List.setIfInBounds_toArray, List.set_cons_zero, List.set_cons_succ])
      refine wpCalm_step _ (fun V hV => calm_run (run_ix0 rfl Tryd.underlying75 (by kernel_rfl) rfl rfl (by omega))) ?_; (try simp only [Act.put, List.setIfInBounds_toArray, List.set_cons_zero, List.set_cons_succ])
      refine wpCalm_step _ (fun V hV => calm_run (run_ld8 rfl rfl (C.out V hV ((j + 2) % 4) (by omega)))) ?_; (try simp only [Act.put, List.setIfInBounds_toArray, List.set_cons_zero, List.set_cons_succ])
      refine wpCalm_step _ (fun V hV => calm_run (run_xor8 rfl rfl rfl)) ?_; (try simp only [Act.put, List.setIfInBounds_toArray, List.set_cons_zero, List.set_cons_succ]); refine wpCalm_step _ (fun V hV => calm_run (run_mv (v := .int _ _) rfl rfl)) ?_; (try simp only [Act.put, List.setIfInBounds_toArray, List.set_cons_zero, List.set_cons_succ])
      refine wpCalm_step _ (fun V hV => calm_run (run_addN (b := 3) rfl rfl rfl (by omega))) ?_; (try simp only [Act.put, List.setIfInBounds_toArray, List.set_cons_zero, List.set_cons_succ])
      refine wpCalm_step _ (fun V hV => calm_run (run_remN (b := 4) rfl rfl rfl (by omega))) ?_; (try simp only [Act.put, List.setIfInBounds_toArray, List.set_cons_zero, List.set_cons_succ])
      refine wpCalm_step _ (fun V hV => calm_run (run_ix0 rfl Tryd.underlying75 (by kernel_rfl) rfl rfl (by omega))) ?_; (try simp only [Act.put, List.setIfInBounds_toArray, List.set_cons_zero, List.set_cons_succ])
      refine wpCalm_step _ (fun V hV => calm_run (run_ld8 rfl rfl (C.out V hV ((j + 3) % 4) (by omega)))) ?_; (try simp only [Act.put, List.setIfInBounds_toArray, List.set_cons_zero, List.set_cons_succ])
      refine wpCalm_step _ (fun V hV => calm_run (run_xor8 rfl rfl rfl)) ?_; (try simp only [Act.put, List.setIfInBounds_toArray, List.set_cons_zero, List.set_cons_succ])
      refine wpCalm_done ?_; intro a4 hb; simp only [List.drop_succ_cons, List.drop_zero]
      replace hM := Lib.hid (hM.out.below hb)
      clear hb C
      refine wpList_val (run_ix0 rfl Tryd.underlying75 (by kernel_rfl) rfl rfl (by omega)) rfl ?_; (try simp only [Act.put, List.setIfInBounds_toArray, List.set_cons_zero, List.set_cons_succ])
      rw [← EJ]
      refine wpList_skip (run_st8 rfl rfl rfl ((hM.out.get (i := 0) rfl).get8 (by omega)) ((hM.out.get (i := 0) rfl).f _)) rfl rfl ?_
      refine wpList_end ?_
      replace hM : Hid (Ms w [(g3, upd f (List.replicate 4 0) (j + 1)), (g2, List.replicate 4 0), (g1, l)] (a4.setCell ⟨g3, j, none⟩ (b8 (f j)))) := Lib.hid (by rw [← upd_set (by rw [List.length_replicate]; omega)]; exact hM.out.set 0 rfl (by omega) (f j))
      generalize a4.setCell ⟨g3, j, none⟩ (b8 (f j)) = a5 at *
      go_wp2_with fail
      go_roundw
      case rel => exact ⟨j + 1, by omega, by go_num, hM.out⟩
      case measure => simp [intOf]; omega
theorem enters_mixW : Enters 63 := enters_of Tryd.func63 (by kernel_rfl) rfl
set_option maxRecDepth 20000 in
set_option maxHeartbeats 2000000 in
theorem mixB_any (l : List (BitVec 8)) (w : World) (hl : l.length = 16) : Calls Tryd.prog 45 #[.agg (l.map b8).toArray] w fun e w' => e = .returned (.agg ((mixB l).map b8).toArray) ∧ Below w.heap.size w w' := by
  have hM := Lib.hid (Ms.nil w)
  obtain ⟨f, hf⟩ : ∃ f : Nat → BitVec 8, f = fun i => (mixW (col l (i / 4))).getD (i % 4) 0 := ⟨_, rfl⟩
  have EF : Hid (∀ i, f i = (mixW (col l (i / 4))).getD (i % 4) 0) := Lib.hid fun i => by rw [hf]
  have EX : Hid (mixB l = tab 16 f) := Lib.hid (by rw [hf]; rfl)
  clear hf
  go_enter Tryd.func45, Tryd.ntmps45
  go_upto_region 0 with fail; refine wp_region_lit ?_
  refine wpList_val (run_box rfl rfl) rfl ?_; (try simp only [Act.put, List.setIfInBounds_toArray, List.set_cons_zero, List.set_cons_succ]); replace hM := Lib.hid (hM.out.new (l) 55); generalize w.alloc (.cells ((l).map b8).toArray 55) = a1 at *; generalize w.heap.size = g1 at *
  refine wpList_val (run_alc (vs := z8 16) rfl (by kernel_rfl)) rfl ?_; (try simp only [Act.put, List.setIfInBounds_toArray, List.set_cons_zero, List.set_cons_succ]); replace hM := Lib.hid (hM.out.newZ 16 55); generalize a1.alloc (.cells (z8 16).toArray 55) = a2 at *; generalize a1.heap.size = g2 at *
  refine wpList_end ?_
  go_upto_region 1 with fail; refine wp_region_lit ?_
  refine wpList_val (run_alc (vs := z8 16) rfl (by kernel_rfl)) rfl ?_; (try simp only [Act.put, List.setIfInBounds_toArray, List.set_cons_zero, List.set_cons_succ]); replace hM := Lib.hid (hM.out.newZ 16 55); generalize a2.alloc (.cells (z8 16).toArray 55) = a3 at *; generalize a2.heap.size = g3 at *
  refine wpList_end ?_
  replace hM : Hid (Ms w [(g3, upd f (List.replicate 16 0) (4 * 0)), (g2, List.replicate 16 0), (g1, l)] a3) := Lib.hid (by rw [Nat.mul_zero, upd_zero]; exact hM.out)
  go_wp2_with fail
  go_loopw [6] (fun s u => ∃ c : Nat, c ≤ 4 ∧ s = .int .i64 (c : Int) ∧ Ms w [(g3, upd f (List.replicate 16 0) (4 * c)), (g2, List.replicate 16 0), (g1, l)] u) (fun s _ => (4 - intOf s).toNat)
  case atStart => exact ⟨0, by omega, rfl, hM.out⟩
  case round =>
    obtain ⟨c, hc, rfl, hJ⟩ := hrel
    replace hM := Lib.hid hJ
    clear hJ
    by_cases hlt : c = 4
    · subst hlt
      have hk1 : ¬ (((4 : Nat) : Int) < 4) := by omega
      rw [show 4 * 4 = 16 from rfl, upd_all List.length_replicate] at hM
      have htl := tab_len 16 f
      generalize tab 16 f = r at *
      go_upto_region 8 with fail; refine wp_region_lit ?_; refine wpList_val (run_ldM (vs := (r).map b8) rfl Tryd.underlying55 rfl (sz szBlock htl) rfl (hM.out.get (i := 0) rfl).range) rfl ?_; (try simp only [Act.put, List.setIfInBounds_toArray, List.set_cons_zero, List.set_cons_succ]); refine wpList_skip (run_stA (vs := (r).map b8) rfl (sz szBlock htl) rfl rfl (oneB _) ((hM.out.get (i := 1) rfl).there8 (by rw [htl, List.length_replicate]))) rfl rfl ?_; refine wpList_end ?_; replace hM := Lib.hid (hM.out.put 1 rfl (m := r) (by rw [htl, List.length_replicate])); go_wp2_with fail; refine bodyPost_ret (v := .agg ((r).map b8).toArray) (results_rowB Tryd.results45 rfl Tryd.underlying55 rfl (sz szBlock htl) (hM.out.get (i := 1) rfl).range) rfl ⟨by rw [EX.out], hM.out.bl⟩
    · have hk1 : (c : Int) < 4 := by omega
      have hul : (upd f (List.replicate 16 0) (4 * c)).length = 16 := by rw [upd_len, List.length_replicate]
      have HN : Hid ((upd f (List.replicate 16 0) (4 * c)).take (4 * c) ++ (mixW (col l c) ++ (upd f (List.replicate 16 0) (4 * c)).drop (4 * c + 4)) = upd f (List.replicate 16 0) (4 * (c + 1))) := Lib.hid (upd_four (mixW_len _) (by rw [List.length_replicate]; omega) fun i hi => by rw [EF.out, show (4 * c + i) / 4 = c by omega, show (4 * c + i) % 4 = i by omega])
      go_upto_region 4 with fail; refine wp_region_lit ?_
      refine wpList_val (run_mv (v := .int _ _) rfl rfl) rfl ?_; (try simp only [Act.put, List.setIfInBounds_toArray, List.set_cons_zero, List.set_cons_succ]); refine wpList_val (run_asg (v := .int _ _) rfl rfl) rfl ?_; (try simp only [Act.put, List.setIfInBounds_toArray, List.set_cons_zero, List.set_cons_succ])
      refine wpList_end ?_
      go_upto_region 5 with fail; refine wp_region_lit ?_
      refine wpList_val (run_ldM (vs := l.map b8) rfl Tryd.underlying55 rfl (sz szBlock hl) rfl (hM.out.get (i := 2) rfl).range) rfl ?_; (try simp only [Act.put, List.setIfInBounds_toArray, List.set_cons_zero, List.set_cons_succ])
      refine wpList_val (run_mv (v := .int _ _) rfl rfl) rfl ?_; (try simp only [Act.put, List.setIfInBounds_toArray, List.set_cons_zero, List.set_cons_succ])
      refine wpList_enter (run_call2 enters_column rfl rfl rfl rfl) rfl (column_any l c _ hl (by omega)) (fun a4 hb => ?_); (try simp only [Act.put, List.setIfInBounds_toArray, List.set_cons_zero, List.set_cons_succ])
      replace hM := Lib.hid (hM.out.below hb)
      clear hb
      have hcl := col_len l c
      refine wpList_enter (run_call1 enters_mixW rfl rfl rfl) rfl (mixW_any (col l c) _ hcl) (fun a5 hb => ?_); (try simp only [Act.put, List.setIfInBounds_toArray, List.set_cons_zero, List.set_cons_succ])
      replace hM := Lib.hid (hM.out.below hb)
      clear hb
      refine wpList_val (run_alc (vs := z8 4) rfl (by kernel_rfl)) rfl ?_; (try simp only [Act.put, List.setIfInBounds_toArray, List.set_cons_zero, List.set_cons_succ]); replace hM := Lib.hid (hM.out.newZ 4 75); generalize a5.alloc (.cells (z8 4).toArray 75) = a6 at *; generalize a5.heap.size = g4 at *
      have hml := mixW_len (col l c)
      generalize mixW (col l c) = m at *
      generalize col l c = cl at *
      refine wpList_skip (run_stA (vs := m.map b8) rfl (sz szWord hml) rfl rfl (oneB _) ((hM.out.get (i := 0) rfl).there8 (by rw [hml, List.length_replicate]))) rfl rfl ?_
      refine wpList_end ?_
      replace hM : Hid (Ms w [(g4, m), (g3, upd f (List.replicate 16 0) (4 * c)), (g2, List.replicate 16 0), (g1, l)] (a6.setCells g4 0 (m.map b8))) := Lib.hid (hM.out.put 0 rfl (m := m) (by rw [hml, List.length_replicate]))
      generalize a6.setCells g4 0 (m.map b8) = a7 at *
      go_upto_region 6 with fail; refine wp_region_calm 4 (by kernel_rfl) (by kernel_rfl) ?_
      refine wpCalm_step _ (fun V hV => calm_run (run_mv (v := .int _ _) rfl rfl)) ?_; (try simp only [Act.put, List.setIfInBounds_toArray, List.set_cons_zero, List.set_cons_succ])
      refine wpCalm_step _ (fun V hV => calm_run (run_mulN (a := 4) rfl rfl rfl (by omega))) ?_; (try simp only [Act.put, List.setIfInBounds_toArray, List.set_cons_zero, List.set_cons_succ])
      refine wpCalm_step _ (fun V hV => calm_run (run_slAl rfl Tryd.underlying55 (by kernel_rfl) rfl rfl (by omega))) ?_; (try simp only [Act.put, List.setIfInBounds_toArray, List.set_cons_zero, List.set_cons_succ])
      refine wpCalm_step _ (fun V hV => calm_run (run_slA rfl Tryd.underlying75 (by kernel_rfl) rfl)) ?_; (try simp only [Act.put, List.setIfInBounds_toArray, List.set_cons_zero, List.set_cons_succ])
      refine wpCalm_done ?_; intro a8 hb; simp only [List.drop_succ_cons, List.drop_zero]
      replace hM := Lib.hid (hM.out.below hb)
      clear hb
      have htk : m.take (16 - 4 * c) = m := List.take_of_length_le (by omega)
      have HS : Hid (Sl (.slice (some ⟨g4, 0, none⟩) 4 4) m a8) := Lib.hid (by have := Sl.arr (hM.out.get (i := 0) rfl) (c := 4) (by omega); rwa [hml] at this)
      rw [Nat.zero_add (4 * c)]
      refine wpList_val (run_cpyG (l := m) rfl rfl rfl HS.out (hM.out.get (i := 1) rfl) (by rw [htk, List.length_map, hul]; omega)) rfl ?_; (try simp only [Act.put, List.setIfInBounds_toArray, List.set_cons_zero, List.set_cons_succ])
      rw [htk]
      refine wpList_end ?_
      replace hM : Hid (Ms w [(g3, upd f (List.replicate 16 0) (4 * (c + 1))), (g2, List.replicate 16 0), (g1, l)] (a8.setCells g3 (4 * c) (m.map b8))) := Lib.hid (by
        have := (hM.out.mid 1 rfl (f := 4 * c) (m := m) (by omega)).drop
        rw [hml, HN.out] at this
        exact this)
      generalize a8.setCells g3 (4 * c) (m.map b8) = a9 at *
      clear HS HN htk
      go_wp2_with fail
      go_roundw
      case rel => exact ⟨c + 1, by omega, by go_num, hM.out⟩
      case measure => simp [intOf]; omega
theorem enters_mixB : Enters 45 := enters_of Tryd.func45 (by kernel_rfl) rfl
end Go.Proofs.YtobpgolchlgpfaaDoor
namespace Go.Proofs.YtobpgolchlgpfaaDoor
open Go.RowKit
set_option maxRecDepth 20000

theorem rkey_len (W : List (BitVec 8)) (r : Nat) : (rkey W r).length = 16 := tab_len _ _
theorem rkey_range {g : Nat} {W : List (BitVec 8)} {u : World} (h : Arr g ((boxT ++ W).map b8) u) (hW : W.length = 240) {r : Nat} (hr : r < 15) : u.rangeAt g (0 + 512 + r * 16) ((rkey W r).map b8) := by
  have hb := boxT_len
  refine h.tab8 (by rw [rkey_len, List.length_append, hb, hW]; omega) fun i hi => ?_
  rw [rkey_len] at hi
  rw [rkey, tab_get _ hi, getD_app2 (by omega), hb, show 0 + 512 + r * 16 + i - 512 = 16 * r + i by omega]
set_option maxRecDepth 20000 in
set_option maxHeartbeats 4000000 in
theorem hide_any (g : Nat) (W b : List (BitVec 8)) (w : World) (hA : Arr g ((boxT ++ W).map b8) w) (hW : W.length = 240) (hl : b.length = 16) : Calls Tryd.prog 27 #[.pointer (some ⟨g, 0, none⟩), .agg (b.map b8).toArray] w fun e w' => e = .returned (.agg ((hideB W b).map b8).toArray) ∧ Below w.heap.size w w' := by
  have hM := Lib.hid (Ms.nil w)
  have HA := Lib.hid hA; clear hA
  have HL := Lib.hid (hidI_len W b)
  go_enter Tryd.func27, Tryd.ntmps27
  go_upto_region 0 with fail; refine wp_region_lit ?_
  refine wpList_val (run_box rfl rfl) rfl ?_; (try simp only [Act.put, List.setIfInBounds_toArray, List.set_cons_zero, List.set_cons_succ]); replace hM := Lib.hid (hM.out.new (b) 55); generalize w.alloc (.cells ((b).map b8).toArray 55) = a1 at *; generalize w.heap.size = g1 at *
  refine wpList_val (run_alc (vs := z8 16) rfl (by kernel_rfl)) rfl ?_; (try simp only [Act.put, List.setIfInBounds_toArray, List.set_cons_zero, List.set_cons_succ]); replace hM := Lib.hid (hM.out.newZ 16 55); generalize a1.alloc (.cells (z8 16).toArray 55) = a2 at *; generalize a1.heap.size = g2 at *
  refine wpList_end ?_
  have HR : Hid (∀ V, Below a2.heap.size a2 V → V.rangeAt g (0 + 512 + 0 * 16) ((rkey W 0).map b8)) := Lib.hid fun V hV => rkey_range (HA.out.below (hM.out.below hV).bl) hW (by omega)
  go_upto_region 1 with fail; refine wp_region_calm 7 (by kernel_rfl) (by kernel_rfl) ?_
  refine wpCalm_step _ (fun V hV => calm_run (run_ldM (vs := b.map b8) rfl Tryd.underlying55 rfl (sz szBlock hl) rfl ((hM.out.below hV).get (i := 1) rfl).range)) ?_; (try simp only [Act.put, List.setIfInBounds_toArray, List.set_cons_zero, List.set_cons_succ])
  refine wpCalm_step _ (fun V hV => calm_run (run_mv (v := .pointer (some _)) rfl rfl)) ?_; (try simp only [Act.put, List.setIfInBounds_toArray, List.set_cons_zero, List.set_cons_succ])
  refine wpCalm_step _ (fun V hV => calm_run (run_nck rfl rfl)) ?_; (try simp only [Act.put, List.setIfInBounds_toArray, List.set_cons_zero, List.set_cons_succ])
  refine wpCalm_step _ (fun V hV => calm_run (run_fad (s := 239) (k := 512) rfl Tryd.underlying73 rfl (by kernel_rfl) rfl rfl)) ?_; (try simp only [Act.put, List.setIfInBounds_toArray, List.set_cons_zero, List.set_cons_succ])
  refine wpCalm_step _ (fun V hV => calm_run (run_ixN (s := 16) (i := 0) rfl Tryd.underlying71 (by kernel_rfl) rfl rfl (by omega))) ?_; (try simp only [Act.put, List.setIfInBounds_toArray, List.set_cons_zero, List.set_cons_succ])
  refine wpCalm_step _ (fun V hV => calm_run (run_ldM (vs := (rkey W 0).map b8) rfl Tryd.underlying55 rfl (sz szBlock (rkey_len _ _)) rfl (HR.out V hV))) ?_; (try simp only [Act.put, List.setIfInBounds_toArray, List.set_cons_zero, List.set_cons_succ])
  refine wpCalm_step _ (fun V hV => calm_enter (run_call2 enters_xor rfl rfl rfl rfl) (xor_any b (rkey W 0) V hl (rkey_len _ _))) ?_; (try simp only [Act.put, List.setIfInBounds_toArray, List.set_cons_zero, List.set_cons_succ])
  refine wpCalm_done ?_; intro a3 hb; simp only [List.drop_succ_cons, List.drop_zero]
  replace hM := Lib.hid (hM.out.below hb)
  clear hb HR
  have hxl := xorB_len b (rkey W 0)
  refine wpList_skip (run_stA (vs := (xorB b (rkey W 0)).map b8) rfl (sz szBlock hxl) rfl rfl (oneB _) ((hM.out.get (i := 1) rfl).there8 (by rw [hxl, hl]))) rfl rfl ?_
  refine wpList_end ?_
  replace hM : Hid (Ms w [(g2, List.replicate 16 0), (g1, hidI W b 0)] (a3.setCells g1 0 ((xorB b (rkey W 0)).map b8))) := Lib.hid (hM.out.put 1 rfl (m := xorB b (rkey W 0)) (by rw [hxl, hl]))
  generalize a3.setCells g1 0 ((xorB b (rkey W 0)).map b8) = a4 at *
  clear hxl
  go_wp2_with fail
  go_loopw [5] (fun s u => ∃ n : Nat, n ≤ 14 ∧ s = .int .i64 ((n + 1 : Nat) : Int) ∧ Ms w [(g2, List.replicate 16 0), (g1, hidI W b n)] u) (fun s _ => (15 - intOf s).toNat)
  case atStart => exact ⟨0, by omega, rfl, hM.out⟩
  case round =>
    obtain ⟨n, hn, rfl, hJ⟩ := hrel
    replace hM := Lib.hid hJ
    clear hJ
    have hil := HL.out n
    by_cases hlt : n = 14
    · subst hlt
      have hk1 : ¬ (((14 + 1 : Nat) : Int) ≤ 14) := by omega
      have EX : Hid (hideB W b = hidI W b 14) := Lib.hid rfl
      generalize hidI W b 14 = r at *
      go_upto_region 9 with fail; refine wp_region_lit ?_; refine wpList_val (run_ldM (vs := (r).map b8) rfl Tryd.underlying55 rfl (sz szBlock hil) rfl (hM.out.get (i := 1) rfl).range) rfl ?_; (try simp only [Act.put, List.setIfInBounds_toArray, List.set_cons_zero, List.set_cons_succ]); refine wpList_skip (run_stA (vs := (r).map b8) rfl (sz szBlock hil) rfl rfl (oneB _) ((hM.out.get (i := 0) rfl).there8 (by rw [hil, List.length_replicate]))) rfl rfl ?_; refine wpList_end ?_; replace hM := Lib.hid (hM.out.put 0 rfl (m := r) (by rw [hil, List.length_replicate])); go_wp2_with fail; refine bodyPost_ret (v := .agg ((r).map b8).toArray) (results_rowB Tryd.results27 rfl Tryd.underlying55 rfl (sz szBlock hil) (hM.out.get (i := 0) rfl).range) rfl ⟨by rw [EX.out], hM.out.bl⟩
    · have hk1 : ((n + 1 : Nat) : Int) ≤ 14 := by omega
      have HR : Hid (∀ V, Below w.heap.size w V → V.rangeAt g (0 + 512 + (n + 1) * 16) ((rkey W (n + 1)).map b8)) := Lib.hid fun V hV => rkey_range (HA.out.below hV) hW (by omega)
      have EN : Hid (hidI W b (n + 1) = xorB (if n + 1 < 14 then mixB (turnB 1 (boxB (hidI W b n))) else turnB 1 (boxB (hidI W b n))) (rkey W (n + 1))) := Lib.hid rfl
      have hkl := rkey_len W (n + 1)
      generalize rkey W (n + 1) = K at *
      generalize hidI W b n = s at *
      go_upto_region 5 with fail; refine wp_region_calm 6 (by kernel_rfl) (by kernel_rfl) ?_
      refine wpCalm_step _ (fun V hV => calm_run (run_mv (v := .pointer (some _)) rfl rfl)) ?_; (try simp only [Act.put, List.setIfInBounds_toArray, List.set_cons_zero, List.set_cons_succ])
      refine wpCalm_step _ (fun V hV => calm_run (run_nck rfl rfl)) ?_; (try simp only [Act.put, List.setIfInBounds_toArray, List.set_cons_zero, List.set_cons_succ])
      refine wpCalm_step _ (fun V hV => calm_run (run_fad (s := 511) (k := 0) rfl Tryd.underlying73 rfl (by kernel_rfl) rfl rfl)) ?_; (try simp only [Act.put, List.setIfInBounds_toArray, List.set_cons_zero, List.set_cons_succ])
      refine wpCalm_step _ (fun V hV => calm_run (run_ldM (vs := s.map b8) rfl Tryd.underlying55 rfl (sz szBlock hil) rfl ((hM.out.below hV).get (i := 1) rfl).range)) ?_; (try simp only [Act.put, List.setIfInBounds_toArray, List.set_cons_zero, List.set_cons_succ])
      refine wpCalm_step _ (fun V hV => calm_enter (run_call2 enters_boxb rfl rfl rfl rfl) (boxb_any g W s V (HA.out.below (hM.out.below hV).bl) hil)) ?_; (try simp only [Act.put, List.setIfInBounds_toArray, List.set_cons_zero, List.set_cons_succ])
      refine wpCalm_step _ (fun V hV => calm_enter (run_call2 enters_turn rfl rfl rfl rfl) (turn_any 1 (boxB s) V (by omega) (boxB_len s))) ?_; (try simp only [Act.put, List.setIfInBounds_toArray, List.set_cons_zero, List.set_cons_succ])
      refine wpCalm_done ?_; intro a5 hb; simp only [List.drop_succ_cons, List.drop_zero]
      replace hM := Lib.hid (hM.out.below hb)
      clear hb
      have htl := turnB_len 1 (boxB s)
      generalize turnB 1 (boxB s) = t at *
      generalize boxB s = bs at *
      refine wpList_skip (run_stA (vs := t.map b8) rfl (sz szBlock htl) rfl rfl (oneB _) ((hM.out.get (i := 1) rfl).there8 (by rw [htl, hil]))) rfl rfl ?_
      refine wpList_end ?_
      replace hM : Hid (Ms w [(g2, List.replicate 16 0), (g1, t)] (a5.setCells g1 0 (t.map b8))) := Lib.hid (hM.out.put 1 rfl (by rw [htl, hil]))
      generalize a5.setCells g1 0 (t.map b8) = a6 at *
      by_cases h14 : n + 1 < 14
      · have hk2 : ((n + 1 : Nat) : Int) < 14 := by omega
        rw [if_pos h14] at EN
        go_upto_region 7 with fail; refine wp_region_lit ?_
        refine wpList_val (run_ldM (vs := t.map b8) rfl Tryd.underlying55 rfl (sz szBlock htl) rfl (hM.out.get (i := 1) rfl).range) rfl ?_; (try simp only [Act.put, List.setIfInBounds_toArray, List.set_cons_zero, List.set_cons_succ])
        refine wpList_enter (run_call1 enters_mixB rfl rfl rfl) rfl (mixB_any t _ htl) (fun a7 hb => ?_); (try simp only [Act.put, List.setIfInBounds_toArray, List.set_cons_zero, List.set_cons_succ])
        replace hM := Lib.hid (hM.out.below hb)
        clear hb
        have hml := mixB_len t
        generalize mixB t = m at *
        refine wpList_skip (run_stA (vs := m.map b8) rfl (sz szBlock hml) rfl rfl (oneB _) ((hM.out.get (i := 1) rfl).there8 (by rw [hml, htl]))) rfl rfl ?_
        refine wpList_end ?_
        replace hM : Hid (Ms w [(g2, List.replicate 16 0), (g1, m)] (a7.setCells g1 0 (m.map b8))) := Lib.hid (hM.out.put 1 rfl (by rw [hml, htl]))
        generalize a7.setCells g1 0 (m.map b8) = a8 at *
        go_upto_region 8 with fail; refine wp_region_calm 8 (by kernel_rfl) (by kernel_rfl) ?_; refine wpCalm_step _ (fun V hV => calm_run (run_ldM (vs := (m).map b8) rfl Tryd.underlying55 rfl (sz szBlock hml) rfl ((hM.out.below hV).get (i := 1) rfl).range)) ?_; (try simp only [Act.put, List.setIfInBounds_toArray, List.set_cons_zero, List.set_cons_succ]); refine wpCalm_step _ (fun V hV => calm_run (run_mv (v := .pointer (some _)) rfl rfl)) ?_; (try simp only [Act.put, List.setIfInBounds_toArray, List.set_cons_zero, List.set_cons_succ]); refine wpCalm_step _ (fun V hV => calm_run (run_mv (v := .int _ _) rfl rfl)) ?_; (try simp only [Act.put, List.setIfInBounds_toArray, List.set_cons_zero, List.set_cons_succ]); refine wpCalm_step _ (fun V hV => calm_run (run_nck rfl rfl)) ?_; (try simp only [Act.put, List.setIfInBounds_toArray, List.set_cons_zero, List.set_cons_succ]); refine wpCalm_step _ (fun V hV => calm_run (run_fad (s := 239) (k := 512) rfl Tryd.underlying73 rfl (by kernel_rfl) rfl rfl)) ?_; (try simp only [Act.put, List.setIfInBounds_toArray, List.set_cons_zero, List.set_cons_succ]); refine wpCalm_step _ (fun V hV => calm_run (run_ixN (s := 16) rfl Tryd.underlying71 (by kernel_rfl) rfl rfl (by omega))) ?_; (try simp only [Act.put, List.setIfInBounds_toArray, List.set_cons_zero, List.set_cons_succ]); refine wpCalm_step _ (fun V hV => calm_run (run_ldM (vs := K.map b8) rfl Tryd.underlying55 rfl (sz szBlock hkl) rfl (HR.out V (hM.out.below hV).bl))) ?_; (try simp only [Act.put, List.setIfInBounds_toArray, List.set_cons_zero, List.set_cons_succ]); refine wpCalm_step _ (fun V hV => calm_enter (run_call2 enters_xor rfl rfl rfl rfl) (xor_any m K V hml hkl)) ?_; (try simp only [Act.put, List.setIfInBounds_toArray, List.set_cons_zero, List.set_cons_succ]); refine wpCalm_done ?_; intro c1 hb; simp only [List.drop_succ_cons, List.drop_zero]; replace hM := Lib.hid (hM.out.below hb); clear hb; have hxl := xorB_len m K; refine wpList_skip (run_stA (vs := (xorB m K).map b8) rfl (sz szBlock hxl) rfl rfl (oneB _) ((hM.out.get (i := 1) rfl).there8 (by rw [hxl, hml]))) rfl rfl ?_; refine wpList_end ?_; replace hM : Hid (Ms w [(g2, List.replicate 16 0), (g1, hidI W b (n + 1))] (c1.setCells g1 0 ((xorB m K).map b8))) := Lib.hid (by rw [EN.out]; exact hM.out.put 1 rfl (by rw [hxl, hml])); generalize c1.setCells g1 0 ((xorB m K).map b8) = c2 at *; go_wp2_with fail; go_roundw; (case rel => exact ⟨n + 1, by omega, by go_num, hM.out⟩); (case measure => simp [intOf]; omega)
      · have hk2 : ¬ (((n + 1 : Nat) : Int) < 14) := by omega
        rw [if_neg h14] at EN
        go_upto_region 8 with fail; refine wp_region_calm 8 (by kernel_rfl) (by kernel_rfl) ?_; refine wpCalm_step _ (fun V hV => calm_run (run_ldM (vs := (t).map b8) rfl Tryd.underlying55 rfl (sz szBlock htl) rfl ((hM.out.below hV).get (i := 1) rfl).range)) ?_; (try simp only [Act.put, List.setIfInBounds_toArray, List.set_cons_zero, List.set_cons_succ]); refine wpCalm_step _ (fun V hV => calm_run (run_mv (v := .pointer (some _)) rfl rfl)) ?_; (try simp only [Act.put, List.setIfInBounds_toArray, List.set_cons_zero, List.set_cons_succ]); refine wpCalm_step _ (fun V hV => calm_run (run_mv (v := .int _ _) rfl rfl)) ?_; (try simp only [Act.put, List.setIfInBounds_toArray, List.set_cons_zero, List.set_cons_succ]); refine wpCalm_step _ (fun V hV => calm_run (run_nck rfl rfl)) ?_; (try simp only [Act.put, List.setIfInBounds_toArray, List.set_cons_zero, List.set_cons_succ]); refine wpCalm_step _ (fun V hV => calm_run (run_fad (s := 239) (k := 512) rfl Tryd.underlying73 rfl (by kernel_rfl) rfl rfl)) ?_; (try simp only [Act.put, List.setIfInBounds_toArray, List.set_cons_zero, List.set_cons_succ]); refine wpCalm_step _ (fun V hV => calm_run (run_ixN (s := 16) rfl Tryd.underlying71 (by kernel_rfl) rfl rfl (by omega))) ?_; (try simp only [Act.put, List.setIfInBounds_toArray, List.set_cons_zero, List.set_cons_succ]); refine wpCalm_step _ (fun V hV => calm_run (run_ldM (vs := K.map b8) rfl Tryd.underlying55 rfl (sz szBlock hkl) rfl (HR.out V (hM.out.below hV).bl))) ?_; (try simp only [Act.put, List.setIfInBounds_toArray, List.set_cons_zero, List.set_cons_succ]); refine wpCalm_step _ (fun V hV => calm_enter (run_call2 enters_xor rfl rfl rfl rfl) (xor_any t K V htl hkl)) ?_; (try simp only [Act.put, List.setIfInBounds_toArray, List.set_cons_zero, List.set_cons_succ]); refine wpCalm_done ?_; intro c1 hb; simp only [List.drop_succ_cons, List.drop_zero]; replace hM := Lib.hid (hM.out.below hb); clear hb; have hxl := xorB_len t K; refine wpList_skip (run_stA (vs := (xorB t K).map b8) rfl (sz szBlock hxl) rfl rfl (oneB _) ((hM.out.get (i := 1) rfl).there8 (by rw [hxl, htl]))) rfl rfl ?_; refine wpList_end ?_; replace hM : Hid (Ms w [(g2, List.replicate 16 0), (g1, hidI W b (n + 1))] (c1.setCells g1 0 ((xorB t K).map b8))) := Lib.hid (by rw [EN.out]; exact hM.out.put 1 rfl (by rw [hxl, htl])); generalize c1.setCells g1 0 ((xorB t K).map b8) = c2 at *; go_wp2_with fail; go_roundw; (case rel => exact ⟨n + 1, by omega, by go_num, hM.out⟩); (case measure => simp [intOf]; omega)
theorem enters_hide : Enters 27 := enters_of Tryd.func27 (by kernel_rfl) rfl
end Go.Proofs.YtobpgolchlgpfaaDoor
