/- Points and keys held against each other; bytes as numbers. -/
import Derived.Test.YtfdjmdfaidiliaaDoorEdOps
namespace Go.Proofs.YtfdjmdfaidiliaaDoor
open Go.RowKit
set_option maxRecDepth 20000

set_option maxHeartbeats 4000000 in
theorem sqr_any (X : Int) (w : World) (hX : Num X) (hG : EG w) : Calls Tryd.prog 58 #[feV X] w fun e w' => e = .returned (feV (X * X % pp)) ∧ Below w.heap.size w w' := by
  have hM := Lib.hid (Mv.nil w)
  have HG := Lib.hid hG; clear hG
  go_enter Tryd.func58, Tryd.ntmps58
  go_upto_region 0 with fail; refine wp_region_lit ?_
  refine wpList_val (run_boxL (vs := feL X) rfl rfl) rfl ?_; (try simp only [Act.put, List.setIfInBounds_toArray, List.set_cons_zero, List.set_cons_succ]); replace hM := Lib.hid (hM.out.new (feL X) 31); generalize w.alloc (.cells (feL X).toArray 31) = a1 at *; generalize w.heap.size = g1 at *
  refine wpList_val (run_alc (vs := zq 4) rfl (by kernel_rfl)) rfl ?_; (try simp only [Act.put, List.setIfInBounds_toArray, List.set_cons_zero, List.set_cons_succ]); replace hM := Lib.hid (hM.out.new (zq 4) 31); generalize a1.alloc (.cells (zq 4).toArray 31) = a2 at *; generalize a1.heap.size = g2 at *
  refine wpList_end ?_
  go_upto_region 1 with fail; refine wp_region_lit ?_
  refine wpList_val (run_ldM (vs := feL X) rfl Tryd.underlying31 rfl (szFe X) rfl ((hM.out.get (i := 1) rfl).range)) rfl ?_; (try simp only [Act.put, List.setIfInBounds_toArray, List.set_cons_zero, List.set_cons_succ])
  refine wpList_val (run_ldM (vs := feL X) rfl Tryd.underlying31 rfl (szFe X) rfl ((hM.out.get (i := 1) rfl).range)) rfl ?_; (try simp only [Act.put, List.setIfInBounds_toArray, List.set_cons_zero, List.set_cons_succ])
  refine wpList_enter (run_call2 enters_mul rfl rfl rfl rfl) rfl (mul_any X X _ hX hX (HG.out.below hM.out.bl).O) (fun a3 hb => ?_); (try simp only [Act.put, List.setIfInBounds_toArray, List.set_cons_zero, List.set_cons_succ]); replace hM := Lib.hid (hM.out.below hb); clear hb
  refine wpList_skip (run_stM (vs := feL (X * X % pp)) rfl (szFe _) rfl rfl (oneFe _) ((hM.out.get (i := 0) rfl).there)) rfl rfl ?_; replace hM := Lib.hid (hM.out.put 0 rfl (m := feL (X * X % pp)) rfl); generalize a3.setCells g2 0 (feL (X * X % pp)) = a4 at *
  refine wpList_end ?_; go_wp2_with fail; refine bodyPost_ret (v := .agg (feL (X * X % pp)).toArray) (results_rowB Tryd.results58 rfl Tryd.underlying31 rfl (szFe _) (hM.out.get (i := 0) rfl).range) rfl ⟨rfl, hM.out.bl⟩
theorem enters_sqr : Enters 58 := enters_of Tryd.func58 (by kernel_rfl) rfl

set_option maxHeartbeats 4000000 in
theorem nothing_any (w : World) : Calls Tryd.prog 64 #[] w fun e w' => e = .returned (.agg (ptL nonePt).toArray) ∧ Below w.heap.size w w' := by
  have hM := Lib.hid (Mv.nil w)
  go_enter Tryd.func64, Tryd.ntmps64
  go_upto_region 0 with fail; refine wp_region_lit ?_
  refine wpList_val (run_alc (vs := zq 8) rfl (by kernel_rfl)) rfl ?_; (try simp only [Act.put, List.setIfInBounds_toArray, List.set_cons_zero]); replace hM := Lib.hid (hM.out.new (zq 8) 33); generalize w.alloc (.cells (zq 8).toArray 33) = a1 at *; generalize w.heap.size = g1 at *
  refine wpList_end ?_
  go_upto_region 1 with fail; refine wp_region_lit ?_
  refine wpList_enter (run_call1 enters_small rfl rfl rfl) rfl (small_any 1 _ (by omega) (by omega)) (fun a2 hb => ?_); (try simp only [Act.put, List.setIfInBounds_toArray, List.set_cons_zero, List.set_cons_succ]); replace hM := Lib.hid (hM.out.below hb); clear hb
  refine wpList_val (run_bld1 rfl rfl (built_pt1 1)) rfl ?_; (try simp only [Act.put, List.setIfInBounds_toArray, List.set_cons_zero, List.set_cons_succ])
  refine wpList_skip (run_stM (vs := ptL nonePt) rfl (szPt _) rfl rfl (onePt _) ((hM.out.get (i := 0) rfl).there)) rfl rfl ?_; replace hM := Lib.hid (hM.out.put 0 rfl (m := ptL nonePt) rfl); generalize a2.setCells g1 0 (ptL nonePt) = a3 at *
  refine wpList_end ?_; go_wp2_with fail; refine bodyPost_ret (v := .agg (ptL nonePt).toArray) (results_rowB Tryd.results64 rfl Tryd.underlying33 rfl (szPt _) (hM.out.get (i := 0) rfl).range) rfl ⟨rfl, hM.out.bl⟩
theorem enters_nothing : Enters 64 := enters_of Tryd.func64 (by kernel_rfl) rfl

set_option maxHeartbeats 4000000 in
theorem on_any (p : Pt) (w : World) (hp : p.Nm) (hG : EG w) : Calls Tryd.prog 63 #[.agg (ptL p).toArray] w fun e w' => e = .returned (.bool (onB p)) ∧ Below w.heap.size w w' := by
  have hM := Lib.hid (Mv.nil w)
  have HG := Lib.hid hG; clear hG
  have HB : Hid (onB p = ((p.y * p.y % pp - p.x * p.x % pp) % pp == (1 + dd * (p.x * p.x % pp * (p.y * p.y % pp) % pp) % pp) % pp)) := Lib.hid rfl
  generalize onB p = ob at *
  go_enter Tryd.func63, Tryd.ntmps63
  go_upto_region 0 with fail; refine wp_region_lit ?_
  refine wpList_val (run_boxL (vs := ptL p) rfl rfl) rfl ?_; (try simp only [Act.put, List.setIfInBounds_toArray, List.set_cons_zero, List.set_cons_succ]); replace hM := Lib.hid (hM.out.new (ptL p) 33); generalize w.alloc (.cells (ptL p).toArray 33) = a1 at *; generalize w.heap.size = g1 at *
  refine wpList_val (run_asg (v := .bool _) rfl rfl) rfl ?_; (try simp only [Act.put, List.setIfInBounds_toArray, List.set_cons_zero, List.set_cons_succ])
  refine wpList_end ?_
  go_upto_region 1 with fail; refine wp_region_sow2 6 31 (by kernel_rfl) rfl rfl (by kernel_rfl) (alcFe) ?_
  refine wpCalm_step _ (fun V hV => calm_run (run_fad (s := 3) (k := 0) rfl Tryd.underlying33 rfl (by kernel_rfl) rfl rfl)) ?_; (try simp only [Act.put, List.setIfInBounds_toArray, List.set_cons_zero, List.set_cons_succ])
  refine wpCalm_step _ (fun V hV => calm_run (run_ldM (vs := feL p.x) rfl Tryd.underlying31 rfl (szFe _) rfl (pt_x ((hM.out.below hV).get (i := 0) rfl)))) ?_; (try simp only [Act.put, List.setIfInBounds_toArray, List.set_cons_zero, List.set_cons_succ])
  refine wpCalm_step _ (fun V hV => calm_enter (run_call1 enters_sqr rfl rfl rfl) (sqr_any p.x V hp.1 (HG.out.below (hM.out.below hV).bl))) ?_; (try simp only [Act.put, List.setIfInBounds_toArray, List.set_cons_zero, List.set_cons_succ])
  refine wpCalm_step _ (fun V hV => calm_run (run_fad (s := 3) (k := 4) rfl Tryd.underlying33 rfl (by kernel_rfl) rfl rfl)) ?_; (try simp only [Act.put, List.setIfInBounds_toArray, List.set_cons_zero, List.set_cons_succ])
  refine wpCalm_step _ (fun V hV => calm_run (run_ldM (vs := feL p.y) rfl Tryd.underlying31 rfl (szFe _) rfl (pt_y ((hM.out.below hV).get (i := 0) rfl)))) ?_; (try simp only [Act.put, List.setIfInBounds_toArray, List.set_cons_zero, List.set_cons_succ])
  refine wpCalm_step _ (fun V hV => calm_enter (run_call1 enters_sqr rfl rfl rfl) (sqr_any p.y V hp.2 (HG.out.below (hM.out.below hV).bl))) ?_; (try simp only [Act.put, List.setIfInBounds_toArray, List.set_cons_zero, List.set_cons_succ])
  refine wpCalm_done ?_; intro g2 g3 a2 hpb s1 s2 hne; simp only [List.drop_succ_cons, List.drop_zero, List.setIfInBounds_toArray, List.set_cons_zero, List.set_cons_succ]; replace hM := Lib.hid (hM.out.sow2 hpb s1 s2 hne); clear hpb s1 s2 hne
  have hx := num_emod_pp (p.x * p.x)
  have hy := num_emod_pp (p.y * p.y)
  generalize p.x * p.x % pp = xx at *
  generalize p.y * p.y % pp = yy at *
  refine wpList_skip (run_stM (vs := feL xx) rfl (szFe _) rfl rfl (oneFe _) ((hM.out.get (i := 1) rfl).there)) rfl rfl ?_; replace hM := Lib.hid (hM.out.put 1 rfl (m := feL xx) rfl); generalize a2.setCells g2 0 (feL xx) = a3 at *
  refine wpList_skip (run_stM (vs := feL yy) rfl (szFe _) rfl rfl (oneFe _) ((hM.out.get (i := 0) rfl).there)) rfl rfl ?_; replace hM := Lib.hid (hM.out.put 0 rfl (m := feL yy) rfl); generalize a3.setCells g3 0 (feL yy) = a4 at *
  refine wpList_end ?_
  go_upto_region 2 with fail; refine wp_region_calm 11 (by kernel_rfl) (by kernel_rfl) ?_
  refine wpCalm_step _ (fun V hV => calm_run (run_ldM (vs := feL yy) rfl Tryd.underlying31 rfl (szFe _) rfl (((hM.out.below hV).get (i := 0) rfl).range))) ?_; (try simp only [Act.put, List.setIfInBounds_toArray, List.set_cons_zero, List.set_cons_succ])
  refine wpCalm_step _ (fun V hV => calm_run (run_ldM (vs := feL xx) rfl Tryd.underlying31 rfl (szFe _) rfl (((hM.out.below hV).get (i := 1) rfl).range))) ?_; (try simp only [Act.put, List.setIfInBounds_toArray, List.set_cons_zero, List.set_cons_succ])
  refine wpCalm_step _ (fun V hV => calm_enter (run_call2 enters_sub rfl rfl rfl rfl) (sub_any yy xx V hy hx (HG.out.below (hM.out.below hV).bl).O)) ?_; (try simp only [Act.put, List.setIfInBounds_toArray, List.set_cons_zero, List.set_cons_succ])
  refine wpCalm_step _ (fun V hV => calm_enter (run_call1 enters_small rfl rfl rfl) (small_any 1 V (by omega) (by omega))) ?_; (try simp only [Act.put, List.setIfInBounds_toArray, List.set_cons_zero, List.set_cons_succ])
  refine wpCalm_step _ (fun V hV => calm_run (run_ldM (vs := feL dd) rfl Tryd.underlying31 rfl (szFe _) rfl ((HG.out.below (hM.out.below hV).bl).D.range))) ?_; (try simp only [Act.put, List.setIfInBounds_toArray, List.set_cons_zero, List.set_cons_succ])
  refine wpCalm_step _ (fun V hV => calm_run (run_ldM (vs := feL xx) rfl Tryd.underlying31 rfl (szFe _) rfl (((hM.out.below hV).get (i := 1) rfl).range))) ?_; (try simp only [Act.put, List.setIfInBounds_toArray, List.set_cons_zero, List.set_cons_succ])
  refine wpCalm_step _ (fun V hV => calm_run (run_ldM (vs := feL yy) rfl Tryd.underlying31 rfl (szFe _) rfl (((hM.out.below hV).get (i := 0) rfl).range))) ?_; (try simp only [Act.put, List.setIfInBounds_toArray, List.set_cons_zero, List.set_cons_succ])
  refine wpCalm_step _ (fun V hV => calm_enter (run_call2 enters_mul rfl rfl rfl rfl) (mul_any xx yy V hx hy (HG.out.below (hM.out.below hV).bl).O)) ?_; (try simp only [Act.put, List.setIfInBounds_toArray, List.set_cons_zero, List.set_cons_succ])
  refine wpCalm_step _ (fun V hV => calm_enter (run_call2 enters_mul rfl rfl rfl rfl) (mul_any dd (xx * yy % pp) V num_dd (num_emod_pp _) (HG.out.below (hM.out.below hV).bl).O)) ?_; (try simp only [Act.put, List.setIfInBounds_toArray, List.set_cons_zero, List.set_cons_succ])
  refine wpCalm_step _ (fun V hV => calm_enter (run_call2 enters_add rfl rfl rfl rfl) (add_any 1 (dd * (xx * yy % pp) % pp) V num_1 (num_emod_pp _) (HG.out.below (hM.out.below hV).bl).O)) ?_; (try simp only [Act.put, List.setIfInBounds_toArray, List.set_cons_zero, List.set_cons_succ])
  refine wpCalm_step _ (fun V hV => calm_run (run_eqFeO (c := ob) (num_emod_pp _) (num_emod_pp _) rfl rfl rfl HB.out.symm)) ?_; (try simp only [Act.put, List.setIfInBounds_toArray, List.set_cons_zero, List.set_cons_succ])
  refine wpCalm_done ?_; intro a5 hb; simp only [List.drop_succ_cons, List.drop_zero]
  replace hM := Lib.hid (hM.out.below hb)
  refine wpList_val (run_asg (v := .bool _) rfl rfl) rfl ?_; (try simp only [Act.put, List.setIfInBounds_toArray, List.set_cons_zero, List.set_cons_succ])
  refine wpList_end ?_
  go_wp2_with fail
  go_ret
  exact ⟨rfl, hM.out.bl⟩
theorem enters_on : Enters 63 := enters_of Tryd.func63 (by kernel_rfl) rfl
end Go.Proofs.YtfdjmdfaidiliaaDoor
namespace Go.Proofs.YtfdjmdfaidiliaaDoor
open Go.RowKit
set_option maxRecDepth 20000

set_option maxHeartbeats 4000000 in
theorem widen_any (p : Pt) (w : World) (hp : p.Nm) (hG : EG w) : Calls Tryd.prog 66 #[.agg (ptL p).toArray] w fun e w' => e = .returned (.agg (wdL (wwid p)).toArray) ∧ Below w.heap.size w w' := by
  have hM := Lib.hid (Mv.nil w)
  have HG := Lib.hid hG; clear hG
  go_enter Tryd.func66, Tryd.ntmps66
  go_upto_region 0 with fail; refine wp_region_lit ?_
  refine wpList_val (run_boxL (vs := ptL p) rfl rfl) rfl ?_; (try simp only [Act.put, List.setIfInBounds_toArray, List.set_cons_zero, List.set_cons_succ]); replace hM := Lib.hid (hM.out.new (ptL p) 33); generalize w.alloc (.cells (ptL p).toArray 33) = a1 at *; generalize w.heap.size = g1 at *
  refine wpList_val (run_alc (vs := zq 16) rfl (by kernel_rfl)) rfl ?_; (try simp only [Act.put, List.setIfInBounds_toArray, List.set_cons_zero, List.set_cons_succ]); replace hM := Lib.hid (hM.out.new (zq 16) 80); generalize a1.alloc (.cells (zq 16).toArray 80) = a2 at *; generalize a1.heap.size = g2 at *
  refine wpList_end ?_
  go_upto_region 1 with fail; refine wp_region_calm 11 (by kernel_rfl) (by kernel_rfl) ?_
  refine wpCalm_step _ (fun V hV => calm_run (run_fad (s := 3) (k := 0) rfl Tryd.underlying33 rfl (by kernel_rfl) rfl rfl)) ?_; (try simp only [Act.put, List.setIfInBounds_toArray, List.set_cons_zero, List.set_cons_succ])
  refine wpCalm_step _ (fun V hV => calm_run (run_ldM (vs := feL p.x) rfl Tryd.underlying31 rfl (szFe _) rfl (pt_x ((hM.out.below hV).get (i := 1) rfl)))) ?_; (try simp only [Act.put, List.setIfInBounds_toArray, List.set_cons_zero, List.set_cons_succ])
  refine wpCalm_step _ (fun V hV => calm_run (run_fad (s := 3) (k := 4) rfl Tryd.underlying33 rfl (by kernel_rfl) rfl rfl)) ?_; (try simp only [Act.put, List.setIfInBounds_toArray, List.set_cons_zero, List.set_cons_succ])
  refine wpCalm_step _ (fun V hV => calm_run (run_ldM (vs := feL p.y) rfl Tryd.underlying31 rfl (szFe _) rfl (pt_y ((hM.out.below hV).get (i := 1) rfl)))) ?_; (try simp only [Act.put, List.setIfInBounds_toArray, List.set_cons_zero, List.set_cons_succ])
  refine wpCalm_step _ (fun V hV => calm_enter (run_call1 enters_small rfl rfl rfl) (small_any 1 V (by omega) (by omega))) ?_; (try simp only [Act.put, List.setIfInBounds_toArray, List.set_cons_zero, List.set_cons_succ])
  refine wpCalm_step _ (fun V hV => calm_run (run_fad (s := 3) (k := 0) rfl Tryd.underlying33 rfl (by kernel_rfl) rfl rfl)) ?_; (try simp only [Act.put, List.setIfInBounds_toArray, List.set_cons_zero, List.set_cons_succ])
  refine wpCalm_step _ (fun V hV => calm_run (run_ldM (vs := feL p.x) rfl Tryd.underlying31 rfl (szFe _) rfl (pt_x ((hM.out.below hV).get (i := 1) rfl)))) ?_; (try simp only [Act.put, List.setIfInBounds_toArray, List.set_cons_zero, List.set_cons_succ])
  refine wpCalm_step _ (fun V hV => calm_run (run_fad (s := 3) (k := 4) rfl Tryd.underlying33 rfl (by kernel_rfl) rfl rfl)) ?_; (try simp only [Act.put, List.setIfInBounds_toArray, List.set_cons_zero, List.set_cons_succ])
  refine wpCalm_step _ (fun V hV => calm_run (run_ldM (vs := feL p.y) rfl Tryd.underlying31 rfl (szFe _) rfl (pt_y ((hM.out.below hV).get (i := 1) rfl)))) ?_; (try simp only [Act.put, List.setIfInBounds_toArray, List.set_cons_zero, List.set_cons_succ])
  refine wpCalm_step _ (fun V hV => calm_enter (run_call2 enters_mul rfl rfl rfl rfl) (mul_any p.x p.y V hp.1 hp.2 (HG.out.below (hM.out.below hV).bl).O)) ?_; (try simp only [Act.put, List.setIfInBounds_toArray, List.set_cons_zero, List.set_cons_succ])
  refine wpCalm_step _ (fun V hV => calm_run (run_bld4 rfl rfl rfl rfl rfl (built_wd p.x p.y 1 (p.x * p.y % pp)))) ?_; (try simp only [Act.put, List.setIfInBounds_toArray, List.set_cons_zero, List.set_cons_succ])
  refine wpCalm_done ?_; intro a3 hb; simp only [List.drop_succ_cons, List.drop_zero]
  replace hM := Lib.hid (hM.out.below hb)
  clear hb
  refine wpList_skip (run_stM (vs := wdL (wwid p)) rfl (szWd _) rfl rfl (oneWd _) ((hM.out.get (i := 0) rfl).there)) rfl rfl ?_; replace hM := Lib.hid (hM.out.put 0 rfl (m := wdL (wwid p)) rfl); generalize a3.setCells g2 0 (wdL (wwid p)) = a4 at *
  refine wpList_end ?_; go_wp2_with fail; refine bodyPost_ret (v := .agg (wdL (wwid p)).toArray) (results_rowB Tryd.results66 rfl Tryd.underlying80 rfl (szWd _) (hM.out.get (i := 0) rfl).range) rfl ⟨rfl, hM.out.bl⟩
theorem enters_widen : Enters 66 := enters_of Tryd.func66 (by kernel_rfl) rfl

set_option maxHeartbeats 4000000 in
theorem nrw_any (W : Wd) (w : World) (hW : W.Nm) (hG : EG w) : Calls Tryd.prog 69 #[.agg (wdL W).toArray] w fun e w' => e = .returned (.agg (ptL (wnar W)).toArray) ∧ Below w.heap.size w w' := by
  have hM := Lib.hid (Mv.nil w)
  have HG := Lib.hid hG; clear hG
  obtain ⟨iz, hiz⟩ : ∃ iz, iz = W.z ^ (pp - 2).toNat % pp := ⟨_, rfl⟩
  have HN : Hid (wnar W = ⟨W.x * iz % pp, W.y * iz % pp⟩) := Lib.hid (by rw [hiz]; rfl)
  have hin : Num iz := by rw [hiz]; exact num_emod_pp _
  have HI : Hid (∀ u, EG u → Calls Tryd.prog 83 #[feV W.z] u fun e w' => e = .returned (feV iz) ∧ Below u.heap.size u w') := Lib.hid fun u hu => by rw [hiz]; exact inv_any W.z u hW.z hu.O hu.T
  clear hiz
  generalize wnar W = R at *
  go_enter Tryd.func69, Tryd.ntmps69
  go_upto_region 0 with fail; refine wp_region_lit ?_
  refine wpList_val (run_boxL (vs := wdL W) rfl rfl) rfl ?_; (try simp only [Act.put, List.setIfInBounds_toArray, List.set_cons_zero, List.set_cons_succ]); replace hM := Lib.hid (hM.out.new (wdL W) 80); generalize w.alloc (.cells (wdL W).toArray 80) = a1 at *; generalize w.heap.size = g1 at *
  refine wpList_val (run_alc (vs := zq 8) rfl (by kernel_rfl)) rfl ?_; (try simp only [Act.put, List.setIfInBounds_toArray, List.set_cons_zero, List.set_cons_succ]); replace hM := Lib.hid (hM.out.new (zq 8) 33); generalize a1.alloc (.cells (zq 8).toArray 33) = a2 at *; generalize a1.heap.size = g2 at *
  refine wpList_end ?_
  go_upto_region 1 with fail; refine wp_region_lit ?_
  refine wpList_val (run_fad (s := 3) (k := 8) rfl Tryd.underlying80 rfl (by kernel_rfl) rfl rfl) rfl ?_; (try simp only [Act.put, List.setIfInBounds_toArray, List.set_cons_zero, List.set_cons_succ])
  refine wpList_val (run_ldM (vs := feL W.z) rfl Tryd.underlying31 rfl (szFe _) rfl (wd_z (hM.out.get (i := 1) rfl))) rfl ?_; (try simp only [Act.put, List.setIfInBounds_toArray, List.set_cons_zero, List.set_cons_succ])
  refine wpList_enter (run_call1 enters_inv rfl rfl rfl) rfl (HI.out _ (HG.out.below hM.out.bl)) (fun a3 hb => ?_); (try simp only [Act.put, List.setIfInBounds_toArray, List.set_cons_zero, List.set_cons_succ]); replace hM := Lib.hid (hM.out.below hb); clear hb
  refine wpList_val (run_alc (vs := zq 4) rfl (by kernel_rfl)) rfl ?_; (try simp only [Act.put, List.setIfInBounds_toArray, List.set_cons_zero, List.set_cons_succ]); replace hM := Lib.hid (hM.out.new (zq 4) 31); generalize a3.alloc (.cells (zq 4).toArray 31) = a4 at *; generalize a3.heap.size = g3 at *
  refine wpList_skip (run_stM (vs := feL iz) rfl (szFe _) rfl rfl (oneFe _) ((hM.out.get (i := 0) rfl).there)) rfl rfl ?_; replace hM := Lib.hid (hM.out.put 0 rfl (m := feL iz) rfl); generalize a4.setCells g3 0 (feL iz) = a5 at *
  refine wpList_end ?_
  go_upto_region 2 with fail; refine wp_region_calm 9 (by kernel_rfl) (by kernel_rfl) ?_
  refine wpCalm_step _ (fun V hV => calm_run (run_fad (s := 3) (k := 0) rfl Tryd.underlying80 rfl (by kernel_rfl) rfl rfl)) ?_; (try simp only [Act.put, List.setIfInBounds_toArray, List.set_cons_zero, List.set_cons_succ])
  refine wpCalm_step _ (fun V hV => calm_run (run_ldM (vs := feL W.x) rfl Tryd.underlying31 rfl (szFe _) rfl (wd_x ((hM.out.below hV).get (i := 2) rfl)))) ?_; (try simp only [Act.put, List.setIfInBounds_toArray, List.set_cons_zero, List.set_cons_succ])
  refine wpCalm_step _ (fun V hV => calm_run (run_ldM (vs := feL iz) rfl Tryd.underlying31 rfl (szFe _) rfl (((hM.out.below hV).get (i := 0) rfl).range))) ?_; (try simp only [Act.put, List.setIfInBounds_toArray, List.set_cons_zero, List.set_cons_succ])
  refine wpCalm_step _ (fun V hV => calm_enter (run_call2 enters_mul rfl rfl rfl rfl) (mul_any W.x iz V hW.x hin (HG.out.below (hM.out.below hV).bl).O)) ?_; (try simp only [Act.put, List.setIfInBounds_toArray, List.set_cons_zero, List.set_cons_succ])
  refine wpCalm_step _ (fun V hV => calm_run (run_fad (s := 3) (k := 4) rfl Tryd.underlying80 rfl (by kernel_rfl) rfl rfl)) ?_; (try simp only [Act.put, List.setIfInBounds_toArray, List.set_cons_zero, List.set_cons_succ])
  refine wpCalm_step _ (fun V hV => calm_run (run_ldM (vs := feL W.y) rfl Tryd.underlying31 rfl (szFe _) rfl (wd_y ((hM.out.below hV).get (i := 2) rfl)))) ?_; (try simp only [Act.put, List.setIfInBounds_toArray, List.set_cons_zero, List.set_cons_succ])
  refine wpCalm_step _ (fun V hV => calm_run (run_ldM (vs := feL iz) rfl Tryd.underlying31 rfl (szFe _) rfl (((hM.out.below hV).get (i := 0) rfl).range))) ?_; (try simp only [Act.put, List.setIfInBounds_toArray, List.set_cons_zero, List.set_cons_succ])
  refine wpCalm_step _ (fun V hV => calm_enter (run_call2 enters_mul rfl rfl rfl rfl) (mul_any W.y iz V hW.y hin (HG.out.below (hM.out.below hV).bl).O)) ?_; (try simp only [Act.put, List.setIfInBounds_toArray, List.set_cons_zero, List.set_cons_succ])
  refine wpCalm_step _ (fun V hV => calm_run (run_bld2 rfl rfl rfl (built_pt (W.x * iz % pp) (W.y * iz % pp)))) ?_; (try simp only [Act.put, List.setIfInBounds_toArray, List.set_cons_zero, List.set_cons_succ])
  refine wpCalm_done ?_; intro a6 hb; simp only [List.drop_succ_cons, List.drop_zero]
  replace hM := Lib.hid (hM.out.below hb)
  clear hb
  refine wpList_skip (run_stM (vs := ptL ⟨W.x * iz % pp, W.y * iz % pp⟩) rfl (szPt _) rfl rfl (onePt _) ((hM.out.get (i := 1) rfl).there)) rfl rfl ?_; replace hM := Lib.hid (hM.out.put 1 rfl (m := ptL ⟨W.x * iz % pp, W.y * iz % pp⟩) rfl); generalize a6.setCells g2 0 (ptL ⟨W.x * iz % pp, W.y * iz % pp⟩) = a7 at *
  refine wpList_end ?_; go_wp2_with fail; refine bodyPost_ret (v := .agg (ptL ⟨W.x * iz % pp, W.y * iz % pp⟩).toArray) (results_rowB Tryd.results69 rfl Tryd.underlying33 rfl (szPt _) (hM.out.get (i := 1) rfl).range) rfl ⟨by rw [HN.out], hM.out.bl⟩
theorem enters_nrw : Enters 69 := enters_of Tryd.func69 (by kernel_rfl) rfl

set_option maxHeartbeats 8000000 in
theorem plus_any (p q : Wd) (w : World) (hp : p.Nm) (hq : q.Nm) (hG : EG w) : Calls Tryd.prog 68 #[.agg (wdL p).toArray, .agg (wdL q).toArray] w fun e w' => e = .returned (.agg (wdL (wplus p q)).toArray) ∧ Below w.heap.size w w' := by
  have hM := Lib.hid (Mv.nil w)
  have HG := Lib.hid hG; clear hG
  have E1 : Hid ((p.x * q.y % pp + p.y * q.x % pp) % pp = wcr p q) := Lib.hid rfl
  have E2 : Hid ((p.y * q.y % pp + p.x * q.x % pp) % pp = wst p q) := Lib.hid rfl
  have E3 : Hid (p.z * q.z % pp = won p q) := Lib.hid rfl
  have E4 : Hid (dd * (p.t * q.t % pp) % pp = wpa p q) := Lib.hid rfl
  have E5 : Hid ((won p q + wpa p q) % pp = wab p q) := Lib.hid rfl
  have E6 : Hid ((won p q - wpa p q) % pp = wbe p q) := Lib.hid rfl
  have E7 : Hid (wplus p q = ⟨wcr p q * wbe p q % pp, wst p q * wab p q % pp, wab p q * wbe p q % pp, wcr p q * wst p q % pp⟩) := Lib.hid rfl
  have n1 : Num (wcr p q) := num_emod_pp _
  have n2 : Num (wst p q) := num_emod_pp _
  have n3 : Num (won p q) := num_emod_pp _
  have n4 : Num (wpa p q) := num_emod_pp _
  have n5 : Num (wab p q) := num_emod_pp _
  have n6 : Num (wbe p q) := num_emod_pp _
  generalize wplus p q = R at *
  generalize wcr p q = cr at *
  generalize wst p q = st at *
  generalize wab p q = ab at *
  generalize wbe p q = be at *
  generalize won p q = on at *
  generalize wpa p q = pa at *
  go_enter Tryd.func68, Tryd.ntmps68
  go_upto_region 0 with fail; refine wp_region_lit ?_
  refine wpList_val (run_boxL (vs := wdL p) rfl rfl) rfl ?_; (try simp only [Act.put, List.setIfInBounds_toArray, List.set_cons_zero, List.set_cons_succ]); replace hM := Lib.hid (hM.out.new (wdL p) 80); generalize w.alloc (.cells (wdL p).toArray 80) = a1 at *; generalize w.heap.size = g1 at *
  refine wpList_val (run_boxL (vs := wdL q) rfl rfl) rfl ?_; (try simp only [Act.put, List.setIfInBounds_toArray, List.set_cons_zero, List.set_cons_succ]); replace hM := Lib.hid (hM.out.new (wdL q) 80); generalize a1.alloc (.cells (wdL q).toArray 80) = a2 at *; generalize a1.heap.size = g2 at *
  refine wpList_val (run_alc (vs := zq 16) rfl (by kernel_rfl)) rfl ?_; (try simp only [Act.put, List.setIfInBounds_toArray, List.set_cons_zero, List.set_cons_succ]); replace hM := Lib.hid (hM.out.new (zq 16) 80); generalize a2.alloc (.cells (zq 16).toArray 80) = a3 at *; generalize a2.heap.size = g3 at *
  refine wpList_end ?_
  go_upto_region 1 with fail; refine wp_region_sow1 11 31 (by kernel_rfl) rfl (by kernel_rfl) (alcFe) ?_
  refine wpCalm_step _ (fun V hV => calm_run (run_fad (s := 3) (k := 0) rfl Tryd.underlying80 rfl (by kernel_rfl) rfl rfl)) ?_; (try simp only [Act.put, List.setIfInBounds_toArray, List.set_cons_zero, List.set_cons_succ])
  refine wpCalm_step _ (fun V hV => calm_run (run_ldM (vs := feL p.x) rfl Tryd.underlying31 rfl (szFe _) rfl (wd_x ((hM.out.below hV).get (i := 2) rfl)))) ?_; (try simp only [Act.put, List.setIfInBounds_toArray, List.set_cons_zero, List.set_cons_succ])
  refine wpCalm_step _ (fun V hV => calm_run (run_fad (s := 3) (k := 4) rfl Tryd.underlying80 rfl (by kernel_rfl) rfl rfl)) ?_; (try simp only [Act.put, List.setIfInBounds_toArray, List.set_cons_zero, List.set_cons_succ])
  refine wpCalm_step _ (fun V hV => calm_run (run_ldM (vs := feL q.y) rfl Tryd.underlying31 rfl (szFe _) rfl (wd_y ((hM.out.below hV).get (i := 1) rfl)))) ?_; (try simp only [Act.put, List.setIfInBounds_toArray, List.set_cons_zero, List.set_cons_succ])
  refine wpCalm_step _ (fun V hV => calm_enter (run_call2 enters_mul rfl rfl rfl rfl) (mul_any p.x q.y V hp.x hq.y (HG.out.below (hM.out.below hV).bl).O)) ?_; (try simp only [Act.put, List.setIfInBounds_toArray, List.set_cons_zero, List.set_cons_succ])
  refine wpCalm_step _ (fun V hV => calm_run (run_fad (s := 3) (k := 4) rfl Tryd.underlying80 rfl (by kernel_rfl) rfl rfl)) ?_; (try simp only [Act.put, List.setIfInBounds_toArray, List.set_cons_zero, List.set_cons_succ])
  refine wpCalm_step _ (fun V hV => calm_run (run_ldM (vs := feL p.y) rfl Tryd.underlying31 rfl (szFe _) rfl (wd_y ((hM.out.below hV).get (i := 2) rfl)))) ?_; (try simp only [Act.put, List.setIfInBounds_toArray, List.set_cons_zero, List.set_cons_succ])
  refine wpCalm_step _ (fun V hV => calm_run (run_fad (s := 3) (k := 0) rfl Tryd.underlying80 rfl (by kernel_rfl) rfl rfl)) ?_; (try simp only [Act.put, List.setIfInBounds_toArray, List.set_cons_zero, List.set_cons_succ])
  refine wpCalm_step _ (fun V hV => calm_run (run_ldM (vs := feL q.x) rfl Tryd.underlying31 rfl (szFe _) rfl (wd_x ((hM.out.below hV).get (i := 1) rfl)))) ?_; (try simp only [Act.put, List.setIfInBounds_toArray, List.set_cons_zero, List.set_cons_succ])
  refine wpCalm_step _ (fun V hV => calm_enter (run_call2 enters_mul rfl rfl rfl rfl) (mul_any p.y q.x V hp.y hq.x (HG.out.below (hM.out.below hV).bl).O)) ?_; (try simp only [Act.put, List.setIfInBounds_toArray, List.set_cons_zero, List.set_cons_succ])
  refine wpCalm_step _ (fun V hV => calm_enter (run_call2 enters_add rfl rfl rfl rfl) (add_any (p.x * q.y % pp) (p.y * q.x % pp) V (num_emod_pp _) (num_emod_pp _) (HG.out.below (hM.out.below hV).bl).O)) ?_; (try simp only [Act.put, List.setIfInBounds_toArray, List.set_cons_zero, List.set_cons_succ])
  refine wpCalm_done ?_; intro g4 a4 hpb s1; simp only [List.drop_succ_cons, List.drop_zero, List.setIfInBounds_toArray, List.set_cons_zero, List.set_cons_succ]; replace hM := Lib.hid (hM.out.sow hpb s1); clear hpb s1
  rw [E1.out]
  refine wpList_skip (run_stM (vs := feL cr) rfl (szFe _) rfl rfl (oneFe _) ((hM.out.get (i := 0) rfl).there)) rfl rfl ?_; replace hM := Lib.hid (hM.out.put 0 rfl (m := feL cr) rfl); generalize a4.setCells g4 0 (feL cr) = a5 at *
  refine wpList_end ?_
  go_upto_region 2 with fail; refine wp_region_sow1 11 31 (by kernel_rfl) rfl (by kernel_rfl) (alcFe) ?_
  refine wpCalm_step _ (fun V hV => calm_run (run_fad (s := 3) (k := 4) rfl Tryd.underlying80 rfl (by kernel_rfl) rfl rfl)) ?_; (try simp only [Act.put, List.setIfInBounds_toArray, List.set_cons_zero, List.set_cons_succ])
  refine wpCalm_step _ (fun V hV => calm_run (run_ldM (vs := feL p.y) rfl Tryd.underlying31 rfl (szFe _) rfl (wd_y ((hM.out.below hV).get (i := 3) rfl)))) ?_; (try simp only [Act.put, List.setIfInBounds_toArray, List.set_cons_zero, List.set_cons_succ])
  refine wpCalm_step _ (fun V hV => calm_run (run_fad (s := 3) (k := 4) rfl Tryd.underlying80 rfl (by kernel_rfl) rfl rfl)) ?_; (try simp only [Act.put, List.setIfInBounds_toArray, List.set_cons_zero, List.set_cons_succ])
  refine wpCalm_step _ (fun V hV => calm_run (run_ldM (vs := feL q.y) rfl Tryd.underlying31 rfl (szFe _) rfl (wd_y ((hM.out.below hV).get (i := 2) rfl)))) ?_; (try simp only [Act.put, List.setIfInBounds_toArray, List.set_cons_zero, List.set_cons_succ])
  refine wpCalm_step _ (fun V hV => calm_enter (run_call2 enters_mul rfl rfl rfl rfl) (mul_any p.y q.y V hp.y hq.y (HG.out.below (hM.out.below hV).bl).O)) ?_; (try simp only [Act.put, List.setIfInBounds_toArray, List.set_cons_zero, List.set_cons_succ])
  refine wpCalm_step _ (fun V hV => calm_run (run_fad (s := 3) (k := 0) rfl Tryd.underlying80 rfl (by kernel_rfl) rfl rfl)) ?_; (try simp only [Act.put, List.setIfInBounds_toArray, List.set_cons_zero, List.set_cons_succ])
  refine wpCalm_step _ (fun V hV => calm_run (run_ldM (vs := feL p.x) rfl Tryd.underlying31 rfl (szFe _) rfl (wd_x ((hM.out.below hV).get (i := 3) rfl)))) ?_; (try simp only [Act.put, List.setIfInBounds_toArray, List.set_cons_zero, List.set_cons_succ])
  refine wpCalm_step _ (fun V hV => calm_run (run_fad (s := 3) (k := 0) rfl Tryd.underlying80 rfl (by kernel_rfl) rfl rfl)) ?_; (try simp only [Act.put, List.setIfInBounds_toArray, List.set_cons_zero, List.set_cons_succ])
  refine wpCalm_step _ (fun V hV => calm_run (run_ldM (vs := feL q.x) rfl Tryd.underlying31 rfl (szFe _) rfl (wd_x ((hM.out.below hV).get (i := 2) rfl)))) ?_; (try simp only [Act.put, List.setIfInBounds_toArray, List.set_cons_zero, List.set_cons_succ])
  refine wpCalm_step _ (fun V hV => calm_enter (run_call2 enters_mul rfl rfl rfl rfl) (mul_any p.x q.x V hp.x hq.x (HG.out.below (hM.out.below hV).bl).O)) ?_; (try simp only [Act.put, List.setIfInBounds_toArray, List.set_cons_zero, List.set_cons_succ])
  refine wpCalm_step _ (fun V hV => calm_enter (run_call2 enters_add rfl rfl rfl rfl) (add_any (p.y * q.y % pp) (p.x * q.x % pp) V (num_emod_pp _) (num_emod_pp _) (HG.out.below (hM.out.below hV).bl).O)) ?_; (try simp only [Act.put, List.setIfInBounds_toArray, List.set_cons_zero, List.set_cons_succ])
  refine wpCalm_done ?_; intro g5 a6 hpb s1; simp only [List.drop_succ_cons, List.drop_zero, List.setIfInBounds_toArray, List.set_cons_zero, List.set_cons_succ]; replace hM := Lib.hid (hM.out.sow hpb s1); clear hpb s1
  rw [E2.out]
  refine wpList_skip (run_stM (vs := feL st) rfl (szFe _) rfl rfl (oneFe _) ((hM.out.get (i := 0) rfl).there)) rfl rfl ?_; replace hM := Lib.hid (hM.out.put 0 rfl (m := feL st) rfl); generalize a6.setCells g5 0 (feL st) = a7 at *
  refine wpList_end ?_
  go_upto_region 3 with fail; refine wp_region_sow2 12 31 (by kernel_rfl) rfl rfl (by kernel_rfl) (alcFe) ?_
  refine wpCalm_step _ (fun V hV => calm_run (run_fad (s := 3) (k := 8) rfl Tryd.underlying80 rfl (by kernel_rfl) rfl rfl)) ?_; (try simp only [Act.put, List.setIfInBounds_toArray, List.set_cons_zero, List.set_cons_succ])
  refine wpCalm_step _ (fun V hV => calm_run (run_ldM (vs := feL p.z) rfl Tryd.underlying31 rfl (szFe _) rfl (wd_z ((hM.out.below hV).get (i := 4) rfl)))) ?_; (try simp only [Act.put, List.setIfInBounds_toArray, List.set_cons_zero, List.set_cons_succ])
  refine wpCalm_step _ (fun V hV => calm_run (run_fad (s := 3) (k := 8) rfl Tryd.underlying80 rfl (by kernel_rfl) rfl rfl)) ?_; (try simp only [Act.put, List.setIfInBounds_toArray, List.set_cons_zero, List.set_cons_succ])
  refine wpCalm_step _ (fun V hV => calm_run (run_ldM (vs := feL q.z) rfl Tryd.underlying31 rfl (szFe _) rfl (wd_z ((hM.out.below hV).get (i := 3) rfl)))) ?_; (try simp only [Act.put, List.setIfInBounds_toArray, List.set_cons_zero, List.set_cons_succ])
  refine wpCalm_step _ (fun V hV => calm_enter (run_call2 enters_mul rfl rfl rfl rfl) (mul_any p.z q.z V hp.z hq.z (HG.out.below (hM.out.below hV).bl).O)) ?_; (try simp only [Act.put, List.setIfInBounds_toArray, List.set_cons_zero, List.set_cons_succ])
  refine wpCalm_step _ (fun V hV => calm_run (run_ldM (vs := feL dd) rfl Tryd.underlying31 rfl (szFe _) rfl ((HG.out.below (hM.out.below hV).bl).D.range))) ?_; (try simp only [Act.put, List.setIfInBounds_toArray, List.set_cons_zero, List.set_cons_succ])
  refine wpCalm_step _ (fun V hV => calm_run (run_fad (s := 3) (k := 12) rfl Tryd.underlying80 rfl (by kernel_rfl) rfl rfl)) ?_; (try simp only [Act.put, List.setIfInBounds_toArray, List.set_cons_zero, List.set_cons_succ])
  refine wpCalm_step _ (fun V hV => calm_run (run_ldM (vs := feL p.t) rfl Tryd.underlying31 rfl (szFe _) rfl (wd_t ((hM.out.below hV).get (i := 4) rfl)))) ?_; (try simp only [Act.put, List.setIfInBounds_toArray, List.set_cons_zero, List.set_cons_succ])
  refine wpCalm_step _ (fun V hV => calm_run (run_fad (s := 3) (k := 12) rfl Tryd.underlying80 rfl (by kernel_rfl) rfl rfl)) ?_; (try simp only [Act.put, List.setIfInBounds_toArray, List.set_cons_zero, List.set_cons_succ])
  refine wpCalm_step _ (fun V hV => calm_run (run_ldM (vs := feL q.t) rfl Tryd.underlying31 rfl (szFe _) rfl (wd_t ((hM.out.below hV).get (i := 3) rfl)))) ?_; (try simp only [Act.put, List.setIfInBounds_toArray, List.set_cons_zero, List.set_cons_succ])
  refine wpCalm_step _ (fun V hV => calm_enter (run_call2 enters_mul rfl rfl rfl rfl) (mul_any p.t q.t V hp.t hq.t (HG.out.below (hM.out.below hV).bl).O)) ?_; (try simp only [Act.put, List.setIfInBounds_toArray, List.set_cons_zero, List.set_cons_succ])
  refine wpCalm_step _ (fun V hV => calm_enter (run_call2 enters_mul rfl rfl rfl rfl) (mul_any dd (p.t * q.t % pp) V num_dd (num_emod_pp _) (HG.out.below (hM.out.below hV).bl).O)) ?_; (try simp only [Act.put, List.setIfInBounds_toArray, List.set_cons_zero, List.set_cons_succ])
  refine wpCalm_done ?_; intro g6 g7 a8 hpb s1 s2 hne; simp only [List.drop_succ_cons, List.drop_zero, List.setIfInBounds_toArray, List.set_cons_zero, List.set_cons_succ]; replace hM := Lib.hid (hM.out.sow2 hpb s1 s2 hne); clear hpb s1 s2 hne
  rw [E3.out, E4.out]
  refine wpList_skip (run_stM (vs := feL on) rfl (szFe _) rfl rfl (oneFe _) ((hM.out.get (i := 1) rfl).there)) rfl rfl ?_; replace hM := Lib.hid (hM.out.put 1 rfl (m := feL on) rfl); generalize a8.setCells g6 0 (feL on) = a9 at *
  refine wpList_skip (run_stM (vs := feL pa) rfl (szFe _) rfl rfl (oneFe _) ((hM.out.get (i := 0) rfl).there)) rfl rfl ?_; replace hM := Lib.hid (hM.out.put 0 rfl (m := feL pa) rfl); generalize a9.setCells g7 0 (feL pa) = a10 at *
  refine wpList_end ?_
  go_upto_region 4 with fail; refine wp_region_sow2 6 31 (by kernel_rfl) rfl rfl (by kernel_rfl) (alcFe) ?_
  refine wpCalm_step _ (fun V hV => calm_run (run_ldM (vs := feL on) rfl Tryd.underlying31 rfl (szFe _) rfl (((hM.out.below hV).get (i := 1) rfl).range))) ?_; (try simp only [Act.put, List.setIfInBounds_toArray, List.set_cons_zero, List.set_cons_succ])
  refine wpCalm_step _ (fun V hV => calm_run (run_ldM (vs := feL pa) rfl Tryd.underlying31 rfl (szFe _) rfl (((hM.out.below hV).get (i := 0) rfl).range))) ?_; (try simp only [Act.put, List.setIfInBounds_toArray, List.set_cons_zero, List.set_cons_succ])
  refine wpCalm_step _ (fun V hV => calm_enter (run_call2 enters_add rfl rfl rfl rfl) (add_any on pa V n3 n4 (HG.out.below (hM.out.below hV).bl).O)) ?_; (try simp only [Act.put, List.setIfInBounds_toArray, List.set_cons_zero, List.set_cons_succ])
  refine wpCalm_step _ (fun V hV => calm_run (run_ldM (vs := feL on) rfl Tryd.underlying31 rfl (szFe _) rfl (((hM.out.below hV).get (i := 1) rfl).range))) ?_; (try simp only [Act.put, List.setIfInBounds_toArray, List.set_cons_zero, List.set_cons_succ])
  refine wpCalm_step _ (fun V hV => calm_run (run_ldM (vs := feL pa) rfl Tryd.underlying31 rfl (szFe _) rfl (((hM.out.below hV).get (i := 0) rfl).range))) ?_; (try simp only [Act.put, List.setIfInBounds_toArray, List.set_cons_zero, List.set_cons_succ])
  refine wpCalm_step _ (fun V hV => calm_enter (run_call2 enters_sub rfl rfl rfl rfl) (sub_any on pa V n3 n4 (HG.out.below (hM.out.below hV).bl).O)) ?_; (try simp only [Act.put, List.setIfInBounds_toArray, List.set_cons_zero, List.set_cons_succ])
  refine wpCalm_done ?_; intro g8 g9 a11 hpb s1 s2 hne; simp only [List.drop_succ_cons, List.drop_zero, List.setIfInBounds_toArray, List.set_cons_zero, List.set_cons_succ]; replace hM := Lib.hid (hM.out.sow2 hpb s1 s2 hne); clear hpb s1 s2 hne
  rw [E5.out, E6.out]
  refine wpList_skip (run_stM (vs := feL ab) rfl (szFe _) rfl rfl (oneFe _) ((hM.out.get (i := 1) rfl).there)) rfl rfl ?_; replace hM := Lib.hid (hM.out.put 1 rfl (m := feL ab) rfl); generalize a11.setCells g8 0 (feL ab) = a12 at *
  refine wpList_skip (run_stM (vs := feL be) rfl (szFe _) rfl rfl (oneFe _) ((hM.out.get (i := 0) rfl).there)) rfl rfl ?_; replace hM := Lib.hid (hM.out.put 0 rfl (m := feL be) rfl); generalize a12.setCells g9 0 (feL be) = a13 at *
  refine wpList_end ?_
  go_upto_region 5 with fail; refine wp_region_calm 13 (by kernel_rfl) (by kernel_rfl) ?_
  refine wpCalm_step _ (fun V hV => calm_run (run_ldM (vs := feL cr) rfl Tryd.underlying31 rfl (szFe _) rfl (((hM.out.below hV).get (i := 5) rfl).range))) ?_; (try simp only [Act.put, List.setIfInBounds_toArray, List.set_cons_zero, List.set_cons_succ])
  refine wpCalm_step _ (fun V hV => calm_run (run_ldM (vs := feL be) rfl Tryd.underlying31 rfl (szFe _) rfl (((hM.out.below hV).get (i := 0) rfl).range))) ?_; (try simp only [Act.put, List.setIfInBounds_toArray, List.set_cons_zero, List.set_cons_succ])
  refine wpCalm_step _ (fun V hV => calm_enter (run_call2 enters_mul rfl rfl rfl rfl) (mul_any cr be V n1 n6 (HG.out.below (hM.out.below hV).bl).O)) ?_; (try simp only [Act.put, List.setIfInBounds_toArray, List.set_cons_zero, List.set_cons_succ])
  refine wpCalm_step _ (fun V hV => calm_run (run_ldM (vs := feL st) rfl Tryd.underlying31 rfl (szFe _) rfl (((hM.out.below hV).get (i := 4) rfl).range))) ?_; (try simp only [Act.put, List.setIfInBounds_toArray, List.set_cons_zero, List.set_cons_succ])
  refine wpCalm_step _ (fun V hV => calm_run (run_ldM (vs := feL ab) rfl Tryd.underlying31 rfl (szFe _) rfl (((hM.out.below hV).get (i := 1) rfl).range))) ?_; (try simp only [Act.put, List.setIfInBounds_toArray, List.set_cons_zero, List.set_cons_succ])
  refine wpCalm_step _ (fun V hV => calm_enter (run_call2 enters_mul rfl rfl rfl rfl) (mul_any st ab V n2 n5 (HG.out.below (hM.out.below hV).bl).O)) ?_; (try simp only [Act.put, List.setIfInBounds_toArray, List.set_cons_zero, List.set_cons_succ])
  refine wpCalm_step _ (fun V hV => calm_run (run_ldM (vs := feL ab) rfl Tryd.underlying31 rfl (szFe _) rfl (((hM.out.below hV).get (i := 1) rfl).range))) ?_; (try simp only [Act.put, List.setIfInBounds_toArray, List.set_cons_zero, List.set_cons_succ])
  refine wpCalm_step _ (fun V hV => calm_run (run_ldM (vs := feL be) rfl Tryd.underlying31 rfl (szFe _) rfl (((hM.out.below hV).get (i := 0) rfl).range))) ?_; (try simp only [Act.put, List.setIfInBounds_toArray, List.set_cons_zero, List.set_cons_succ])
  refine wpCalm_step _ (fun V hV => calm_enter (run_call2 enters_mul rfl rfl rfl rfl) (mul_any ab be V n5 n6 (HG.out.below (hM.out.below hV).bl).O)) ?_; (try simp only [Act.put, List.setIfInBounds_toArray, List.set_cons_zero, List.set_cons_succ])
  refine wpCalm_step _ (fun V hV => calm_run (run_ldM (vs := feL cr) rfl Tryd.underlying31 rfl (szFe _) rfl (((hM.out.below hV).get (i := 5) rfl).range))) ?_; (try simp only [Act.put, List.setIfInBounds_toArray, List.set_cons_zero, List.set_cons_succ])
  refine wpCalm_step _ (fun V hV => calm_run (run_ldM (vs := feL st) rfl Tryd.underlying31 rfl (szFe _) rfl (((hM.out.below hV).get (i := 4) rfl).range))) ?_; (try simp only [Act.put, List.setIfInBounds_toArray, List.set_cons_zero, List.set_cons_succ])
  refine wpCalm_step _ (fun V hV => calm_enter (run_call2 enters_mul rfl rfl rfl rfl) (mul_any cr st V n1 n2 (HG.out.below (hM.out.below hV).bl).O)) ?_; (try simp only [Act.put, List.setIfInBounds_toArray, List.set_cons_zero, List.set_cons_succ])
  refine wpCalm_step _ (fun V hV => calm_run (run_bld4 rfl rfl rfl rfl rfl (built_wd (cr * be % pp) (st * ab % pp) (ab * be % pp) (cr * st % pp)))) ?_; (try simp only [Act.put, List.setIfInBounds_toArray, List.set_cons_zero, List.set_cons_succ])
  refine wpCalm_done ?_; intro a14 hb; simp only [List.drop_succ_cons, List.drop_zero]
  replace hM := Lib.hid (hM.out.below hb)
  clear hb
  refine wpList_skip (run_stM (vs := wdL ⟨cr * be % pp, st * ab % pp, ab * be % pp, cr * st % pp⟩) rfl (szWd _) rfl rfl (oneWd _) ((hM.out.get (i := 6) rfl).there)) rfl rfl ?_; replace hM := Lib.hid (hM.out.put 6 rfl (m := wdL ⟨cr * be % pp, st * ab % pp, ab * be % pp, cr * st % pp⟩) rfl); generalize a14.setCells g3 0 (wdL ⟨cr * be % pp, st * ab % pp, ab * be % pp, cr * st % pp⟩) = a15 at *
  refine wpList_end ?_; go_wp2_with fail; refine bodyPost_ret (v := .agg (wdL ⟨cr * be % pp, st * ab % pp, ab * be % pp, cr * st % pp⟩).toArray) (results_rowB Tryd.results68 rfl Tryd.underlying80 rfl (szWd _) (hM.out.get (i := 6) rfl).range) rfl ⟨by rw [E7.out], hM.out.bl⟩
theorem enters_plus : Enters 68 := enters_of Tryd.func68 (by kernel_rfl) rfl
end Go.Proofs.YtfdjmdfaidiliaaDoor
namespace Go.Proofs.YtfdjmdfaidiliaaDoor
open Go.RowKit
set_option maxRecDepth 20000

/-- What Add, Neg and Mul answer. -/
def addP (p q : Pt) : Pt := if onB p && onB q then padd p.can q.can else nonePt
def negP (p : Pt) : Pt := if onB p then ⟨-p.x % pp, p.y % pp⟩ else nonePt
def mulP (n : Nat) (p : Pt) : Pt := if onB p then pmul p.can n else nonePt
theorem addP_ok (p q : Pt) : (addP p q).Ok := by unfold addP; split; exact padd_ok _ _; exact none_ok
theorem negP_ok (p : Pt) : (negP p).Ok := by unfold negP; split; exact ⟨emod_pp_lt _, emod_pp_lt _⟩; exact none_ok
theorem mulP_ok (n : Nat) (p : Pt) : (mulP n p).Ok := by unfold mulP; split; exact pmul_ok _ _; exact none_ok
theorem onB_on {p : Pt} (h : p.On) : onB p = true := (onB_iff p).2 h
theorem addP_on {p q : Pt} (hp : p.On) (hq : q.On) (h1 : p.Ok) (h2 : q.Ok) : addP p q = padd p q := by
  unfold addP; rw [onB_on hp, onB_on hq, Bool.and_self, if_pos rfl, can_id h1, can_id h2]
theorem mulP_on {p : Pt} (hp : p.On) (h1 : p.Ok) (n : Nat) : mulP n p = pmul p n := by
  unfold mulP; rw [onB_on hp, if_pos rfl, can_id h1]
/-- Two points, by wide ones. -/
theorem wide_add {p q : Pt} (hp : onB p = true) (hq : onB q = true) : wnar (wplus (wwid p) (wwid q)) = addP p q := by
  unfold addP
  rw [hp, hq, Bool.and_self, if_pos rfl]
  exact wnar_eq (rep_plus (rep_widen p) (rep_widen q) (can_on ((onB_iff p).1 hp)) (can_on ((onB_iff q).1 hq))) (padd_ok _ _)

set_option maxHeartbeats 8000000 in
theorem addP_any (p q : Pt) (w : World) (hp : p.Nm) (hq : q.Nm) (hG : EG w) : Calls Tryd.prog 37 #[.agg (ptL p).toArray, .agg (ptL q).toArray] w fun e w' => e = .returned (.agg (ptL (addP p q)).toArray) ∧ Below w.heap.size w w' := by
  have hM := Lib.hid (Mv.nil w)
  have HG := Lib.hid hG; clear hG
  have HA : Hid (onB p = true → onB q = true → wnar (wplus (wwid p) (wwid q)) = addP p q) := Lib.hid wide_add
  have H1 : Hid (onB p = false → addP p q = nonePt) := Lib.hid fun h => by unfold addP; rw [h]; rfl
  have H2 : Hid (onB p = true → onB q = false → addP p q = nonePt) := Lib.hid fun h h' => by unfold addP; rw [h, h']; rfl
  generalize addP p q = R at *
  obtain ⟨b1, hb1⟩ : ∃ b, b = onB p := ⟨_, rfl⟩
  obtain ⟨b2, hb2⟩ : ∃ b, b = onB q := ⟨_, rfl⟩
  have C1 : Hid (∀ u, EG u → Calls Tryd.prog 63 #[.agg (ptL p).toArray] u fun e w' => e = .returned (.bool b1) ∧ Below u.heap.size u w') := Lib.hid fun u hu => by rw [hb1]; exact on_any p u hp hu
  have C2 : Hid (∀ u, EG u → Calls Tryd.prog 63 #[.agg (ptL q).toArray] u fun e w' => e = .returned (.bool b2) ∧ Below u.heap.size u w') := Lib.hid fun u hu => by rw [hb2]; exact on_any q u hq hu
  rw [← hb1, ← hb2] at HA H2
  rw [← hb1] at H1
  clear hb1 hb2
  go_enter Tryd.func37, Tryd.ntmps37
  go_upto_region 0 with fail; refine wp_region_lit ?_
  refine wpList_val (run_boxL (vs := ptL p) rfl rfl) rfl ?_; (try simp only [Act.put, List.setIfInBounds_toArray, List.set_cons_zero, List.set_cons_succ]); replace hM := Lib.hid (hM.out.new (ptL p) 33); generalize w.alloc (.cells (ptL p).toArray 33) = a1 at *; generalize w.heap.size = g1 at *
  refine wpList_val (run_boxL (vs := ptL q) rfl rfl) rfl ?_; (try simp only [Act.put, List.setIfInBounds_toArray, List.set_cons_zero, List.set_cons_succ]); replace hM := Lib.hid (hM.out.new (ptL q) 33); generalize a1.alloc (.cells (ptL q).toArray 33) = a2 at *; generalize a1.heap.size = g2 at *
  refine wpList_val (run_alc (vs := zq 8) rfl (by kernel_rfl)) rfl ?_; (try simp only [Act.put, List.setIfInBounds_toArray, List.set_cons_zero, List.set_cons_succ]); replace hM := Lib.hid (hM.out.new (zq 8) 33); generalize a2.alloc (.cells (zq 8).toArray 33) = a3 at *; generalize a2.heap.size = g3 at *
  refine wpList_end ?_
  go_upto_region 1 with fail; refine wp_region_lit ?_
  refine wpList_val (run_ldM (vs := ptL p) rfl Tryd.underlying33 rfl (szPt _) rfl ((hM.out.get (i := 2) rfl).range)) rfl ?_; (try simp only [Act.put, List.setIfInBounds_toArray, List.set_cons_zero, List.set_cons_succ])
  refine wpList_enter (run_call1 enters_on rfl rfl rfl) rfl (C1.out _ (HG.out.below hM.out.bl)) (fun a4 hb => ?_); (try simp only [Act.put, List.setIfInBounds_toArray, List.set_cons_zero, List.set_cons_succ]); replace hM := Lib.hid (hM.out.below hb); clear hb
  cases b1
  · have e := H1.out rfl
    subst e
    refine wpList_val (run_notB rfl rfl) rfl ?_; (try simp only [Act.put, List.setIfInBounds_toArray, List.set_cons_zero, List.set_cons_succ])
    refine wpList_val (run_mv (v := .bool true) rfl rfl) rfl ?_; (try simp only [Act.put, List.setIfInBounds_toArray, List.set_cons_zero, List.set_cons_succ])
    refine wpList_pass rfl ?_; (try simp only [Act.put, List.setIfInBounds_toArray, List.set_cons_zero, List.set_cons_succ])
    refine wpList_pass rfl ?_; (try simp only [Act.put, List.setIfInBounds_toArray, List.set_cons_zero, List.set_cons_succ])
    refine wpList_pass rfl ?_; (try simp only [Act.put, List.setIfInBounds_toArray, List.set_cons_zero, List.set_cons_succ])
    refine wpList_val (run_pick (b := true) (v := .bool true) rfl rfl rfl) rfl ?_; (try simp only [Act.put, List.setIfInBounds_toArray, List.set_cons_zero, List.set_cons_succ])
    refine wpList_end ?_
    go_upto_region 2 with fail; refine wp_region_lit ?_
    refine wpList_enter (run_call0 enters_nothing rfl rfl) rfl (nothing_any _) (fun a5 hb => ?_); (try simp only [Act.put, List.setIfInBounds_toArray, List.set_cons_zero, List.set_cons_succ]); replace hM := Lib.hid (hM.out.below hb); clear hb
    refine wpList_skip (run_stM (vs := ptL nonePt) rfl (szPt _) rfl rfl (onePt _) ((hM.out.get (i := 0) rfl).there)) rfl rfl ?_; replace hM := Lib.hid (hM.out.put 0 rfl (m := ptL nonePt) rfl); generalize a5.setCells g3 0 (ptL nonePt) = a6 at *
    refine wpList_end ?_; go_wp2_with fail; refine bodyPost_ret (v := .agg (ptL nonePt).toArray) (results_rowB Tryd.results37 rfl Tryd.underlying33 rfl (szPt _) (hM.out.get (i := 0) rfl).range) rfl ⟨rfl, hM.out.bl⟩
  · refine wpList_val (run_notB rfl rfl) rfl ?_; (try simp only [Act.put, List.setIfInBounds_toArray, List.set_cons_zero, List.set_cons_succ])
    refine wpList_val (run_mv (v := .bool false) rfl rfl) rfl ?_; (try simp only [Act.put, List.setIfInBounds_toArray, List.set_cons_zero, List.set_cons_succ])
    refine wpList_valG (run_ldM (vs := ptL q) rfl Tryd.underlying33 rfl (szPt _) rfl (hM.out.get (i := 1) rfl).range) rfl ?_; (try simp only [Act.put, List.setIfInBounds_toArray, List.set_cons_zero, List.set_cons_succ])
    refine wpList_enterG (run_call1 enters_on rfl rfl rfl) rfl (C2.out _ (HG.out.below hM.out.bl)) (fun a5 hb => ?_); (try simp only [Act.put, List.setIfInBounds_toArray, List.set_cons_zero, List.set_cons_succ])
    replace hM := Lib.hid (hM.out.below hb)
    clear hb
    cases b2
    · have e := H2.out rfl rfl
      subst e
      refine wpList_valG (run_notB rfl rfl) rfl ?_; (try simp only [Act.put, List.setIfInBounds_toArray, List.set_cons_zero, List.set_cons_succ])
      refine wpList_val (run_pick (b := false) (v := .bool true) rfl rfl rfl) rfl ?_; (try simp only [Act.put, List.setIfInBounds_toArray, List.set_cons_zero, List.set_cons_succ])
      refine wpList_end ?_
      go_upto_region 2 with fail; refine wp_region_lit ?_
      refine wpList_enter (run_call0 enters_nothing rfl rfl) rfl (nothing_any _) (fun a6 hb => ?_); (try simp only [Act.put, List.setIfInBounds_toArray, List.set_cons_zero, List.set_cons_succ]); replace hM := Lib.hid (hM.out.below hb); clear hb
      refine wpList_skip (run_stM (vs := ptL nonePt) rfl (szPt _) rfl rfl (onePt _) ((hM.out.get (i := 0) rfl).there)) rfl rfl ?_; replace hM := Lib.hid (hM.out.put 0 rfl (m := ptL nonePt) rfl); generalize a6.setCells g3 0 (ptL nonePt) = a7 at *
      refine wpList_end ?_; go_wp2_with fail; refine bodyPost_ret (v := .agg (ptL nonePt).toArray) (results_rowB Tryd.results37 rfl Tryd.underlying33 rfl (szPt _) (hM.out.get (i := 0) rfl).range) rfl ⟨rfl, hM.out.bl⟩
    · have e := H2
      refine wpList_valG (run_notB rfl rfl) rfl ?_; (try simp only [Act.put, List.setIfInBounds_toArray, List.set_cons_zero, List.set_cons_succ])
      refine wpList_val (run_pick (b := false) (v := .bool false) rfl rfl rfl) rfl ?_; (try simp only [Act.put, List.setIfInBounds_toArray, List.set_cons_zero, List.set_cons_succ])
      refine wpList_end ?_
      clear e
      have hpw := wwid_nm hp
      have hqw := wwid_nm hq
      have hrw := wplus_nm (wwid p) (wwid q)
      go_upto_region 3 with fail; refine wp_region_calm 6 (by kernel_rfl) (by kernel_rfl) ?_
      refine wpCalm_step _ (fun V hV => calm_run (run_ldM (vs := ptL p) rfl Tryd.underlying33 rfl (szPt _) rfl (((hM.out.below hV).get (i := 2) rfl).range))) ?_; (try simp only [Act.put, List.setIfInBounds_toArray, List.set_cons_zero, List.set_cons_succ])
      refine wpCalm_step _ (fun V hV => calm_enter (run_call1 enters_widen rfl rfl rfl) (widen_any p V hp (HG.out.below (hM.out.below hV).bl))) ?_; (try simp only [Act.put, List.setIfInBounds_toArray, List.set_cons_zero, List.set_cons_succ])
      refine wpCalm_step _ (fun V hV => calm_run (run_ldM (vs := ptL q) rfl Tryd.underlying33 rfl (szPt _) rfl (((hM.out.below hV).get (i := 1) rfl).range))) ?_; (try simp only [Act.put, List.setIfInBounds_toArray, List.set_cons_zero, List.set_cons_succ])
      refine wpCalm_step _ (fun V hV => calm_enter (run_call1 enters_widen rfl rfl rfl) (widen_any q V hq (HG.out.below (hM.out.below hV).bl))) ?_; (try simp only [Act.put, List.setIfInBounds_toArray, List.set_cons_zero, List.set_cons_succ])
      refine wpCalm_step _ (fun V hV => calm_enter (run_call2 enters_plus rfl rfl rfl rfl) (plus_any (wwid p) (wwid q) V hpw hqw (HG.out.below (hM.out.below hV).bl))) ?_; (try simp only [Act.put, List.setIfInBounds_toArray, List.set_cons_zero, List.set_cons_succ])
      refine wpCalm_step _ (fun V hV => calm_enter (run_call1 enters_nrw rfl rfl rfl) (nrw_any (wplus (wwid p) (wwid q)) V hrw (HG.out.below (hM.out.below hV).bl))) ?_; (try simp only [Act.put, List.setIfInBounds_toArray, List.set_cons_zero, List.set_cons_succ])
      refine wpCalm_done ?_; intro a6 hb; simp only [List.drop_succ_cons, List.drop_zero]
      replace hM := Lib.hid (hM.out.below hb)
      clear hb
      rw [HA.out rfl rfl]
      refine wpList_skip (run_stM (vs := ptL R) rfl (szPt _) rfl rfl (onePt _) ((hM.out.get (i := 0) rfl).there)) rfl rfl ?_; replace hM := Lib.hid (hM.out.put 0 rfl (m := ptL R) rfl); generalize a6.setCells g3 0 (ptL R) = a7 at *
      refine wpList_end ?_; go_wp2_with fail; refine bodyPost_ret (v := .agg (ptL R).toArray) (results_rowB Tryd.results37 rfl Tryd.underlying33 rfl (szPt _) (hM.out.get (i := 0) rfl).range) rfl ⟨rfl, hM.out.bl⟩
theorem enters_addP : Enters 37 := enters_of Tryd.func37 (by kernel_rfl) rfl

theorem enters_canon : Enters 56 := enters_of Tryd.func56 (by kernel_rfl) rfl
theorem enters_neg : Enters 65 := enters_of Tryd.func65 (by kernel_rfl) rfl
set_option maxHeartbeats 8000000 in
theorem negP_any (p : Pt) (w : World) (hp : p.Nm) (hG : EG w) : Calls Tryd.prog 33 #[.agg (ptL p).toArray] w fun e w' => e = .returned (.agg (ptL (negP p)).toArray) ∧ Below w.heap.size w w' := by
  have hM := Lib.hid (Mv.nil w)
  have HG := Lib.hid hG; clear hG
  have H1 : Hid (onB p = false → negP p = nonePt) := Lib.hid fun h => by unfold negP; rw [h]; rfl
  have H2 : Hid (onB p = true → negP p = ⟨-p.x % pp, p.y % pp⟩) := Lib.hid fun h => by unfold negP; rw [h]; rfl
  generalize negP p = R at *
  obtain ⟨b1, hb1⟩ : ∃ b, b = onB p := ⟨_, rfl⟩
  have C1 : Hid (∀ u, EG u → Calls Tryd.prog 63 #[.agg (ptL p).toArray] u fun e w' => e = .returned (.bool b1) ∧ Below u.heap.size u w') := Lib.hid fun u hu => by rw [hb1]; exact on_any p u hp hu
  rw [← hb1] at H1 H2
  clear hb1
  go_enter Tryd.func33, Tryd.ntmps33
  go_upto_region 0 with fail; refine wp_region_lit ?_
  refine wpList_val (run_boxL (vs := ptL p) rfl rfl) rfl ?_; (try simp only [Act.put, List.setIfInBounds_toArray, List.set_cons_zero, List.set_cons_succ]); replace hM := Lib.hid (hM.out.new (ptL p) 33); generalize w.alloc (.cells (ptL p).toArray 33) = a1 at *; generalize w.heap.size = g1 at *
  refine wpList_val (run_alc (vs := zq 8) rfl (by kernel_rfl)) rfl ?_; (try simp only [Act.put, List.setIfInBounds_toArray, List.set_cons_zero, List.set_cons_succ]); replace hM := Lib.hid (hM.out.new (zq 8) 33); generalize a1.alloc (.cells (zq 8).toArray 33) = a2 at *; generalize a1.heap.size = g2 at *
  refine wpList_end ?_
  go_upto_region 1 with fail; refine wp_region_lit ?_
  refine wpList_val (run_ldM (vs := ptL p) rfl Tryd.underlying33 rfl (szPt _) rfl ((hM.out.get (i := 1) rfl).range)) rfl ?_; (try simp only [Act.put, List.setIfInBounds_toArray, List.set_cons_zero, List.set_cons_succ])
  refine wpList_enter (run_call1 enters_on rfl rfl rfl) rfl (C1.out _ (HG.out.below hM.out.bl)) (fun a3 hb => ?_); (try simp only [Act.put, List.setIfInBounds_toArray, List.set_cons_zero, List.set_cons_succ]); replace hM := Lib.hid (hM.out.below hb); clear hb
  cases b1
  · have e := H1.out rfl
    subst e
    refine wpList_val (run_notB rfl rfl) rfl ?_; (try simp only [Act.put, List.setIfInBounds_toArray, List.set_cons_zero, List.set_cons_succ])
    refine wpList_end ?_
    go_upto_region 2 with fail; refine wp_region_lit ?_
    refine wpList_enter (run_call0 enters_nothing rfl rfl) rfl (nothing_any _) (fun a5 hb => ?_); (try simp only [Act.put, List.setIfInBounds_toArray, List.set_cons_zero, List.set_cons_succ]); replace hM := Lib.hid (hM.out.below hb); clear hb
    refine wpList_skip (run_stM (vs := ptL nonePt) rfl (szPt _) rfl rfl (onePt _) ((hM.out.get (i := 0) rfl).there)) rfl rfl ?_; replace hM := Lib.hid (hM.out.put 0 rfl (m := ptL nonePt) rfl); generalize a5.setCells g2 0 (ptL nonePt) = a6 at *
    refine wpList_end ?_; go_wp2_with fail; refine bodyPost_ret (v := .agg (ptL nonePt).toArray) (results_rowB Tryd.results33 rfl Tryd.underlying33 rfl (szPt _) (hM.out.get (i := 0) rfl).range) rfl ⟨rfl, hM.out.bl⟩
  · have e := H2.out rfl
    subst e
    refine wpList_val (run_notB rfl rfl) rfl ?_; (try simp only [Act.put, List.setIfInBounds_toArray, List.set_cons_zero, List.set_cons_succ])
    refine wpList_end ?_
    go_upto_region 3 with fail; refine wp_region_calm 7 (by kernel_rfl) (by kernel_rfl) ?_
    refine wpCalm_step _ (fun V hV => calm_run (run_fad (s := 3) (k := 0) rfl Tryd.underlying33 rfl (by kernel_rfl) rfl rfl)) ?_; (try simp only [Act.put, List.setIfInBounds_toArray, List.set_cons_zero, List.set_cons_succ])
    refine wpCalm_step _ (fun V hV => calm_run (run_ldM (vs := feL p.x) rfl Tryd.underlying31 rfl (szFe _) rfl (pt_x ((hM.out.below hV).get (i := 1) rfl)))) ?_; (try simp only [Act.put, List.setIfInBounds_toArray, List.set_cons_zero, List.set_cons_succ])
    refine wpCalm_step _ (fun V hV => calm_enter (run_call1 enters_neg rfl rfl rfl) (neg_any p.x V hp.1 (HG.out.below (hM.out.below hV).bl).O)) ?_; (try simp only [Act.put, List.setIfInBounds_toArray, List.set_cons_zero, List.set_cons_succ])
    refine wpCalm_step _ (fun V hV => calm_run (run_fad (s := 3) (k := 4) rfl Tryd.underlying33 rfl (by kernel_rfl) rfl rfl)) ?_; (try simp only [Act.put, List.setIfInBounds_toArray, List.set_cons_zero, List.set_cons_succ])
    refine wpCalm_step _ (fun V hV => calm_run (run_ldM (vs := feL p.y) rfl Tryd.underlying31 rfl (szFe _) rfl (pt_y ((hM.out.below hV).get (i := 1) rfl)))) ?_; (try simp only [Act.put, List.setIfInBounds_toArray, List.set_cons_zero, List.set_cons_succ])
    refine wpCalm_step _ (fun V hV => calm_enter (run_call1 enters_canon rfl rfl rfl) (canon_any p.y V hp.2 (HG.out.below (hM.out.below hV).bl).O)) ?_; (try simp only [Act.put, List.setIfInBounds_toArray, List.set_cons_zero, List.set_cons_succ])
    refine wpCalm_step _ (fun V hV => calm_run (run_bld2 rfl rfl rfl (built_pt (-p.x % pp) (p.y % pp)))) ?_; (try simp only [Act.put, List.setIfInBounds_toArray, List.set_cons_zero, List.set_cons_succ])
    refine wpCalm_done ?_; intro a4 hb; simp only [List.drop_succ_cons, List.drop_zero]
    replace hM := Lib.hid (hM.out.below hb)
    clear hb
    refine wpList_skip (run_stM (vs := ptL ⟨-p.x % pp, p.y % pp⟩) rfl (szPt _) rfl rfl (onePt _) ((hM.out.get (i := 0) rfl).there)) rfl rfl ?_; replace hM := Lib.hid (hM.out.put 0 rfl (m := ptL ⟨-p.x % pp, p.y % pp⟩) rfl); generalize a4.setCells g2 0 (ptL ⟨-p.x % pp, p.y % pp⟩) = a5 at *
    refine wpList_end ?_; go_wp2_with fail; refine bodyPost_ret (v := .agg (ptL ⟨-p.x % pp, p.y % pp⟩).toArray) (results_rowB Tryd.results33 rfl Tryd.underlying33 rfl (szPt _) (hM.out.get (i := 0) rfl).range) rfl ⟨rfl, hM.out.bl⟩
theorem enters_negP : Enters 33 := enters_of Tryd.func33 (by kernel_rfl) rfl
set_option maxHeartbeats 4000000 in
theorem base_any (w : World) (hG : EG w) : Calls Tryd.prog 36 #[] w fun e w' => e = .returned (.agg (ptL bs).toArray) ∧ Below w.heap.size w w' := by
  have hM := Lib.hid (Mv.nil w)
  have HG := Lib.hid hG; clear hG
  obtain ⟨b, hb⟩ : ∃ b, b = bs := ⟨_, rfl⟩
  have HR : Hid (∀ u, EG u → u.rangeAt 2 0 (ptL b)) := Lib.hid fun u hu => by rw [hb]; exact hu.B
  rw [← hb]
  clear hb
  go_enter Tryd.func36, Tryd.ntmps36
  go_upto_region 0 with fail; refine wp_region_lit ?_
  refine wpList_val (run_alc (vs := zq 8) rfl (by kernel_rfl)) rfl ?_; (try simp only [Act.put, List.setIfInBounds_toArray, List.set_cons_zero]); replace hM := Lib.hid (hM.out.new (zq 8) 33); generalize w.alloc (.cells (zq 8).toArray 33) = a1 at *; generalize w.heap.size = g1 at *
  refine wpList_end ?_
  go_upto_region 1 with fail; refine wp_region_lit ?_
  refine wpList_val (run_ldM (vs := ptL b) rfl Tryd.underlying33 rfl (szPt _) rfl (HR.out _ (HG.out.below hM.out.bl))) rfl ?_; (try simp only [Act.put, List.setIfInBounds_toArray, List.set_cons_zero, List.set_cons_succ])
  refine wpList_skip (run_stM (vs := ptL b) rfl (szPt _) rfl rfl (onePt _) ((hM.out.get (i := 0) rfl).there)) rfl rfl ?_; replace hM := Lib.hid (hM.out.put 0 rfl (m := ptL b) rfl); generalize a1.setCells g1 0 (ptL b) = a2 at *
  refine wpList_end ?_; go_wp2_with fail; refine bodyPost_ret (v := .agg (ptL b).toArray) (results_rowB Tryd.results36 rfl Tryd.underlying33 rfl (szPt _) (hM.out.get (i := 0) rfl).range) rfl ⟨rfl, hM.out.bl⟩
theorem enters_base : Enters 36 := enters_of Tryd.func36 (by kernel_rfl) rfl
end Go.Proofs.YtfdjmdfaidiliaaDoor
namespace Go.Proofs.YtfdjmdfaidiliaaDoor
open Go.RowKit
set_option maxRecDepth 20000

def zW : Wd := ⟨0, 0, 0, 0⟩
def wsL : List Wd → List Value
  | [] => []
  | W :: l => wdL W ++ wsL l
theorem wdL_len (W : Wd) : (wdL W).length = 16 := rfl
theorem wsL_len : ∀ l : List Wd, (wsL l).length = l.length * 16
  | [] => rfl
  | W :: l => by rw [wsL, List.length_append, wsL_len l, wdL_len, List.length_cons]; omega
theorem wsL_drop : ∀ (l : List Wd) (i : Nat), (wsL l).drop (i * 16) = wsL (l.drop i)
  | l, 0 => by rw [Nat.zero_mul, List.drop_zero, List.drop_zero]
  | [], i + 1 => by simp [wsL]
  | W :: l, i + 1 => by
    rw [List.drop_succ_cons, ← wsL_drop l i, wsL, show (i + 1) * 16 = 16 + i * 16 by omega, ← List.drop_drop, List.drop_left' (wdL_len W)]
theorem wsL_take : ∀ (l : List Wd) (i : Nat), (wsL l).take (i * 16) = wsL (l.take i)
  | l, 0 => by simp [wsL]
  | [], i + 1 => by simp [wsL]
  | W :: l, i + 1 => by
    rw [List.take_succ_cons, wsL, wsL, ← wsL_take l i, show (i + 1) * 16 = (wdL W).length + i * 16 by rw [wdL_len]; omega, List.take_length_add_append]
theorem wsL_append : ∀ a b : List Wd, wsL (a ++ b) = wsL a ++ wsL b
  | [], _ => rfl
  | W :: a, b => by rw [List.cons_append, wsL, wsL_append a b, wsL, List.append_assoc]
theorem wsL_one : ∀ l : List Wd, ∀ v ∈ wsL l, v.oneCell' = true
  | [], v, h => by cases h
  | W :: l, v, h => by
    rw [wsL, List.mem_append] at h
    rcases h with h | h
    · have := oneWd W
      rw [Array.all_eq_true'] at this
      exact this v (by simpa using h)
    · exact wsL_one l v h
theorem ws_get {l : List Wd} {i : Nat} (hi : i < l.length) : ((wsL l).drop (i * 16)).take 16 = wdL (l.getD i zW) := by
  rw [wsL_drop, List.drop_eq_getElem_cons hi, wsL, List.take_left' (wdL_len _)]
  simp [hi]
theorem ws_set {l : List Wd} {i : Nat} (hi : i < l.length) (W : Wd) : (wsL l).take (i * 16) ++ (wdL W ++ (wsL l).drop (i * 16 + (wdL W).length)) = wsL (l.set i W) := by
  rw [wdL_len, show i * 16 + 16 = (i + 1) * 16 by omega, wsL_drop, wsL_take, List.set_eq_take_append_cons_drop, if_pos hi, wsL_append, wsL]
theorem ws_range {g : Nat} {l : List Wd} {u : World} (h : Arr g (wsL l) u) {i : Nat} (hi : i < l.length) : u.rangeAt g (0 + i * 16) (wdL (l.getD i zW)) := by
  rw [← ws_get hi, Nat.zero_add]; exact h.part _ _
theorem ws_there {g : Nat} {l : List Wd} {u : World} (h : Arr g (wsL l) u) {i : Nat} (hi : i < l.length) (W : Wd) : u.there g (0 + i * 16) (wdL W).length := by
  rw [Nat.zero_add]; exact h.thereM (by rw [wsL_len, wdL_len]; omega)
/-- The first k are a function's, the others noughts. -/
def tblF (f : Nat → Wd) (k j : Nat) : Wd := if j < k then f j else zW
def tbl (f : Nat → Wd) (k : Nat) : List Wd := (List.range 16).map (tblF f k)
theorem tbl_len (f : Nat → Wd) (k : Nat) : (tbl f k).length = 16 := by unfold tbl; rw [List.length_map, List.length_range]
theorem tbl_get (f : Nat → Wd) {k j : Nat} (hj : j < 16) (hk : j < k) : (tbl f k).getD j zW = f j := by
  unfold tbl
  rw [List.getD_eq_getElem?_getD, List.getElem?_map, List.getElem?_range hj]
  simp [tblF, hk]
theorem tbl_q (f : Nat → Wd) (k i : Nat) : (tbl f k)[i]? = if i < 16 then some (tblF f k i) else none := by
  unfold tbl
  rw [List.getElem?_map]
  by_cases h : i < 16
  · rw [List.getElem?_range h, if_pos h]; rfl
  · rw [if_neg h, List.getElem?_eq_none (by rw [List.length_range]; omega)]; rfl
theorem tbl_set (f : Nat → Wd) (k : Nat) : (tbl f k).set k (f k) = tbl f (k + 1) := by
  apply List.ext_getElem?
  intro i
  rw [List.getElem?_set, tbl_q, tbl_q, tbl_len]
  unfold tblF
  by_cases e : k = i
  · subst e
    by_cases h : k < 16
    · simp [h]
    · simp [h]
  · rw [if_neg e]
    by_cases h : i < k
    · rw [if_pos h, if_pos (show i < k + 1 by omega)]
    · rw [if_neg h, if_neg (show ¬ i < k + 1 by omega)]
theorem tbl_one (f : Nat → Wd) : tbl f 1 = f 0 :: List.replicate 15 zW := rfl
theorem built_ws (W : Wd) : Tryd.prog.built 81 [(0, .agg (wdL W).toArray)] = some (wsL (W :: List.replicate 15 zW)).toArray := by kernel_rfl
theorem szWs {l : List Wd} (h : l.length = 16) : (Tryd.prog.info? 81).map (·.size) = some (wsL l).length := by rw [wsL_len, h]; kernel_rfl
theorem oneWs (l : List Wd) : (wsL l).toArray.all (·.oneCell') = true := all_oneCell_toArray (wsL_one l)
/-- A point none, once, twice .. -/
def mtab (W : Wd) : Nat → Wd
  | 0 => wwid nonePt
  | i + 1 => wplus (mtab W i) W
theorem none_nm : nonePt.Nm := none_ok.nm
theorem mtab_nm (W : Wd) : ∀ i, (mtab W i).Nm
  | 0 => wwid_nm none_nm
  | _ + 1 => wplus_nm _ _
theorem mtab_rep {W : Wd} {P : Pt} (hW : W.Rep P) (hP : P.On) : ∀ i, (mtab W i).Rep (pmul P i)
  | 0 => by have := rep_widen nonePt; rwa [can_id none_ok] at this
  | i + 1 => rep_plus (mtab_rep hW hP i) hW (pmul_on hP i) hP

set_option maxHeartbeats 8000000 in
theorem multiples_any (W : Wd) (w : World) (hW : W.Nm) (hG : EG w) : Calls Tryd.prog 67 #[.agg (wdL W).toArray] w fun e w' => e = .returned (.agg (wsL (tbl (mtab W) 16)).toArray) ∧ Below w.heap.size w w' := by
  have hM := Lib.hid (Mv.nil w)
  have HG := Lib.hid hG; clear hG
  obtain ⟨f, hf⟩ : ∃ f, f = mtab W := ⟨_, rfl⟩
  have F0 : Hid (f 0 = wwid nonePt) := Lib.hid (by rw [hf]; rfl)
  have FS : Hid (∀ i, wplus (f i) W = f (i + 1)) := Lib.hid (by rw [hf]; intro i; rfl)
  have FN : Hid (∀ i, (f i).Nm) := Lib.hid (by rw [hf]; exact mtab_nm W)
  rw [← hf]
  clear hf
  have HL := Lib.hid (tbl_len f)
  have HS := Lib.hid (tbl_set f)
  have HT : Hid (∀ {k j : Nat}, j < 16 → j < k → (tbl f k).getD j zW = f j) := Lib.hid (fun h1 h2 => tbl_get f h1 h2)
  have H1 : Hid (wsL (wwid nonePt :: List.replicate 15 zW) = wsL (tbl f 1)) := Lib.hid (by rw [tbl_one, F0.out])
  obtain ⟨tb, htb⟩ : ∃ tb, tb = tbl f := ⟨_, rfl⟩
  rw [← htb] at HL HS HT H1 ⊢
  clear htb
  have BW := Lib.hid (built_ws (wwid nonePt))
  rw [H1.out] at BW
  have BT := Lib.hid (szWs (HL.out 1))
  have BO := Lib.hid (oneWs (tb 1))
  go_enter Tryd.func67, Tryd.ntmps67
  go_upto_region 0 with fail; refine wp_region_lit ?_
  refine wpList_val (run_boxL (vs := wdL W) rfl rfl) rfl ?_; (try simp only [Act.put, List.setIfInBounds_toArray, List.set_cons_zero, List.set_cons_succ]); replace hM := Lib.hid (hM.out.new (wdL W) 80); generalize w.alloc (.cells (wdL W).toArray 80) = a1 at *; generalize w.heap.size = g1 at *
  refine wpList_val (run_alc (vs := zq 256) rfl (by kernel_rfl)) rfl ?_; (try simp only [Act.put, List.setIfInBounds_toArray, List.set_cons_zero, List.set_cons_succ]); replace hM := Lib.hid (hM.out.new (zq 256) 81); generalize a1.alloc (.cells (zq 256).toArray 81) = a2 at *; generalize a1.heap.size = g2 at *
  refine wpList_end ?_
  go_upto_region 1 with fail; refine wp_region_lit ?_
  refine wpList_enter (run_call0 enters_nothing rfl rfl) rfl (nothing_any _) (fun a3 hb => ?_); (try simp only [Act.put, List.setIfInBounds_toArray, List.set_cons_zero, List.set_cons_succ]); replace hM := Lib.hid (hM.out.below hb); clear hb
  refine wpList_enter (run_call1 enters_widen rfl rfl rfl) rfl (widen_any nonePt _ none_nm (HG.out.below hM.out.bl)) (fun a4 hb => ?_); (try simp only [Act.put, List.setIfInBounds_toArray, List.set_cons_zero, List.set_cons_succ]); replace hM := Lib.hid (hM.out.below hb); clear hb
  refine wpList_val (run_bld1 rfl rfl BW.out) rfl ?_; (try simp only [Act.put, List.setIfInBounds_toArray, List.set_cons_zero, List.set_cons_succ])
  refine wpList_val (run_alc (vs := zq 256) rfl (by kernel_rfl)) rfl ?_; (try simp only [Act.put, List.setIfInBounds_toArray, List.set_cons_zero, List.set_cons_succ]); replace hM := Lib.hid (hM.out.new (zq 256) 81); generalize a4.alloc (.cells (zq 256).toArray 81) = a5 at *; generalize a4.heap.size = g3 at *
  have L1 : Hid ((wsL (tb 1)).length = (zq 256).length) := Lib.hid (by rw [wsL_len, HL.out]; rfl)
  refine wpList_skip (run_stM (vs := wsL (tb 1)) rfl BT.out rfl rfl BO.out (by rw [L1.out]; exact (hM.out.get (i := 0) rfl).there)) rfl rfl ?_
  refine wpList_end ?_
  replace hM := Lib.hid (hM.out.put 0 rfl (m := wsL (tb 1)) L1.out)
  generalize a5.setCells g3 0 (wsL (tb 1)) = a6 at *
  clear BW BT BO L1
  go_wp2_with fail
  go_loopw [8] (fun s u => ∃ n : Nat, n ≤ 15 ∧ s = .int .i64 (n : Int) ∧ Mv w [(g3, wsL (tb (n + 1))), (g2, zq 256), (g1, wdL W)] u) (fun s _ => (15 - intOf s).toNat)
  case atStart => exact ⟨0, by omega, rfl, hM.out⟩
  case round =>
    obtain ⟨n, hn, rfl, hJ⟩ := hrel
    replace hM := Lib.hid hJ
    clear hJ
    by_cases hlt : n = 15
    · subst hlt
      have hk1 : ¬ (((15 : Nat) : Int) < 15) := by omega
      have BT := Lib.hid (szWs (HL.out 16))
      have BO := Lib.hid (oneWs (tb 16))
      have L1 : Hid ((wsL (tb 16)).length = (zq 256).length) := Lib.hid (by rw [wsL_len, HL.out]; rfl)
      go_upto_region 7 with fail; refine wp_region_lit ?_
      refine wpList_val (run_ldM (vs := wsL (tb 16)) rfl Tryd.underlying81 rfl BT.out rfl (hM.out.get (i := 0) rfl).range) rfl ?_; (try simp only [Act.put, List.setIfInBounds_toArray, List.set_cons_zero, List.set_cons_succ])
      refine wpList_skip (run_stM (vs := wsL (tb 16)) rfl BT.out rfl rfl BO.out (by rw [L1.out]; exact (hM.out.get (i := 1) rfl).there)) rfl rfl ?_
      replace hM := Lib.hid (hM.out.put 1 rfl (m := wsL (tb 16)) L1.out)
      refine wpList_end ?_
      go_wp2_with fail
      exact bodyPost_ret (v := .agg (wsL (tb 16)).toArray) (results_rowB Tryd.results67 rfl Tryd.underlying81 rfl BT.out (hM.out.get (i := 1) rfl).range) rfl ⟨rfl, hM.out.bl⟩
    · have hk1 : (n : Int) < 15 := by omega
      have hl := HL.out (n + 1)
      have HR : Hid (∀ V, Arr g3 (wsL (tb (n + 1))) V → V.rangeAt g3 (0 + n * 16) (wdL (f n))) := Lib.hid fun V hV => by
        have := ws_range hV (i := n) (by omega)
        rwa [HT.out (by omega) (by omega)] at this
      have HP : Hid (∀ V, Arr g3 (wsL (tb (n + 1))) V → V.there g3 (0 + (n + 1) * 16) (wdL (f (n + 1))).length) := Lib.hid fun V hV => ws_there hV (i := n + 1) (by omega) _
      go_upto_region 4 with fail; refine wp_region_lit ?_
      refine wpList_val (run_mv (v := .int _ _) rfl rfl) rfl ?_; (try simp only [Act.put, List.setIfInBounds_toArray, List.set_cons_zero, List.set_cons_succ]); refine wpList_val (run_asg (v := .int _ _) rfl rfl) rfl ?_; (try simp only [Act.put, List.setIfInBounds_toArray, List.set_cons_zero, List.set_cons_succ])
      refine wpList_end ?_
      go_upto_region 5 with fail; refine wp_region_calm 8 (by kernel_rfl) (by kernel_rfl) ?_
      refine wpCalm_step _ (fun V hV => calm_run (run_mv (v := .int _ _) rfl rfl)) ?_; (try simp only [Act.put, List.setIfInBounds_toArray, List.set_cons_zero, List.set_cons_succ])
      refine wpCalm_step _ (fun V hV => calm_run (run_addN (a := n) (b := 1) rfl rfl rfl (by omega))) ?_; (try simp only [Act.put, List.setIfInBounds_toArray, List.set_cons_zero, List.set_cons_succ])
      refine wpCalm_step _ (fun V hV => calm_run (run_mv (v := .int _ _) rfl rfl)) ?_; (try simp only [Act.put, List.setIfInBounds_toArray, List.set_cons_zero, List.set_cons_succ])
      refine wpCalm_step _ (fun V hV => calm_run (run_ixN (s := 16) (i := n) rfl Tryd.underlying81 (by kernel_rfl) rfl rfl (by omega))) ?_; (try simp only [Act.put, List.setIfInBounds_toArray, List.set_cons_zero, List.set_cons_succ])
      refine wpCalm_step _ (fun V hV => calm_run (run_ldM (vs := wdL (f n)) rfl Tryd.underlying80 rfl (szWd _) rfl (HR.out V ((hM.out.below hV).get (i := 0) rfl)))) ?_; (try simp only [Act.put, List.setIfInBounds_toArray, List.set_cons_zero, List.set_cons_succ])
      refine wpCalm_step _ (fun V hV => calm_run (run_ldM (vs := wdL W) rfl Tryd.underlying80 rfl (szWd _) rfl ((hM.out.below hV).get (i := 2) rfl).range)) ?_; (try simp only [Act.put, List.setIfInBounds_toArray, List.set_cons_zero, List.set_cons_succ])
      refine wpCalm_step _ (fun V hV => calm_enter (run_call2 enters_plus rfl rfl rfl rfl) (plus_any (f n) W V (FN.out n) hW (HG.out.below (hM.out.below hV).bl))) ?_; (try simp only [Act.put, List.setIfInBounds_toArray, List.set_cons_zero, List.set_cons_succ])
      refine wpCalm_step _ (fun V hV => calm_run (run_ixN (s := 16) (i := n + 1) rfl Tryd.underlying81 (by kernel_rfl) rfl rfl (by omega))) ?_; (try simp only [Act.put, List.setIfInBounds_toArray, List.set_cons_zero, List.set_cons_succ])
      refine wpCalm_done ?_; intro a7 hb; simp only [List.drop_succ_cons, List.drop_zero]
      replace hM := Lib.hid (hM.out.below hb)
      clear hb
      rw [FS.out n]
      refine wpList_skip (run_stM (vs := wdL (f (n + 1))) rfl (szWd _) rfl rfl (oneWd _) (HP.out _ (hM.out.get (i := 0) rfl))) rfl rfl ?_
      refine wpList_end ?_
      have hM2 : Hid (Mv w [(g3, wsL (tb (n + 1 + 1))), (g2, zq 256), (g1, wdL W)] (a7.setCells g3 (0 + (n + 1) * 16) (wdL (f (n + 1))))) := Lib.hid (by
        have h := hM.out.mid 0 rfl (f := 0 + (n + 1) * 16) (m := wdL (f (n + 1))) (by rw [wsL_len, hl, wdL_len]; omega)
        have e := ws_set (l := tb (n + 1)) (i := n + 1) (by omega) (f (n + 1))
        rw [HS.out] at e
        rw [Nat.zero_add] at h ⊢
        rw [e] at h
        exact h)
      generalize a7.setCells g3 (0 + (n + 1) * 16) (wdL (f (n + 1))) = a8 at *
      clear hM
      go_wp2_with fail
      exact ⟨⟨n + 1, by omega, by go_num, hM2.out⟩, by simp [intOf]; omega⟩
theorem enters_multiples : Enters 67 := enters_of Tryd.func67 (by kernel_rfl) rfl
end Go.Proofs.YtfdjmdfaidiliaaDoor
namespace Go.Proofs.YtfdjmdfaidiliaaDoor
open Go.RowKit
set_option maxRecDepth 20000

/-- A half of a byte, the greatest ones first. -/
def dig (l : List (BitVec 8)) (i : Nat) : BitVec 8 := (l.getD (31 - i / 2) 0 >>> (4 - i % 2 * 4)) &&& 15
def topN (l : List (BitVec 8)) : Nat → Nat
  | 0 => 0
  | i + 1 => 16 * topN l i + (dig l i).toNat
theorem nib_hi : ∀ b : BitVec 8, ((b >>> 4) &&& 15).toNat = b.toNat / 16 := by decide +kernel
theorem nib_lo : ∀ b : BitVec 8, ((b >>> 0) &&& 15).toNat = b.toNat % 16 := by decide +kernel
theorem nib_lt : ∀ b : BitVec 8, (b &&& 15).toNat < 16 := by decide +kernel
theorem topN_even {l : List (BitVec 8)} (hl : l.length = 32) : ∀ k, k ≤ 32 → topN l (2 * k) = leB (l.drop (32 - k))
  | 0, _ => by rw [Nat.sub_zero, List.drop_of_length_le (by omega)]; rfl
  | k + 1, h => by
    have ih := topN_even hl k (by omega)
    have e : l.drop (32 - (k + 1)) = l.getD (31 - k) 0 :: l.drop (32 - k) := by
      rw [show 32 - (k + 1) = 31 - k by omega, List.drop_eq_getElem_cons (by omega), show 31 - k + 1 = 32 - k by omega]
      simp [show 31 - k < l.length by omega]
    have d0 : (dig l (2 * k)).toNat = (l.getD (31 - k) 0).toNat / 16 := by
      unfold dig
      rw [show 2 * k / 2 = k by omega, show 2 * k % 2 = 0 by omega]
      exact nib_hi _
    have d1 : (dig l (2 * k + 1)).toNat = (l.getD (31 - k) 0).toNat % 16 := by
      unfold dig
      rw [show (2 * k + 1) / 2 = k by omega, show (2 * k + 1) % 2 = 1 by omega]
      exact nib_lo _
    rw [show 2 * (k + 1) = 2 * k + 1 + 1 by omega, topN, topN, ih, e, leB, d0, d1]
    omega
theorem topN_all {l : List (BitVec 8)} (hl : l.length = 32) : topN l 64 = leB l := by
  have := topN_even hl 32 (Nat.le_refl _)
  simpa using this
section
variable {w : World} {ρ : Operand → Value} {o : Oper} {t t' : TypeId} {x y : Operand}
theorem run_shr8k {k : IntKind} {a : BitVec 8} {n : Nat} (ho : o.op = .binOp .shr t x y t') (hx : ρ x = b8 a) (hy : ρ y = .int k (n : Int)) (hn : n ≤ 8) : (execOp ρ o).run Tryd.prog w = .ok (.value (b8 (a >>> n))) w := by
  obtain ⟨dst, op, type, pos, after, guard⟩ := o
  subst ho
  unfold b8 at *
  have e : (a.toNat : Int) / 2 ^ n = (((a >>> n).toNat : Nat) : Int) := by
    rw [BitVec.toNat_ushiftRight, Nat.shiftRight_eq_div_pow]; simp
  generalize (a >>> n).toNat = z at *
  have hn0 : (0 : Int) ≤ (n : Int) := by omega
  go_simp
  try exact e
end
theorem mul_end {p : Pt} (h : onB p = true) {l : List (BitVec 8)} (hl : l.length = 32) {W : Wd} (hW : W.Rep (pmul p.can (topN l 64))) : wnar W = mulP (leB l) p := by
  rw [topN_all hl] at hW
  unfold mulP
  rw [h, if_pos rfl]
  exact wnar_eq hW (pmul_ok _ _)

set_option maxHeartbeats 16000000 in
theorem mulP_any (l : List (BitVec 8)) (p : Pt) (w : World) (hl : l.length = 32) (hp : p.Nm) (hG : EG w) : Calls Tryd.prog 35 #[.agg (l.map b8).toArray, .agg (ptL p).toArray] w fun e w' => e = .returned (.agg (ptL (mulP (leB l) p)).toArray) ∧ Below w.heap.size w w' := by
  have hM := Lib.hid (Mv.nil w)
  have HG := Lib.hid hG; clear hG
  have H1 : Hid (onB p = false → mulP (leB l) p = nonePt) := Lib.hid fun h => by unfold mulP; rw [h]; rfl
  have H2 : Hid (onB p = true → ∀ W : Wd, W.Rep (pmul p.can (topN l 64)) → wnar W = mulP (leB l) p) := Lib.hid fun h W hW => mul_end h hl hW
  generalize mulP (leB l) p = R at *
  obtain ⟨b1, hb1⟩ : ∃ b, b = onB p := ⟨_, rfl⟩
  have C1 : Hid (∀ u, EG u → Calls Tryd.prog 63 #[.agg (ptL p).toArray] u fun e w' => e = .returned (.bool b1) ∧ Below u.heap.size u w') := Lib.hid fun u hu => by rw [hb1]; exact on_any p u hp hu
  have HO : Hid (b1 = true → p.can.On) := Lib.hid fun h => can_on ((onB_iff p).1 (by rw [← hb1, h]))
  rw [← hb1] at H1 H2
  clear hb1
  go_enter Tryd.func35, Tryd.ntmps35
  go_upto_region 0 with fail; refine wp_region_lit ?_
  refine wpList_val (run_boxL (vs := l.map b8) rfl rfl) rfl ?_; (try simp only [Act.put, List.setIfInBounds_toArray, List.set_cons_zero, List.set_cons_succ]); replace hM := Lib.hid (hM.out.new (l.map b8) 23); generalize w.alloc (.cells (l.map b8).toArray 23) = a1 at *; generalize w.heap.size = g1 at *
  refine wpList_val (run_boxL (vs := ptL p) rfl rfl) rfl ?_; (try simp only [Act.put, List.setIfInBounds_toArray, List.set_cons_zero, List.set_cons_succ]); replace hM := Lib.hid (hM.out.new (ptL p) 33); generalize a1.alloc (.cells (ptL p).toArray 33) = a2 at *; generalize a1.heap.size = g2 at *
  refine wpList_val (run_alc (vs := zq 8) rfl (by kernel_rfl)) rfl ?_; (try simp only [Act.put, List.setIfInBounds_toArray, List.set_cons_zero, List.set_cons_succ]); replace hM := Lib.hid (hM.out.new (zq 8) 33); generalize a2.alloc (.cells (zq 8).toArray 33) = a3 at *; generalize a2.heap.size = g3 at *
  refine wpList_end ?_
  go_upto_region 1 with fail; refine wp_region_lit ?_
  refine wpList_val (run_ldM (vs := ptL p) rfl Tryd.underlying33 rfl (szPt _) rfl ((hM.out.get (i := 1) rfl).range)) rfl ?_; (try simp only [Act.put, List.setIfInBounds_toArray, List.set_cons_zero, List.set_cons_succ])
  refine wpList_enter (run_call1 enters_on rfl rfl rfl) rfl (C1.out _ (HG.out.below hM.out.bl)) (fun a4 hb => ?_); (try simp only [Act.put, List.setIfInBounds_toArray, List.set_cons_zero, List.set_cons_succ]); replace hM := Lib.hid (hM.out.below hb); clear hb
  cases b1
  · have e := H1.out rfl
    subst e
    refine wpList_val (run_notB rfl rfl) rfl ?_; (try simp only [Act.put, List.setIfInBounds_toArray, List.set_cons_zero, List.set_cons_succ])
    refine wpList_end ?_
    go_upto_region 2 with fail; refine wp_region_lit ?_
    refine wpList_enter (run_call0 enters_nothing rfl rfl) rfl (nothing_any _) (fun a5 hb => ?_); (try simp only [Act.put, List.setIfInBounds_toArray, List.set_cons_zero, List.set_cons_succ]); replace hM := Lib.hid (hM.out.below hb); clear hb
    refine wpList_skip (run_stM (vs := ptL nonePt) rfl (szPt _) rfl rfl (onePt _) ((hM.out.get (i := 0) rfl).there)) rfl rfl ?_; replace hM := Lib.hid (hM.out.put 0 rfl (m := ptL nonePt) rfl); generalize a5.setCells g3 0 (ptL nonePt) = a6 at *
    refine wpList_end ?_; go_wp2_with fail; refine bodyPost_ret (v := .agg (ptL nonePt).toArray) (results_rowB Tryd.results35 rfl Tryd.underlying33 rfl (szPt _) (hM.out.get (i := 0) rfl).range) rfl ⟨rfl, hM.out.bl⟩
  · refine wpList_val (run_notB rfl rfl) rfl ?_; (try simp only [Act.put, List.setIfInBounds_toArray, List.set_cons_zero, List.set_cons_succ])
    refine wpList_end ?_
    have hO := HO.out rfl
    replace H2 := Lib.hid (H2.out rfl)
    have hwn := wwid_nm hp
    obtain ⟨f, hf⟩ : ∃ f, f = mtab (wwid p) := ⟨_, rfl⟩
    have FN : Hid (∀ i, (f i).Nm) := Lib.hid (by rw [hf]; exact mtab_nm _)
    have FR : Hid (∀ i, (f i).Rep (pmul p.can i)) := Lib.hid (by rw [hf]; exact mtab_rep (rep_widen p) hO)
    obtain ⟨tb, htb⟩ : ∃ tb, tb = tbl f 16 := ⟨_, rfl⟩
    have TL : Hid (tb.length = 16) := Lib.hid (by rw [htb, tbl_len])
    have TG : Hid (∀ {j : Nat}, j < 16 → tb.getD j zW = f j) := Lib.hid (by rw [htb]; exact fun h => tbl_get f h h)
    have CM : Hid (∀ u, EG u → Calls Tryd.prog 67 #[.agg (wdL (wwid p)).toArray] u fun e w' => e = .returned (.agg (wsL tb).toArray) ∧ Below u.heap.size u w') := Lib.hid fun u hu => by rw [htb, hf]; exact multiples_any _ u hwn hu
    clear htb hf
    obtain ⟨P, hP⟩ : ∃ P : Nat → Pt, P = fun i => pmul p.can i := ⟨_, rfl⟩
    have PO : Hid (∀ i, (P i).On) := Lib.hid (by rw [hP]; exact pmul_on hO)
    have PA : Hid (∀ m n, padd (P m) (P n) = P (m + n)) := Lib.hid (by rw [hP]; exact fun m n => (pmul_add hO m n).symm)
    have FP : Hid (∀ i, (f i).Rep (P i)) := Lib.hid (by rw [hP]; exact FR.out)
    have HE : Hid (∀ W : Wd, W.Rep (P (topN l 64)) → wnar W = R) := Lib.hid (by rw [hP]; exact H2.out)
    clear hP FR H2 H1 HO C1
    have BT := Lib.hid (szWs TL.out)
    have BO := Lib.hid (oneWs tb)
    go_upto_region 3 with fail; refine wp_region_lit ?_
    refine wpList_val (run_ldM (vs := ptL p) rfl Tryd.underlying33 rfl (szPt _) rfl ((hM.out.get (i := 1) rfl).range)) rfl ?_; (try simp only [Act.put, List.setIfInBounds_toArray, List.set_cons_zero, List.set_cons_succ])
    refine wpList_enter (run_call1 enters_widen rfl rfl rfl) rfl (widen_any p _ hp (HG.out.below hM.out.bl)) (fun a5 hb => ?_); (try simp only [Act.put, List.setIfInBounds_toArray, List.set_cons_zero, List.set_cons_succ]); replace hM := Lib.hid (hM.out.below hb); clear hb
    refine wpList_enter (run_call1 enters_multiples rfl rfl rfl) rfl (CM.out _ (HG.out.below hM.out.bl)) (fun a6 hb => ?_); (try simp only [Act.put, List.setIfInBounds_toArray, List.set_cons_zero, List.set_cons_succ]); replace hM := Lib.hid (hM.out.below hb); clear hb
    refine wpList_val (run_alc (vs := zq 256) rfl (by kernel_rfl)) rfl ?_; (try simp only [Act.put, List.setIfInBounds_toArray, List.set_cons_zero, List.set_cons_succ]); replace hM := Lib.hid (hM.out.new (zq 256) 81); generalize a6.alloc (.cells (zq 256).toArray 81) = a7 at *; generalize a6.heap.size = g4 at *
    have L1 : Hid ((wsL tb).length = (zq 256).length) := Lib.hid (by rw [wsL_len, TL.out]; rfl)
    refine wpList_skip (run_stM (vs := wsL tb) rfl BT.out rfl rfl BO.out (by rw [L1.out]; exact (hM.out.get (i := 0) rfl).there)) rfl rfl ?_
    refine wpList_end ?_
    replace hM := Lib.hid (hM.out.put 0 rfl (m := wsL tb) L1.out)
    generalize a7.setCells g4 0 (wsL tb) = a8 at *
    clear BT BO L1 CM
    have R0 : Hid (∀ V, Arr g4 (wsL tb) V → ∀ {j : Nat}, j < 16 → V.rangeAt g4 (0 + j * 16) (wdL (f j))) := Lib.hid fun V hV j hj => by
      have := ws_range hV (i := j) (by rw [TL.out]; exact hj)
      rwa [TG.out hj] at this
    go_upto_region 4 with fail; refine wp_region_lit ?_
    refine wpList_val (run_ixN (s := 16) (i := 0) rfl Tryd.underlying81 (by kernel_rfl) rfl rfl (by omega)) rfl ?_; (try simp only [Act.put, List.setIfInBounds_toArray, List.set_cons_zero, List.set_cons_succ])
    refine wpList_val (run_ldM (vs := wdL (f 0)) rfl Tryd.underlying80 rfl (szWd _) rfl (R0.out _ (hM.out.get (i := 0) rfl) (by omega))) rfl ?_; (try simp only [Act.put, List.setIfInBounds_toArray, List.set_cons_zero, List.set_cons_succ])
    refine wpList_val (run_alc (vs := zq 16) rfl (by kernel_rfl)) rfl ?_; (try simp only [Act.put, List.setIfInBounds_toArray, List.set_cons_zero, List.set_cons_succ]); replace hM := Lib.hid (hM.out.new (zq 16) 80); generalize a8.alloc (.cells (zq 16).toArray 80) = a9 at *; generalize a8.heap.size = g5 at *
    refine wpList_skip (run_stM (vs := wdL (f 0)) rfl (szWd _) rfl rfl (oneWd _) ((hM.out.get (i := 0) rfl).there)) rfl rfl ?_; replace hM := Lib.hid (hM.out.put 0 rfl (m := wdL (f 0)) rfl); generalize a9.setCells g5 0 (wdL (f 0)) = a10 at *
    refine wpList_end ?_
    go_wp2_with fail
    go_loopw [18] (fun s u => ∃ (n : Nat) (W : Wd), n ≤ 64 ∧ s = .int .i64 (n : Int) ∧ W.Nm ∧ W.Rep (P (topN l n)) ∧ Mv w [(g5, wdL W), (g4, wsL tb), (g3, zq 8), (g2, ptL p), (g1, l.map b8)] u) (fun s _ => (64 - intOf s).toNat)
    case atStart => exact ⟨0, f 0, by omega, rfl, FN.out 0, FP.out 0, hM.out⟩
    case round =>
      obtain ⟨n, W, hn, rfl, hWn, hWr, hJ⟩ := hrel
      replace hM := Lib.hid hJ
      have HR := Lib.hid hWr
      clear hJ hWr
      by_cases hlt : n = 64
      · subst hlt
        have hk1 : ¬ (((64 : Nat) : Int) < 64) := by omega
        have hw := HE.out W HR.out
        go_upto_region 15 with fail; refine wp_region_lit ?_
        refine wpList_val (run_ldM (vs := wdL W) rfl Tryd.underlying80 rfl (szWd _) rfl ((hM.out.get (i := 0) rfl).range)) rfl ?_; (try simp only [Act.put, List.setIfInBounds_toArray, List.set_cons_zero, List.set_cons_succ])
        refine wpList_enter (run_call1 enters_nrw rfl rfl rfl) rfl (nrw_any W _ hWn (HG.out.below hM.out.bl)) (fun b1 hb => ?_); (try simp only [Act.put, List.setIfInBounds_toArray, List.set_cons_zero, List.set_cons_succ]); replace hM := Lib.hid (hM.out.below hb); clear hb
        rw [hw]
        refine wpList_skip (run_stM (vs := ptL R) rfl (szPt _) rfl rfl (onePt _) ((hM.out.get (i := 2) rfl).there)) rfl rfl ?_; replace hM := Lib.hid (hM.out.put 2 rfl (m := ptL R) rfl); generalize b1.setCells g3 0 (ptL R) = b2 at *
        refine wpList_end ?_; go_wp2_with fail; refine bodyPost_ret (v := .agg (ptL R).toArray) (results_rowB Tryd.results35 rfl Tryd.underlying33 rfl (szPt _) (hM.out.get (i := 2) rfl).range) rfl ⟨rfl, hM.out.bl⟩
      · have hk1 : (n : Int) < 64 := by omega
        go_upto_region 7 with fail; refine wp_region_lit ?_
        refine wpList_val (run_mv (v := .int _ _) rfl rfl) rfl ?_; (try simp only [Act.put, List.setIfInBounds_toArray, List.set_cons_zero, List.set_cons_succ]); refine wpList_val (run_asg (v := .int _ _) rfl rfl) rfl ?_; (try simp only [Act.put, List.setIfInBounds_toArray, List.set_cons_zero, List.set_cons_succ])
        refine wpList_end ?_
        generalize hk : topN l n = k at *
        have HK := Lib.hid hk; clear hk
        go_wp2_with fail
        go_loopw [21] (fun s u => ∃ (m : Nat) (Yw : Wd), m ≤ 4 ∧ s = .int .i64 (m : Int) ∧ Yw.Nm ∧ Yw.Rep (P (2 ^ m * k)) ∧ Mv w [(g5, wdL Yw), (g4, wsL tb), (g3, zq 8), (g2, ptL p), (g1, l.map b8)] u) (fun s _ => (4 - intOf s).toNat)
        case atStart => exact ⟨0, W, by omega, rfl, hWn, by rw [Nat.pow_zero, Nat.one_mul]; exact HR.out, hM.out⟩
        case round =>
          obtain ⟨m, Yw, hm, rfl, hVn, hVr, hJ⟩ := hrel
          replace hM := Lib.hid hJ
          have HV := Lib.hid hVr
          clear hJ hVr
          by_cases hlm : m = 4
          · subst hlm
            have hk2 : ¬ (((4 : Nat) : Int) < 4) := by omega
            have hx31 : 31 - n / 2 < l.length := by rw [hl]; omega
            have hd := nib_lt (l.getD (31 - n / 2) 0 >>> (4 - n % 2 * 4))
            have HD : Hid (dig l n = (l.getD (31 - n / 2) 0 >>> (4 - n % 2 * 4)) &&& 15) := Lib.hid rfl
            go_upto_region 12 with fail; refine wp_region_lit ?_
            refine wpList_val (run_mv (v := .int _ _) rfl rfl) rfl ?_; (try simp only [Act.put, List.setIfInBounds_toArray, List.set_cons_zero, List.set_cons_succ])
            refine wpList_val (run_quoN (b := 2) rfl rfl rfl (by omega) (by omega)) rfl ?_; (try simp only [Act.put, List.setIfInBounds_toArray, List.set_cons_zero, List.set_cons_succ])
            refine wpList_val (run_subN (a := 31) rfl rfl rfl (by omega) (by omega)) rfl ?_; (try simp only [Act.put, List.setIfInBounds_toArray, List.set_cons_zero, List.set_cons_succ])
            refine wpList_val (run_ix0 rfl Tryd.underlying23 (by kernel_rfl) rfl rfl (by omega)) rfl ?_; (try simp only [Act.put, List.setIfInBounds_toArray, List.set_cons_zero, List.set_cons_succ])
            refine wpList_val (run_ld8 rfl rfl ((hM.out.get (i := 4) rfl).c _ _ (get_map b8 0 hx31))) rfl ?_; (try simp only [Act.put, List.setIfInBounds_toArray, List.set_cons_zero, List.set_cons_succ])
            refine wpList_val (run_mv (v := .int _ _) rfl rfl) rfl ?_; (try simp only [Act.put, List.setIfInBounds_toArray, List.set_cons_zero, List.set_cons_succ])
            refine wpList_val (run_remN (b := 2) rfl rfl rfl (by omega)) rfl ?_; (try simp only [Act.put, List.setIfInBounds_toArray, List.set_cons_zero, List.set_cons_succ])
            refine wpList_val (run_mulN (b := 4) rfl rfl rfl (by omega)) rfl ?_; (try simp only [Act.put, List.setIfInBounds_toArray, List.set_cons_zero, List.set_cons_succ])
            refine wpList_val (run_subN (a := 4) rfl rfl rfl (by omega) (by omega)) rfl ?_; (try simp only [Act.put, List.setIfInBounds_toArray, List.set_cons_zero, List.set_cons_succ])
            refine wpList_val (run_shr8k rfl rfl rfl (by omega)) rfl ?_; (try simp only [Act.put, List.setIfInBounds_toArray, List.set_cons_zero, List.set_cons_succ])
            refine wpList_val (run_and8 (b := 15) rfl rfl rfl) rfl ?_; (try simp only [Act.put, List.setIfInBounds_toArray, List.set_cons_zero, List.set_cons_succ])
            rw [← HD.out] at hd ⊢
            clear HD
            refine wpList_val (run_asg (v := b8 _) rfl rfl) rfl ?_; (try simp only [Act.put, List.setIfInBounds_toArray, List.set_cons_zero, List.set_cons_succ])
            refine wpList_end ?_
            have HN : Hid (topN l (n + 1) = 16 * k + (dig l n).toNat) := Lib.hid (by rw [topN, HK.out])
            generalize dig l n = d at *
            go_upto_region 13 with fail; refine wp_region_calm 5 (by kernel_rfl) (by kernel_rfl) ?_
            refine wpCalm_step _ (fun V hV => calm_run (run_ldM (vs := wdL Yw) rfl Tryd.underlying80 rfl (szWd _) rfl ((hM.out.below hV).get (i := 0) rfl).range)) ?_; (try simp only [Act.put, List.setIfInBounds_toArray, List.set_cons_zero, List.set_cons_succ])
            refine wpCalm_step _ (fun V hV => calm_run (run_mv (v := b8 d) rfl rfl)) ?_; (try simp only [Act.put, List.setIfInBounds_toArray, List.set_cons_zero, List.set_cons_succ])
            refine wpCalm_step _ (fun V hV => calm_run (run_ixN (s := 16) (i := d.toNat) rfl Tryd.underlying81 (by kernel_rfl) rfl rfl hd)) ?_; (try simp only [Act.put, List.setIfInBounds_toArray, List.set_cons_zero, List.set_cons_succ])
            refine wpCalm_step _ (fun V hV => calm_run (run_ldM (vs := wdL (f d.toNat)) rfl Tryd.underlying80 rfl (szWd _) rfl (R0.out _ ((hM.out.below hV).get (i := 1) rfl) hd))) ?_; (try simp only [Act.put, List.setIfInBounds_toArray, List.set_cons_zero, List.set_cons_succ])
            refine wpCalm_step _ (fun V hV => calm_enter (run_call2 enters_plus rfl rfl rfl rfl) (plus_any Yw (f d.toNat) _ hVn (FN.out _) (HG.out.below (hM.out.below hV).bl))) ?_; (try simp only [Act.put, List.setIfInBounds_toArray, List.set_cons_zero, List.set_cons_succ])
            refine wpCalm_done ?_; intro b3 hb; simp only [List.drop_succ_cons, List.drop_zero]
            replace hM := Lib.hid (hM.out.below hb)
            clear hb
            have hrep : Hid ((wplus Yw (f d.toNat)).Rep (P (topN l (n + 1)))) := Lib.hid (by
              have := rep_plus HV.out (FP.out d.toNat) (PO.out _) (PO.out _)
              rw [PA.out] at this
              rw [HN.out]
              exact this)
            have hnm := wplus_nm Yw (f d.toNat)
            generalize wplus Yw (f d.toNat) = Z at *
            refine wpList_skip (run_stM (vs := wdL Z) rfl (szWd _) rfl rfl (oneWd _) ((hM.out.get (i := 0) rfl).there)) rfl rfl ?_; replace hM := Lib.hid (hM.out.put 0 rfl (m := wdL Z) rfl); generalize b3.setCells g5 0 (wdL Z) = b4 at *
            refine wpList_end ?_
            go_wp2_with fail
            exact ⟨⟨n + 1, Z, by omega, by go_num, hnm, hrep.out, hM.out⟩, by simp [intOf]; omega⟩
          · have hk2 : (m : Int) < 4 := by omega
            go_upto_region 10 with fail; refine wp_region_lit ?_
            refine wpList_val (run_ldM (vs := wdL Yw) rfl Tryd.underlying80 rfl (szWd _) rfl ((hM.out.get (i := 0) rfl).range)) rfl ?_; (try simp only [Act.put, List.setIfInBounds_toArray, List.set_cons_zero, List.set_cons_succ])
            refine wpList_val (run_ldM (vs := wdL Yw) rfl Tryd.underlying80 rfl (szWd _) rfl ((hM.out.get (i := 0) rfl).range)) rfl ?_; (try simp only [Act.put, List.setIfInBounds_toArray, List.set_cons_zero, List.set_cons_succ])
            refine wpList_enter (run_call2 enters_plus rfl rfl rfl rfl) rfl (plus_any Yw Yw _ hVn hVn (HG.out.below hM.out.bl)) (fun b3 hb => ?_); (try simp only [Act.put, List.setIfInBounds_toArray, List.set_cons_zero, List.set_cons_succ]); replace hM := Lib.hid (hM.out.below hb); clear hb
            have hrep : Hid ((wplus Yw Yw).Rep (P (2 ^ (m + 1) * k))) := Lib.hid (by
              have := rep_plus HV.out HV.out (PO.out _) (PO.out _)
              rw [PA.out] at this
              rw [Nat.pow_succ, show 2 ^ m * 2 * k = 2 ^ m * k + 2 ^ m * k by rw [Nat.mul_right_comm]; omega]
              exact this)
            have hnm := wplus_nm Yw Yw
            generalize wplus Yw Yw = Z at *
            refine wpList_skip (run_stM (vs := wdL Z) rfl (szWd _) rfl rfl (oneWd _) ((hM.out.get (i := 0) rfl).there)) rfl rfl ?_; replace hM := Lib.hid (hM.out.put 0 rfl (m := wdL Z) rfl); generalize b3.setCells g5 0 (wdL Z) = b4 at *
            refine wpList_end ?_
            go_wp2_with fail
            exact ⟨⟨m + 1, Z, by omega, by go_num, hnm, hrep.out, hM.out⟩, by simp [intOf]; omega⟩
theorem enters_mulP : Enters 35 := enters_of Tryd.func35 (by kernel_rfl) rfl
end Go.Proofs.YtfdjmdfaidiliaaDoor
namespace Go.Proofs.YtfdjmdfaidiliaaDoor
open Go.RowKit
set_option maxRecDepth 20000

theorem eq4D (d : Nat) (a0 a1 a2 a3 b0 b1 b2 b3 : Int) (w : World) : (Op.equalIn (d + 2) 31 (.agg #[.int .u64 a0, .int .u64 a1, .int .u64 a2, .int .u64 a3]) (.agg #[.int .u64 b0, .int .u64 b1, .int .u64 b2, .int .u64 b3])).run Tryd.prog w = .ok (a0 == b0 && a1 == b1 && a2 == b2 && a3 == b3) w := by
  have hu := Tryd.underlying29
  have ha := Tryd.isAgg29
  have hz := Tryd.sizeOf29
  rw [show d + 2 = (d + 1) + 1 from rfl, Op.equalIn]
  simp only [Sem.run_bind, run_underlying Tryd.underlying31, Result.andThen_ok]
  simp only [Std.Legacy.Range.forIn_eq_forIn_range', Std.Legacy.Range.size, Nat.sub_zero, Nat.add_sub_cancel, Nat.div_one, List.range'_succ, List.range'_zero, List.forIn_cons, List.forIn_nil]
  go_simp
  by_cases h1 : a0 = b0 <;> by_cases h2 : a1 = b1 <;> by_cases h3 : a2 = b2 <;> by_cases h4 : a3 = b3 <;> simp [h1, h2, h3, h4]
theorem eqFeD (d : Nat) {M Z : Int} (hM : Num M) (hZ : Num Z) (w : World) : (Op.equalIn (d + 2) 31 (.agg (feL M).toArray) (.agg (feL Z).toArray)).run Tryd.prog w = .ok (decide (M = Z)) w := by
  rw [eq4D]
  congr 1
  by_cases h : M = Z
  · subst h; simp
  · have hn : ¬ (w0 M = w0 Z ∧ w1 M = w1 Z ∧ w2 M = w2 Z ∧ w3 M = w3 Z) := fun ⟨h0, h1, h2, h3⟩ => h (feV_inj hM hZ h0 h1 h2 h3)
    rw [decide_eq_false h, Bool.eq_false_iff]
    intro ht
    simp only [Bool.and_eq_true, beq_iff_eq] at ht
    exact hn ⟨ht.1.1.1, ht.1.1.2, ht.1.2, ht.2⟩
theorem ext_x (p : Pt) : (ptL p).toArray.extract 0 4 = (feL p.x).toArray := by kernel_rfl
theorem ext_y (p : Pt) : (ptL p).toArray.extract 4 8 = (feL p.y).toArray := by kernel_rfl
theorem pt_dec (p q : Pt) : decide (p = q) = (decide (p.x = q.x) && decide (p.y = q.y)) := by
  rw [Bool.eq_iff_iff]
  simp only [decide_eq_true_eq, Bool.and_eq_true]
  constructor
  · rintro rfl; exact ⟨rfl, rfl⟩
  · rintro ⟨h3, h4⟩
    cases p; cases q
    simp only at h3 h4
    rw [h3, h4]
theorem run_eqPt {p q : Pt} {c : Bool} (hp : p.Nm) (hq : q.Nm) {w : World} {ρ : Operand → Value} {o : Oper} {x y : Operand} {t : TypeId} (ho : o.op = .binOp .eql 33 x y t) (hx : ρ x = .agg (ptL p).toArray) (hy : ρ y = .agg (ptL q).toArray) (hc : decide (p = q) = c) : (execOp ρ o).run Tryd.prog w = .ok (.value (.bool c)) w := by
  obtain ⟨dst, op, type, pos, after, guard⟩ := o
  subst ho
  have h1 : ∀ w, (Op.equalIn 9999 31 (.agg (feL p.x).toArray) (.agg (feL q.x).toArray)).run Tryd.prog w = .ok (decide (p.x = q.x)) w := eqFeD 9997 hp.1 hq.1
  have h2 : ∀ w, (Op.equalIn 9999 31 (.agg (feL p.y).toArray) (.agg (feL q.y).toArray)).run Tryd.prog w = .ok (decide (p.y = q.y)) w := eqFeD 9997 hp.2 hq.2
  rw [pt_dec] at hc
  have p1 := ext_x p
  have p2 := ext_y p
  have q1 := ext_x q
  have q2 := ext_y q
  generalize (ptL p).toArray = vp at *
  generalize (ptL q).toArray = vq at *
  generalize (feL p.x).toArray = v1 at *
  generalize (feL p.y).toArray = v2 at *
  generalize (feL q.x).toArray = v3 at *
  generalize (feL q.y).toArray = v4 at *
  generalize decide (p.x = q.x) = c1 at *
  generalize decide (p.y = q.y) = c2 at *
  subst hc
  cases c1 <;> cases c2 <;> go_simp
end Go.Proofs.YtfdjmdfaidiliaaDoor
