import Derived.Test.YtfdjmdfaidiliaaGreatDoorLy
import Derived.Test.YtfdjmdfaidiliaaGreatDoorEdOps
namespace Go.Proofs.YtfdjmdfaidiliaaGreatDoor
open Go.RowKit
set_option maxRecDepth 20000
set_option maxHeartbeats 4000000 in
theorem sqr_any (X : Int) (w : World) (hX : Num X) (hG : EG w) : Calls Tryz.prog 77 #[feV X] w fun e w' => e = .returned (feV (X * X % pp)) ∧ Below w.heap.size w w' := by
  have hM := Lib.hid (Mv.nil w)
  have HG := Lib.hid hG; clear hG
  go_enter Tryz.func77, Tryz.ntmps77
  go_upto_region 0 with fail; refine wp_region_lit ?_
  refine qaa (qbf (vs := feL X) rfl rfl) rfl ?_; (try simp only [Act.put, lyy]); replace hM := Lib.hid (hM.out.new (feL X) 47); generalize w.alloc (.cells (feL X).toArray 47) = a1 at *; generalize w.heap.size = g1 at *
  refine qaa (qar (vs := zq 4) rfl (by kernel_rfl)) rfl ?_; (try simp only [Act.put, lyy]); replace hM := Lib.hid (hM.out.new (zq 4) 47); generalize a1.alloc (.cells (zq 4).toArray 47) = a2 at *; generalize a1.heap.size = g2 at *
  refine qac ?_
  go_upto_region 1 with fail; refine wp_region_lit ?_
  refine qaa (qah (vs := feL X) rfl Tryz.underlying47 rfl (szFe X) rfl ((hM.out.get (i := 1) rfl).range)) rfl ?_; (try simp only [Act.put, lyy])
  refine qaa (qah (vs := feL X) rfl Tryz.underlying47 rfl (szFe X) rfl ((hM.out.get (i := 1) rfl).range)) rfl ?_; (try simp only [Act.put, lyy])
  refine qai (qam qbl rfl rfl rfl rfl) rfl (qbm X X _ hX hX (HG.out.below hM.out.bl).O) (fun a3 hb => ?_); (try simp only [Act.put, lyy]); replace hM := Lib.hid (hM.out.below hb); clear hb
  refine qae (qaq (vs := feL (X * X % pp)) rfl (szFe _) rfl rfl (oneFe _) ((hM.out.get (i := 0) rfl).there)) rfl rfl ?_; replace hM := Lib.hid (hM.out.put 0 rfl (m := feL (X * X % pp)) rfl); generalize a3.setCells g2 0 (feL (X * X % pp)) = a4 at *
  refine qac ?_; go_wp2_with fail; refine bodyPost_ret (v := .agg (feL (X * X % pp)).toArray) (qat Tryz.results77 rfl Tryz.underlying47 rfl (szFe _) (hM.out.get (i := 0) rfl).range) rfl ⟨rfl, hM.out.bl⟩
theorem enters_sqr : Enters 77 := qao Tryz.func77 (by kernel_rfl) rfl
set_option maxHeartbeats 4000000 in
theorem nothing_any (w : World) : Calls Tryz.prog 53 #[] w fun e w' => e = .returned (.agg (ptL nonePt).toArray) ∧ Below w.heap.size w w' := by
  have hM := Lib.hid (Mv.nil w)
  go_enter Tryz.func53, Tryz.ntmps53
  go_upto_region 0 with fail; refine wp_region_lit ?_
  refine qaa (qar (vs := zq 8) rfl (by kernel_rfl)) rfl ?_; (try simp only [Act.put, List.setIfInBounds_toArray, List.set_cons_zero]); replace hM := Lib.hid (hM.out.new (zq 8) 49); generalize w.alloc (.cells (zq 8).toArray 49) = a1 at *; generalize w.heap.size = g1 at *
  refine qac ?_
  go_upto_region 1 with fail; refine wp_region_lit ?_
  refine qai (qaj enters_small rfl rfl rfl) rfl (small_any 1 _ (by omega) (by omega)) (fun a2 hb => ?_); (try simp only [Act.put, lyy]); replace hM := Lib.hid (hM.out.below hb); clear hb
  refine qaa (run_bld1 rfl rfl (built_pt1 1)) rfl ?_; (try simp only [Act.put, lyy])
  refine qae (qaq (vs := ptL nonePt) rfl (szPt _) rfl rfl (onePt _) ((hM.out.get (i := 0) rfl).there)) rfl rfl ?_; replace hM := Lib.hid (hM.out.put 0 rfl (m := ptL nonePt) rfl); generalize a2.setCells g1 0 (ptL nonePt) = a3 at *
  refine qac ?_; go_wp2_with fail; refine bodyPost_ret (v := .agg (ptL nonePt).toArray) (qat Tryz.results53 rfl Tryz.underlying49 rfl (szPt _) (hM.out.get (i := 0) rfl).range) rfl ⟨rfl, hM.out.bl⟩
theorem qc3 : Enters 53 := qao Tryz.func53 (by kernel_rfl) rfl
set_option maxHeartbeats 4000000 in
theorem on_any (p : Pt) (w : World) (hp : p.Nm) (hG : EG w) : Calls Tryz.prog 52 #[.agg (ptL p).toArray] w fun e w' => e = .returned (.bool (onB p)) ∧ Below w.heap.size w w' := by
  have hM := Lib.hid (Mv.nil w)
  have HG := Lib.hid hG; clear hG
  have HB : Hid (onB p = ((p.y * p.y % pp - p.x * p.x % pp) % pp == (1 + dd * (p.x * p.x % pp * (p.y * p.y % pp) % pp) % pp) % pp)) := Lib.hid rfl
  generalize onB p = ob at *
  go_enter Tryz.func52, Tryz.ntmps52
  go_upto_region 0 with fail; refine wp_region_lit ?_
  refine qaa (qbf (vs := ptL p) rfl rfl) rfl ?_; (try simp only [Act.put, lyy]); replace hM := Lib.hid (hM.out.new (ptL p) 49); generalize w.alloc (.cells (ptL p).toArray 49) = a1 at *; generalize w.heap.size = g1 at *
  refine qaa (qag (v := .bool _) rfl rfl) rfl ?_; (try simp only [Act.put, lyy])
  refine qac ?_
  go_upto_region 1 with fail; refine wp_region_sow2 6 47 (by kernel_rfl) rfl rfl (by kernel_rfl) (alcFe) ?_
  refine qab _ (fun V hV => qad (qbh (s := 3) (k := 0) rfl Tryz.underlying49 rfl (by kernel_rfl) rfl rfl)) ?_; (try simp only [Act.put, lyy])
  refine qab _ (fun V hV => qad (qah (vs := feL p.x) rfl Tryz.underlying47 rfl (szFe _) rfl (pt_x ((hM.out.below hV).get (i := 0) rfl)))) ?_; (try simp only [Act.put, lyy])
  refine qab _ (fun V hV => qak (qaj enters_sqr rfl rfl rfl) (sqr_any p.x V hp.1 (HG.out.below (hM.out.below hV).bl))) ?_; (try simp only [Act.put, lyy])
  refine qab _ (fun V hV => qad (qbh (s := 3) (k := 4) rfl Tryz.underlying49 rfl (by kernel_rfl) rfl rfl)) ?_; (try simp only [Act.put, lyy])
  refine qab _ (fun V hV => qad (qah (vs := feL p.y) rfl Tryz.underlying47 rfl (szFe _) rfl (pt_y ((hM.out.below hV).get (i := 0) rfl)))) ?_; (try simp only [Act.put, lyy])
  refine qab _ (fun V hV => qak (qaj enters_sqr rfl rfl rfl) (sqr_any p.y V hp.2 (HG.out.below (hM.out.below hV).bl))) ?_; (try simp only [Act.put, lyy])
  refine qav ?_; intro g2 g3 a2 hpb s1 s2 hne; simp only [List.drop_succ_cons, List.drop_zero, List.setIfInBounds_toArray, List.set_cons_zero, List.set_cons_succ]; replace hM := Lib.hid (hM.out.sow2 hpb s1 s2 hne); clear hpb s1 s2 hne
  have hx := qap (p.x * p.x)
  have hy := qap (p.y * p.y)
  generalize p.x * p.x % pp = xx at *
  generalize p.y * p.y % pp = yy at *
  refine qae (qaq (vs := feL xx) rfl (szFe _) rfl rfl (oneFe _) ((hM.out.get (i := 1) rfl).there)) rfl rfl ?_; replace hM := Lib.hid (hM.out.put 1 rfl (m := feL xx) rfl); generalize a2.setCells g2 0 (feL xx) = a3 at *
  refine qae (qaq (vs := feL yy) rfl (szFe _) rfl rfl (oneFe _) ((hM.out.get (i := 0) rfl).there)) rfl rfl ?_; replace hM := Lib.hid (hM.out.put 0 rfl (m := feL yy) rfl); generalize a3.setCells g3 0 (feL yy) = a4 at *
  refine qac ?_
  go_upto_region 2 with fail; refine qau 11 (by kernel_rfl) (by kernel_rfl) ?_
  refine qab _ (fun V hV => qad (qah (vs := feL yy) rfl Tryz.underlying47 rfl (szFe _) rfl (((hM.out.below hV).get (i := 0) rfl).range))) ?_; (try simp only [Act.put, lyy])
  refine qab _ (fun V hV => qad (qah (vs := feL xx) rfl Tryz.underlying47 rfl (szFe _) rfl (((hM.out.below hV).get (i := 1) rfl).range))) ?_; (try simp only [Act.put, lyy])
  refine qab _ (fun V hV => qak (qam enters_sub rfl rfl rfl rfl) (sub_any yy xx V hy hx (HG.out.below (hM.out.below hV).bl).O)) ?_; (try simp only [Act.put, lyy])
  refine qab _ (fun V hV => qak (qaj enters_small rfl rfl rfl) (small_any 1 V (by omega) (by omega))) ?_; (try simp only [Act.put, lyy])
  refine qab _ (fun V hV => qad (qah (vs := feL dd) rfl Tryz.underlying47 rfl (szFe _) rfl ((HG.out.below (hM.out.below hV).bl).D.range))) ?_; (try simp only [Act.put, lyy])
  refine qab _ (fun V hV => qad (qah (vs := feL xx) rfl Tryz.underlying47 rfl (szFe _) rfl (((hM.out.below hV).get (i := 1) rfl).range))) ?_; (try simp only [Act.put, lyy])
  refine qab _ (fun V hV => qad (qah (vs := feL yy) rfl Tryz.underlying47 rfl (szFe _) rfl (((hM.out.below hV).get (i := 0) rfl).range))) ?_; (try simp only [Act.put, lyy])
  refine qab _ (fun V hV => qak (qam qbl rfl rfl rfl rfl) (qbm xx yy V hx hy (HG.out.below (hM.out.below hV).bl).O)) ?_; (try simp only [Act.put, lyy])
  refine qab _ (fun V hV => qak (qam qbl rfl rfl rfl rfl) (qbm dd (xx * yy % pp) V num_dd (qap _) (HG.out.below (hM.out.below hV).bl).O)) ?_; (try simp only [Act.put, lyy])
  refine qab _ (fun V hV => qak (qam qc9 rfl rfl rfl rfl) (add_any 1 (dd * (xx * yy % pp) % pp) V num_1 (qap _) (HG.out.below (hM.out.below hV).bl).O)) ?_; (try simp only [Act.put, lyy])
  refine qab _ (fun V hV => qad (run_eqFeO (c := ob) (qap _) (qap _) rfl rfl rfl HB.out.symm)) ?_; (try simp only [Act.put, lyy])
  refine qav ?_; intro a5 hb; simp only [List.drop_succ_cons, List.drop_zero]
  replace hM := Lib.hid (hM.out.below hb)
  refine qaa (qag (v := .bool _) rfl rfl) rfl ?_; (try simp only [Act.put, lyy])
  refine qac ?_
  go_wp2_with fail
  go_ret
  exact ⟨rfl, hM.out.bl⟩
theorem enters_on : Enters 52 := qao Tryz.func52 (by kernel_rfl) rfl
end Go.Proofs.YtfdjmdfaidiliaaGreatDoor
namespace Go.Proofs.YtfdjmdfaidiliaaGreatDoor
open Go.RowKit
set_option maxRecDepth 20000
set_option maxHeartbeats 4000000 in
theorem widen_any (p : Pt) (w : World) (hp : p.Nm) (hG : EG w) : Calls Tryz.prog 54 #[.agg (ptL p).toArray] w fun e w' => e = .returned (.agg (wdL (wwid p)).toArray) ∧ Below w.heap.size w w' := by
  have hM := Lib.hid (Mv.nil w)
  have HG := Lib.hid hG; clear hG
  go_enter Tryz.func54, Tryz.ntmps54
  go_upto_region 0 with fail; refine wp_region_lit ?_
  refine qaa (qbf (vs := ptL p) rfl rfl) rfl ?_; (try simp only [Act.put, lyy]); replace hM := Lib.hid (hM.out.new (ptL p) 49); generalize w.alloc (.cells (ptL p).toArray 49) = a1 at *; generalize w.heap.size = g1 at *
  refine qaa (qar (vs := zq 16) rfl (by kernel_rfl)) rfl ?_; (try simp only [Act.put, lyy]); replace hM := Lib.hid (hM.out.new (zq 16) 83); generalize a1.alloc (.cells (zq 16).toArray 83) = a2 at *; generalize a1.heap.size = g2 at *
  refine qac ?_
  go_upto_region 1 with fail; refine qau 11 (by kernel_rfl) (by kernel_rfl) ?_
  refine qab _ (fun V hV => qad (qbh (s := 3) (k := 0) rfl Tryz.underlying49 rfl (by kernel_rfl) rfl rfl)) ?_; (try simp only [Act.put, lyy])
  refine qab _ (fun V hV => qad (qah (vs := feL p.x) rfl Tryz.underlying47 rfl (szFe _) rfl (pt_x ((hM.out.below hV).get (i := 1) rfl)))) ?_; (try simp only [Act.put, lyy])
  refine qab _ (fun V hV => qad (qbh (s := 3) (k := 4) rfl Tryz.underlying49 rfl (by kernel_rfl) rfl rfl)) ?_; (try simp only [Act.put, lyy])
  refine qab _ (fun V hV => qad (qah (vs := feL p.y) rfl Tryz.underlying47 rfl (szFe _) rfl (pt_y ((hM.out.below hV).get (i := 1) rfl)))) ?_; (try simp only [Act.put, lyy])
  refine qab _ (fun V hV => qak (qaj enters_small rfl rfl rfl) (small_any 1 V (by omega) (by omega))) ?_; (try simp only [Act.put, lyy])
  refine qab _ (fun V hV => qad (qbh (s := 3) (k := 0) rfl Tryz.underlying49 rfl (by kernel_rfl) rfl rfl)) ?_; (try simp only [Act.put, lyy])
  refine qab _ (fun V hV => qad (qah (vs := feL p.x) rfl Tryz.underlying47 rfl (szFe _) rfl (pt_x ((hM.out.below hV).get (i := 1) rfl)))) ?_; (try simp only [Act.put, lyy])
  refine qab _ (fun V hV => qad (qbh (s := 3) (k := 4) rfl Tryz.underlying49 rfl (by kernel_rfl) rfl rfl)) ?_; (try simp only [Act.put, lyy])
  refine qab _ (fun V hV => qad (qah (vs := feL p.y) rfl Tryz.underlying47 rfl (szFe _) rfl (pt_y ((hM.out.below hV).get (i := 1) rfl)))) ?_; (try simp only [Act.put, lyy])
  refine qab _ (fun V hV => qak (qam qbl rfl rfl rfl rfl) (qbm p.x p.y V hp.1 hp.2 (HG.out.below (hM.out.below hV).bl).O)) ?_; (try simp only [Act.put, lyy])
  refine qab _ (fun V hV => qad (run_bld4 rfl rfl rfl rfl rfl (built_wd p.x p.y 1 (p.x * p.y % pp)))) ?_; (try simp only [Act.put, lyy])
  refine qav ?_; intro a3 hb; simp only [List.drop_succ_cons, List.drop_zero]
  replace hM := Lib.hid (hM.out.below hb)
  clear hb
  refine qae (qaq (vs := wdL (wwid p)) rfl (szWd _) rfl rfl (oneWd _) ((hM.out.get (i := 0) rfl).there)) rfl rfl ?_; replace hM := Lib.hid (hM.out.put 0 rfl (m := wdL (wwid p)) rfl); generalize a3.setCells g2 0 (wdL (wwid p)) = a4 at *
  refine qac ?_; go_wp2_with fail; refine bodyPost_ret (v := .agg (wdL (wwid p)).toArray) (qat Tryz.results54 rfl Tryz.underlying83 rfl (szWd _) (hM.out.get (i := 0) rfl).range) rfl ⟨rfl, hM.out.bl⟩
theorem enters_widen : Enters 54 := qao Tryz.func54 (by kernel_rfl) rfl
set_option maxHeartbeats 4000000 in
theorem nrw_any (W : Wd) (w : World) (hW : W.Nm) (hG : EG w) : Calls Tryz.prog 57 #[.agg (wdL W).toArray] w fun e w' => e = .returned (.agg (ptL (wnar W)).toArray) ∧ Below w.heap.size w w' := by
  have hM := Lib.hid (Mv.nil w)
  have HG := Lib.hid hG; clear hG
  obtain ⟨iz, hiz⟩ : ∃ iz, iz = W.z ^ (pp - 2).toNat % pp := ⟨_, rfl⟩
  have HN : Hid (wnar W = ⟨W.x * iz % pp, W.y * iz % pp⟩) := Lib.hid (by rw [hiz]; rfl)
  have hin : Num iz := by rw [hiz]; exact qap _
  have HI : Hid (∀ u, EG u → Calls Tryz.prog 83 #[feV W.z] u fun e w' => e = .returned (feV iz) ∧ Below u.heap.size u w') := Lib.hid fun u hu => by rw [hiz]; exact inv_any W.z u hW.z hu.O hu.T
  clear hiz
  generalize wnar W = R at *
  go_enter Tryz.func57, Tryz.ntmps57
  go_upto_region 0 with fail; refine wp_region_lit ?_
  refine qaa (qbf (vs := wdL W) rfl rfl) rfl ?_; (try simp only [Act.put, lyy]); replace hM := Lib.hid (hM.out.new (wdL W) 83); generalize w.alloc (.cells (wdL W).toArray 83) = a1 at *; generalize w.heap.size = g1 at *
  refine qaa (qar (vs := zq 8) rfl (by kernel_rfl)) rfl ?_; (try simp only [Act.put, lyy]); replace hM := Lib.hid (hM.out.new (zq 8) 49); generalize a1.alloc (.cells (zq 8).toArray 49) = a2 at *; generalize a1.heap.size = g2 at *
  refine qac ?_
  go_upto_region 1 with fail; refine wp_region_lit ?_
  refine qaa (qbh (s := 3) (k := 8) rfl Tryz.underlying83 rfl (by kernel_rfl) rfl rfl) rfl ?_; (try simp only [Act.put, lyy])
  refine qaa (qah (vs := feL W.z) rfl Tryz.underlying47 rfl (szFe _) rfl (wd_z (hM.out.get (i := 1) rfl))) rfl ?_; (try simp only [Act.put, lyy])
  refine qai (qaj enters_inv rfl rfl rfl) rfl (HI.out _ (HG.out.below hM.out.bl)) (fun a3 hb => ?_); (try simp only [Act.put, lyy]); replace hM := Lib.hid (hM.out.below hb); clear hb
  refine qaa (qar (vs := zq 4) rfl (by kernel_rfl)) rfl ?_; (try simp only [Act.put, lyy]); replace hM := Lib.hid (hM.out.new (zq 4) 47); generalize a3.alloc (.cells (zq 4).toArray 47) = a4 at *; generalize a3.heap.size = g3 at *
  refine qae (qaq (vs := feL iz) rfl (szFe _) rfl rfl (oneFe _) ((hM.out.get (i := 0) rfl).there)) rfl rfl ?_; replace hM := Lib.hid (hM.out.put 0 rfl (m := feL iz) rfl); generalize a4.setCells g3 0 (feL iz) = a5 at *
  refine qac ?_
  go_upto_region 2 with fail; refine qau 9 (by kernel_rfl) (by kernel_rfl) ?_
  refine qab _ (fun V hV => qad (qbh (s := 3) (k := 0) rfl Tryz.underlying83 rfl (by kernel_rfl) rfl rfl)) ?_; (try simp only [Act.put, lyy])
  refine qab _ (fun V hV => qad (qah (vs := feL W.x) rfl Tryz.underlying47 rfl (szFe _) rfl (wd_x ((hM.out.below hV).get (i := 2) rfl)))) ?_; (try simp only [Act.put, lyy])
  refine qab _ (fun V hV => qad (qah (vs := feL iz) rfl Tryz.underlying47 rfl (szFe _) rfl (((hM.out.below hV).get (i := 0) rfl).range))) ?_; (try simp only [Act.put, lyy])
  refine qab _ (fun V hV => qak (qam qbl rfl rfl rfl rfl) (qbm W.x iz V hW.x hin (HG.out.below (hM.out.below hV).bl).O)) ?_; (try simp only [Act.put, lyy])
  refine qab _ (fun V hV => qad (qbh (s := 3) (k := 4) rfl Tryz.underlying83 rfl (by kernel_rfl) rfl rfl)) ?_; (try simp only [Act.put, lyy])
  refine qab _ (fun V hV => qad (qah (vs := feL W.y) rfl Tryz.underlying47 rfl (szFe _) rfl (wd_y ((hM.out.below hV).get (i := 2) rfl)))) ?_; (try simp only [Act.put, lyy])
  refine qab _ (fun V hV => qad (qah (vs := feL iz) rfl Tryz.underlying47 rfl (szFe _) rfl (((hM.out.below hV).get (i := 0) rfl).range))) ?_; (try simp only [Act.put, lyy])
  refine qab _ (fun V hV => qak (qam qbl rfl rfl rfl rfl) (qbm W.y iz V hW.y hin (HG.out.below (hM.out.below hV).bl).O)) ?_; (try simp only [Act.put, lyy])
  refine qab _ (fun V hV => qad (run_bld2 rfl rfl rfl (built_pt (W.x * iz % pp) (W.y * iz % pp)))) ?_; (try simp only [Act.put, lyy])
  refine qav ?_; intro a6 hb; simp only [List.drop_succ_cons, List.drop_zero]
  replace hM := Lib.hid (hM.out.below hb)
  clear hb
  refine qae (qaq (vs := ptL ⟨W.x * iz % pp, W.y * iz % pp⟩) rfl (szPt _) rfl rfl (onePt _) ((hM.out.get (i := 1) rfl).there)) rfl rfl ?_; replace hM := Lib.hid (hM.out.put 1 rfl (m := ptL ⟨W.x * iz % pp, W.y * iz % pp⟩) rfl); generalize a6.setCells g2 0 (ptL ⟨W.x * iz % pp, W.y * iz % pp⟩) = a7 at *
  refine qac ?_; go_wp2_with fail; refine bodyPost_ret (v := .agg (ptL ⟨W.x * iz % pp, W.y * iz % pp⟩).toArray) (qat Tryz.results57 rfl Tryz.underlying49 rfl (szPt _) (hM.out.get (i := 1) rfl).range) rfl ⟨by rw [HN.out], hM.out.bl⟩
theorem enters_nrw : Enters 57 := qao Tryz.func57 (by kernel_rfl) rfl
set_option maxHeartbeats 8000000 in
theorem plus_any (p q : Wd) (w : World) (hp : p.Nm) (hq : q.Nm) (hG : EG w) : Calls Tryz.prog 56 #[.agg (wdL p).toArray, .agg (wdL q).toArray] w fun e w' => e = .returned (.agg (wdL (wplus p q)).toArray) ∧ Below w.heap.size w w' := by
  have hM := Lib.hid (Mv.nil w)
  have HG := Lib.hid hG; clear hG
  have E1 : Hid ((p.x * q.y % pp + p.y * q.x % pp) % pp = wcr p q) := Lib.hid rfl
  have E2 : Hid ((p.y * q.y % pp + p.x * q.x % pp) % pp = wst p q) := Lib.hid rfl
  have E3 : Hid (p.z * q.z % pp = won p q) := Lib.hid rfl
  have E4 : Hid (dd * (p.t * q.t % pp) % pp = wpa p q) := Lib.hid rfl
  have E5 : Hid ((won p q + wpa p q) % pp = wab p q) := Lib.hid rfl
  have E6 : Hid ((won p q - wpa p q) % pp = wbe p q) := Lib.hid rfl
  have E7 : Hid (wplus p q = ⟨wcr p q * wbe p q % pp, wst p q * wab p q % pp, wab p q * wbe p q % pp, wcr p q * wst p q % pp⟩) := Lib.hid rfl
  have n1 : Num (wcr p q) := qap _
  have n2 : Num (wst p q) := qap _
  have n3 : Num (won p q) := qap _
  have n4 : Num (wpa p q) := qap _
  have n5 : Num (wab p q) := qap _
  have n6 : Num (wbe p q) := qap _
  generalize wplus p q = R at *
  generalize wcr p q = cr at *
  generalize wst p q = st at *
  generalize wab p q = ab at *
  generalize wbe p q = be at *
  generalize won p q = on at *
  generalize wpa p q = pa at *
  go_enter Tryz.func56, Tryz.ntmps56
  go_upto_region 0 with fail; refine wp_region_lit ?_
  refine qaa (qbf (vs := wdL p) rfl rfl) rfl ?_; (try simp only [Act.put, lyy]); replace hM := Lib.hid (hM.out.new (wdL p) 83); generalize w.alloc (.cells (wdL p).toArray 83) = a1 at *; generalize w.heap.size = g1 at *
  refine qaa (qbf (vs := wdL q) rfl rfl) rfl ?_; (try simp only [Act.put, lyy]); replace hM := Lib.hid (hM.out.new (wdL q) 83); generalize a1.alloc (.cells (wdL q).toArray 83) = a2 at *; generalize a1.heap.size = g2 at *
  refine qaa (qar (vs := zq 16) rfl (by kernel_rfl)) rfl ?_; (try simp only [Act.put, lyy]); replace hM := Lib.hid (hM.out.new (zq 16) 83); generalize a2.alloc (.cells (zq 16).toArray 83) = a3 at *; generalize a2.heap.size = g3 at *
  refine qac ?_
  go_upto_region 1 with fail; refine wp_region_sow1 11 47 (by kernel_rfl) rfl (by kernel_rfl) (alcFe) ?_
  refine qab _ (fun V hV => qad (qbh (s := 3) (k := 0) rfl Tryz.underlying83 rfl (by kernel_rfl) rfl rfl)) ?_; (try simp only [Act.put, lyy])
  refine qab _ (fun V hV => qad (qah (vs := feL p.x) rfl Tryz.underlying47 rfl (szFe _) rfl (wd_x ((hM.out.below hV).get (i := 2) rfl)))) ?_; (try simp only [Act.put, lyy])
  refine qab _ (fun V hV => qad (qbh (s := 3) (k := 4) rfl Tryz.underlying83 rfl (by kernel_rfl) rfl rfl)) ?_; (try simp only [Act.put, lyy])
  refine qab _ (fun V hV => qad (qah (vs := feL q.y) rfl Tryz.underlying47 rfl (szFe _) rfl (wd_y ((hM.out.below hV).get (i := 1) rfl)))) ?_; (try simp only [Act.put, lyy])
  refine qab _ (fun V hV => qak (qam qbl rfl rfl rfl rfl) (qbm p.x q.y V hp.x hq.y (HG.out.below (hM.out.below hV).bl).O)) ?_; (try simp only [Act.put, lyy])
  refine qab _ (fun V hV => qad (qbh (s := 3) (k := 4) rfl Tryz.underlying83 rfl (by kernel_rfl) rfl rfl)) ?_; (try simp only [Act.put, lyy])
  refine qab _ (fun V hV => qad (qah (vs := feL p.y) rfl Tryz.underlying47 rfl (szFe _) rfl (wd_y ((hM.out.below hV).get (i := 2) rfl)))) ?_; (try simp only [Act.put, lyy])
  refine qab _ (fun V hV => qad (qbh (s := 3) (k := 0) rfl Tryz.underlying83 rfl (by kernel_rfl) rfl rfl)) ?_; (try simp only [Act.put, lyy])
  refine qab _ (fun V hV => qad (qah (vs := feL q.x) rfl Tryz.underlying47 rfl (szFe _) rfl (wd_x ((hM.out.below hV).get (i := 1) rfl)))) ?_; (try simp only [Act.put, lyy])
  refine qab _ (fun V hV => qak (qam qbl rfl rfl rfl rfl) (qbm p.y q.x V hp.y hq.x (HG.out.below (hM.out.below hV).bl).O)) ?_; (try simp only [Act.put, lyy])
  refine qab _ (fun V hV => qak (qam qc9 rfl rfl rfl rfl) (add_any (p.x * q.y % pp) (p.y * q.x % pp) V (qap _) (qap _) (HG.out.below (hM.out.below hV).bl).O)) ?_; (try simp only [Act.put, lyy])
  refine qav ?_; intro g4 a4 hpb s1; simp only [List.drop_succ_cons, List.drop_zero, List.setIfInBounds_toArray, List.set_cons_zero, List.set_cons_succ]; replace hM := Lib.hid (hM.out.sow hpb s1); clear hpb s1
  rw [E1.out]
  refine qae (qaq (vs := feL cr) rfl (szFe _) rfl rfl (oneFe _) ((hM.out.get (i := 0) rfl).there)) rfl rfl ?_; replace hM := Lib.hid (hM.out.put 0 rfl (m := feL cr) rfl); generalize a4.setCells g4 0 (feL cr) = a5 at *
  refine qac ?_
  go_upto_region 2 with fail; refine wp_region_sow1 11 47 (by kernel_rfl) rfl (by kernel_rfl) (alcFe) ?_
  refine qab _ (fun V hV => qad (qbh (s := 3) (k := 4) rfl Tryz.underlying83 rfl (by kernel_rfl) rfl rfl)) ?_; (try simp only [Act.put, lyy])
  refine qab _ (fun V hV => qad (qah (vs := feL p.y) rfl Tryz.underlying47 rfl (szFe _) rfl (wd_y ((hM.out.below hV).get (i := 3) rfl)))) ?_; (try simp only [Act.put, lyy])
  refine qab _ (fun V hV => qad (qbh (s := 3) (k := 4) rfl Tryz.underlying83 rfl (by kernel_rfl) rfl rfl)) ?_; (try simp only [Act.put, lyy])
  refine qab _ (fun V hV => qad (qah (vs := feL q.y) rfl Tryz.underlying47 rfl (szFe _) rfl (wd_y ((hM.out.below hV).get (i := 2) rfl)))) ?_; (try simp only [Act.put, lyy])
  refine qab _ (fun V hV => qak (qam qbl rfl rfl rfl rfl) (qbm p.y q.y V hp.y hq.y (HG.out.below (hM.out.below hV).bl).O)) ?_; (try simp only [Act.put, lyy])
  refine qab _ (fun V hV => qad (qbh (s := 3) (k := 0) rfl Tryz.underlying83 rfl (by kernel_rfl) rfl rfl)) ?_; (try simp only [Act.put, lyy])
  refine qab _ (fun V hV => qad (qah (vs := feL p.x) rfl Tryz.underlying47 rfl (szFe _) rfl (wd_x ((hM.out.below hV).get (i := 3) rfl)))) ?_; (try simp only [Act.put, lyy])
  refine qab _ (fun V hV => qad (qbh (s := 3) (k := 0) rfl Tryz.underlying83 rfl (by kernel_rfl) rfl rfl)) ?_; (try simp only [Act.put, lyy])
  refine qab _ (fun V hV => qad (qah (vs := feL q.x) rfl Tryz.underlying47 rfl (szFe _) rfl (wd_x ((hM.out.below hV).get (i := 2) rfl)))) ?_; (try simp only [Act.put, lyy])
  refine qab _ (fun V hV => qak (qam qbl rfl rfl rfl rfl) (qbm p.x q.x V hp.x hq.x (HG.out.below (hM.out.below hV).bl).O)) ?_; (try simp only [Act.put, lyy])
  refine qab _ (fun V hV => qak (qam qc9 rfl rfl rfl rfl) (add_any (p.y * q.y % pp) (p.x * q.x % pp) V (qap _) (qap _) (HG.out.below (hM.out.below hV).bl).O)) ?_; (try simp only [Act.put, lyy])
  refine qav ?_; intro g5 a6 hpb s1; simp only [List.drop_succ_cons, List.drop_zero, List.setIfInBounds_toArray, List.set_cons_zero, List.set_cons_succ]; replace hM := Lib.hid (hM.out.sow hpb s1); clear hpb s1
  rw [E2.out]
  refine qae (qaq (vs := feL st) rfl (szFe _) rfl rfl (oneFe _) ((hM.out.get (i := 0) rfl).there)) rfl rfl ?_; replace hM := Lib.hid (hM.out.put 0 rfl (m := feL st) rfl); generalize a6.setCells g5 0 (feL st) = a7 at *
  refine qac ?_
  go_upto_region 3 with fail; refine wp_region_sow2 12 47 (by kernel_rfl) rfl rfl (by kernel_rfl) (alcFe) ?_
  refine qab _ (fun V hV => qad (qbh (s := 3) (k := 8) rfl Tryz.underlying83 rfl (by kernel_rfl) rfl rfl)) ?_; (try simp only [Act.put, lyy])
  refine qab _ (fun V hV => qad (qah (vs := feL p.z) rfl Tryz.underlying47 rfl (szFe _) rfl (wd_z ((hM.out.below hV).get (i := 4) rfl)))) ?_; (try simp only [Act.put, lyy])
  refine qab _ (fun V hV => qad (qbh (s := 3) (k := 8) rfl Tryz.underlying83 rfl (by kernel_rfl) rfl rfl)) ?_; (try simp only [Act.put, lyy])
  refine qab _ (fun V hV => qad (qah (vs := feL q.z) rfl Tryz.underlying47 rfl (szFe _) rfl (wd_z ((hM.out.below hV).get (i := 3) rfl)))) ?_; (try simp only [Act.put, lyy])
  refine qab _ (fun V hV => qak (qam qbl rfl rfl rfl rfl) (qbm p.z q.z V hp.z hq.z (HG.out.below (hM.out.below hV).bl).O)) ?_; (try simp only [Act.put, lyy])
  refine qab _ (fun V hV => qad (qah (vs := feL dd) rfl Tryz.underlying47 rfl (szFe _) rfl ((HG.out.below (hM.out.below hV).bl).D.range))) ?_; (try simp only [Act.put, lyy])
  refine qab _ (fun V hV => qad (qbh (s := 3) (k := 12) rfl Tryz.underlying83 rfl (by kernel_rfl) rfl rfl)) ?_; (try simp only [Act.put, lyy])
  refine qab _ (fun V hV => qad (qah (vs := feL p.t) rfl Tryz.underlying47 rfl (szFe _) rfl (wd_t ((hM.out.below hV).get (i := 4) rfl)))) ?_; (try simp only [Act.put, lyy])
  refine qab _ (fun V hV => qad (qbh (s := 3) (k := 12) rfl Tryz.underlying83 rfl (by kernel_rfl) rfl rfl)) ?_; (try simp only [Act.put, lyy])
  refine qab _ (fun V hV => qad (qah (vs := feL q.t) rfl Tryz.underlying47 rfl (szFe _) rfl (wd_t ((hM.out.below hV).get (i := 3) rfl)))) ?_; (try simp only [Act.put, lyy])
  refine qab _ (fun V hV => qak (qam qbl rfl rfl rfl rfl) (qbm p.t q.t V hp.t hq.t (HG.out.below (hM.out.below hV).bl).O)) ?_; (try simp only [Act.put, lyy])
  refine qab _ (fun V hV => qak (qam qbl rfl rfl rfl rfl) (qbm dd (p.t * q.t % pp) V num_dd (qap _) (HG.out.below (hM.out.below hV).bl).O)) ?_; (try simp only [Act.put, lyy])
  refine qav ?_; intro g6 g7 a8 hpb s1 s2 hne; simp only [List.drop_succ_cons, List.drop_zero, List.setIfInBounds_toArray, List.set_cons_zero, List.set_cons_succ]; replace hM := Lib.hid (hM.out.sow2 hpb s1 s2 hne); clear hpb s1 s2 hne
  rw [E3.out, E4.out]
  refine qae (qaq (vs := feL on) rfl (szFe _) rfl rfl (oneFe _) ((hM.out.get (i := 1) rfl).there)) rfl rfl ?_; replace hM := Lib.hid (hM.out.put 1 rfl (m := feL on) rfl); generalize a8.setCells g6 0 (feL on) = a9 at *
  refine qae (qaq (vs := feL pa) rfl (szFe _) rfl rfl (oneFe _) ((hM.out.get (i := 0) rfl).there)) rfl rfl ?_; replace hM := Lib.hid (hM.out.put 0 rfl (m := feL pa) rfl); generalize a9.setCells g7 0 (feL pa) = a10 at *
  refine qac ?_
  go_upto_region 4 with fail; refine wp_region_sow2 6 47 (by kernel_rfl) rfl rfl (by kernel_rfl) (alcFe) ?_
  refine qab _ (fun V hV => qad (qah (vs := feL on) rfl Tryz.underlying47 rfl (szFe _) rfl (((hM.out.below hV).get (i := 1) rfl).range))) ?_; (try simp only [Act.put, lyy])
  refine qab _ (fun V hV => qad (qah (vs := feL pa) rfl Tryz.underlying47 rfl (szFe _) rfl (((hM.out.below hV).get (i := 0) rfl).range))) ?_; (try simp only [Act.put, lyy])
  refine qab _ (fun V hV => qak (qam qc9 rfl rfl rfl rfl) (add_any on pa V n3 n4 (HG.out.below (hM.out.below hV).bl).O)) ?_; (try simp only [Act.put, lyy])
  refine qab _ (fun V hV => qad (qah (vs := feL on) rfl Tryz.underlying47 rfl (szFe _) rfl (((hM.out.below hV).get (i := 1) rfl).range))) ?_; (try simp only [Act.put, lyy])
  refine qab _ (fun V hV => qad (qah (vs := feL pa) rfl Tryz.underlying47 rfl (szFe _) rfl (((hM.out.below hV).get (i := 0) rfl).range))) ?_; (try simp only [Act.put, lyy])
  refine qab _ (fun V hV => qak (qam enters_sub rfl rfl rfl rfl) (sub_any on pa V n3 n4 (HG.out.below (hM.out.below hV).bl).O)) ?_; (try simp only [Act.put, lyy])
  refine qav ?_; intro g8 g9 a11 hpb s1 s2 hne; simp only [List.drop_succ_cons, List.drop_zero, List.setIfInBounds_toArray, List.set_cons_zero, List.set_cons_succ]; replace hM := Lib.hid (hM.out.sow2 hpb s1 s2 hne); clear hpb s1 s2 hne
  rw [E5.out, E6.out]
  refine qae (qaq (vs := feL ab) rfl (szFe _) rfl rfl (oneFe _) ((hM.out.get (i := 1) rfl).there)) rfl rfl ?_; replace hM := Lib.hid (hM.out.put 1 rfl (m := feL ab) rfl); generalize a11.setCells g8 0 (feL ab) = a12 at *
  refine qae (qaq (vs := feL be) rfl (szFe _) rfl rfl (oneFe _) ((hM.out.get (i := 0) rfl).there)) rfl rfl ?_; replace hM := Lib.hid (hM.out.put 0 rfl (m := feL be) rfl); generalize a12.setCells g9 0 (feL be) = a13 at *
  refine qac ?_
  go_upto_region 5 with fail; refine qau 13 (by kernel_rfl) (by kernel_rfl) ?_
  refine qab _ (fun V hV => qad (qah (vs := feL cr) rfl Tryz.underlying47 rfl (szFe _) rfl (((hM.out.below hV).get (i := 5) rfl).range))) ?_; (try simp only [Act.put, lyy])
  refine qab _ (fun V hV => qad (qah (vs := feL be) rfl Tryz.underlying47 rfl (szFe _) rfl (((hM.out.below hV).get (i := 0) rfl).range))) ?_; (try simp only [Act.put, lyy])
  refine qab _ (fun V hV => qak (qam qbl rfl rfl rfl rfl) (qbm cr be V n1 n6 (HG.out.below (hM.out.below hV).bl).O)) ?_; (try simp only [Act.put, lyy])
  refine qab _ (fun V hV => qad (qah (vs := feL st) rfl Tryz.underlying47 rfl (szFe _) rfl (((hM.out.below hV).get (i := 4) rfl).range))) ?_; (try simp only [Act.put, lyy])
  refine qab _ (fun V hV => qad (qah (vs := feL ab) rfl Tryz.underlying47 rfl (szFe _) rfl (((hM.out.below hV).get (i := 1) rfl).range))) ?_; (try simp only [Act.put, lyy])
  refine qab _ (fun V hV => qak (qam qbl rfl rfl rfl rfl) (qbm st ab V n2 n5 (HG.out.below (hM.out.below hV).bl).O)) ?_; (try simp only [Act.put, lyy])
  refine qab _ (fun V hV => qad (qah (vs := feL ab) rfl Tryz.underlying47 rfl (szFe _) rfl (((hM.out.below hV).get (i := 1) rfl).range))) ?_; (try simp only [Act.put, lyy])
  refine qab _ (fun V hV => qad (qah (vs := feL be) rfl Tryz.underlying47 rfl (szFe _) rfl (((hM.out.below hV).get (i := 0) rfl).range))) ?_; (try simp only [Act.put, lyy])
  refine qab _ (fun V hV => qak (qam qbl rfl rfl rfl rfl) (qbm ab be V n5 n6 (HG.out.below (hM.out.below hV).bl).O)) ?_; (try simp only [Act.put, lyy])
  refine qab _ (fun V hV => qad (qah (vs := feL cr) rfl Tryz.underlying47 rfl (szFe _) rfl (((hM.out.below hV).get (i := 5) rfl).range))) ?_; (try simp only [Act.put, lyy])
  refine qab _ (fun V hV => qad (qah (vs := feL st) rfl Tryz.underlying47 rfl (szFe _) rfl (((hM.out.below hV).get (i := 4) rfl).range))) ?_; (try simp only [Act.put, lyy])
  refine qab _ (fun V hV => qak (qam qbl rfl rfl rfl rfl) (qbm cr st V n1 n2 (HG.out.below (hM.out.below hV).bl).O)) ?_; (try simp only [Act.put, lyy])
  refine qab _ (fun V hV => qad (run_bld4 rfl rfl rfl rfl rfl (built_wd (cr * be % pp) (st * ab % pp) (ab * be % pp) (cr * st % pp)))) ?_; (try simp only [Act.put, lyy])
  refine qav ?_; intro a14 hb; simp only [List.drop_succ_cons, List.drop_zero]
  replace hM := Lib.hid (hM.out.below hb)
  clear hb
  refine qae (qaq (vs := wdL ⟨cr * be % pp, st * ab % pp, ab * be % pp, cr * st % pp⟩) rfl (szWd _) rfl rfl (oneWd _) ((hM.out.get (i := 6) rfl).there)) rfl rfl ?_; replace hM := Lib.hid (hM.out.put 6 rfl (m := wdL ⟨cr * be % pp, st * ab % pp, ab * be % pp, cr * st % pp⟩) rfl); generalize a14.setCells g3 0 (wdL ⟨cr * be % pp, st * ab % pp, ab * be % pp, cr * st % pp⟩) = a15 at *
  refine qac ?_; go_wp2_with fail; refine bodyPost_ret (v := .agg (wdL ⟨cr * be % pp, st * ab % pp, ab * be % pp, cr * st % pp⟩).toArray) (qat Tryz.results56 rfl Tryz.underlying83 rfl (szWd _) (hM.out.get (i := 6) rfl).range) rfl ⟨by rw [E7.out], hM.out.bl⟩
theorem enters_plus : Enters 56 := qao Tryz.func56 (by kernel_rfl) rfl
end Go.Proofs.YtfdjmdfaidiliaaGreatDoor
namespace Go.Proofs.YtfdjmdfaidiliaaGreatDoor
open Go.RowKit
set_option maxRecDepth 20000
def addP (p q : Pt) : Pt := if onB p && onB q then padd p.can q.can else nonePt
def negP (p : Pt) : Pt := if onB p then ⟨-p.x % pp, p.y % pp⟩ else nonePt
def mulP (n : Nat) (p : Pt) : Pt := if onB p then pmul p.can n else nonePt
theorem addP_ok (p q : Pt) : (addP p q).Ok := by unfold addP; split; exact padd_ok _ _; exact none_ok
theorem negP_ok (p : Pt) : (negP p).Ok := by unfold negP; split; exact ⟨qbp _, qbp _⟩; exact none_ok
theorem mulP_ok (n : Nat) (p : Pt) : (mulP n p).Ok := by unfold mulP; split; exact qdi _ _; exact none_ok
theorem onB_on {p : Pt} (h : p.On) : onB p = true := (onB_iff p).2 h
theorem addP_on {p q : Pt} (hp : p.On) (hq : q.On) (h1 : p.Ok) (h2 : q.Ok) : addP p q = padd p q := by
  unfold addP; rw [onB_on hp, onB_on hq, Bool.and_self, if_pos rfl, can_id h1, can_id h2]
theorem mulP_on {p : Pt} (hp : p.On) (h1 : p.Ok) (n : Nat) : mulP n p = pmul p n := by
  unfold mulP; rw [onB_on hp, if_pos rfl, can_id h1]
theorem wide_add {p q : Pt} (hp : onB p = true) (hq : onB q = true) : wnar (wplus (wwid p) (wwid q)) = addP p q := by
  unfold addP
  rw [hp, hq, Bool.and_self, if_pos rfl]
  exact wnar_eq (rep_plus (rep_widen p) (rep_widen q) (can_on ((onB_iff p).1 hp)) (can_on ((onB_iff q).1 hq))) (padd_ok _ _)
set_option maxHeartbeats 8000000 in
theorem addP_any (p q : Pt) (w : World) (hp : p.Nm) (hq : q.Nm) (hG : EG w) : Calls Tryz.prog 29 #[.agg (ptL p).toArray, .agg (ptL q).toArray] w fun e w' => e = .returned (.agg (ptL (addP p q)).toArray) ∧ Below w.heap.size w w' := by
  have hM := Lib.hid (Mv.nil w)
  have HG := Lib.hid hG; clear hG
  have HA : Hid (onB p = true → onB q = true → wnar (wplus (wwid p) (wwid q)) = addP p q) := Lib.hid wide_add
  have H1 : Hid (onB p = false → addP p q = nonePt) := Lib.hid fun h => by unfold addP; rw [h]; rfl
  have H2 : Hid (onB p = true → onB q = false → addP p q = nonePt) := Lib.hid fun h h' => by unfold addP; rw [h, h']; rfl
  generalize addP p q = R at *
  obtain ⟨b1, hb1⟩ : ∃ b, b = onB p := ⟨_, rfl⟩
  obtain ⟨b2, hb2⟩ : ∃ b, b = onB q := ⟨_, rfl⟩
  have C1 : Hid (∀ u, EG u → Calls Tryz.prog 52 #[.agg (ptL p).toArray] u fun e w' => e = .returned (.bool b1) ∧ Below u.heap.size u w') := Lib.hid fun u hu => by rw [hb1]; exact on_any p u hp hu
  have C2 : Hid (∀ u, EG u → Calls Tryz.prog 52 #[.agg (ptL q).toArray] u fun e w' => e = .returned (.bool b2) ∧ Below u.heap.size u w') := Lib.hid fun u hu => by rw [hb2]; exact on_any q u hq hu
  rw [← hb1, ← hb2] at HA H2
  rw [← hb1] at H1
  clear hb1 hb2
  go_enter Tryz.func29, Tryz.ntmps29
  go_upto_region 0 with fail; refine wp_region_lit ?_
  refine qaa (qbf (vs := ptL p) rfl rfl) rfl ?_; (try simp only [Act.put, lyy]); replace hM := Lib.hid (hM.out.new (ptL p) 49); generalize w.alloc (.cells (ptL p).toArray 49) = a1 at *; generalize w.heap.size = g1 at *
  refine qaa (qbf (vs := ptL q) rfl rfl) rfl ?_; (try simp only [Act.put, lyy]); replace hM := Lib.hid (hM.out.new (ptL q) 49); generalize a1.alloc (.cells (ptL q).toArray 49) = a2 at *; generalize a1.heap.size = g2 at *
  refine qaa (qar (vs := zq 8) rfl (by kernel_rfl)) rfl ?_; (try simp only [Act.put, lyy]); replace hM := Lib.hid (hM.out.new (zq 8) 49); generalize a2.alloc (.cells (zq 8).toArray 49) = a3 at *; generalize a2.heap.size = g3 at *
  refine qac ?_
  go_upto_region 1 with fail; refine wp_region_lit ?_
  refine qaa (qah (vs := ptL p) rfl Tryz.underlying49 rfl (szPt _) rfl ((hM.out.get (i := 2) rfl).range)) rfl ?_; (try simp only [Act.put, lyy])
  refine qai (qaj enters_on rfl rfl rfl) rfl (C1.out _ (HG.out.below hM.out.bl)) (fun a4 hb => ?_); (try simp only [Act.put, lyy]); replace hM := Lib.hid (hM.out.below hb); clear hb
  cases b1
  · have e := H1.out rfl
    subst e
    refine qaa (qcd rfl rfl) rfl ?_; (try simp only [Act.put, lyy])
    refine qaa (qaf (v := .bool true) rfl rfl) rfl ?_; (try simp only [Act.put, lyy])
    refine qca rfl ?_; (try simp only [Act.put, lyy])
    refine qca rfl ?_; (try simp only [Act.put, lyy])
    refine qca rfl ?_; (try simp only [Act.put, lyy])
    refine qaa (qcc (b := true) (v := .bool true) rfl rfl rfl) rfl ?_; (try simp only [Act.put, lyy])
    refine qac ?_
    go_upto_region 2 with fail; refine wp_region_lit ?_
    refine qai (qbz qc3 rfl rfl) rfl (nothing_any _) (fun a5 hb => ?_); (try simp only [Act.put, lyy]); replace hM := Lib.hid (hM.out.below hb); clear hb
    refine qae (qaq (vs := ptL nonePt) rfl (szPt _) rfl rfl (onePt _) ((hM.out.get (i := 0) rfl).there)) rfl rfl ?_; replace hM := Lib.hid (hM.out.put 0 rfl (m := ptL nonePt) rfl); generalize a5.setCells g3 0 (ptL nonePt) = a6 at *
    refine qac ?_; go_wp2_with fail; refine bodyPost_ret (v := .agg (ptL nonePt).toArray) (qat Tryz.results29 rfl Tryz.underlying49 rfl (szPt _) (hM.out.get (i := 0) rfl).range) rfl ⟨rfl, hM.out.bl⟩
  · refine qaa (qcd rfl rfl) rfl ?_; (try simp only [Act.put, lyy])
    refine qaa (qaf (v := .bool false) rfl rfl) rfl ?_; (try simp only [Act.put, lyy])
    refine qbb (qah (vs := ptL q) rfl Tryz.underlying49 rfl (szPt _) rfl (hM.out.get (i := 1) rfl).range) rfl ?_; (try simp only [Act.put, lyy])
    refine wpList_enterG (qaj enters_on rfl rfl rfl) rfl (C2.out _ (HG.out.below hM.out.bl)) (fun a5 hb => ?_); (try simp only [Act.put, lyy])
    replace hM := Lib.hid (hM.out.below hb)
    clear hb
    cases b2
    · have e := H2.out rfl rfl
      subst e
      refine qbb (qcd rfl rfl) rfl ?_; (try simp only [Act.put, lyy])
      refine qaa (qcc (b := false) (v := .bool true) rfl rfl rfl) rfl ?_; (try simp only [Act.put, lyy])
      refine qac ?_
      go_upto_region 2 with fail; refine wp_region_lit ?_
      refine qai (qbz qc3 rfl rfl) rfl (nothing_any _) (fun a6 hb => ?_); (try simp only [Act.put, lyy]); replace hM := Lib.hid (hM.out.below hb); clear hb
      refine qae (qaq (vs := ptL nonePt) rfl (szPt _) rfl rfl (onePt _) ((hM.out.get (i := 0) rfl).there)) rfl rfl ?_; replace hM := Lib.hid (hM.out.put 0 rfl (m := ptL nonePt) rfl); generalize a6.setCells g3 0 (ptL nonePt) = a7 at *
      refine qac ?_; go_wp2_with fail; refine bodyPost_ret (v := .agg (ptL nonePt).toArray) (qat Tryz.results29 rfl Tryz.underlying49 rfl (szPt _) (hM.out.get (i := 0) rfl).range) rfl ⟨rfl, hM.out.bl⟩
    · have e := H2
      refine qbb (qcd rfl rfl) rfl ?_; (try simp only [Act.put, lyy])
      refine qaa (qcc (b := false) (v := .bool false) rfl rfl rfl) rfl ?_; (try simp only [Act.put, lyy])
      refine qac ?_
      clear e
      have hpw := wwid_nm hp
      have hqw := wwid_nm hq
      have hrw := wplus_nm (wwid p) (wwid q)
      go_upto_region 3 with fail; refine qau 6 (by kernel_rfl) (by kernel_rfl) ?_
      refine qab _ (fun V hV => qad (qah (vs := ptL p) rfl Tryz.underlying49 rfl (szPt _) rfl (((hM.out.below hV).get (i := 2) rfl).range))) ?_; (try simp only [Act.put, lyy])
      refine qab _ (fun V hV => qak (qaj enters_widen rfl rfl rfl) (widen_any p V hp (HG.out.below (hM.out.below hV).bl))) ?_; (try simp only [Act.put, lyy])
      refine qab _ (fun V hV => qad (qah (vs := ptL q) rfl Tryz.underlying49 rfl (szPt _) rfl (((hM.out.below hV).get (i := 1) rfl).range))) ?_; (try simp only [Act.put, lyy])
      refine qab _ (fun V hV => qak (qaj enters_widen rfl rfl rfl) (widen_any q V hq (HG.out.below (hM.out.below hV).bl))) ?_; (try simp only [Act.put, lyy])
      refine qab _ (fun V hV => qak (qam enters_plus rfl rfl rfl rfl) (plus_any (wwid p) (wwid q) V hpw hqw (HG.out.below (hM.out.below hV).bl))) ?_; (try simp only [Act.put, lyy])
      refine qab _ (fun V hV => qak (qaj enters_nrw rfl rfl rfl) (nrw_any (wplus (wwid p) (wwid q)) V hrw (HG.out.below (hM.out.below hV).bl))) ?_; (try simp only [Act.put, lyy])
      refine qav ?_; intro a6 hb; simp only [List.drop_succ_cons, List.drop_zero]
      replace hM := Lib.hid (hM.out.below hb)
      clear hb
      rw [HA.out rfl rfl]
      refine qae (qaq (vs := ptL R) rfl (szPt _) rfl rfl (onePt _) ((hM.out.get (i := 0) rfl).there)) rfl rfl ?_; replace hM := Lib.hid (hM.out.put 0 rfl (m := ptL R) rfl); generalize a6.setCells g3 0 (ptL R) = a7 at *
      refine qac ?_; go_wp2_with fail; refine bodyPost_ret (v := .agg (ptL R).toArray) (qat Tryz.results29 rfl Tryz.underlying49 rfl (szPt _) (hM.out.get (i := 0) rfl).range) rfl ⟨rfl, hM.out.bl⟩
theorem enters_addP : Enters 29 := qao Tryz.func29 (by kernel_rfl) rfl
theorem enters_canon : Enters 60 := qao Tryz.func60 (by kernel_rfl) rfl
theorem enters_neg : Enters 82 := qao Tryz.func82 (by kernel_rfl) rfl
set_option maxHeartbeats 8000000 in
theorem negP_any (p : Pt) (w : World) (hp : p.Nm) (hG : EG w) : Calls Tryz.prog 51 #[.agg (ptL p).toArray] w fun e w' => e = .returned (.agg (ptL (negP p)).toArray) ∧ Below w.heap.size w w' := by
  have hM := Lib.hid (Mv.nil w)
  have HG := Lib.hid hG; clear hG
  have H1 : Hid (onB p = false → negP p = nonePt) := Lib.hid fun h => by unfold negP; rw [h]; rfl
  have H2 : Hid (onB p = true → negP p = ⟨-p.x % pp, p.y % pp⟩) := Lib.hid fun h => by unfold negP; rw [h]; rfl
  generalize negP p = R at *
  obtain ⟨b1, hb1⟩ : ∃ b, b = onB p := ⟨_, rfl⟩
  have C1 : Hid (∀ u, EG u → Calls Tryz.prog 52 #[.agg (ptL p).toArray] u fun e w' => e = .returned (.bool b1) ∧ Below u.heap.size u w') := Lib.hid fun u hu => by rw [hb1]; exact on_any p u hp hu
  rw [← hb1] at H1 H2
  clear hb1
  go_enter Tryz.func51, Tryz.ntmps51
  go_upto_region 0 with fail; refine wp_region_lit ?_
  refine qaa (qbf (vs := ptL p) rfl rfl) rfl ?_; (try simp only [Act.put, lyy]); replace hM := Lib.hid (hM.out.new (ptL p) 49); generalize w.alloc (.cells (ptL p).toArray 49) = a1 at *; generalize w.heap.size = g1 at *
  refine qaa (qar (vs := zq 8) rfl (by kernel_rfl)) rfl ?_; (try simp only [Act.put, lyy]); replace hM := Lib.hid (hM.out.new (zq 8) 49); generalize a1.alloc (.cells (zq 8).toArray 49) = a2 at *; generalize a1.heap.size = g2 at *
  refine qac ?_
  go_upto_region 1 with fail; refine wp_region_lit ?_
  refine qaa (qah (vs := ptL p) rfl Tryz.underlying49 rfl (szPt _) rfl ((hM.out.get (i := 1) rfl).range)) rfl ?_; (try simp only [Act.put, lyy])
  refine qai (qaj enters_on rfl rfl rfl) rfl (C1.out _ (HG.out.below hM.out.bl)) (fun a3 hb => ?_); (try simp only [Act.put, lyy]); replace hM := Lib.hid (hM.out.below hb); clear hb
  cases b1
  · have e := H1.out rfl
    subst e
    refine qaa (qcd rfl rfl) rfl ?_; (try simp only [Act.put, lyy])
    refine qac ?_
    go_upto_region 2 with fail; refine wp_region_lit ?_
    refine qai (qbz qc3 rfl rfl) rfl (nothing_any _) (fun a5 hb => ?_); (try simp only [Act.put, lyy]); replace hM := Lib.hid (hM.out.below hb); clear hb
    refine qae (qaq (vs := ptL nonePt) rfl (szPt _) rfl rfl (onePt _) ((hM.out.get (i := 0) rfl).there)) rfl rfl ?_; replace hM := Lib.hid (hM.out.put 0 rfl (m := ptL nonePt) rfl); generalize a5.setCells g2 0 (ptL nonePt) = a6 at *
    refine qac ?_; go_wp2_with fail; refine bodyPost_ret (v := .agg (ptL nonePt).toArray) (qat Tryz.results51 rfl Tryz.underlying49 rfl (szPt _) (hM.out.get (i := 0) rfl).range) rfl ⟨rfl, hM.out.bl⟩
  · have e := H2.out rfl
    subst e
    refine qaa (qcd rfl rfl) rfl ?_; (try simp only [Act.put, lyy])
    refine qac ?_
    go_upto_region 3 with fail; refine qau 7 (by kernel_rfl) (by kernel_rfl) ?_
    refine qab _ (fun V hV => qad (qbh (s := 3) (k := 0) rfl Tryz.underlying49 rfl (by kernel_rfl) rfl rfl)) ?_; (try simp only [Act.put, lyy])
    refine qab _ (fun V hV => qad (qah (vs := feL p.x) rfl Tryz.underlying47 rfl (szFe _) rfl (pt_x ((hM.out.below hV).get (i := 1) rfl)))) ?_; (try simp only [Act.put, lyy])
    refine qab _ (fun V hV => qak (qaj enters_neg rfl rfl rfl) (neg_any p.x V hp.1 (HG.out.below (hM.out.below hV).bl).O)) ?_; (try simp only [Act.put, lyy])
    refine qab _ (fun V hV => qad (qbh (s := 3) (k := 4) rfl Tryz.underlying49 rfl (by kernel_rfl) rfl rfl)) ?_; (try simp only [Act.put, lyy])
    refine qab _ (fun V hV => qad (qah (vs := feL p.y) rfl Tryz.underlying47 rfl (szFe _) rfl (pt_y ((hM.out.below hV).get (i := 1) rfl)))) ?_; (try simp only [Act.put, lyy])
    refine qab _ (fun V hV => qak (qaj enters_canon rfl rfl rfl) (canon_any p.y V hp.2 (HG.out.below (hM.out.below hV).bl).O)) ?_; (try simp only [Act.put, lyy])
    refine qab _ (fun V hV => qad (run_bld2 rfl rfl rfl (built_pt (-p.x % pp) (p.y % pp)))) ?_; (try simp only [Act.put, lyy])
    refine qav ?_; intro a4 hb; simp only [List.drop_succ_cons, List.drop_zero]
    replace hM := Lib.hid (hM.out.below hb)
    clear hb
    refine qae (qaq (vs := ptL ⟨-p.x % pp, p.y % pp⟩) rfl (szPt _) rfl rfl (onePt _) ((hM.out.get (i := 0) rfl).there)) rfl rfl ?_; replace hM := Lib.hid (hM.out.put 0 rfl (m := ptL ⟨-p.x % pp, p.y % pp⟩) rfl); generalize a4.setCells g2 0 (ptL ⟨-p.x % pp, p.y % pp⟩) = a5 at *
    refine qac ?_; go_wp2_with fail; refine bodyPost_ret (v := .agg (ptL ⟨-p.x % pp, p.y % pp⟩).toArray) (qat Tryz.results51 rfl Tryz.underlying49 rfl (szPt _) (hM.out.get (i := 0) rfl).range) rfl ⟨rfl, hM.out.bl⟩
theorem enters_negP : Enters 51 := qao Tryz.func51 (by kernel_rfl) rfl
set_option maxHeartbeats 4000000 in
theorem base_any (w : World) (hG : EG w) : Calls Tryz.prog 28 #[] w fun e w' => e = .returned (.agg (ptL bs).toArray) ∧ Below w.heap.size w w' := by
  have hM := Lib.hid (Mv.nil w)
  have HG := Lib.hid hG; clear hG
  obtain ⟨b, hb⟩ : ∃ b, b = bs := ⟨_, rfl⟩
  have HR : Hid (∀ u, EG u → u.rangeAt 1 0 (ptL b)) := Lib.hid fun u hu => by rw [hb]; exact hu.B
  rw [← hb]
  clear hb
  go_enter Tryz.func28, Tryz.ntmps28
  go_upto_region 0 with fail; refine wp_region_lit ?_
  refine qaa (qar (vs := zq 8) rfl (by kernel_rfl)) rfl ?_; (try simp only [Act.put, List.setIfInBounds_toArray, List.set_cons_zero]); replace hM := Lib.hid (hM.out.new (zq 8) 49); generalize w.alloc (.cells (zq 8).toArray 49) = a1 at *; generalize w.heap.size = g1 at *
  refine qac ?_
  go_upto_region 1 with fail; refine wp_region_lit ?_
  refine qaa (qah (vs := ptL b) rfl Tryz.underlying49 rfl (szPt _) rfl (HR.out _ (HG.out.below hM.out.bl))) rfl ?_; (try simp only [Act.put, lyy])
  refine qae (qaq (vs := ptL b) rfl (szPt _) rfl rfl (onePt _) ((hM.out.get (i := 0) rfl).there)) rfl rfl ?_; replace hM := Lib.hid (hM.out.put 0 rfl (m := ptL b) rfl); generalize a1.setCells g1 0 (ptL b) = a2 at *
  refine qac ?_; go_wp2_with fail; refine bodyPost_ret (v := .agg (ptL b).toArray) (qat Tryz.results28 rfl Tryz.underlying49 rfl (szPt _) (hM.out.get (i := 0) rfl).range) rfl ⟨rfl, hM.out.bl⟩
theorem enters_base : Enters 28 := qao Tryz.func28 (by kernel_rfl) rfl
end Go.Proofs.YtfdjmdfaidiliaaGreatDoor
namespace Go.Proofs.YtfdjmdfaidiliaaGreatDoor
open Go.RowKit
set_option maxRecDepth 20000
def zW : Wd := ⟨0, 0, 0, 0⟩
def wsL : List Wd → List Value
  | [] => []
  | W :: l => wdL W ++ wsL l
theorem wdL_len (W : Wd) : (wdL W).length = 16 := rfl
theorem wsL_len : ∀ l : List Wd, (wsL l).length = l.length * 16
  | [] => rfl
  | W :: l => by rw [wsL, List.length_append, wsL_len l, wdL_len, List.length_cons]; omega
theorem wsL_drop : ∀ (l : List Wd) (i : Nat), (wsL l).drop (i * 16) = wsL (l.drop i)
  | l, 0 => by rw [Nat.zero_mul, List.drop_zero, List.drop_zero]
  | [], i + 1 => by simp [wsL]
  | W :: l, i + 1 => by
    rw [List.drop_succ_cons, ← wsL_drop l i, wsL, show (i + 1) * 16 = 16 + i * 16 by omega, ← List.drop_drop, List.drop_left' (wdL_len W)]
theorem wsL_take : ∀ (l : List Wd) (i : Nat), (wsL l).take (i * 16) = wsL (l.take i)
  | l, 0 => by simp [wsL]
  | [], i + 1 => by simp [wsL]
  | W :: l, i + 1 => by
    rw [List.take_succ_cons, wsL, wsL, ← wsL_take l i, show (i + 1) * 16 = (wdL W).length + i * 16 by rw [wdL_len]; omega, List.take_length_add_append]
theorem wsL_append : ∀ a b : List Wd, wsL (a ++ b) = wsL a ++ wsL b
  | [], _ => rfl
  | W :: a, b => by rw [List.cons_append, wsL, wsL_append a b, wsL, List.append_assoc]
theorem wsL_one : ∀ l : List Wd, ∀ v ∈ wsL l, v.oneCell' = true
  | [], v, h => by cases h
  | W :: l, v, h => by
    rw [wsL, List.mem_append] at h
    rcases h with h | h
    · have := oneWd W
      rw [Array.all_eq_true'] at this
      exact this v (by simpa using h)
    · exact wsL_one l v h
theorem ws_get {l : List Wd} {i : Nat} (hi : i < l.length) : ((wsL l).drop (i * 16)).take 16 = wdL (l.getD i zW) := by
  rw [wsL_drop, List.drop_eq_getElem_cons hi, wsL, List.take_left' (wdL_len _)]
  simp [hi]
theorem ws_set {l : List Wd} {i : Nat} (hi : i < l.length) (W : Wd) : (wsL l).take (i * 16) ++ (wdL W ++ (wsL l).drop (i * 16 + (wdL W).length)) = wsL (l.set i W) := by
  rw [wdL_len, show i * 16 + 16 = (i + 1) * 16 by omega, wsL_drop, wsL_take, List.set_eq_take_append_cons_drop, if_pos hi, wsL_append, wsL]
theorem ws_range {g : Nat} {l : List Wd} {u : World} (h : Arr g (wsL l) u) {i : Nat} (hi : i < l.length) : u.rangeAt g (0 + i * 16) (wdL (l.getD i zW)) := by
  rw [← ws_get hi, Nat.zero_add]; exact h.part _ _
theorem ws_there {g : Nat} {l : List Wd} {u : World} (h : Arr g (wsL l) u) {i : Nat} (hi : i < l.length) (W : Wd) : u.there g (0 + i * 16) (wdL W).length := by
  rw [Nat.zero_add]; exact h.thereM (by rw [wsL_len, wdL_len]; omega)
def tblF (f : Nat → Wd) (k j : Nat) : Wd := if j < k then f j else zW
def tbl (f : Nat → Wd) (k : Nat) : List Wd := (List.range 16).map (tblF f k)
theorem tbl_len (f : Nat → Wd) (k : Nat) : (tbl f k).length = 16 := by unfold tbl; rw [List.length_map, List.length_range]
theorem tbl_get (f : Nat → Wd) {k j : Nat} (hj : j < 16) (hk : j < k) : (tbl f k).getD j zW = f j := by
  unfold tbl
  rw [List.getD_eq_getElem?_getD, List.getElem?_map, List.getElem?_range hj]
  simp [tblF, hk]
theorem tbl_q (f : Nat → Wd) (k i : Nat) : (tbl f k)[i]? = if i < 16 then some (tblF f k i) else none := by
  unfold tbl
  rw [List.getElem?_map]
  by_cases h : i < 16
  · rw [List.getElem?_range h, if_pos h]; rfl
  · rw [if_neg h, List.getElem?_eq_none (by rw [List.length_range]; omega)]; rfl
theorem tbl_set (f : Nat → Wd) (k : Nat) : (tbl f k).set k (f k) = tbl f (k + 1) := by
  apply List.ext_getElem?
  intro i
  rw [List.getElem?_set, tbl_q, tbl_q, tbl_len]
  unfold tblF
  by_cases e : k = i
  · subst e
    by_cases h : k < 16
    · simp [h]
    · simp [h]
  · rw [if_neg e]
    by_cases h : i < k
    · rw [if_pos h, if_pos (show i < k + 1 by omega)]
    · rw [if_neg h, if_neg (show ¬ i < k + 1 by omega)]
theorem tbl_one (f : Nat → Wd) : tbl f 1 = f 0 :: List.replicate 15 zW := rfl
theorem built_ws (W : Wd) : Tryz.prog.built 84 [(0, .agg (wdL W).toArray)] = some (wsL (W :: List.replicate 15 zW)).toArray := by kernel_rfl
theorem szWs {l : List Wd} (h : l.length = 16) : (Tryz.prog.info? 84).map (·.size) = some (wsL l).length := by rw [wsL_len, h]; kernel_rfl
theorem oneWs (l : List Wd) : (wsL l).toArray.all (·.oneCell') = true := all_oneCell_toArray (wsL_one l)
def mtab (W : Wd) : Nat → Wd
  | 0 => wwid nonePt
  | i + 1 => wplus (mtab W i) W
theorem none_nm : nonePt.Nm := none_ok.nm
theorem mtab_nm (W : Wd) : ∀ i, (mtab W i).Nm
  | 0 => wwid_nm none_nm
  | _ + 1 => wplus_nm _ _
theorem mtab_rep {W : Wd} {P : Pt} (hW : W.Rep P) (hP : P.On) : ∀ i, (mtab W i).Rep (pmul P i)
  | 0 => by have := rep_widen nonePt; rwa [can_id none_ok] at this
  | i + 1 => rep_plus (mtab_rep hW hP i) hW (qdh hP i) hP
set_option maxHeartbeats 8000000 in
theorem multiples_any (W : Wd) (w : World) (hW : W.Nm) (hG : EG w) : Calls Tryz.prog 55 #[.agg (wdL W).toArray] w fun e w' => e = .returned (.agg (wsL (tbl (mtab W) 16)).toArray) ∧ Below w.heap.size w w' := by
  have hM := Lib.hid (Mv.nil w)
  have HG := Lib.hid hG; clear hG
  obtain ⟨f, hf⟩ : ∃ f, f = mtab W := ⟨_, rfl⟩
  have F0 : Hid (f 0 = wwid nonePt) := Lib.hid (by rw [hf]; rfl)
  have FS : Hid (∀ i, wplus (f i) W = f (i + 1)) := Lib.hid (by rw [hf]; intro i; rfl)
  have FN : Hid (∀ i, (f i).Nm) := Lib.hid (by rw [hf]; exact mtab_nm W)
  rw [← hf]
  clear hf
  have HL := Lib.hid (tbl_len f)
  have HS := Lib.hid (tbl_set f)
  have HT : Hid (∀ {k j : Nat}, j < 16 → j < k → (tbl f k).getD j zW = f j) := Lib.hid (fun h1 h2 => tbl_get f h1 h2)
  have H1 : Hid (wsL (wwid nonePt :: List.replicate 15 zW) = wsL (tbl f 1)) := Lib.hid (by rw [tbl_one, F0.out])
  obtain ⟨tb, htb⟩ : ∃ tb, tb = tbl f := ⟨_, rfl⟩
  rw [← htb] at HL HS HT H1 ⊢
  clear htb
  have BW := Lib.hid (built_ws (wwid nonePt))
  rw [H1.out] at BW
  have BT := Lib.hid (szWs (HL.out 1))
  have BO := Lib.hid (oneWs (tb 1))
  go_enter Tryz.func55, Tryz.ntmps55
  go_upto_region 0 with fail; refine wp_region_lit ?_
  refine qaa (qbf (vs := wdL W) rfl rfl) rfl ?_; (try simp only [Act.put, lyy]); replace hM := Lib.hid (hM.out.new (wdL W) 83); generalize w.alloc (.cells (wdL W).toArray 83) = a1 at *; generalize w.heap.size = g1 at *
  refine qaa (qar (vs := zq 256) rfl (by kernel_rfl)) rfl ?_; (try simp only [Act.put, lyy]); replace hM := Lib.hid (hM.out.new (zq 256) 84); generalize a1.alloc (.cells (zq 256).toArray 84) = a2 at *; generalize a1.heap.size = g2 at *
  refine qac ?_
  go_upto_region 1 with fail; refine wp_region_lit ?_
  refine qai (qbz qc3 rfl rfl) rfl (nothing_any _) (fun a3 hb => ?_); (try simp only [Act.put, lyy]); replace hM := Lib.hid (hM.out.below hb); clear hb
  refine qai (qaj enters_widen rfl rfl rfl) rfl (widen_any nonePt _ none_nm (HG.out.below hM.out.bl)) (fun a4 hb => ?_); (try simp only [Act.put, lyy]); replace hM := Lib.hid (hM.out.below hb); clear hb
  refine qaa (run_bld1 rfl rfl BW.out) rfl ?_; (try simp only [Act.put, lyy])
  refine qaa (qar (vs := zq 256) rfl (by kernel_rfl)) rfl ?_; (try simp only [Act.put, lyy]); replace hM := Lib.hid (hM.out.new (zq 256) 84); generalize a4.alloc (.cells (zq 256).toArray 84) = a5 at *; generalize a4.heap.size = g3 at *
  have L1 : Hid ((wsL (tb 1)).length = (zq 256).length) := Lib.hid (by rw [wsL_len, HL.out]; rfl)
  refine qae (qaq (vs := wsL (tb 1)) rfl BT.out rfl rfl BO.out (by rw [L1.out]; exact (hM.out.get (i := 0) rfl).there)) rfl rfl ?_
  refine qac ?_
  replace hM := Lib.hid (hM.out.put 0 rfl (m := wsL (tb 1)) L1.out)
  generalize a5.setCells g3 0 (wsL (tb 1)) = a6 at *
  clear BW BT BO L1
  go_wp2_with fail
  go_loopw [8] (fun s u => ∃ n : Nat, n ≤ 15 ∧ s = .int .i64 (n : Int) ∧ Mv w [(g3, wsL (tb (n + 1))), (g2, zq 256), (g1, wdL W)] u) (fun s _ => (15 - intOf s).toNat)
  case atStart => exact ⟨0, by omega, rfl, hM.out⟩
  case round =>
    obtain ⟨n, hn, rfl, hJ⟩ := hrel
    replace hM := Lib.hid hJ
    clear hJ
    by_cases hlt : n = 15
    · subst hlt
      have hk1 : ¬ (((15 : Nat) : Int) < 15) := by omega
      have BT := Lib.hid (szWs (HL.out 16))
      have BO := Lib.hid (oneWs (tb 16))
      have L1 : Hid ((wsL (tb 16)).length = (zq 256).length) := Lib.hid (by rw [wsL_len, HL.out]; rfl)
      go_upto_region 7 with fail; refine wp_region_lit ?_
      refine qaa (qah (vs := wsL (tb 16)) rfl Tryz.underlying84 rfl BT.out rfl (hM.out.get (i := 0) rfl).range) rfl ?_; (try simp only [Act.put, lyy])
      refine qae (qaq (vs := wsL (tb 16)) rfl BT.out rfl rfl BO.out (by rw [L1.out]; exact (hM.out.get (i := 1) rfl).there)) rfl rfl ?_
      replace hM := Lib.hid (hM.out.put 1 rfl (m := wsL (tb 16)) L1.out)
      refine qac ?_
      go_wp2_with fail
      exact bodyPost_ret (v := .agg (wsL (tb 16)).toArray) (qat Tryz.results55 rfl Tryz.underlying84 rfl BT.out (hM.out.get (i := 1) rfl).range) rfl ⟨rfl, hM.out.bl⟩
    · have hk1 : (n : Int) < 15 := by omega
      have hl := HL.out (n + 1)
      have HR : Hid (∀ V, Arr g3 (wsL (tb (n + 1))) V → V.rangeAt g3 (0 + n * 16) (wdL (f n))) := Lib.hid fun V hV => by
        have := ws_range hV (i := n) (by omega)
        rwa [HT.out (by omega) (by omega)] at this
      have HP : Hid (∀ V, Arr g3 (wsL (tb (n + 1))) V → V.there g3 (0 + (n + 1) * 16) (wdL (f (n + 1))).length) := Lib.hid fun V hV => ws_there hV (i := n + 1) (by omega) _
      go_upto_region 4 with fail; refine wp_region_lit ?_
      refine qaa (qaf (v := .int _ _) rfl rfl) rfl ?_; (try simp only [Act.put, lyy]); refine qaa (qag (v := .int _ _) rfl rfl) rfl ?_; (try simp only [Act.put, lyy])
      refine qac ?_
      go_upto_region 5 with fail; refine qau 8 (by kernel_rfl) (by kernel_rfl) ?_
      refine qab _ (fun V hV => qad (qaf (v := .int _ _) rfl rfl)) ?_; (try simp only [Act.put, lyy])
      refine qab _ (fun V hV => qad (run_addN (a := n) (b := 1) rfl rfl rfl (by omega))) ?_; (try simp only [Act.put, lyy])
      refine qab _ (fun V hV => qad (qaf (v := .int _ _) rfl rfl)) ?_; (try simp only [Act.put, lyy])
      refine qab _ (fun V hV => qad (run_ixN (s := 16) (i := n) rfl Tryz.underlying84 (by kernel_rfl) rfl rfl (by omega))) ?_; (try simp only [Act.put, lyy])
      refine qab _ (fun V hV => qad (qah (vs := wdL (f n)) rfl Tryz.underlying83 rfl (szWd _) rfl (HR.out V ((hM.out.below hV).get (i := 0) rfl)))) ?_; (try simp only [Act.put, lyy])
      refine qab _ (fun V hV => qad (qah (vs := wdL W) rfl Tryz.underlying83 rfl (szWd _) rfl ((hM.out.below hV).get (i := 2) rfl).range)) ?_; (try simp only [Act.put, lyy])
      refine qab _ (fun V hV => qak (qam enters_plus rfl rfl rfl rfl) (plus_any (f n) W V (FN.out n) hW (HG.out.below (hM.out.below hV).bl))) ?_; (try simp only [Act.put, lyy])
      refine qab _ (fun V hV => qad (run_ixN (s := 16) (i := n + 1) rfl Tryz.underlying84 (by kernel_rfl) rfl rfl (by omega))) ?_; (try simp only [Act.put, lyy])
      refine qav ?_; intro a7 hb; simp only [List.drop_succ_cons, List.drop_zero]
      replace hM := Lib.hid (hM.out.below hb)
      clear hb
      rw [FS.out n]
      refine qae (qaq (vs := wdL (f (n + 1))) rfl (szWd _) rfl rfl (oneWd _) (HP.out _ (hM.out.get (i := 0) rfl))) rfl rfl ?_
      refine qac ?_
      have hM2 : Hid (Mv w [(g3, wsL (tb (n + 1 + 1))), (g2, zq 256), (g1, wdL W)] (a7.setCells g3 (0 + (n + 1) * 16) (wdL (f (n + 1))))) := Lib.hid (by
        have h := hM.out.mid 0 rfl (f := 0 + (n + 1) * 16) (m := wdL (f (n + 1))) (by rw [wsL_len, hl, wdL_len]; omega)
        have e := ws_set (l := tb (n + 1)) (i := n + 1) (by omega) (f (n + 1))
        rw [HS.out] at e
        rw [Nat.zero_add] at h ⊢
        rw [e] at h
        exact h)
      generalize a7.setCells g3 (0 + (n + 1) * 16) (wdL (f (n + 1))) = a8 at *
      clear hM
      go_wp2_with fail
      exact ⟨⟨n + 1, by omega, by go_num, hM2.out⟩, by simp [intOf]; omega⟩
theorem enters_multiples : Enters 55 := qao Tryz.func55 (by kernel_rfl) rfl
end Go.Proofs.YtfdjmdfaidiliaaGreatDoor
namespace Go.Proofs.YtfdjmdfaidiliaaGreatDoor
open Go.RowKit
set_option maxRecDepth 20000
def dig (l : List (BitVec 8)) (i : Nat) : BitVec 8 := (l.getD (31 - i / 2) 0 >>> (4 - i % 2 * 4)) &&& 15
def topN (l : List (BitVec 8)) : Nat → Nat
  | 0 => 0
  | i + 1 => 16 * topN l i + (dig l i).toNat
theorem nib_hi : ∀ b : BitVec 8, ((b >>> 4) &&& 15).toNat = b.toNat / 16 := by decide +kernel
theorem nib_lo : ∀ b : BitVec 8, ((b >>> 0) &&& 15).toNat = b.toNat % 16 := by decide +kernel
theorem nib_lt : ∀ b : BitVec 8, (b &&& 15).toNat < 16 := by decide +kernel
theorem topN_even {l : List (BitVec 8)} (hl : l.length = 32) : ∀ k, k ≤ 32 → topN l (2 * k) = leB (l.drop (32 - k))
  | 0, _ => by rw [Nat.sub_zero, List.drop_of_length_le (by omega)]; rfl
  | k + 1, h => by
    have ih := topN_even hl k (by omega)
    have e : l.drop (32 - (k + 1)) = l.getD (31 - k) 0 :: l.drop (32 - k) := by
      rw [show 32 - (k + 1) = 31 - k by omega, List.drop_eq_getElem_cons (by omega), show 31 - k + 1 = 32 - k by omega]
      simp [show 31 - k < l.length by omega]
    have d0 : (dig l (2 * k)).toNat = (l.getD (31 - k) 0).toNat / 16 := by
      unfold dig
      rw [show 2 * k / 2 = k by omega, show 2 * k % 2 = 0 by omega]
      exact nib_hi _
    have d1 : (dig l (2 * k + 1)).toNat = (l.getD (31 - k) 0).toNat % 16 := by
      unfold dig
      rw [show (2 * k + 1) / 2 = k by omega, show (2 * k + 1) % 2 = 1 by omega]
      exact nib_lo _
    rw [show 2 * (k + 1) = 2 * k + 1 + 1 by omega, topN, topN, ih, e, leB, d0, d1]
    omega
theorem topN_all {l : List (BitVec 8)} (hl : l.length = 32) : topN l 64 = leB l := by
  have := topN_even hl 32 (Nat.le_refl _)
  simpa using this
section
variable {w : World} {ρ : Operand → Value} {o : Oper} {t t' : TypeId} {x y : Operand}
theorem run_shr8k {k : IntKind} {a : BitVec 8} {n : Nat} (ho : o.op = .binOp .shr t x y t') (hx : ρ x = b8 a) (hy : ρ y = .int k (n : Int)) (hn : n ≤ 8) : (execOp ρ o).run Tryz.prog w = .ok (.value (b8 (a >>> n))) w := by
  obtain ⟨dst, op, type, pos, after, guard⟩ := o
  subst ho
  unfold b8 at *
  have e : (a.toNat : Int) / 2 ^ n = (((a >>> n).toNat : Nat) : Int) := by
    rw [BitVec.toNat_ushiftRight, Nat.shiftRight_eq_div_pow]; simp
  generalize (a >>> n).toNat = z at *
  have hn0 : (0 : Int) ≤ (n : Int) := by omega
  go_simp
  try exact e
end
theorem mul_end {p : Pt} (h : onB p = true) {l : List (BitVec 8)} (hl : l.length = 32) {W : Wd} (hW : W.Rep (pmul p.can (topN l 64))) : wnar W = mulP (leB l) p := by
  rw [topN_all hl] at hW
  unfold mulP
  rw [h, if_pos rfl]
  exact wnar_eq hW (qdi _ _)
set_option maxHeartbeats 16000000 in
theorem mulP_any (l : List (BitVec 8)) (p : Pt) (w : World) (hl : l.length = 32) (hp : p.Nm) (hG : EG w) : Calls Tryz.prog 27 #[.agg (l.map b8).toArray, .agg (ptL p).toArray] w fun e w' => e = .returned (.agg (ptL (mulP (leB l) p)).toArray) ∧ Below w.heap.size w w' := by
  have hM := Lib.hid (Mv.nil w)
  have HG := Lib.hid hG; clear hG
  have H1 : Hid (onB p = false → mulP (leB l) p = nonePt) := Lib.hid fun h => by unfold mulP; rw [h]; rfl
  have H2 : Hid (onB p = true → ∀ W : Wd, W.Rep (pmul p.can (topN l 64)) → wnar W = mulP (leB l) p) := Lib.hid fun h W hW => mul_end h hl hW
  generalize mulP (leB l) p = R at *
  obtain ⟨b1, hb1⟩ : ∃ b, b = onB p := ⟨_, rfl⟩
  have C1 : Hid (∀ u, EG u → Calls Tryz.prog 52 #[.agg (ptL p).toArray] u fun e w' => e = .returned (.bool b1) ∧ Below u.heap.size u w') := Lib.hid fun u hu => by rw [hb1]; exact on_any p u hp hu
  have HO : Hid (b1 = true → p.can.On) := Lib.hid fun h => can_on ((onB_iff p).1 (by rw [← hb1, h]))
  rw [← hb1] at H1 H2
  clear hb1
  go_enter Tryz.func27, Tryz.ntmps27
  go_upto_region 0 with fail; refine wp_region_lit ?_
  refine qaa (qbf (vs := l.map b8) rfl rfl) rfl ?_; (try simp only [Act.put, lyy]); replace hM := Lib.hid (hM.out.new (l.map b8) 23); generalize w.alloc (.cells (l.map b8).toArray 23) = a1 at *; generalize w.heap.size = g1 at *
  refine qaa (qbf (vs := ptL p) rfl rfl) rfl ?_; (try simp only [Act.put, lyy]); replace hM := Lib.hid (hM.out.new (ptL p) 49); generalize a1.alloc (.cells (ptL p).toArray 49) = a2 at *; generalize a1.heap.size = g2 at *
  refine qaa (qar (vs := zq 8) rfl (by kernel_rfl)) rfl ?_; (try simp only [Act.put, lyy]); replace hM := Lib.hid (hM.out.new (zq 8) 49); generalize a2.alloc (.cells (zq 8).toArray 49) = a3 at *; generalize a2.heap.size = g3 at *
  refine qac ?_
  go_upto_region 1 with fail; refine wp_region_lit ?_
  refine qaa (qah (vs := ptL p) rfl Tryz.underlying49 rfl (szPt _) rfl ((hM.out.get (i := 1) rfl).range)) rfl ?_; (try simp only [Act.put, lyy])
  refine qai (qaj enters_on rfl rfl rfl) rfl (C1.out _ (HG.out.below hM.out.bl)) (fun a4 hb => ?_); (try simp only [Act.put, lyy]); replace hM := Lib.hid (hM.out.below hb); clear hb
  cases b1
  · have e := H1.out rfl
    subst e
    refine qaa (qcd rfl rfl) rfl ?_; (try simp only [Act.put, lyy])
    refine qac ?_
    go_upto_region 2 with fail; refine wp_region_lit ?_
    refine qai (qbz qc3 rfl rfl) rfl (nothing_any _) (fun a5 hb => ?_); (try simp only [Act.put, lyy]); replace hM := Lib.hid (hM.out.below hb); clear hb
    refine qae (qaq (vs := ptL nonePt) rfl (szPt _) rfl rfl (onePt _) ((hM.out.get (i := 0) rfl).there)) rfl rfl ?_; replace hM := Lib.hid (hM.out.put 0 rfl (m := ptL nonePt) rfl); generalize a5.setCells g3 0 (ptL nonePt) = a6 at *
    refine qac ?_; go_wp2_with fail; refine bodyPost_ret (v := .agg (ptL nonePt).toArray) (qat Tryz.results27 rfl Tryz.underlying49 rfl (szPt _) (hM.out.get (i := 0) rfl).range) rfl ⟨rfl, hM.out.bl⟩
  · refine qaa (qcd rfl rfl) rfl ?_; (try simp only [Act.put, lyy])
    refine qac ?_
    have hO := HO.out rfl
    replace H2 := Lib.hid (H2.out rfl)
    have hwn := wwid_nm hp
    obtain ⟨f, hf⟩ : ∃ f, f = mtab (wwid p) := ⟨_, rfl⟩
    have FN : Hid (∀ i, (f i).Nm) := Lib.hid (by rw [hf]; exact mtab_nm _)
    have FR : Hid (∀ i, (f i).Rep (pmul p.can i)) := Lib.hid (by rw [hf]; exact mtab_rep (rep_widen p) hO)
    obtain ⟨tb, htb⟩ : ∃ tb, tb = tbl f 16 := ⟨_, rfl⟩
    have TL : Hid (tb.length = 16) := Lib.hid (by rw [htb, tbl_len])
    have TG : Hid (∀ {j : Nat}, j < 16 → tb.getD j zW = f j) := Lib.hid (by rw [htb]; exact fun h => tbl_get f h h)
    have CM : Hid (∀ u, EG u → Calls Tryz.prog 55 #[.agg (wdL (wwid p)).toArray] u fun e w' => e = .returned (.agg (wsL tb).toArray) ∧ Below u.heap.size u w') := Lib.hid fun u hu => by rw [htb, hf]; exact multiples_any _ u hwn hu
    clear htb hf
    obtain ⟨P, hP⟩ : ∃ P : Nat → Pt, P = fun i => pmul p.can i := ⟨_, rfl⟩
    have PO : Hid (∀ i, (P i).On) := Lib.hid (by rw [hP]; exact qdh hO)
    have PA : Hid (∀ m n, padd (P m) (P n) = P (m + n)) := Lib.hid (by rw [hP]; exact fun m n => (pmul_add hO m n).symm)
    have FP : Hid (∀ i, (f i).Rep (P i)) := Lib.hid (by rw [hP]; exact FR.out)
    have HE : Hid (∀ W : Wd, W.Rep (P (topN l 64)) → wnar W = R) := Lib.hid (by rw [hP]; exact H2.out)
    clear hP FR H2 H1 HO C1
    have BT := Lib.hid (szWs TL.out)
    have BO := Lib.hid (oneWs tb)
    go_upto_region 3 with fail; refine wp_region_lit ?_
    refine qaa (qah (vs := ptL p) rfl Tryz.underlying49 rfl (szPt _) rfl ((hM.out.get (i := 1) rfl).range)) rfl ?_; (try simp only [Act.put, lyy])
    refine qai (qaj enters_widen rfl rfl rfl) rfl (widen_any p _ hp (HG.out.below hM.out.bl)) (fun a5 hb => ?_); (try simp only [Act.put, lyy]); replace hM := Lib.hid (hM.out.below hb); clear hb
    refine qai (qaj enters_multiples rfl rfl rfl) rfl (CM.out _ (HG.out.below hM.out.bl)) (fun a6 hb => ?_); (try simp only [Act.put, lyy]); replace hM := Lib.hid (hM.out.below hb); clear hb
    refine qaa (qar (vs := zq 256) rfl (by kernel_rfl)) rfl ?_; (try simp only [Act.put, lyy]); replace hM := Lib.hid (hM.out.new (zq 256) 84); generalize a6.alloc (.cells (zq 256).toArray 84) = a7 at *; generalize a6.heap.size = g4 at *
    have L1 : Hid ((wsL tb).length = (zq 256).length) := Lib.hid (by rw [wsL_len, TL.out]; rfl)
    refine qae (qaq (vs := wsL tb) rfl BT.out rfl rfl BO.out (by rw [L1.out]; exact (hM.out.get (i := 0) rfl).there)) rfl rfl ?_
    refine qac ?_
    replace hM := Lib.hid (hM.out.put 0 rfl (m := wsL tb) L1.out)
    generalize a7.setCells g4 0 (wsL tb) = a8 at *
    clear BT BO L1 CM
    have R0 : Hid (∀ V, Arr g4 (wsL tb) V → ∀ {j : Nat}, j < 16 → V.rangeAt g4 (0 + j * 16) (wdL (f j))) := Lib.hid fun V hV j hj => by
      have := ws_range hV (i := j) (by rw [TL.out]; exact hj)
      rwa [TG.out hj] at this
    go_upto_region 4 with fail; refine wp_region_lit ?_
    refine qaa (run_ixN (s := 16) (i := 0) rfl Tryz.underlying84 (by kernel_rfl) rfl rfl (by omega)) rfl ?_; (try simp only [Act.put, lyy])
    refine qaa (qah (vs := wdL (f 0)) rfl Tryz.underlying83 rfl (szWd _) rfl (R0.out _ (hM.out.get (i := 0) rfl) (by omega))) rfl ?_; (try simp only [Act.put, lyy])
    refine qaa (qar (vs := zq 16) rfl (by kernel_rfl)) rfl ?_; (try simp only [Act.put, lyy]); replace hM := Lib.hid (hM.out.new (zq 16) 83); generalize a8.alloc (.cells (zq 16).toArray 83) = a9 at *; generalize a8.heap.size = g5 at *
    refine qae (qaq (vs := wdL (f 0)) rfl (szWd _) rfl rfl (oneWd _) ((hM.out.get (i := 0) rfl).there)) rfl rfl ?_; replace hM := Lib.hid (hM.out.put 0 rfl (m := wdL (f 0)) rfl); generalize a9.setCells g5 0 (wdL (f 0)) = a10 at *
    refine qac ?_
    go_wp2_with fail
    go_loopw [18] (fun s u => ∃ (n : Nat) (W : Wd), n ≤ 64 ∧ s = .int .i64 (n : Int) ∧ W.Nm ∧ W.Rep (P (topN l n)) ∧ Mv w [(g5, wdL W), (g4, wsL tb), (g3, zq 8), (g2, ptL p), (g1, l.map b8)] u) (fun s _ => (64 - intOf s).toNat)
    case atStart => exact ⟨0, f 0, by omega, rfl, FN.out 0, FP.out 0, hM.out⟩
    case round =>
      obtain ⟨n, W, hn, rfl, hWn, hWr, hJ⟩ := hrel
      replace hM := Lib.hid hJ
      have HR := Lib.hid hWr
      clear hJ hWr
      by_cases hlt : n = 64
      · subst hlt
        have hk1 : ¬ (((64 : Nat) : Int) < 64) := by omega
        have hw := HE.out W HR.out
        go_upto_region 15 with fail; refine wp_region_lit ?_
        refine qaa (qah (vs := wdL W) rfl Tryz.underlying83 rfl (szWd _) rfl ((hM.out.get (i := 0) rfl).range)) rfl ?_; (try simp only [Act.put, lyy])
        refine qai (qaj enters_nrw rfl rfl rfl) rfl (nrw_any W _ hWn (HG.out.below hM.out.bl)) (fun b1 hb => ?_); (try simp only [Act.put, lyy]); replace hM := Lib.hid (hM.out.below hb); clear hb
        rw [hw]
        refine qae (qaq (vs := ptL R) rfl (szPt _) rfl rfl (onePt _) ((hM.out.get (i := 2) rfl).there)) rfl rfl ?_; replace hM := Lib.hid (hM.out.put 2 rfl (m := ptL R) rfl); generalize b1.setCells g3 0 (ptL R) = b2 at *
        refine qac ?_; go_wp2_with fail; refine bodyPost_ret (v := .agg (ptL R).toArray) (qat Tryz.results27 rfl Tryz.underlying49 rfl (szPt _) (hM.out.get (i := 2) rfl).range) rfl ⟨rfl, hM.out.bl⟩
      · have hk1 : (n : Int) < 64 := by omega
        go_upto_region 7 with fail; refine wp_region_lit ?_
        refine qaa (qaf (v := .int _ _) rfl rfl) rfl ?_; (try simp only [Act.put, lyy]); refine qaa (qag (v := .int _ _) rfl rfl) rfl ?_; (try simp only [Act.put, lyy])
        refine qac ?_
        generalize hk : topN l n = k at *
        have HK := Lib.hid hk; clear hk
        go_wp2_with fail
        go_loopw [21] (fun s u => ∃ (m : Nat) (Yw : Wd), m ≤ 4 ∧ s = .int .i64 (m : Int) ∧ Yw.Nm ∧ Yw.Rep (P (2 ^ m * k)) ∧ Mv w [(g5, wdL Yw), (g4, wsL tb), (g3, zq 8), (g2, ptL p), (g1, l.map b8)] u) (fun s _ => (4 - intOf s).toNat)
        case atStart => exact ⟨0, W, by omega, rfl, hWn, by rw [Nat.pow_zero, Nat.one_mul]; exact HR.out, hM.out⟩
        case round =>
          obtain ⟨m, Yw, hm, rfl, hVn, hVr, hJ⟩ := hrel
          replace hM := Lib.hid hJ
          have HV := Lib.hid hVr
          clear hJ hVr
          by_cases hlm : m = 4
          · subst hlm
            have hk2 : ¬ (((4 : Nat) : Int) < 4) := by omega
            have hx31 : 31 - n / 2 < l.length := by rw [hl]; omega
            have hd := nib_lt (l.getD (31 - n / 2) 0 >>> (4 - n % 2 * 4))
            have HD : Hid (dig l n = (l.getD (31 - n / 2) 0 >>> (4 - n % 2 * 4)) &&& 15) := Lib.hid rfl
            go_upto_region 12 with fail; refine wp_region_lit ?_
            refine qaa (qaf (v := .int _ _) rfl rfl) rfl ?_; (try simp only [Act.put, lyy])
            refine qaa (run_quoN (b := 2) rfl rfl rfl (by omega) (by omega)) rfl ?_; (try simp only [Act.put, lyy])
            refine qaa (run_subN (a := 31) rfl rfl rfl (by omega) (by omega)) rfl ?_; (try simp only [Act.put, lyy])
            refine qaa (qay rfl Tryz.underlying23 (by kernel_rfl) rfl rfl (by omega)) rfl ?_; (try simp only [Act.put, lyy])
            refine qaa (qby rfl rfl ((hM.out.get (i := 4) rfl).c _ _ (qa5 b8 0 hx31))) rfl ?_; (try simp only [Act.put, lyy])
            refine qaa (qaf (v := .int _ _) rfl rfl) rfl ?_; (try simp only [Act.put, lyy])
            refine qaa (qdf (b := 2) rfl rfl rfl (by omega)) rfl ?_; (try simp only [Act.put, lyy])
            refine qaa (run_mulN (b := 4) rfl rfl rfl (by omega)) rfl ?_; (try simp only [Act.put, lyy])
            refine qaa (run_subN (a := 4) rfl rfl rfl (by omega) (by omega)) rfl ?_; (try simp only [Act.put, lyy])
            refine qaa (run_shr8k rfl rfl rfl (by omega)) rfl ?_; (try simp only [Act.put, lyy])
            refine qaa (run_and8 (b := 15) rfl rfl rfl) rfl ?_; (try simp only [Act.put, lyy])
            rw [← HD.out] at hd ⊢
            clear HD
            refine qaa (qag (v := b8 _) rfl rfl) rfl ?_; (try simp only [Act.put, lyy])
            refine qac ?_
            have HN : Hid (topN l (n + 1) = 16 * k + (dig l n).toNat) := Lib.hid (by rw [topN, HK.out])
            generalize dig l n = d at *
            go_upto_region 13 with fail; refine qau 5 (by kernel_rfl) (by kernel_rfl) ?_
            refine qab _ (fun V hV => qad (qah (vs := wdL Yw) rfl Tryz.underlying83 rfl (szWd _) rfl ((hM.out.below hV).get (i := 0) rfl).range)) ?_; (try simp only [Act.put, lyy])
            refine qab _ (fun V hV => qad (qaf (v := b8 d) rfl rfl)) ?_; (try simp only [Act.put, lyy])
            refine qab _ (fun V hV => qad (run_ixN (s := 16) (i := d.toNat) rfl Tryz.underlying84 (by kernel_rfl) rfl rfl hd)) ?_; (try simp only [Act.put, lyy])
            refine qab _ (fun V hV => qad (qah (vs := wdL (f d.toNat)) rfl Tryz.underlying83 rfl (szWd _) rfl (R0.out _ ((hM.out.below hV).get (i := 1) rfl) hd))) ?_; (try simp only [Act.put, lyy])
            refine qab _ (fun V hV => qak (qam enters_plus rfl rfl rfl rfl) (plus_any Yw (f d.toNat) _ hVn (FN.out _) (HG.out.below (hM.out.below hV).bl))) ?_; (try simp only [Act.put, lyy])
            refine qav ?_; intro b3 hb; simp only [List.drop_succ_cons, List.drop_zero]
            replace hM := Lib.hid (hM.out.below hb)
            clear hb
            have hrep : Hid ((wplus Yw (f d.toNat)).Rep (P (topN l (n + 1)))) := Lib.hid (by
              have := rep_plus HV.out (FP.out d.toNat) (PO.out _) (PO.out _)
              rw [PA.out] at this
              rw [HN.out]
              exact this)
            have hnm := wplus_nm Yw (f d.toNat)
            generalize wplus Yw (f d.toNat) = Z at *
            refine qae (qaq (vs := wdL Z) rfl (szWd _) rfl rfl (oneWd _) ((hM.out.get (i := 0) rfl).there)) rfl rfl ?_; replace hM := Lib.hid (hM.out.put 0 rfl (m := wdL Z) rfl); generalize b3.setCells g5 0 (wdL Z) = b4 at *
            refine qac ?_
            go_wp2_with fail
            exact ⟨⟨n + 1, Z, by omega, by go_num, hnm, hrep.out, hM.out⟩, by simp [intOf]; omega⟩
          · have hk2 : (m : Int) < 4 := by omega
            go_upto_region 10 with fail; refine wp_region_lit ?_
            refine qaa (qah (vs := wdL Yw) rfl Tryz.underlying83 rfl (szWd _) rfl ((hM.out.get (i := 0) rfl).range)) rfl ?_; (try simp only [Act.put, lyy])
            refine qaa (qah (vs := wdL Yw) rfl Tryz.underlying83 rfl (szWd _) rfl ((hM.out.get (i := 0) rfl).range)) rfl ?_; (try simp only [Act.put, lyy])
            refine qai (qam enters_plus rfl rfl rfl rfl) rfl (plus_any Yw Yw _ hVn hVn (HG.out.below hM.out.bl)) (fun b3 hb => ?_); (try simp only [Act.put, lyy]); replace hM := Lib.hid (hM.out.below hb); clear hb
            have hrep : Hid ((wplus Yw Yw).Rep (P (2 ^ (m + 1) * k))) := Lib.hid (by
              have := rep_plus HV.out HV.out (PO.out _) (PO.out _)
              rw [PA.out] at this
              rw [Nat.pow_succ, show 2 ^ m * 2 * k = 2 ^ m * k + 2 ^ m * k by rw [Nat.mul_right_comm]; omega]
              exact this)
            have hnm := wplus_nm Yw Yw
            generalize wplus Yw Yw = Z at *
            refine qae (qaq (vs := wdL Z) rfl (szWd _) rfl rfl (oneWd _) ((hM.out.get (i := 0) rfl).there)) rfl rfl ?_; replace hM := Lib.hid (hM.out.put 0 rfl (m := wdL Z) rfl); generalize b3.setCells g5 0 (wdL Z) = b4 at *
            refine qac ?_
            go_wp2_with fail
            exact ⟨⟨m + 1, Z, by omega, by go_num, hnm, hrep.out, hM.out⟩, by simp [intOf]; omega⟩
theorem enters_mulP : Enters 27 := qao Tryz.func27 (by kernel_rfl) rfl
end Go.Proofs.YtfdjmdfaidiliaaGreatDoor
