import Derived.Test.YtcgbgmbnagmohaaDoorLy
import Derived.Test.YtcgbgmbnagmohaaDoorEdEnc
import Derived.Test.YtcgbgmbnagmohaaDoorEdRes
namespace Go.Proofs.YtcgbgmbnagmohaaDoor
open Go.RowKit
set_option maxRecDepth 20000
def dU (Y : Int) : Int := (Y * Y % pp - 1) % pp
def dV (Y : Int) : Int := (dd * (Y * Y % pp) % pp + 1) % pp
def evP (Y : Int) : Pt := ⟨rootN (dU Y) (dV Y), Y⟩
def evPB (Y : Int) : Bool := rootB (dU Y) (dV Y)
theorem enters_root : Enters 79 := qaq Tryd.func79 (by kernel_rfl) rfl
set_option maxHeartbeats 8000000 in
theorem even_pt_any (Y : Int) (w : World) (hY : Num Y) (hG : EG w) : Calls Tryd.prog 56 #[feV Y] w fun e w' => e = .returned (.tuple #[.agg (ptL (evP Y)).toArray, .bool (evPB Y)]) ∧ Below w.heap.size w w' := by
 have hM := Lib.hid (Mv.nil w)
 have HG := Lib.hid hG; clear hG
 have HU : Hid ((Y * Y % pp - 1) % pp = dU Y) := Lib.hid rfl
 have HV : Hid ((dd * (Y * Y % pp) % pp + 1) % pp = dV Y) := Lib.hid rfl
 have HP : Hid (evP Y = ⟨rootN (dU Y) (dV Y), Y⟩) := Lib.hid rfl
 have HB : Hid (evPB Y = rootB (dU Y) (dV Y)) := Lib.hid rfl
 have nU : Num (dU Y) := qa0 _
 have nV : Num (dV Y) := qa0 _
 generalize evP Y = R at *
 generalize evPB Y = ok at *
 generalize dU Y = U at *
 generalize dV Y = V' at *
 obtain ⟨rn, hrn⟩ : ∃ rn, rn = rootN U V' := ⟨_, rfl⟩
 have CR : Hid (∀ u, EG u → Calls Tryd.prog 79 #[feV U, feV V'] u fun e w' => e = .returned (.tuple #[feV rn, .bool ok]) ∧ Below u.heap.size u w') := Lib.hid fun u hu => by rw [hrn, HB.out]; exact root_any U V' u nU nV hu.O hu.R hu.M
 rw [← hrn] at HP
 clear hrn HB
 go_enter Tryd.func56, Tryd.ntmps56
 go_upto_region 0 with fail; refine wp_region_lit ?_
 refine qaa (qcv (vs := feL Y) rfl rfl) rfl ?_; (try simp only [Act.put, lyy]); replace hM := Lib.hid (hM.out.new (feL Y) 66); generalize w.alloc (.cells (feL Y).toArray 66) = a1 at *; generalize w.heap.size = g1 at *
 refine qaa (qat (vs := zq 8) rfl (by kernel_rfl)) rfl ?_; (try simp only [Act.put, lyy]); replace hM := Lib.hid (hM.out.new (zq 8) 68); generalize a1.alloc (.cells (zq 8).toArray 68) = a2 at *; generalize a1.heap.size = g2 at *
 (repeat ((first | refine qaa (qae (v := b32 _) rfl rfl) rfl ?_ | refine qaa (qae (v := b64 _) rfl rfl) rfl ?_ | refine qaa (qae (v := b8 _) rfl rfl) rfl ?_ | refine qaa (qae (v := .int _ _) rfl rfl) rfl ?_ | refine qaa (qae (v := .bool _) rfl rfl) rfl ?_ | refine qaa (qae (v := .slice (some _) _ _) rfl rfl) rfl ?_ | refine qaa (qae (v := .slice _ _ _) rfl rfl) rfl ?_ | refine qaa (qae (v := .pointer (some _)) rfl rfl) rfl ?_ | refine qaa (qae (v := .agg _) rfl rfl) rfl ?_ | refine qaa (qaf (v := b32 _) rfl rfl) rfl ?_ | refine qaa (qaf (v := b64 _) rfl rfl) rfl ?_ | refine qaa (qaf (v := b8 _) rfl rfl) rfl ?_ | refine qaa (qaf (v := .int _ _) rfl rfl) rfl ?_ | refine qaa (qaf (v := .bool _) rfl rfl) rfl ?_ | refine qaa (qaf (v := .slice (some _) _ _) rfl rfl) rfl ?_ | refine qaa (qaf (v := .slice _ _ _) rfl rfl) rfl ?_ | refine qaa (qaf (v := .pointer (some _)) rfl rfl) rfl ?_ | refine qaa (qaf (v := .agg _) rfl rfl) rfl ?_ | refine qaa (qae rfl rfl) rfl ?_ | refine qaa (qaf rfl rfl) rfl ?_ | refine qaa (qcy rfl rfl rfl) rfl ?_ | refine qaa (qc0 rfl rfl rfl) rfl ?_ | refine qaa (qde rfl rfl rfl) rfl ?_ | refine qaa (qc1 rfl rfl rfl) rfl ?_ | refine qaa (qcz rfl rfl) rfl ?_ | refine qaa (qb6 rfl rfl rfl) rfl ?_ | refine qaa (qb2 rfl rfl rfl) rfl ?_ | refine qaa (qcp rfl rfl rfl) rfl ?_ | refine qaa (run_add64 rfl rfl rfl) rfl ?_ | refine qaa (qcs rfl rfl) rfl ?_ | refine qaa (qdd rfl rfl rfl) rfl ?_ | refine qaa (qcw rfl rfl rfl) rfl ?_ | refine qaa (qdj rfl rfl rfl) rfl ?_ | refine qaa (qdi rfl rfl rfl) rfl ?_ | refine qaa (qdg rfl rfl) rfl ?_ | refine qaa (qch rfl rfl) rfl ?_ | refine qaa (qcm rfl rfl) rfl ?_ | refine qaa (qce rfl rfl) rfl ?_ | refine qaa (qcn rfl rfl) rfl ?_ | refine qaa (qcf rfl rfl) rfl ?_); (try simp only [Act.put, lyy])))
 refine qab ?_
 go_upto_region 1 with fail; refine wp_region_sow2 3 66 (by kernel_rfl) rfl rfl (by kernel_rfl) (alcFe) ?_
 refine qad _ (fun V hV => qax (qap enters_small rfl rfl rfl) (small_any 1 V (by omega) (by omega))) ?_; (try simp only [Act.put, lyy])
 refine qad _ (fun V hV => qai (qaj (vs := feL Y) rfl Tryd.underlying66 rfl (szFe _) rfl (((hM.out.below hV).get (i := 1) rfl).range))) ?_; (try simp only [Act.put, lyy])
 refine qad _ (fun V hV => qax (qap enters_sqr rfl rfl rfl) (sqr_any Y V hY (HG.out.below (hM.out.below hV).bl))) ?_; (try simp only [Act.put, lyy])
 refine qbh ?_; intro g3 g4 a3 hpb s1 s2 hne; simp only [List.drop_succ_cons, List.drop_zero, List.setIfInBounds_toArray, List.set_cons_zero, List.set_cons_succ]; replace hM := Lib.hid (hM.out.sow2 hpb s1 s2 hne); clear hpb s1 s2 hne
 have hyy := qa0 (Y * Y)
 generalize Y * Y % pp = yy at *
 refine qag (qar (vs := feL 1) rfl (szFe _) rfl rfl (oneFe _) ((hM.out.get (i := 1) rfl).there)) rfl rfl ?_; replace hM := Lib.hid (hM.out.put 1 rfl (m := feL 1) rfl); generalize a3.setCells g3 0 (feL 1) = a4 at *
 refine qag (qar (vs := feL yy) rfl (szFe _) rfl rfl (oneFe _) ((hM.out.get (i := 0) rfl).there)) rfl rfl ?_; replace hM := Lib.hid (hM.out.put 0 rfl (m := feL yy) rfl); generalize a4.setCells g4 0 (feL yy) = a5 at *
 refine qab ?_
 go_upto_region 2 with fail
 go_cut [6, 7] (fun s6 s7 u => ∃ g, s6 = .pointer (some ⟨g, 0, none⟩) ∧ s7 = .bool ok ∧ Mv w [(g, feL rn), (g4, feL yy), (g3, feL 1), (g2, zq 8), (g1, feL Y)] u)
 case first =>
  have hD : Hid (∀ V, Below a5.heap.size a5 V → V.rangeAt 2 0 (feL dd)) := Lib.hid fun V hV => (HG.out.below (hM.out.below hV).bl).D.range
  refine wp_region_noPanic ?_; refine qay (S := fun _ V => Below a5.heap.size a5 V) (by kernel_rfl) ((Below.refl _ _).drew) (fun hS => ?_)
  refine qac 0 rfl rfl (by kernel_rfl) (by kernel_rfl) (by kernel_rfl) (fun _ _ _ h => h) rfl (fun V hV => qaj (vs := feL yy) rfl Tryd.underlying66 rfl (szFe _) rfl ((hM.out.below hV).get (i := 0) rfl).range) hS ?_; (try simp only [Act.put, lyy])
  refine qac 1 rfl rfl (by kernel_rfl) (by kernel_rfl) (by kernel_rfl) (fun _ _ _ h => h) rfl (fun V hV => qaj (vs := feL (1)) rfl Tryd.underlying66 rfl (szFe _) rfl ((hM.out.below hV).get (i := 1) rfl).range) hS ?_; (try simp only [Act.put, lyy])
  refine qac 3 rfl rfl (by kernel_rfl) (by kernel_rfl) (by kernel_rfl) (fun _ _ _ h => h) rfl (fun V hV => qaj (vs := feL dd) rfl Tryd.underlying66 rfl (szFe _) rfl (hD.out V hV)) hS ?_; (try simp only [Act.put, lyy])
  refine qac 4 rfl rfl (by kernel_rfl) (by kernel_rfl) (by kernel_rfl) (fun _ _ _ h => h) rfl (fun V hV => qaj (vs := feL yy) rfl Tryd.underlying66 rfl (szFe _) rfl ((hM.out.below hV).get (i := 0) rfl).range) hS ?_; (try simp only [Act.put, lyy])
  refine qac 6 rfl rfl (by kernel_rfl) (by kernel_rfl) (by kernel_rfl) (fun _ _ _ h => h) rfl (fun V hV => qaj (vs := feL (1)) rfl Tryd.underlying66 rfl (szFe _) rfl ((hM.out.below hV).get (i := 1) rfl).range) hS ?_; (try simp only [Act.put, lyy])
  refine qdl 2 12 (by kernel_rfl) ?_ ?_
  ·refine wpOp_call 2 rfl rfl rfl (qao enters_sub rfl rfl rfl rfl) (qbq (sub_any yy 1 _ hyy num_1 (HG.out.below (hM.out.below hS).bl).O)) (fun v c1 hR => ?_); (try simp only [Act.put, lyy])
   obtain ⟨rfl, hb⟩ := hR
   replace hS := hS.trans (hb.mono hS.size)
   clear hb
   rw [HU.out]
   refine ⟨hS, ?_⟩
   refine qdl 5 12 (by kernel_rfl) ?_ ?_
   ·refine wpOp_call 5 rfl rfl rfl (qao qbw rfl rfl rfl rfl) (qbq (qby dd yy _ num_dd hyy (HG.out.below (hM.out.below hS).bl).O)) (fun v c2 hR => ?_); (try simp only [Act.put, lyy])
    obtain ⟨rfl, hb⟩ := hR
    replace hS := hS.trans (hb.mono hS.size)
    clear hb
    refine ⟨hS, ?_⟩
    refine qdl 7 12 (by kernel_rfl) ?_ ?_
    ·refine wpOp_call 7 rfl rfl rfl (qao qdp rfl rfl rfl rfl) (qbq (add_any (dd * yy % pp) 1 _ (qa0 _) num_1 (HG.out.below (hM.out.below hS).bl).O)) (fun v c3 hR => ?_); (try simp only [Act.put, lyy])
     obtain ⟨rfl, hb⟩ := hR
     replace hS := hS.trans (hb.mono hS.size)
     clear hb
     rw [HV.out]
     refine ⟨hS, ?_⟩
     refine qdl 8 12 (by kernel_rfl) ?_ ?_
     ·refine wpOp_call 8 rfl rfl rfl (qao enters_root rfl rfl rfl rfl) (qbq (CR.out _ (HG.out.below (hM.out.below hS).bl))) (fun v c4 hR => ?_); (try simp only [Act.put, lyy])
      obtain ⟨rfl, hb⟩ := hR
      replace hS := hS.trans (hb.mono hS.size)
      clear hb
      refine ⟨hS, ?_⟩
      refine qac 9 rfl rfl (by kernel_rfl) (by kernel_rfl) (by kernel_rfl) (fun _ _ _ h => h) rfl (fun V hV => qae (v := .tuple #[feV rn, .bool ok]) rfl rfl) hS ?_; (try simp only [Act.put, lyy])
      refine qac 10 rfl rfl (by kernel_rfl) (by kernel_rfl) (by kernel_rfl) (fun _ _ _ h => h) rfl (fun V hV => qcg (i := 0) (v := feV rn) rfl rfl rfl) hS ?_; (try simp only [Act.put, lyy])
      refine qac 11 rfl rfl (by kernel_rfl) (by kernel_rfl) (by kernel_rfl) (fun _ _ _ h => h) rfl (fun V hV => qcg (i := 1) (v := .bool ok) rfl rfl rfl) hS ?_; (try simp only [Act.put, lyy])
      refine wpAnyL_val 12 (by kernel_rfl) rfl rfl rfl (qat (vs := zq 4) rfl (by kernel_rfl)) (hS.alloc hS.size _) ?_; (try simp only [Act.put, lyy])
      have hg := hS.size
      have A1 := Lib.hid (Arr.new c4 (zq 4) 66)
      replace hS := hS.alloc hg (.cells (zq 4).toArray 66)
      generalize c4.alloc (.cells (zq 4).toArray 66) = d4 at *
      generalize c4.heap.size = g at *
      refine qbo 13 (by kernel_rfl) rfl rfl rfl (qar (vs := feL rn) rfl (szFe _) rfl rfl (oneFe _) A1.out.there) (qa1 hg _ _ hS) ?_
      replace hS := qa1 hg (feL rn) 0 hS
      replace A1 := Lib.hid (A1.out.put (l' := feL rn) rfl)
      generalize d4.setCells g 0 (feL rn) = cz at *
      refine qac 14 rfl rfl (by kernel_rfl) (by kernel_rfl) (by kernel_rfl) (fun _ _ _ h => h) rfl (fun V hV => qaf (v := .bool ok) rfl rfl) hS ?_; (try simp only [Act.put, lyy])
      refine qa2 (by kernel_rfl) ?_ _; refine NoPanic.normal ?_
      go_wp2_with fail
      go_meet
      exact ⟨g, rfl, rfl, hM.out.add hS hg A1.out⟩
     ·refine wpOp_val 12 rfl rfl rfl (qat (vs := zq 4) rfl (by kernel_rfl)) ?_; (try simp only [Act.put, lyy])
      have hg := hS.size
      have A1 := Lib.hid (Arr.new c3 (zq 4) 66)
      replace hS := hS.alloc hg (.cells (zq 4).toArray 66)
      generalize c3.alloc (.cells (zq 4).toArray 66) = d3 at *
      generalize c3.heap.size = g at *
      refine ⟨hS, ?_⟩
      refine qbi 8 (by kernel_rfl) rfl rfl rfl (qao enters_root rfl rfl rfl rfl) (qbq (CR.out _ (HG.out.below (hM.out.below hS).bl))) (fun v w h => hS.trans (h.2.mono hS.size)) (fun v e3 hR => ?_); (try simp only [Act.put, lyy])
      obtain ⟨rfl, hb⟩ := hR
      replace hS := hS.trans (hb.mono hS.size)
      replace A1 := Lib.hid (A1.out.below hb)
      clear hb
      refine qac 9 rfl rfl (by kernel_rfl) (by kernel_rfl) (by kernel_rfl) (fun _ _ _ h => h) rfl (fun V hV => qae (v := .tuple #[feV rn, .bool ok]) rfl rfl) hS ?_; (try simp only [Act.put, lyy])
      refine qac 10 rfl rfl (by kernel_rfl) (by kernel_rfl) (by kernel_rfl) (fun _ _ _ h => h) rfl (fun V hV => qcg (i := 0) (v := feV rn) rfl rfl rfl) hS ?_; (try simp only [Act.put, lyy])
      refine qac 11 rfl rfl (by kernel_rfl) (by kernel_rfl) (by kernel_rfl) (fun _ _ _ h => h) rfl (fun V hV => qcg (i := 1) (v := .bool ok) rfl rfl rfl) hS ?_; (try simp only [Act.put, lyy])
      refine qbo 13 (by kernel_rfl) rfl rfl rfl (qar (vs := feL rn) rfl (szFe _) rfl rfl (oneFe _) A1.out.there) (qa1 hg _ _ hS) ?_
      replace hS := qa1 hg (feL rn) 0 hS
      replace A1 := Lib.hid (A1.out.put (l' := feL rn) rfl)
      generalize e3.setCells g 0 (feL rn) = cz at *
      refine qac 14 rfl rfl (by kernel_rfl) (by kernel_rfl) (by kernel_rfl) (fun _ _ _ h => h) rfl (fun V hV => qaf (v := .bool ok) rfl rfl) hS ?_; (try simp only [Act.put, lyy])
      refine qa2 (by kernel_rfl) ?_ _; refine NoPanic.normal ?_
      go_wp2_with fail
      go_meet
      exact ⟨g, rfl, rfl, hM.out.add hS hg A1.out⟩
    ·refine wpOp_val 12 rfl rfl rfl (qat (vs := zq 4) rfl (by kernel_rfl)) ?_; (try simp only [Act.put, lyy])
     have hg := hS.size
     have A1 := Lib.hid (Arr.new c2 (zq 4) 66)
     replace hS := hS.alloc hg (.cells (zq 4).toArray 66)
     generalize c2.alloc (.cells (zq 4).toArray 66) = d2 at *
     generalize c2.heap.size = g at *
     refine ⟨hS, ?_⟩
     refine qbi 7 (by kernel_rfl) rfl rfl rfl (qao qdp rfl rfl rfl rfl) (qbq (add_any (dd * yy % pp) 1 _ (qa0 _) num_1 (HG.out.below (hM.out.below hS).bl).O)) (fun v w h => hS.trans (h.2.mono hS.size)) (fun v e2 hR => ?_); (try simp only [Act.put, lyy])
     obtain ⟨rfl, hb⟩ := hR
     replace hS := hS.trans (hb.mono hS.size)
     replace A1 := Lib.hid (A1.out.below hb)
     clear hb
     rw [HV.out]
     refine qbi 8 (by kernel_rfl) rfl rfl rfl (qao enters_root rfl rfl rfl rfl) (qbq (CR.out _ (HG.out.below (hM.out.below hS).bl))) (fun v w h => hS.trans (h.2.mono hS.size)) (fun v e3 hR => ?_); (try simp only [Act.put, lyy])
     obtain ⟨rfl, hb⟩ := hR
     replace hS := hS.trans (hb.mono hS.size)
     replace A1 := Lib.hid (A1.out.below hb)
     clear hb
     refine qac 9 rfl rfl (by kernel_rfl) (by kernel_rfl) (by kernel_rfl) (fun _ _ _ h => h) rfl (fun V hV => qae (v := .tuple #[feV rn, .bool ok]) rfl rfl) hS ?_; (try simp only [Act.put, lyy])
     refine qac 10 rfl rfl (by kernel_rfl) (by kernel_rfl) (by kernel_rfl) (fun _ _ _ h => h) rfl (fun V hV => qcg (i := 0) (v := feV rn) rfl rfl rfl) hS ?_; (try simp only [Act.put, lyy])
     refine qac 11 rfl rfl (by kernel_rfl) (by kernel_rfl) (by kernel_rfl) (fun _ _ _ h => h) rfl (fun V hV => qcg (i := 1) (v := .bool ok) rfl rfl rfl) hS ?_; (try simp only [Act.put, lyy])
     refine qbo 13 (by kernel_rfl) rfl rfl rfl (qar (vs := feL rn) rfl (szFe _) rfl rfl (oneFe _) A1.out.there) (qa1 hg _ _ hS) ?_
     replace hS := qa1 hg (feL rn) 0 hS
     replace A1 := Lib.hid (A1.out.put (l' := feL rn) rfl)
     generalize e3.setCells g 0 (feL rn) = cz at *
     refine qac 14 rfl rfl (by kernel_rfl) (by kernel_rfl) (by kernel_rfl) (fun _ _ _ h => h) rfl (fun V hV => qaf (v := .bool ok) rfl rfl) hS ?_; (try simp only [Act.put, lyy])
     refine qa2 (by kernel_rfl) ?_ _; refine NoPanic.normal ?_
     go_wp2_with fail
     go_meet
     exact ⟨g, rfl, rfl, hM.out.add hS hg A1.out⟩
   ·refine wpOp_val 12 rfl rfl rfl (qat (vs := zq 4) rfl (by kernel_rfl)) ?_; (try simp only [Act.put, lyy])
    have hg := hS.size
    have A1 := Lib.hid (Arr.new c1 (zq 4) 66)
    replace hS := hS.alloc hg (.cells (zq 4).toArray 66)
    generalize c1.alloc (.cells (zq 4).toArray 66) = d1 at *
    generalize c1.heap.size = g at *
    refine ⟨hS, ?_⟩
    refine qbi 5 (by kernel_rfl) rfl rfl rfl (qao qbw rfl rfl rfl rfl) (qbq (qby dd yy _ num_dd hyy (HG.out.below (hM.out.below hS).bl).O)) (fun v w h => hS.trans (h.2.mono hS.size)) (fun v e1 hR => ?_); (try simp only [Act.put, lyy])
    obtain ⟨rfl, hb⟩ := hR
    replace hS := hS.trans (hb.mono hS.size)
    replace A1 := Lib.hid (A1.out.below hb)
    clear hb
    refine qbi 7 (by kernel_rfl) rfl rfl rfl (qao qdp rfl rfl rfl rfl) (qbq (add_any (dd * yy % pp) 1 _ (qa0 _) num_1 (HG.out.below (hM.out.below hS).bl).O)) (fun v w h => hS.trans (h.2.mono hS.size)) (fun v e2 hR => ?_); (try simp only [Act.put, lyy])
    obtain ⟨rfl, hb⟩ := hR
    replace hS := hS.trans (hb.mono hS.size)
    replace A1 := Lib.hid (A1.out.below hb)
    clear hb
    rw [HV.out]
    refine qbi 8 (by kernel_rfl) rfl rfl rfl (qao enters_root rfl rfl rfl rfl) (qbq (CR.out _ (HG.out.below (hM.out.below hS).bl))) (fun v w h => hS.trans (h.2.mono hS.size)) (fun v e3 hR => ?_); (try simp only [Act.put, lyy])
    obtain ⟨rfl, hb⟩ := hR
    replace hS := hS.trans (hb.mono hS.size)
    replace A1 := Lib.hid (A1.out.below hb)
    clear hb
    refine qac 9 rfl rfl (by kernel_rfl) (by kernel_rfl) (by kernel_rfl) (fun _ _ _ h => h) rfl (fun V hV => qae (v := .tuple #[feV rn, .bool ok]) rfl rfl) hS ?_; (try simp only [Act.put, lyy])
    refine qac 10 rfl rfl (by kernel_rfl) (by kernel_rfl) (by kernel_rfl) (fun _ _ _ h => h) rfl (fun V hV => qcg (i := 0) (v := feV rn) rfl rfl rfl) hS ?_; (try simp only [Act.put, lyy])
    refine qac 11 rfl rfl (by kernel_rfl) (by kernel_rfl) (by kernel_rfl) (fun _ _ _ h => h) rfl (fun V hV => qcg (i := 1) (v := .bool ok) rfl rfl rfl) hS ?_; (try simp only [Act.put, lyy])
    refine qbo 13 (by kernel_rfl) rfl rfl rfl (qar (vs := feL rn) rfl (szFe _) rfl rfl (oneFe _) A1.out.there) (qa1 hg _ _ hS) ?_
    replace hS := qa1 hg (feL rn) 0 hS
    replace A1 := Lib.hid (A1.out.put (l' := feL rn) rfl)
    generalize e3.setCells g 0 (feL rn) = cz at *
    refine qac 14 rfl rfl (by kernel_rfl) (by kernel_rfl) (by kernel_rfl) (fun _ _ _ h => h) rfl (fun V hV => qaf (v := .bool ok) rfl rfl) hS ?_; (try simp only [Act.put, lyy])
    refine qa2 (by kernel_rfl) ?_ _; refine NoPanic.normal ?_
    go_wp2_with fail
    go_meet
    exact ⟨g, rfl, rfl, hM.out.add hS hg A1.out⟩
  ·refine wpOp_val 12 rfl rfl rfl (qat (vs := zq 4) rfl (by kernel_rfl)) ?_; (try simp only [Act.put, lyy])
   have hg := hS.size
   have A1 := Lib.hid (Arr.new a5.drew (zq 4) 66)
   replace hS := hS.alloc hg (.cells (zq 4).toArray 66)
   generalize a5.drew.alloc (.cells (zq 4).toArray 66) = d0 at *
   generalize a5.drew.heap.size = g at *
   refine ⟨hS, ?_⟩
   refine qbi 2 (by kernel_rfl) rfl rfl rfl (qao enters_sub rfl rfl rfl rfl) (qbq (sub_any yy 1 _ hyy num_1 (HG.out.below (hM.out.below hS).bl).O)) (fun v w h => hS.trans (h.2.mono hS.size)) (fun v e0 hR => ?_); (try simp only [Act.put, lyy])
   obtain ⟨rfl, hb⟩ := hR
   replace hS := hS.trans (hb.mono hS.size)
   replace A1 := Lib.hid (A1.out.below hb)
   clear hb
   rw [HU.out]
   refine qbi 5 (by kernel_rfl) rfl rfl rfl (qao qbw rfl rfl rfl rfl) (qbq (qby dd yy _ num_dd hyy (HG.out.below (hM.out.below hS).bl).O)) (fun v w h => hS.trans (h.2.mono hS.size)) (fun v e1 hR => ?_); (try simp only [Act.put, lyy])
   obtain ⟨rfl, hb⟩ := hR
   replace hS := hS.trans (hb.mono hS.size)
   replace A1 := Lib.hid (A1.out.below hb)
   clear hb
   refine qbi 7 (by kernel_rfl) rfl rfl rfl (qao qdp rfl rfl rfl rfl) (qbq (add_any (dd * yy % pp) 1 _ (qa0 _) num_1 (HG.out.below (hM.out.below hS).bl).O)) (fun v w h => hS.trans (h.2.mono hS.size)) (fun v e2 hR => ?_); (try simp only [Act.put, lyy])
   obtain ⟨rfl, hb⟩ := hR
   replace hS := hS.trans (hb.mono hS.size)
   replace A1 := Lib.hid (A1.out.below hb)
   clear hb
   rw [HV.out]
   refine qbi 8 (by kernel_rfl) rfl rfl rfl (qao enters_root rfl rfl rfl rfl) (qbq (CR.out _ (HG.out.below (hM.out.below hS).bl))) (fun v w h => hS.trans (h.2.mono hS.size)) (fun v e3 hR => ?_); (try simp only [Act.put, lyy])
   obtain ⟨rfl, hb⟩ := hR
   replace hS := hS.trans (hb.mono hS.size)
   replace A1 := Lib.hid (A1.out.below hb)
   clear hb
   refine qac 9 rfl rfl (by kernel_rfl) (by kernel_rfl) (by kernel_rfl) (fun _ _ _ h => h) rfl (fun V hV => qae (v := .tuple #[feV rn, .bool ok]) rfl rfl) hS ?_; (try simp only [Act.put, lyy])
   refine qac 10 rfl rfl (by kernel_rfl) (by kernel_rfl) (by kernel_rfl) (fun _ _ _ h => h) rfl (fun V hV => qcg (i := 0) (v := feV rn) rfl rfl rfl) hS ?_; (try simp only [Act.put, lyy])
   refine qac 11 rfl rfl (by kernel_rfl) (by kernel_rfl) (by kernel_rfl) (fun _ _ _ h => h) rfl (fun V hV => qcg (i := 1) (v := .bool ok) rfl rfl rfl) hS ?_; (try simp only [Act.put, lyy])
   refine qbo 13 (by kernel_rfl) rfl rfl rfl (qar (vs := feL rn) rfl (szFe _) rfl rfl (oneFe _) A1.out.there) (qa1 hg _ _ hS) ?_
   replace hS := qa1 hg (feL rn) 0 hS
   replace A1 := Lib.hid (A1.out.put (l' := feL rn) rfl)
   generalize e3.setCells g 0 (feL rn) = cz at *
   refine qac 14 rfl rfl (by kernel_rfl) (by kernel_rfl) (by kernel_rfl) (fun _ _ _ h => h) rfl (fun V hV => qaf (v := .bool ok) rfl rfl) hS ?_; (try simp only [Act.put, lyy])
   refine qa2 (by kernel_rfl) ?_ _; refine NoPanic.normal ?_
   go_wp2_with fail
   go_meet
   exact ⟨g, rfl, rfl, hM.out.add hS hg A1.out⟩
 case rest =>
  obtain ⟨g5, rfl, rfl, hM5⟩ := hcut
  replace hM := Lib.hid hM5
  clear hM5
  generalize hw7 : wc = a7 at *
  clear hw7
  go_upto_region 3 with fail; refine wp_region_lit ?_
  refine qaa (qaj (vs := feL rn) rfl Tryd.underlying66 rfl (szFe _) rfl ((hM.out.get (i := 0) rfl).range)) rfl ?_; (try simp only [Act.put, lyy])
  refine qaa (qaj (vs := feL Y) rfl Tryd.underlying66 rfl (szFe _) rfl ((hM.out.get (i := 4) rfl).range)) rfl ?_; (try simp only [Act.put, lyy])
  refine qaa (run_bld2 rfl rfl rfl (built_pt rn Y)) rfl ?_; (try simp only [Act.put, lyy])
  (repeat ((first | refine qaa (qae (v := b32 _) rfl rfl) rfl ?_ | refine qaa (qae (v := b64 _) rfl rfl) rfl ?_ | refine qaa (qae (v := b8 _) rfl rfl) rfl ?_ | refine qaa (qae (v := .int _ _) rfl rfl) rfl ?_ | refine qaa (qae (v := .bool _) rfl rfl) rfl ?_ | refine qaa (qae (v := .slice (some _) _ _) rfl rfl) rfl ?_ | refine qaa (qae (v := .slice _ _ _) rfl rfl) rfl ?_ | refine qaa (qae (v := .pointer (some _)) rfl rfl) rfl ?_ | refine qaa (qae (v := .agg _) rfl rfl) rfl ?_ | refine qaa (qaf (v := b32 _) rfl rfl) rfl ?_ | refine qaa (qaf (v := b64 _) rfl rfl) rfl ?_ | refine qaa (qaf (v := b8 _) rfl rfl) rfl ?_ | refine qaa (qaf (v := .int _ _) rfl rfl) rfl ?_ | refine qaa (qaf (v := .bool _) rfl rfl) rfl ?_ | refine qaa (qaf (v := .slice (some _) _ _) rfl rfl) rfl ?_ | refine qaa (qaf (v := .slice _ _ _) rfl rfl) rfl ?_ | refine qaa (qaf (v := .pointer (some _)) rfl rfl) rfl ?_ | refine qaa (qaf (v := .agg _) rfl rfl) rfl ?_ | refine qaa (qae rfl rfl) rfl ?_ | refine qaa (qaf rfl rfl) rfl ?_ | refine qaa (qcy rfl rfl rfl) rfl ?_ | refine qaa (qc0 rfl rfl rfl) rfl ?_ | refine qaa (qde rfl rfl rfl) rfl ?_ | refine qaa (qc1 rfl rfl rfl) rfl ?_ | refine qaa (qcz rfl rfl) rfl ?_ | refine qaa (qb6 rfl rfl rfl) rfl ?_ | refine qaa (qb2 rfl rfl rfl) rfl ?_ | refine qaa (qcp rfl rfl rfl) rfl ?_ | refine qaa (run_add64 rfl rfl rfl) rfl ?_ | refine qaa (qcs rfl rfl) rfl ?_ | refine qaa (qdd rfl rfl rfl) rfl ?_ | refine qaa (qcw rfl rfl rfl) rfl ?_ | refine qaa (qdj rfl rfl rfl) rfl ?_ | refine qaa (qdi rfl rfl rfl) rfl ?_ | refine qaa (qdg rfl rfl) rfl ?_ | refine qaa (qch rfl rfl) rfl ?_ | refine qaa (qcm rfl rfl) rfl ?_ | refine qaa (qce rfl rfl) rfl ?_ | refine qaa (qcn rfl rfl) rfl ?_ | refine qaa (qcf rfl rfl) rfl ?_); (try simp only [Act.put, lyy])))
  refine qag (qar (vs := ptL ⟨rn, Y⟩) rfl (szPt _) rfl rfl (onePt _) ((hM.out.get (i := 3) rfl).there)) rfl rfl ?_; replace hM := Lib.hid (hM.out.put 3 rfl (m := ptL ⟨rn, Y⟩) rfl); generalize a7.setCells g2 0 (ptL ⟨rn, Y⟩) = a8 at *
  (repeat ((first | refine qaa (qae (v := b32 _) rfl rfl) rfl ?_ | refine qaa (qae (v := b64 _) rfl rfl) rfl ?_ | refine qaa (qae (v := b8 _) rfl rfl) rfl ?_ | refine qaa (qae (v := .int _ _) rfl rfl) rfl ?_ | refine qaa (qae (v := .bool _) rfl rfl) rfl ?_ | refine qaa (qae (v := .slice (some _) _ _) rfl rfl) rfl ?_ | refine qaa (qae (v := .slice _ _ _) rfl rfl) rfl ?_ | refine qaa (qae (v := .pointer (some _)) rfl rfl) rfl ?_ | refine qaa (qae (v := .agg _) rfl rfl) rfl ?_ | refine qaa (qaf (v := b32 _) rfl rfl) rfl ?_ | refine qaa (qaf (v := b64 _) rfl rfl) rfl ?_ | refine qaa (qaf (v := b8 _) rfl rfl) rfl ?_ | refine qaa (qaf (v := .int _ _) rfl rfl) rfl ?_ | refine qaa (qaf (v := .bool _) rfl rfl) rfl ?_ | refine qaa (qaf (v := .slice (some _) _ _) rfl rfl) rfl ?_ | refine qaa (qaf (v := .slice _ _ _) rfl rfl) rfl ?_ | refine qaa (qaf (v := .pointer (some _)) rfl rfl) rfl ?_ | refine qaa (qaf (v := .agg _) rfl rfl) rfl ?_ | refine qaa (qae rfl rfl) rfl ?_ | refine qaa (qaf rfl rfl) rfl ?_ | refine qaa (qcy rfl rfl rfl) rfl ?_ | refine qaa (qc0 rfl rfl rfl) rfl ?_ | refine qaa (qde rfl rfl rfl) rfl ?_ | refine qaa (qc1 rfl rfl rfl) rfl ?_ | refine qaa (qcz rfl rfl) rfl ?_ | refine qaa (qb6 rfl rfl rfl) rfl ?_ | refine qaa (qb2 rfl rfl rfl) rfl ?_ | refine qaa (qcp rfl rfl rfl) rfl ?_ | refine qaa (run_add64 rfl rfl rfl) rfl ?_ | refine qaa (qcs rfl rfl) rfl ?_ | refine qaa (qdd rfl rfl rfl) rfl ?_ | refine qaa (qcw rfl rfl rfl) rfl ?_ | refine qaa (qdj rfl rfl rfl) rfl ?_ | refine qaa (qdi rfl rfl rfl) rfl ?_ | refine qaa (qdg rfl rfl) rfl ?_ | refine qaa (qch rfl rfl) rfl ?_ | refine qaa (qcm rfl rfl) rfl ?_ | refine qaa (qce rfl rfl) rfl ?_ | refine qaa (qcn rfl rfl) rfl ?_ | refine qaa (qcf rfl rfl) rfl ?_); (try simp only [Act.put, lyy])))
  refine qab ?_
  go_wp2_with fail
  exact bodyPost_ret (v := .tuple #[.agg (ptL ⟨rn, Y⟩).toArray, .bool ok]) (qbm Tryd.results56 rfl Tryd.underlying68 rfl (szPt _) (hM.out.get (i := 3) rfl).range) rfl ⟨by rw [HP.out], hM.out.bl⟩
theorem enters_even_pt : Enters 56 := qaq Tryd.func56 (by kernel_rfl) rfl
end Go.Proofs.YtcgbgmbnagmohaaDoor
namespace Go.Proofs.YtcgbgmbnagmohaaDoor
open Go.RowKit
set_option maxRecDepth 20000
def decY (n : Nat) : Int := ((n % 2 ^ 255 : Nat) : Int) % pp
def zPt : Pt := ⟨0, 0⟩
def decR (n : Nat) : Pt × Bool :=
 if evPB (decY n) = true ∧ ((n % 2 ^ 255 : Nat) : Int) < pp then
  if n < 2 ^ 255 then (evP (decY n), true)
  else if negP (evP (decY n)) = evP (decY n) then (zPt, false) else (negP (evP (decY n)), true)
 else (zPt, false)
theorem top_bit {l : List (BitVec 8)} (h : l.length = 32) : (((l.getD 31 0 >>> 7).toNat : Int) == 1) = !decide (leB l < 2 ^ 255) := by
 obtain ⟨r, hr, e⟩ := leB_top h
 have h1 : ∀ b : BitVec 8, (b >>> 7).toNat = b.toNat / 128 := by decide +kernel
 have h2 : (2 : Nat) ^ 255 = 256 ^ 31 * 128 := by decide +kernel
 have hb := (l.getD 31 0).isLt
 rw [h1, h2, e]
 generalize (l.getD 31 0).toNat = t at *
 generalize (256 : Nat) ^ 31 = P at *
 by_cases ht : t < 128
 ·have h3 : P * (t + 1) ≤ P * 128 := Nat.mul_le_mul_left _ ht
  rw [Nat.mul_add, Nat.mul_one] at h3
  rw [decide_eq_true (by omega)]
  simp
  omega
 ·have h3 : P * 128 ≤ P * t := Nat.mul_le_mul_left _ (by omega)
  rw [decide_eq_false (by omega)]
  simp
  omega
theorem same_bytes {l : List (BitVec 8)} (h : l.length = 32) : decide (sk (decY (leB l) % pp).toNat = mskB l) = decide (((leB l % 2 ^ 255 : Nat) : Int) < pp) := by
 have hm := msk_num h
 have e1 : decY (leB l) % pp = decY (leB l) := E.rest _
 rw [e1]
 have h3 : (2 : Nat) ^ 255 < 256 ^ 32 := by decide +kernel
 have hlt : leB l % 2 ^ 255 < 2 ^ 255 := Nat.mod_lt _ (by decide +kernel)
 have hy := y_top ((leB l % 2 ^ 255 : Nat) : Int)
 unfold decY
 rw [Bool.eq_iff_iff, decide_eq_true_eq, decide_eq_true_eq]
 constructor
 ·intro he
  have h4 := congrArg leB he
  rw [leB_sk, Nat.mod_eq_of_lt (by omega), hm] at h4
  have h5 := qca ((leB l % 2 ^ 255 : Nat) : Int)
  generalize leB l % 2 ^ 255 = m at *
  omega
 ·intro hp
  refine leB_inj (by rw [sk_len, mskB_len, h]) ?_
  rw [leB_sk, hm, Int.emod_eq_of_lt (by omega) hp, Int.toNat_natCast, Nat.mod_eq_of_lt (by omega)]
theorem evP_nm {Y : Int} (hY : Num Y) : (evP Y).Nm := by
 refine ⟨?_, hY⟩
 show Num (rootN (dU Y) (dV Y))
 have ev : ∀ a : Int, 0 ≤ a → a < pp → Num (evn a) := fun a h0 h1 => by
  have := evn_facts h0 h1
  exact num_lt ⟨this.1, this.2.1⟩
 have hn : 0 ≤ qb8 (dU Y) (dV Y) ∧ qb8 (dU Y) (dV Y) < pp := by unfold qb8; exact qca _
 unfold rootN
 split
 ·exact ev _ hn.1 hn.2
 ·split
  ·exact ev _ (qca _).1 (qca _).2
  ·exact num_small (by omega) (by omega)
def cnB (n : Nat) : Bool := decide (((n % 2 ^ 255 : Nat) : Int) < pp)
theorem cnB_t {n : Nat} (h : cnB n = true) : ((n % 2 ^ 255 : Nat) : Int) < pp := of_decide_eq_true h
theorem cnB_f {n : Nat} (h : cnB n = false) : ¬ ((n % 2 ^ 255 : Nat) : Int) < pp := of_decide_eq_false h
theorem run_bld0 {w : World} {ρ : Operand → Value} {o : Oper} {t : TypeId} {cells : Array Value} (ho : o.op = .build t #[]) (h : Tryd.prog.built t [] = some cells) : (execOp ρ o).run Tryd.prog w = .ok (.value (.agg cells)) w := run_bld ho (by simpa using h)
theorem built_pt0 : Tryd.prog.built 68 [] = some (ptL zPt).toArray := by kernel_rfl
theorem enters_ofB : Enters 55 := qaq Tryd.func55 (by kernel_rfl) rfl
set_option maxHeartbeats 16000000 in
theorem decode_any (l : List (BitVec 8)) (w : World) (hl : l.length = 32) (hG : EG w) : Calls Tryd.prog 39 #[.agg (l.map b8).toArray] w fun e w' => e = .returned (.tuple #[.agg (ptL (decR (leB l)).1).toArray, .bool (decR (leB l)).2]) ∧ Below w.heap.size w w' := by
 have hM := Lib.hid (Mv.nil w)
 have HG := Lib.hid hG; clear hG
 obtain ⟨Y, hYe⟩ : ∃ Y, Y = decY (leB l) := ⟨_, rfl⟩
 have hYn : Num Y := by rw [hYe]; exact qa0 _
 obtain ⟨k', hk'⟩ : ∃ k', k' = mskB l := ⟨_, rfl⟩
 have hkl : k'.length = 32 := by rw [hk', mskB_len, hl]
 have HK : Hid (l.set 31 (l.getD 31 0 &&& 127) = k') := Lib.hid (by rw [hk']; rfl)
 have CF : Hid (∀ u, EG u → Calls Tryd.prog 55 #[.agg (k'.map b8).toArray] u fun e w' => e = .returned (feV Y) ∧ Below u.heap.size u w') := Lib.hid fun u hu => by
  have h := ofB_any k' u hkl hu.O
  rw [hk', msk_num hl, Nat.mod_mod] at h
  rw [hYe, hk']
  exact h
 obtain ⟨od, hod⟩ : ∃ od, od = !decide (leB l < 2 ^ 255) := ⟨_, rfl⟩
 obtain ⟨cn, hcn⟩ : ∃ cn, cn = cnB (leB l) := ⟨_, rfl⟩
 obtain ⟨ev, hev⟩ : ∃ ev, ev = evPB Y := ⟨_, rfl⟩
 obtain ⟨ep, hep⟩ : ∃ ep, ep = evP Y := ⟨_, rfl⟩
 obtain ⟨np, hnp⟩ : ∃ np, np = negP ep := ⟨_, rfl⟩
 have hepn : ep.Nm := by rw [hep]; exact evP_nm hYn
 have hnpn : np.Nm := by rw [hnp]; exact (negP_ok _).nm
 have HOD : Hid ((((l.getD 31 0 >>> 7).toNat : Int) == 1) = od) := Lib.hid (by rw [hod]; exact top_bit hl)
 obtain ⟨yb, hyb⟩ : ∃ yb, yb = sk (Y % pp).toNat := ⟨_, rfl⟩
 have hybl : yb.length = 32 := by rw [hyb]; exact sk_len _
 have HCN : Hid (decide (yb = k') = cn) := Lib.hid (by rw [hyb, hk', hcn, hYe]; exact same_bytes hl)
 have CB : Hid (∀ u, EG u → Calls Tryd.prog 57 #[feV Y] u fun e w' => e = .returned (.agg (yb.map b8).toArray) ∧ Below u.heap.size u w') := Lib.hid fun u hu => by rw [hyb]; exact bytesB_any Y u hYn hu.O
 have CE : Hid (∀ u, EG u → Calls Tryd.prog 56 #[feV Y] u fun e w' => e = .returned (.tuple #[.agg (ptL ep).toArray, .bool ev]) ∧ Below u.heap.size u w') := Lib.hid fun u hu => by rw [hep, hev]; exact even_pt_any Y u hYn hu
 have CN : Hid (∀ u, EG u → Calls Tryd.prog 58 #[.agg (ptL ep).toArray] u fun e w' => e = .returned (.agg (ptL np).toArray) ∧ Below u.heap.size u w') := Lib.hid fun u hu => by rw [hnp]; exact negP_any ep u hepn hu
 have R0 : Hid (ev = false → decR (leB l) = (zPt, false)) := Lib.hid fun h => by
  unfold decR; rw [← hYe, ← hev, h, if_neg (by simp)]
 have R1 : Hid (cn = false → decR (leB l) = (zPt, false)) := Lib.hid fun h => by
  rw [hcn] at h
  unfold decR; rw [if_neg (by intro hc; exact cnB_f h hc.2)]
 have R2 : Hid (ev = true → cn = true → od = false → decR (leB l) = (ep, true)) := Lib.hid fun h1 h2 h3 => by
  rw [hcn] at h2
  replace h2 := cnB_t h2
  rw [hod] at h3
  have h4 : leB l < 2 ^ 255 := by simpa using h3
  unfold decR; rw [← hYe, ← hev, ← hep, if_pos ⟨h1, h2⟩, if_pos h4]
 have R3 : Hid (ev = true → cn = true → od = true → decR (leB l) = if np = ep then (zPt, false) else (np, true)) := Lib.hid fun h1 h2 h3 => by
  rw [hcn] at h2
  replace h2 := cnB_t h2
  rw [hod] at h3
  have h4 : ¬ leB l < 2 ^ 255 := by simpa using h3
  unfold decR; rw [← hYe, ← hev, ← hep, ← hnp, if_pos ⟨h1, h2⟩, if_neg h4]
 clear hYe hk' hod hcn hev hep hnp hyb
 generalize decR (leB l) = res at *
 have SK := Lib.hid (szKyB hkl)
 have HC : Hid ((l.map b8)[31]? = some (b8 (l.getD 31 0))) := Lib.hid (qbv b8 0 (by omega))
 generalize l.getD 31 0 = b31 at *
 go_enter Tryd.func39, Tryd.ntmps39
 go_upto_region 0 with fail; refine wp_region_lit ?_
 refine qaa (qcv (vs := l.map b8) rfl rfl) rfl ?_; (try simp only [Act.put, lyy]); replace hM := Lib.hid (hM.out.new (l.map b8) 24); generalize w.alloc (.cells (l.map b8).toArray 24) = a1 at *; generalize w.heap.size = g1 at *
 refine qaa (qat (vs := zq 8) rfl (by kernel_rfl)) rfl ?_; (try simp only [Act.put, lyy]); replace hM := Lib.hid (hM.out.new (zq 8) 68); generalize a1.alloc (.cells (zq 8).toArray 68) = a2 at *; generalize a1.heap.size = g2 at *
 (repeat ((first | refine qaa (qae (v := b32 _) rfl rfl) rfl ?_ | refine qaa (qae (v := b64 _) rfl rfl) rfl ?_ | refine qaa (qae (v := b8 _) rfl rfl) rfl ?_ | refine qaa (qae (v := .int _ _) rfl rfl) rfl ?_ | refine qaa (qae (v := .bool _) rfl rfl) rfl ?_ | refine qaa (qae (v := .slice (some _) _ _) rfl rfl) rfl ?_ | refine qaa (qae (v := .slice _ _ _) rfl rfl) rfl ?_ | refine qaa (qae (v := .pointer (some _)) rfl rfl) rfl ?_ | refine qaa (qae (v := .agg _) rfl rfl) rfl ?_ | refine qaa (qaf (v := b32 _) rfl rfl) rfl ?_ | refine qaa (qaf (v := b64 _) rfl rfl) rfl ?_ | refine qaa (qaf (v := b8 _) rfl rfl) rfl ?_ | refine qaa (qaf (v := .int _ _) rfl rfl) rfl ?_ | refine qaa (qaf (v := .bool _) rfl rfl) rfl ?_ | refine qaa (qaf (v := .slice (some _) _ _) rfl rfl) rfl ?_ | refine qaa (qaf (v := .slice _ _ _) rfl rfl) rfl ?_ | refine qaa (qaf (v := .pointer (some _)) rfl rfl) rfl ?_ | refine qaa (qaf (v := .agg _) rfl rfl) rfl ?_ | refine qaa (qae rfl rfl) rfl ?_ | refine qaa (qaf rfl rfl) rfl ?_ | refine qaa (qcy rfl rfl rfl) rfl ?_ | refine qaa (qc0 rfl rfl rfl) rfl ?_ | refine qaa (qde rfl rfl rfl) rfl ?_ | refine qaa (qc1 rfl rfl rfl) rfl ?_ | refine qaa (qcz rfl rfl) rfl ?_ | refine qaa (qb6 rfl rfl rfl) rfl ?_ | refine qaa (qb2 rfl rfl rfl) rfl ?_ | refine qaa (qcp rfl rfl rfl) rfl ?_ | refine qaa (run_add64 rfl rfl rfl) rfl ?_ | refine qaa (qcs rfl rfl) rfl ?_ | refine qaa (qdd rfl rfl rfl) rfl ?_ | refine qaa (qcw rfl rfl rfl) rfl ?_ | refine qaa (qdj rfl rfl rfl) rfl ?_ | refine qaa (qdi rfl rfl rfl) rfl ?_ | refine qaa (qdg rfl rfl) rfl ?_ | refine qaa (qch rfl rfl) rfl ?_ | refine qaa (qcm rfl rfl) rfl ?_ | refine qaa (qce rfl rfl) rfl ?_ | refine qaa (qcn rfl rfl) rfl ?_ | refine qaa (qcf rfl rfl) rfl ?_); (try simp only [Act.put, lyy])))
 refine qab ?_
 go_upto_region 1 with fail; refine wp_region_lit ?_
 refine qaa (qbk (i := 31) rfl Tryd.underlying24 (by kernel_rfl) rfl rfl (by omega)) rfl ?_; (try simp only [Act.put, lyy])
 refine qaa (run_ld8 rfl rfl ((hM.out.get (i := 1) rfl).c 31 _ HC.out)) rfl ?_; (try simp only [Act.put, lyy])
 refine qaa (run_shr8 (n := 7) rfl rfl rfl (by omega)) rfl ?_; (try simp only [Act.put, lyy])
 refine qaa (qb4 (k := .u8) (c := od) rfl rfl rfl HOD.out) rfl ?_; (try simp only [Act.put, lyy])
 (repeat ((first | refine qaa (qae (v := b32 _) rfl rfl) rfl ?_ | refine qaa (qae (v := b64 _) rfl rfl) rfl ?_ | refine qaa (qae (v := b8 _) rfl rfl) rfl ?_ | refine qaa (qae (v := .int _ _) rfl rfl) rfl ?_ | refine qaa (qae (v := .bool _) rfl rfl) rfl ?_ | refine qaa (qae (v := .slice (some _) _ _) rfl rfl) rfl ?_ | refine qaa (qae (v := .slice _ _ _) rfl rfl) rfl ?_ | refine qaa (qae (v := .pointer (some _)) rfl rfl) rfl ?_ | refine qaa (qae (v := .agg _) rfl rfl) rfl ?_ | refine qaa (qaf (v := b32 _) rfl rfl) rfl ?_ | refine qaa (qaf (v := b64 _) rfl rfl) rfl ?_ | refine qaa (qaf (v := b8 _) rfl rfl) rfl ?_ | refine qaa (qaf (v := .int _ _) rfl rfl) rfl ?_ | refine qaa (qaf (v := .bool _) rfl rfl) rfl ?_ | refine qaa (qaf (v := .slice (some _) _ _) rfl rfl) rfl ?_ | refine qaa (qaf (v := .slice _ _ _) rfl rfl) rfl ?_ | refine qaa (qaf (v := .pointer (some _)) rfl rfl) rfl ?_ | refine qaa (qaf (v := .agg _) rfl rfl) rfl ?_ | refine qaa (qae rfl rfl) rfl ?_ | refine qaa (qaf rfl rfl) rfl ?_ | refine qaa (qcy rfl rfl rfl) rfl ?_ | refine qaa (qc0 rfl rfl rfl) rfl ?_ | refine qaa (qde rfl rfl rfl) rfl ?_ | refine qaa (qc1 rfl rfl rfl) rfl ?_ | refine qaa (qcz rfl rfl) rfl ?_ | refine qaa (qb6 rfl rfl rfl) rfl ?_ | refine qaa (qb2 rfl rfl rfl) rfl ?_ | refine qaa (qcp rfl rfl rfl) rfl ?_ | refine qaa (run_add64 rfl rfl rfl) rfl ?_ | refine qaa (qcs rfl rfl) rfl ?_ | refine qaa (qdd rfl rfl rfl) rfl ?_ | refine qaa (qcw rfl rfl rfl) rfl ?_ | refine qaa (qdj rfl rfl rfl) rfl ?_ | refine qaa (qdi rfl rfl rfl) rfl ?_ | refine qaa (qdg rfl rfl) rfl ?_ | refine qaa (qch rfl rfl) rfl ?_ | refine qaa (qcm rfl rfl) rfl ?_ | refine qaa (qce rfl rfl) rfl ?_ | refine qaa (qcn rfl rfl) rfl ?_ | refine qaa (qcf rfl rfl) rfl ?_); (try simp only [Act.put, lyy])))
 refine qab ?_
 go_upto_region 2 with fail; refine wp_region_lit ?_
 refine qaa (qbk (i := 31) rfl Tryd.underlying24 (by kernel_rfl) rfl rfl (by omega)) rfl ?_; (try simp only [Act.put, lyy])
 refine qaa (run_ld8 rfl rfl ((hM.out.get (i := 1) rfl).c 31 _ HC.out)) rfl ?_; (try simp only [Act.put, lyy])
 refine qaa (qcw (b := 127) rfl rfl rfl) rfl ?_; (try simp only [Act.put, lyy])
 refine qaa (qbk (i := 31) rfl Tryd.underlying24 (by kernel_rfl) rfl rfl (by omega)) rfl ?_; (try simp only [Act.put, lyy])
 refine qag (run_st8 rfl rfl rfl ((hM.out.get (i := 1) rfl).c 31 _ HC.out) ((hM.out.get (i := 1) rfl).f 31)) rfl rfl ?_
 refine qab ?_
 have hM2 : Hid (Mv w [(g2, zq 8), (g1, k'.map b8)] (a2.setCell ⟨g1, 31, none⟩ (b8 (b31 &&& 127)))) := Lib.hid (by
  have h := hM.out.set 1 rfl (j := 31) (by rw [List.length_map]; omega) (b8 (b31 &&& 127))
  rw [qc3, HK.out] at h
  exact h)
 generalize a2.setCell ⟨g1, 31, none⟩ (b8 (b31 &&& 127)) = a3 at *
 replace hM := hM2
 clear hM2 HC HK HOD
 go_upto_region 3 with fail; refine wp_region_lit ?_
 refine qaa (qaj (vs := k'.map b8) rfl Tryd.underlying24 rfl SK.out rfl (hM.out.get (i := 1) rfl).range) rfl ?_; (try simp only [Act.put, lyy])
 refine qam (qap enters_ofB rfl rfl rfl) rfl (CF.out _ (HG.out.below hM.out.bl)) (fun a4 hb => ?_); (try simp only [Act.put, lyy]); replace hM := Lib.hid (hM.out.below hb); clear hb
 refine qaa (qat (vs := zq 4) rfl (by kernel_rfl)) rfl ?_; (try simp only [Act.put, lyy]); replace hM := Lib.hid (hM.out.new (zq 4) 66); generalize a4.alloc (.cells (zq 4).toArray 66) = a5 at *; generalize a4.heap.size = g3 at *
 refine qag (qar (vs := feL Y) rfl (szFe _) rfl rfl (oneFe _) ((hM.out.get (i := 0) rfl).there)) rfl rfl ?_; replace hM := Lib.hid (hM.out.put 0 rfl (m := feL Y) rfl); generalize a5.setCells g3 0 (feL Y) = a6 at *
 refine qab ?_
 go_upto_region 4 with fail; refine wp_region_lit ?_
 refine qaa (qaj (vs := feL Y) rfl Tryd.underlying66 rfl (szFe _) rfl ((hM.out.get (i := 0) rfl).range)) rfl ?_; (try simp only [Act.put, lyy])
 refine qam (qap enters_even_pt rfl rfl rfl) rfl (CE.out _ (HG.out.below hM.out.bl)) (fun a7 hb => ?_); (try simp only [Act.put, lyy]); replace hM := Lib.hid (hM.out.below hb); clear hb
 refine qaa (qae (v := .tuple #[.agg (ptL ep).toArray, .bool ev]) rfl rfl) rfl ?_; (try simp only [Act.put, lyy])
 refine qaa (qcg (i := 0) (v := .agg (ptL ep).toArray) rfl rfl rfl) rfl ?_; (try simp only [Act.put, lyy])
 refine qaa (qcg (i := 1) (v := .bool ev) rfl rfl rfl) rfl ?_; (try simp only [Act.put, lyy])
 refine qaa (qat (vs := zq 8) rfl (by kernel_rfl)) rfl ?_; (try simp only [Act.put, lyy]); replace hM := Lib.hid (hM.out.new (zq 8) 68); generalize a7.alloc (.cells (zq 8).toArray 68) = a8 at *; generalize a7.heap.size = g4 at *
 refine qag (qar (vs := ptL ep) rfl (szPt _) rfl rfl (onePt _) ((hM.out.get (i := 0) rfl).there)) rfl rfl ?_; replace hM := Lib.hid (hM.out.put 0 rfl (m := ptL ep) rfl); generalize a8.setCells g4 0 (ptL ep) = a9 at *
 (repeat ((first | refine qaa (qae (v := b32 _) rfl rfl) rfl ?_ | refine qaa (qae (v := b64 _) rfl rfl) rfl ?_ | refine qaa (qae (v := b8 _) rfl rfl) rfl ?_ | refine qaa (qae (v := .int _ _) rfl rfl) rfl ?_ | refine qaa (qae (v := .bool _) rfl rfl) rfl ?_ | refine qaa (qae (v := .slice (some _) _ _) rfl rfl) rfl ?_ | refine qaa (qae (v := .slice _ _ _) rfl rfl) rfl ?_ | refine qaa (qae (v := .pointer (some _)) rfl rfl) rfl ?_ | refine qaa (qae (v := .agg _) rfl rfl) rfl ?_ | refine qaa (qaf (v := b32 _) rfl rfl) rfl ?_ | refine qaa (qaf (v := b64 _) rfl rfl) rfl ?_ | refine qaa (qaf (v := b8 _) rfl rfl) rfl ?_ | refine qaa (qaf (v := .int _ _) rfl rfl) rfl ?_ | refine qaa (qaf (v := .bool _) rfl rfl) rfl ?_ | refine qaa (qaf (v := .slice (some _) _ _) rfl rfl) rfl ?_ | refine qaa (qaf (v := .slice _ _ _) rfl rfl) rfl ?_ | refine qaa (qaf (v := .pointer (some _)) rfl rfl) rfl ?_ | refine qaa (qaf (v := .agg _) rfl rfl) rfl ?_ | refine qaa (qae rfl rfl) rfl ?_ | refine qaa (qaf rfl rfl) rfl ?_ | refine qaa (qcy rfl rfl rfl) rfl ?_ | refine qaa (qc0 rfl rfl rfl) rfl ?_ | refine qaa (qde rfl rfl rfl) rfl ?_ | refine qaa (qc1 rfl rfl rfl) rfl ?_ | refine qaa (qcz rfl rfl) rfl ?_ | refine qaa (qb6 rfl rfl rfl) rfl ?_ | refine qaa (qb2 rfl rfl rfl) rfl ?_ | refine qaa (qcp rfl rfl rfl) rfl ?_ | refine qaa (run_add64 rfl rfl rfl) rfl ?_ | refine qaa (qcs rfl rfl) rfl ?_ | refine qaa (qdd rfl rfl rfl) rfl ?_ | refine qaa (qcw rfl rfl rfl) rfl ?_ | refine qaa (qdj rfl rfl rfl) rfl ?_ | refine qaa (qdi rfl rfl rfl) rfl ?_ | refine qaa (qdg rfl rfl) rfl ?_ | refine qaa (qch rfl rfl) rfl ?_ | refine qaa (qcm rfl rfl) rfl ?_ | refine qaa (qce rfl rfl) rfl ?_ | refine qaa (qcn rfl rfl) rfl ?_ | refine qaa (qcf rfl rfl) rfl ?_); (try simp only [Act.put, lyy])))
 refine qab ?_
 cases ev
 ·have hres := R0.out rfl
  subst hres
  go_upto_region 5 with fail
  refine wp_region_noPanic ?_; refine qay (S := fun _ V => Below a9.heap.size a9 V) (by kernel_rfl) ((Below.refl _ _).drew) (fun hS => ?_)
  refine qac 0 rfl rfl (by kernel_rfl) (by kernel_rfl) (by kernel_rfl) (fun _ _ _ h => h) rfl (fun V hV => qae (v := .bool false) rfl rfl) hS ?_; (try simp only [Act.put, lyy])
  refine qac 1 rfl rfl (by kernel_rfl) (by kernel_rfl) (by kernel_rfl) (fun _ _ _ h => h) rfl (fun V hV => qdf rfl rfl) hS ?_; (try simp only [Act.put, lyy])
  refine qac 2 rfl rfl (by kernel_rfl) (by kernel_rfl) (by kernel_rfl) (fun _ _ _ h => h) rfl (fun V hV => qae (v := .bool true) rfl rfl) hS ?_; (try simp only [Act.put, lyy])
  refine qaw 3 rfl rfl (by kernel_rfl) (by kernel_rfl) (by kernel_rfl) (fun _ _ _ h => h) rfl hS ?_; (try simp only [Act.put, lyy])
  refine qaw 5 rfl rfl (by kernel_rfl) (by kernel_rfl) (by kernel_rfl) (fun _ _ _ h => h) rfl hS ?_; (try simp only [Act.put, lyy])
  refine qaw 4 rfl rfl (by kernel_rfl) (by kernel_rfl) (by kernel_rfl) (fun _ _ _ h => h) rfl hS ?_; (try simp only [Act.put, lyy])
  refine qaw 6 rfl rfl (by kernel_rfl) (by kernel_rfl) (by kernel_rfl) (fun _ _ _ h => h) rfl hS ?_; (try simp only [Act.put, lyy])
  refine qac 7 rfl rfl (by kernel_rfl) (by kernel_rfl) (by kernel_rfl) (fun _ _ _ h => h) rfl (fun V hV => qaz (b := true) (v := .bool true) rfl rfl rfl) hS ?_; (try simp only [Act.put, lyy])
  refine qa2 (by kernel_rfl) ?_ _; refine NoPanic.normal ?_
  replace hM := Lib.hid (hM.out.below hS)
  generalize a9.drew = a10 at *
  clear hS
  go_upto_region 6 with fail; refine wp_region_lit ?_
  refine qaa (run_bld0 (cells := (ptL zPt).toArray) rfl built_pt0) rfl ?_; (try simp only [Act.put, lyy])
  refine qag (qar (vs := ptL zPt) rfl (szPt _) rfl rfl (onePt _) ((hM.out.get (i := 2) rfl).there)) rfl rfl ?_; replace hM := Lib.hid (hM.out.put 2 rfl (m := ptL zPt) rfl); generalize a10.setCells g2 0 (ptL zPt) = cz at *
  (repeat ((first | refine qaa (qae (v := b32 _) rfl rfl) rfl ?_ | refine qaa (qae (v := b64 _) rfl rfl) rfl ?_ | refine qaa (qae (v := b8 _) rfl rfl) rfl ?_ | refine qaa (qae (v := .int _ _) rfl rfl) rfl ?_ | refine qaa (qae (v := .bool _) rfl rfl) rfl ?_ | refine qaa (qae (v := .slice (some _) _ _) rfl rfl) rfl ?_ | refine qaa (qae (v := .slice _ _ _) rfl rfl) rfl ?_ | refine qaa (qae (v := .pointer (some _)) rfl rfl) rfl ?_ | refine qaa (qae (v := .agg _) rfl rfl) rfl ?_ | refine qaa (qaf (v := b32 _) rfl rfl) rfl ?_ | refine qaa (qaf (v := b64 _) rfl rfl) rfl ?_ | refine qaa (qaf (v := b8 _) rfl rfl) rfl ?_ | refine qaa (qaf (v := .int _ _) rfl rfl) rfl ?_ | refine qaa (qaf (v := .bool _) rfl rfl) rfl ?_ | refine qaa (qaf (v := .slice (some _) _ _) rfl rfl) rfl ?_ | refine qaa (qaf (v := .slice _ _ _) rfl rfl) rfl ?_ | refine qaa (qaf (v := .pointer (some _)) rfl rfl) rfl ?_ | refine qaa (qaf (v := .agg _) rfl rfl) rfl ?_ | refine qaa (qae rfl rfl) rfl ?_ | refine qaa (qaf rfl rfl) rfl ?_ | refine qaa (qcy rfl rfl rfl) rfl ?_ | refine qaa (qc0 rfl rfl rfl) rfl ?_ | refine qaa (qde rfl rfl rfl) rfl ?_ | refine qaa (qc1 rfl rfl rfl) rfl ?_ | refine qaa (qcz rfl rfl) rfl ?_ | refine qaa (qb6 rfl rfl rfl) rfl ?_ | refine qaa (qb2 rfl rfl rfl) rfl ?_ | refine qaa (qcp rfl rfl rfl) rfl ?_ | refine qaa (run_add64 rfl rfl rfl) rfl ?_ | refine qaa (qcs rfl rfl) rfl ?_ | refine qaa (qdd rfl rfl rfl) rfl ?_ | refine qaa (qcw rfl rfl rfl) rfl ?_ | refine qaa (qdj rfl rfl rfl) rfl ?_ | refine qaa (qdi rfl rfl rfl) rfl ?_ | refine qaa (qdg rfl rfl) rfl ?_ | refine qaa (qch rfl rfl) rfl ?_ | refine qaa (qcm rfl rfl) rfl ?_ | refine qaa (qce rfl rfl) rfl ?_ | refine qaa (qcn rfl rfl) rfl ?_ | refine qaa (qcf rfl rfl) rfl ?_); (try simp only [Act.put, lyy])))
  refine qab ?_
  go_wp2_with fail
  exact bodyPost_ret (v := .tuple #[.agg (ptL zPt).toArray, .bool false]) (qbm Tryd.results39 rfl Tryd.underlying68 rfl (szPt _) (hM.out.get (i := 2) rfl).range) rfl ⟨rfl, hM.out.bl⟩
 ·go_upto_region 5 with fail
  refine wp_region_noPanic ?_; refine qay (S := fun _ V => Below a9.heap.size a9 V) (by kernel_rfl) ((Below.refl _ _).drew) (fun hS => ?_)
  refine qac 0 rfl rfl (by kernel_rfl) (by kernel_rfl) (by kernel_rfl) (fun _ _ _ h => h) rfl (fun V hV => qae (v := .bool true) rfl rfl) hS ?_; (try simp only [Act.put, lyy])
  refine qac 1 rfl rfl (by kernel_rfl) (by kernel_rfl) (by kernel_rfl) (fun _ _ _ h => h) rfl (fun V hV => qdf rfl rfl) hS ?_; (try simp only [Act.put, lyy])
  refine qac 2 rfl rfl (by kernel_rfl) (by kernel_rfl) (by kernel_rfl) (fun _ _ _ h => h) rfl (fun V hV => qae (v := .bool false) rfl rfl) hS ?_; (try simp only [Act.put, lyy])
  refine qac 3 rfl rfl (by kernel_rfl) (by kernel_rfl) (by kernel_rfl) (fun _ _ _ h => h) rfl (fun V hV => qaj (vs := feL Y) rfl Tryd.underlying66 rfl (szFe _) rfl ((hM.out.below hV).get (i := 1) rfl).range) hS ?_; (try simp only [Act.put, lyy])
  refine qac 5 rfl rfl (by kernel_rfl) (by kernel_rfl) (by kernel_rfl) (fun _ _ _ h => h) rfl (fun V hV => qaj (vs := k'.map b8) rfl Tryd.underlying24 rfl SK.out rfl ((hM.out.below hV).get (i := 3) rfl).range) hS ?_; (try simp only [Act.put, lyy])
  refine qbi 4 (by kernel_rfl) rfl rfl rfl (qap enters_bytes rfl rfl rfl) (qbq (CB.out _ (HG.out.below (hM.out.below hS).bl))) (fun v w h => hS.trans (h.2.mono hS.size)) (fun v c1 hR => ?_); (try simp only [Act.put, lyy])
  obtain ⟨rfl, hb⟩ := hR
  replace hS := hS.trans (hb.mono hS.size)
  clear hb
  cases cn
  ·have hres := R1.out rfl
   subst hres
   refine qac 6 rfl rfl (by kernel_rfl) (by kernel_rfl) (by kernel_rfl) (fun _ _ _ h => h) rfl (fun V hV => run_neKyB (c := true) hybl hkl rfl rfl rfl (by rw [HCN.out]; rfl)) hS ?_; (try simp only [Act.put, lyy])
   refine qac 7 rfl rfl (by kernel_rfl) (by kernel_rfl) (by kernel_rfl) (fun _ _ _ h => h) rfl (fun V hV => qaz (b := false) (v := .bool true) rfl rfl rfl) hS ?_; (try simp only [Act.put, lyy])
   refine qa2 (by kernel_rfl) ?_ _; refine NoPanic.normal ?_
   replace hM := Lib.hid (hM.out.below hS)
   clear hS
   go_upto_region 6 with fail; refine wp_region_lit ?_
   refine qaa (run_bld0 (cells := (ptL zPt).toArray) rfl built_pt0) rfl ?_; (try simp only [Act.put, lyy])
   refine qag (qar (vs := ptL zPt) rfl (szPt _) rfl rfl (onePt _) ((hM.out.get (i := 2) rfl).there)) rfl rfl ?_; replace hM := Lib.hid (hM.out.put 2 rfl (m := ptL zPt) rfl); generalize c1.setCells g2 0 (ptL zPt) = cz at *
   (repeat ((first | refine qaa (qae (v := b32 _) rfl rfl) rfl ?_ | refine qaa (qae (v := b64 _) rfl rfl) rfl ?_ | refine qaa (qae (v := b8 _) rfl rfl) rfl ?_ | refine qaa (qae (v := .int _ _) rfl rfl) rfl ?_ | refine qaa (qae (v := .bool _) rfl rfl) rfl ?_ | refine qaa (qae (v := .slice (some _) _ _) rfl rfl) rfl ?_ | refine qaa (qae (v := .slice _ _ _) rfl rfl) rfl ?_ | refine qaa (qae (v := .pointer (some _)) rfl rfl) rfl ?_ | refine qaa (qae (v := .agg _) rfl rfl) rfl ?_ | refine qaa (qaf (v := b32 _) rfl rfl) rfl ?_ | refine qaa (qaf (v := b64 _) rfl rfl) rfl ?_ | refine qaa (qaf (v := b8 _) rfl rfl) rfl ?_ | refine qaa (qaf (v := .int _ _) rfl rfl) rfl ?_ | refine qaa (qaf (v := .bool _) rfl rfl) rfl ?_ | refine qaa (qaf (v := .slice (some _) _ _) rfl rfl) rfl ?_ | refine qaa (qaf (v := .slice _ _ _) rfl rfl) rfl ?_ | refine qaa (qaf (v := .pointer (some _)) rfl rfl) rfl ?_ | refine qaa (qaf (v := .agg _) rfl rfl) rfl ?_ | refine qaa (qae rfl rfl) rfl ?_ | refine qaa (qaf rfl rfl) rfl ?_ | refine qaa (qcy rfl rfl rfl) rfl ?_ | refine qaa (qc0 rfl rfl rfl) rfl ?_ | refine qaa (qde rfl rfl rfl) rfl ?_ | refine qaa (qc1 rfl rfl rfl) rfl ?_ | refine qaa (qcz rfl rfl) rfl ?_ | refine qaa (qb6 rfl rfl rfl) rfl ?_ | refine qaa (qb2 rfl rfl rfl) rfl ?_ | refine qaa (qcp rfl rfl rfl) rfl ?_ | refine qaa (run_add64 rfl rfl rfl) rfl ?_ | refine qaa (qcs rfl rfl) rfl ?_ | refine qaa (qdd rfl rfl rfl) rfl ?_ | refine qaa (qcw rfl rfl rfl) rfl ?_ | refine qaa (qdj rfl rfl rfl) rfl ?_ | refine qaa (qdi rfl rfl rfl) rfl ?_ | refine qaa (qdg rfl rfl) rfl ?_ | refine qaa (qch rfl rfl) rfl ?_ | refine qaa (qcm rfl rfl) rfl ?_ | refine qaa (qce rfl rfl) rfl ?_ | refine qaa (qcn rfl rfl) rfl ?_ | refine qaa (qcf rfl rfl) rfl ?_); (try simp only [Act.put, lyy])))
   refine qab ?_
   go_wp2_with fail
   exact bodyPost_ret (v := .tuple #[.agg (ptL zPt).toArray, .bool false]) (qbm Tryd.results39 rfl Tryd.underlying68 rfl (szPt _) (hM.out.get (i := 2) rfl).range) rfl ⟨rfl, hM.out.bl⟩
  ·refine qac 6 rfl rfl (by kernel_rfl) (by kernel_rfl) (by kernel_rfl) (fun _ _ _ h => h) rfl (fun V hV => run_neKyB (c := false) hybl hkl rfl rfl rfl (by rw [HCN.out]; rfl)) hS ?_; (try simp only [Act.put, lyy])
   refine qac 7 rfl rfl (by kernel_rfl) (by kernel_rfl) (by kernel_rfl) (fun _ _ _ h => h) rfl (fun V hV => qaz (b := false) (v := .bool false) rfl rfl rfl) hS ?_; (try simp only [Act.put, lyy])
   refine qa2 (by kernel_rfl) ?_ _; refine NoPanic.normal ?_
   replace hM := Lib.hid (hM.out.below hS)
   clear hS
   cases od
   ·have hres := R2.out rfl rfl rfl
    subst hres
    go_upto_region 8 with fail; refine wp_region_lit ?_
    refine qaa (qaj (vs := ptL ep) rfl Tryd.underlying68 rfl (szPt _) rfl ((hM.out.get (i := 0) rfl).range)) rfl ?_; (try simp only [Act.put, lyy])
    refine qag (qar (vs := ptL ep) rfl (szPt _) rfl rfl (onePt _) ((hM.out.get (i := 2) rfl).there)) rfl rfl ?_; replace hM := Lib.hid (hM.out.put 2 rfl (m := ptL ep) rfl); generalize c1.setCells g2 0 (ptL ep) = cz at *
    (repeat ((first | refine qaa (qae (v := b32 _) rfl rfl) rfl ?_ | refine qaa (qae (v := b64 _) rfl rfl) rfl ?_ | refine qaa (qae (v := b8 _) rfl rfl) rfl ?_ | refine qaa (qae (v := .int _ _) rfl rfl) rfl ?_ | refine qaa (qae (v := .bool _) rfl rfl) rfl ?_ | refine qaa (qae (v := .slice (some _) _ _) rfl rfl) rfl ?_ | refine qaa (qae (v := .slice _ _ _) rfl rfl) rfl ?_ | refine qaa (qae (v := .pointer (some _)) rfl rfl) rfl ?_ | refine qaa (qae (v := .agg _) rfl rfl) rfl ?_ | refine qaa (qaf (v := b32 _) rfl rfl) rfl ?_ | refine qaa (qaf (v := b64 _) rfl rfl) rfl ?_ | refine qaa (qaf (v := b8 _) rfl rfl) rfl ?_ | refine qaa (qaf (v := .int _ _) rfl rfl) rfl ?_ | refine qaa (qaf (v := .bool _) rfl rfl) rfl ?_ | refine qaa (qaf (v := .slice (some _) _ _) rfl rfl) rfl ?_ | refine qaa (qaf (v := .slice _ _ _) rfl rfl) rfl ?_ | refine qaa (qaf (v := .pointer (some _)) rfl rfl) rfl ?_ | refine qaa (qaf (v := .agg _) rfl rfl) rfl ?_ | refine qaa (qae rfl rfl) rfl ?_ | refine qaa (qaf rfl rfl) rfl ?_ | refine qaa (qcy rfl rfl rfl) rfl ?_ | refine qaa (qc0 rfl rfl rfl) rfl ?_ | refine qaa (qde rfl rfl rfl) rfl ?_ | refine qaa (qc1 rfl rfl rfl) rfl ?_ | refine qaa (qcz rfl rfl) rfl ?_ | refine qaa (qb6 rfl rfl rfl) rfl ?_ | refine qaa (qb2 rfl rfl rfl) rfl ?_ | refine qaa (qcp rfl rfl rfl) rfl ?_ | refine qaa (run_add64 rfl rfl rfl) rfl ?_ | refine qaa (qcs rfl rfl) rfl ?_ | refine qaa (qdd rfl rfl rfl) rfl ?_ | refine qaa (qcw rfl rfl rfl) rfl ?_ | refine qaa (qdj rfl rfl rfl) rfl ?_ | refine qaa (qdi rfl rfl rfl) rfl ?_ | refine qaa (qdg rfl rfl) rfl ?_ | refine qaa (qch rfl rfl) rfl ?_ | refine qaa (qcm rfl rfl) rfl ?_ | refine qaa (qce rfl rfl) rfl ?_ | refine qaa (qcn rfl rfl) rfl ?_ | refine qaa (qcf rfl rfl) rfl ?_); (try simp only [Act.put, lyy])))
    refine qab ?_
    go_wp2_with fail
    exact bodyPost_ret (v := .tuple #[.agg (ptL ep).toArray, .bool true]) (qbm Tryd.results39 rfl Tryd.underlying68 rfl (szPt _) (hM.out.get (i := 2) rfl).range) rfl ⟨rfl, hM.out.bl⟩
   ·go_upto_region 9 with fail; refine wp_region_lit ?_
    refine qaa (qaj (vs := ptL ep) rfl Tryd.underlying68 rfl (szPt _) rfl ((hM.out.get (i := 0) rfl).range)) rfl ?_; (try simp only [Act.put, lyy])
    refine qam (qap enters_negP rfl rfl rfl) rfl (CN.out _ (HG.out.below hM.out.bl)) (fun c2 hb => ?_); (try simp only [Act.put, lyy]); replace hM := Lib.hid (hM.out.below hb); clear hb
    refine qaa (qat (vs := zq 8) rfl (by kernel_rfl)) rfl ?_; (try simp only [Act.put, lyy]); replace hM := Lib.hid (hM.out.new (zq 8) 68); generalize c2.alloc (.cells (zq 8).toArray 68) = c3 at *; generalize c2.heap.size = g5 at *
    refine qag (qar (vs := ptL np) rfl (szPt _) rfl rfl (onePt _) ((hM.out.get (i := 0) rfl).there)) rfl rfl ?_; replace hM := Lib.hid (hM.out.put 0 rfl (m := ptL np) rfl); generalize c3.setCells g5 0 (ptL np) = c4 at *
    refine qab ?_
    go_upto_region 10 with fail; refine wp_region_lit ?_
    refine qaa (qaj (vs := ptL np) rfl Tryd.underlying68 rfl (szPt _) rfl ((hM.out.get (i := 0) rfl).range)) rfl ?_; (try simp only [Act.put, lyy])
    refine qaa (qaj (vs := ptL ep) rfl Tryd.underlying68 rfl (szPt _) rfl ((hM.out.get (i := 1) rfl).range)) rfl ?_; (try simp only [Act.put, lyy])
    by_cases hne : np = ep
    ·have hres := R3.out rfl rfl rfl
     rw [if_pos hne] at hres
     refine qaa (run_eqPt (c := true) hnpn hepn rfl rfl rfl (decide_eq_true hne)) rfl ?_; (try simp only [Act.put, lyy])
     subst hres
     refine qab ?_
     go_upto_region 11 with fail; refine wp_region_lit ?_
     refine qaa (run_bld0 (cells := (ptL zPt).toArray) rfl built_pt0) rfl ?_; (try simp only [Act.put, lyy])
     refine qag (qar (vs := ptL zPt) rfl (szPt _) rfl rfl (onePt _) ((hM.out.get (i := 3) rfl).there)) rfl rfl ?_; replace hM := Lib.hid (hM.out.put 3 rfl (m := ptL zPt) rfl); generalize c4.setCells g2 0 (ptL zPt) = cz at *
     (repeat ((first | refine qaa (qae (v := b32 _) rfl rfl) rfl ?_ | refine qaa (qae (v := b64 _) rfl rfl) rfl ?_ | refine qaa (qae (v := b8 _) rfl rfl) rfl ?_ | refine qaa (qae (v := .int _ _) rfl rfl) rfl ?_ | refine qaa (qae (v := .bool _) rfl rfl) rfl ?_ | refine qaa (qae (v := .slice (some _) _ _) rfl rfl) rfl ?_ | refine qaa (qae (v := .slice _ _ _) rfl rfl) rfl ?_ | refine qaa (qae (v := .pointer (some _)) rfl rfl) rfl ?_ | refine qaa (qae (v := .agg _) rfl rfl) rfl ?_ | refine qaa (qaf (v := b32 _) rfl rfl) rfl ?_ | refine qaa (qaf (v := b64 _) rfl rfl) rfl ?_ | refine qaa (qaf (v := b8 _) rfl rfl) rfl ?_ | refine qaa (qaf (v := .int _ _) rfl rfl) rfl ?_ | refine qaa (qaf (v := .bool _) rfl rfl) rfl ?_ | refine qaa (qaf (v := .slice (some _) _ _) rfl rfl) rfl ?_ | refine qaa (qaf (v := .slice _ _ _) rfl rfl) rfl ?_ | refine qaa (qaf (v := .pointer (some _)) rfl rfl) rfl ?_ | refine qaa (qaf (v := .agg _) rfl rfl) rfl ?_ | refine qaa (qae rfl rfl) rfl ?_ | refine qaa (qaf rfl rfl) rfl ?_ | refine qaa (qcy rfl rfl rfl) rfl ?_ | refine qaa (qc0 rfl rfl rfl) rfl ?_ | refine qaa (qde rfl rfl rfl) rfl ?_ | refine qaa (qc1 rfl rfl rfl) rfl ?_ | refine qaa (qcz rfl rfl) rfl ?_ | refine qaa (qb6 rfl rfl rfl) rfl ?_ | refine qaa (qb2 rfl rfl rfl) rfl ?_ | refine qaa (qcp rfl rfl rfl) rfl ?_ | refine qaa (run_add64 rfl rfl rfl) rfl ?_ | refine qaa (qcs rfl rfl) rfl ?_ | refine qaa (qdd rfl rfl rfl) rfl ?_ | refine qaa (qcw rfl rfl rfl) rfl ?_ | refine qaa (qdj rfl rfl rfl) rfl ?_ | refine qaa (qdi rfl rfl rfl) rfl ?_ | refine qaa (qdg rfl rfl) rfl ?_ | refine qaa (qch rfl rfl) rfl ?_ | refine qaa (qcm rfl rfl) rfl ?_ | refine qaa (qce rfl rfl) rfl ?_ | refine qaa (qcn rfl rfl) rfl ?_ | refine qaa (qcf rfl rfl) rfl ?_); (try simp only [Act.put, lyy])))
     refine qab ?_
     go_wp2_with fail
     exact bodyPost_ret (v := .tuple #[.agg (ptL zPt).toArray, .bool false]) (qbm Tryd.results39 rfl Tryd.underlying68 rfl (szPt _) (hM.out.get (i := 3) rfl).range) rfl ⟨rfl, hM.out.bl⟩
    ·have hres := R3.out rfl rfl rfl
     rw [if_neg hne] at hres
     refine qaa (run_eqPt (c := false) hnpn hepn rfl rfl rfl (decide_eq_false hne)) rfl ?_; (try simp only [Act.put, lyy])
     subst hres
     refine qab ?_
     go_upto_region 12 with fail; refine wp_region_lit ?_
     refine qaa (qaj (vs := ptL np) rfl Tryd.underlying68 rfl (szPt _) rfl ((hM.out.get (i := 0) rfl).range)) rfl ?_; (try simp only [Act.put, lyy])
     refine qag (qar (vs := ptL np) rfl (szPt _) rfl rfl (onePt _) ((hM.out.get (i := 3) rfl).there)) rfl rfl ?_; replace hM := Lib.hid (hM.out.put 3 rfl (m := ptL np) rfl); generalize c4.setCells g2 0 (ptL np) = cz at *
     (repeat ((first | refine qaa (qae (v := b32 _) rfl rfl) rfl ?_ | refine qaa (qae (v := b64 _) rfl rfl) rfl ?_ | refine qaa (qae (v := b8 _) rfl rfl) rfl ?_ | refine qaa (qae (v := .int _ _) rfl rfl) rfl ?_ | refine qaa (qae (v := .bool _) rfl rfl) rfl ?_ | refine qaa (qae (v := .slice (some _) _ _) rfl rfl) rfl ?_ | refine qaa (qae (v := .slice _ _ _) rfl rfl) rfl ?_ | refine qaa (qae (v := .pointer (some _)) rfl rfl) rfl ?_ | refine qaa (qae (v := .agg _) rfl rfl) rfl ?_ | refine qaa (qaf (v := b32 _) rfl rfl) rfl ?_ | refine qaa (qaf (v := b64 _) rfl rfl) rfl ?_ | refine qaa (qaf (v := b8 _) rfl rfl) rfl ?_ | refine qaa (qaf (v := .int _ _) rfl rfl) rfl ?_ | refine qaa (qaf (v := .bool _) rfl rfl) rfl ?_ | refine qaa (qaf (v := .slice (some _) _ _) rfl rfl) rfl ?_ | refine qaa (qaf (v := .slice _ _ _) rfl rfl) rfl ?_ | refine qaa (qaf (v := .pointer (some _)) rfl rfl) rfl ?_ | refine qaa (qaf (v := .agg _) rfl rfl) rfl ?_ | refine qaa (qae rfl rfl) rfl ?_ | refine qaa (qaf rfl rfl) rfl ?_ | refine qaa (qcy rfl rfl rfl) rfl ?_ | refine qaa (qc0 rfl rfl rfl) rfl ?_ | refine qaa (qde rfl rfl rfl) rfl ?_ | refine qaa (qc1 rfl rfl rfl) rfl ?_ | refine qaa (qcz rfl rfl) rfl ?_ | refine qaa (qb6 rfl rfl rfl) rfl ?_ | refine qaa (qb2 rfl rfl rfl) rfl ?_ | refine qaa (qcp rfl rfl rfl) rfl ?_ | refine qaa (run_add64 rfl rfl rfl) rfl ?_ | refine qaa (qcs rfl rfl) rfl ?_ | refine qaa (qdd rfl rfl rfl) rfl ?_ | refine qaa (qcw rfl rfl rfl) rfl ?_ | refine qaa (qdj rfl rfl rfl) rfl ?_ | refine qaa (qdi rfl rfl rfl) rfl ?_ | refine qaa (qdg rfl rfl) rfl ?_ | refine qaa (qch rfl rfl) rfl ?_ | refine qaa (qcm rfl rfl) rfl ?_ | refine qaa (qce rfl rfl) rfl ?_ | refine qaa (qcn rfl rfl) rfl ?_ | refine qaa (qcf rfl rfl) rfl ?_); (try simp only [Act.put, lyy])))
     refine qab ?_
     go_wp2_with fail
     exact bodyPost_ret (v := .tuple #[.agg (ptL np).toArray, .bool true]) (qbm Tryd.results39 rfl Tryd.underlying68 rfl (szPt _) (hM.out.get (i := 3) rfl).range) rfl ⟨rfl, hM.out.bl⟩
theorem enters_decode : Enters 39 := qaq Tryd.func39 (by kernel_rfl) rfl
end Go.Proofs.YtcgbgmbnagmohaaDoor
