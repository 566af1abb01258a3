import Derived.Test.YtcgbgmbnagmohaaGreatLy
import Derived.Test.YtcgbgmbnagmohaaGreatPw3
import Derived.Test.YtcgbgmbnagmohaaGreatPw5
namespace Go.Proofs.YtcgbgmbnagmohaaGreat
open Go.RowKit
set_option maxRecDepth 20000
attribute [local irreducible] wpList
theorem Ww.start (w : World) (t : TypeId) : Ww w w.heap.size [] [] (w.alloc (.cells ([.slice none 0 0] : List Value).toArray t)) :=
  ⟨⟨_, (Gw.start (Ev.start (w := w) (F := fun _ => True) fun _ _ => trivial) 5 1).new [.slice none 0 0] t⟩⟩
theorem enters_wrLst : Enters 59 := qan Tryz.func59 (by kernel_rfl) rfl
theorem enters_xLst : Enters 20 := qan Tryz.func20 (by kernel_rfl) rfl
set_option maxHeartbeats 4000000 in
theorem wrLst_any (w : World) (m : MLs) (X : List Value) (hm : m.Ok) (hX : Fro 0 (lsAt m X) w) (hb : (lsB m).length ≤ 100000000000) : Calls Tryz.prog 59 #[.agg X.toArray, .func (.func 60) #[] #[]] w fun e w' => ∃ v', e = .returned v' ∧ S5 w v' (lsB m) w' := by
  have HC : Hid (∀ (w1 : World) (p : Nat) (u : World), Below w.heap.size w w1 → Ww w1 p [] [] u → Calls Tryz.prog 60 #[.pointer (some ⟨p, 0, none⟩), .agg X.toArray] u fun e u' => ∃ v', e = .returned v' ∧ Ww w1 p [] (lsB m) u') := Lib.hid fun w1 p u hw H => (by have h := wlst_any w1 p [] [] m X u hm (hX.below hw) (by simpa using hb) H; rw [List.nil_append] at h; exact h)
  have hln : (X).length = 99 := lsAt_len hm hX.now
  clear hb hX hm
  generalize lsB m = out at *
  have HLN := Lib.hid hln
  clear hln
  go_enter Tryz.func59, Tryz.ntmps59
  go_upto_region 0 with fail; refine wp_region_lit ?_
  refine qaa (qa8 (vs := X) rfl rfl) rfl ?_; (try simp only [Act.put, lyy])
  have HB : Hid (Below w.heap.size w (w.alloc (.cells X.toArray 32))) := Lib.hid ((Below.refl _ _).alloc (Nat.le_refl _) _)
  have HA := Lib.hid (Arr.new w X 32)
  generalize w.alloc (.cells X.toArray 32) = w1 at *
  generalize hg0 : w.heap.size = g0 at HA ⊢
  clear hg0
  refine qaa (qak (v := .slice none 0 0) rfl rfl) rfl ?_; (try simp only [Act.put, lyy])
  refine qab ?_
  go_upto_region 1 with fail; refine wp_region_lit ?_
  refine qaa (qa3 (vs := [.slice none 0 0]) rfl (by kernel_rfl)) rfl ?_; (try simp only [Act.put, lyy])
  have E := Lib.hid (Ww.start w1 208)
  generalize hw1 : w1.alloc (.cells ([.slice none 0 0] : List Value).toArray 208) = a1 at E ⊢
  clear hw1
  generalize hg1 : w1.heap.size = g1 at E ⊢
  clear hg1
  refine qab ?_
  go_upto_region 2 with fail; refine wp_region_lit ?_
  refine qaa (qad (v := .func (.func 60) #[] #[]) rfl rfl) rfl ?_; (try simp only [Act.put, lyy])
  refine qaa (qat (vs := X) rfl Tryz.underlying32 rfl (szR HLN.out (by kernel_rfl)) rfl (HA.out.below E.out.bl).range) rfl ?_; (try simp only [Act.put, lyy])
  refine qag (qcb enters_wlst rfl rfl rfl rfl) rfl (HC.out _ _ _ HB.out E.out) (fun v1 a2 hR => ?_); (try simp only [Act.put, lyy])
  obtain ⟨v, G⟩ := hR.ex
  have GG := Lib.hid G
  clear hR G E
  obtain ⟨xa, xn, xc, rfl⟩ := GG.out.isSlice
  refine qab ?_
  go_upto_region 3 with fail; refine wp_region_lit ?_
  refine qaa (qai (s := 0) (k := 0) rfl Tryz.underlying208 rfl (by kernel_rfl) rfl rfl) rfl ?_; (try simp only [Act.put, lyy])
  refine qaa (qam (v := .slice xa xn xc) rfl Tryz.underlying22 rfl rfl ((GG.out.get (i := 0) rfl).c 0 _ rfl)) rfl ?_; (try simp only [Act.put, lyy])
  refine qaa (qak (v := .slice xa xn xc) rfl rfl) rfl ?_; (try simp only [Act.put, lyy])
  refine qab ?_
  go_wp2_with fail
  exact bodyPost_ret (results_tmp Tryz.results59 _ _ _) rfl ⟨_, rfl, (show S5 w1 _ out _ from ⟨GG.out.bl, GG.out.row⟩).mono HB.out⟩
set_option maxHeartbeats 4000000 in
theorem xLst_any (w : World) (m : MLs) (X : List Value) (hm : m.Ok) (hX : Fro 0 (lsAt m X) w) (hb : (lsB m).length ≤ 100000000000) : Calls Tryz.prog 20 #[.agg X.toArray] w fun e w' => ∃ v', e = .returned v' ∧ S5 w v' (lsB m) w' := by
  have HC : Hid (∀ w1 : World, Below w.heap.size w w1 → Calls Tryz.prog 59 #[.agg X.toArray, .func (.func 60) #[] #[]] w1 fun e w' => ∃ v', e = .returned v' ∧ S5 w1 v' (lsB m) w') := Lib.hid fun w1 hw => wrLst_any w1 m X hm (hX.below hw) hb
  have hln : (X).length = 99 := lsAt_len hm hX.now
  clear hb hX hm
  generalize lsB m = out at *
  have HLN := Lib.hid hln
  clear hln
  go_enter Tryz.func20, Tryz.ntmps20
  go_upto_region 0 with fail; refine wp_region_lit ?_
  refine qaa (qa8 (vs := X) rfl rfl) rfl ?_; (try simp only [Act.put, lyy])
  have HB : Hid (Below w.heap.size w (w.alloc (.cells X.toArray 32))) := Lib.hid ((Below.refl _ _).alloc (Nat.le_refl _) _)
  have HA := Lib.hid (Arr.new w X 32)
  generalize w.alloc (.cells X.toArray 32) = w1 at *
  generalize hg0 : w.heap.size = g0 at HA ⊢
  clear hg0
  refine qaa (qak (v := .slice none 0 0) rfl rfl) rfl ?_; (try simp only [Act.put, lyy])
  refine qab ?_
  go_upto_region 1 with fail; refine wp_region_lit ?_
  refine qaa (qat (vs := X) rfl Tryz.underlying32 rfl (szR HLN.out (by kernel_rfl)) rfl (HA.out).range) rfl ?_; (try simp only [Act.put, lyy])
  refine qag (qaf enters_wrLst rfl rfl rfl rfl) rfl (HC.out _ HB.out) (fun v1 a2 hR => ?_); (try simp only [Act.put, lyy])
  have HR := Lib.hid hR
  clear hR
  obtain ⟨xa, xc, rfl, -, -⟩ := HR.out.sl
  refine qaa (qak (v := .slice xa out.length xc) rfl rfl) rfl ?_; (try simp only [Act.put, lyy])
  refine qab ?_
  go_wp2_with fail
  exact bodyPost_ret (results_tmp Tryz.results20 _ _ _) rfl ⟨_, rfl, HR.out.mono HB.out⟩
end Go.Proofs.YtcgbgmbnagmohaaGreat
namespace Go.Proofs.YtcgbgmbnagmohaaGreat
open Go.RowKit
set_option maxRecDepth 20000
attribute [local irreducible] wpList
theorem evAt_len {m : MEv} {X : List Value} {V : World} (hm : m.Ok) (h : evAt m X V) : X.length = 72 := by
  obtain ⟨_, _, rfl, -⟩ := h
  exact evC_len hm _
theorem rqAt_len {m : MRq} {X : List Value} {w : World} (hm : m.Ok) (h : Fro 0 (rqAt m X) w) : X.length = 237 := by
  obtain ⟨c1, a0, c0, a2, c2, rfl, l1, o1, f1, f2, f3⟩ := rqAt_fix hm h
  exact qa1 l1 (by rw [List.length_map, hm.token]) (pkC_len' hm.signed) (by rw [List.length_map, hm.sig])
theorem rpAt_len {m : MRp} {X : List Value} {w : World} (hm : m.Ok) (h : Fro 0 (rpAt m X) w) : X.length = 265 := by
  obtain ⟨c1, c2, a0, c0, rfl, l1, l2, o1, o2, f1, f2, f3⟩ := rpAt_fix hm h
  exact qbo l1 l2
theorem acAt_len {m : MAc} {X : List Value} {w : World} (hm : m.Ok) (h : Fro 0 (acAt m X) w) : X.length = 105 := by
  obtain ⟨c1, a0, c0, a2, c2, rfl, l1, o1, f1, f2, f3⟩ := acAt_fix hm h
  exact qbq l1
theorem enters_wrEnv : Enters 63 := qan Tryz.func63 (by kernel_rfl) rfl
theorem enters_xEnv : Enters 22 := qan Tryz.func22 (by kernel_rfl) rfl
set_option maxHeartbeats 4000000 in
theorem wrEnv_any (w : World) (m : MEv) (X : List Value) (hm : m.Ok) (ho : -9223372036854775808 ≤ m.one) (hX : Fro 0 (evAt m X) w) (hb : (evB m).length ≤ 100000000000) : Calls Tryz.prog 63 #[.agg X.toArray, .func (.func 64) #[] #[]] w fun e w' => ∃ v', e = .returned v' ∧ S5 w v' (evB m) w' := by
  have HC : Hid (∀ (w1 : World) (p : Nat) (u : World), Below w.heap.size w w1 → Ww w1 p [] [] u → Calls Tryz.prog 64 #[.pointer (some ⟨p, 0, none⟩), .agg X.toArray] u fun e u' => ∃ v', e = .returned v' ∧ Ww w1 p [] (evB m) u') := Lib.hid fun w1 p u hw H => (by have h := wenv_any w1 p [] [] m X u hm ho (hX.below hw) (by simpa using hb) H; rw [List.nil_append] at h; exact h)
  have hln : (X).length = 72 := evAt_len hm hX.now
  clear hb hX ho hm
  generalize evB m = out at *
  have HLN := Lib.hid hln
  clear hln
  go_enter Tryz.func63, Tryz.ntmps63
  go_upto_region 0 with fail; refine wp_region_lit ?_
  refine qaa (qa8 (vs := X) rfl rfl) rfl ?_; (try simp only [Act.put, lyy])
  have HB : Hid (Below w.heap.size w (w.alloc (.cells X.toArray 38))) := Lib.hid ((Below.refl _ _).alloc (Nat.le_refl _) _)
  have HA := Lib.hid (Arr.new w X 38)
  generalize w.alloc (.cells X.toArray 38) = w1 at *
  generalize hg0 : w.heap.size = g0 at HA ⊢
  clear hg0
  refine qaa (qak (v := .slice none 0 0) rfl rfl) rfl ?_; (try simp only [Act.put, lyy])
  refine qab ?_
  go_upto_region 1 with fail; refine wp_region_lit ?_
  refine qaa (qa3 (vs := [.slice none 0 0]) rfl (by kernel_rfl)) rfl ?_; (try simp only [Act.put, lyy])
  have E := Lib.hid (Ww.start w1 208)
  generalize hw1 : w1.alloc (.cells ([.slice none 0 0] : List Value).toArray 208) = a1 at E ⊢
  clear hw1
  generalize hg1 : w1.heap.size = g1 at E ⊢
  clear hg1
  refine qab ?_
  go_upto_region 2 with fail; refine wp_region_lit ?_
  refine qaa (qad (v := .func (.func 64) #[] #[]) rfl rfl) rfl ?_; (try simp only [Act.put, lyy])
  refine qaa (qat (vs := X) rfl Tryz.underlying38 rfl (szR HLN.out (by kernel_rfl)) rfl (HA.out.below E.out.bl).range) rfl ?_; (try simp only [Act.put, lyy])
  refine qag (qcb enters_wenv rfl rfl rfl rfl) rfl (HC.out _ _ _ HB.out E.out) (fun v1 a2 hR => ?_); (try simp only [Act.put, lyy])
  obtain ⟨v, G⟩ := hR.ex
  have GG := Lib.hid G
  clear hR G E
  obtain ⟨xa, xn, xc, rfl⟩ := GG.out.isSlice
  refine qab ?_
  go_upto_region 3 with fail; refine wp_region_lit ?_
  refine qaa (qai (s := 0) (k := 0) rfl Tryz.underlying208 rfl (by kernel_rfl) rfl rfl) rfl ?_; (try simp only [Act.put, lyy])
  refine qaa (qam (v := .slice xa xn xc) rfl Tryz.underlying22 rfl rfl ((GG.out.get (i := 0) rfl).c 0 _ rfl)) rfl ?_; (try simp only [Act.put, lyy])
  refine qaa (qak (v := .slice xa xn xc) rfl rfl) rfl ?_; (try simp only [Act.put, lyy])
  refine qab ?_
  go_wp2_with fail
  exact bodyPost_ret (results_tmp Tryz.results63 _ _ _) rfl ⟨_, rfl, (show S5 w1 _ out _ from ⟨GG.out.bl, GG.out.row⟩).mono HB.out⟩
set_option maxHeartbeats 4000000 in
theorem xEnv_any (w : World) (m : MEv) (X : List Value) (hm : m.Ok) (ho : -9223372036854775808 ≤ m.one) (hX : Fro 0 (evAt m X) w) (hb : (evB m).length ≤ 100000000000) : Calls Tryz.prog 22 #[.agg X.toArray] w fun e w' => ∃ v', e = .returned v' ∧ S5 w v' (evB m) w' := by
  have HC : Hid (∀ w1 : World, Below w.heap.size w w1 → Calls Tryz.prog 63 #[.agg X.toArray, .func (.func 64) #[] #[]] w1 fun e w' => ∃ v', e = .returned v' ∧ S5 w1 v' (evB m) w') := Lib.hid fun w1 hw => wrEnv_any w1 m X hm ho (hX.below hw) hb
  have hln : (X).length = 72 := evAt_len hm hX.now
  clear hb hX ho hm
  generalize evB m = out at *
  have HLN := Lib.hid hln
  clear hln
  go_enter Tryz.func22, Tryz.ntmps22
  go_upto_region 0 with fail; refine wp_region_lit ?_
  refine qaa (qa8 (vs := X) rfl rfl) rfl ?_; (try simp only [Act.put, lyy])
  have HB : Hid (Below w.heap.size w (w.alloc (.cells X.toArray 38))) := Lib.hid ((Below.refl _ _).alloc (Nat.le_refl _) _)
  have HA := Lib.hid (Arr.new w X 38)
  generalize w.alloc (.cells X.toArray 38) = w1 at *
  generalize hg0 : w.heap.size = g0 at HA ⊢
  clear hg0
  refine qaa (qak (v := .slice none 0 0) rfl rfl) rfl ?_; (try simp only [Act.put, lyy])
  refine qab ?_
  go_upto_region 1 with fail; refine wp_region_lit ?_
  refine qaa (qat (vs := X) rfl Tryz.underlying38 rfl (szR HLN.out (by kernel_rfl)) rfl (HA.out).range) rfl ?_; (try simp only [Act.put, lyy])
  refine qag (qaf enters_wrEnv rfl rfl rfl rfl) rfl (HC.out _ HB.out) (fun v1 a2 hR => ?_); (try simp only [Act.put, lyy])
  have HR := Lib.hid hR
  clear hR
  obtain ⟨xa, xc, rfl, -, -⟩ := HR.out.sl
  refine qaa (qak (v := .slice xa out.length xc) rfl rfl) rfl ?_; (try simp only [Act.put, lyy])
  refine qab ?_
  go_wp2_with fail
  exact bodyPost_ret (results_tmp Tryz.results22 _ _ _) rfl ⟨_, rfl, HR.out.mono HB.out⟩
theorem enters_wrReq : Enters 67 := qan Tryz.func67 (by kernel_rfl) rfl
theorem enters_xReq : Enters 24 := qan Tryz.func24 (by kernel_rfl) rfl
set_option maxHeartbeats 4000000 in
theorem wrReq_any (w : World) (m : MRq) (X : List Value) (hm : m.Ok) (ho : ∀ p ∈ m.items, -9223372036854775808 ≤ p.2.one) (hX : Fro 0 (rqAt m X) w) (hb : (rqB m).length ≤ 100000000000) : Calls Tryz.prog 67 #[.agg X.toArray, .func (.func 68) #[] #[]] w fun e w' => ∃ v', e = .returned v' ∧ S5 w v' (rqB m) w' := by
  have HC : Hid (∀ (w1 : World) (p : Nat) (u : World), Below w.heap.size w w1 → Ww w1 p [] [] u → Calls Tryz.prog 68 #[.pointer (some ⟨p, 0, none⟩), .agg X.toArray] u fun e u' => ∃ v', e = .returned v' ∧ Ww w1 p [] (rqB m) u') := Lib.hid fun w1 p u hw H => (by have h := wreq_any w1 p [] [] m X u hm ho (hX.below hw) (by simpa using hb) H; rw [List.nil_append] at h; exact h)
  have hln : (X).length = 237 := rqAt_len hm hX
  clear hb hX ho hm
  generalize rqB m = out at *
  have HLN := Lib.hid hln
  clear hln
  go_enter Tryz.func67, Tryz.ntmps67
  go_upto_region 0 with fail; refine wp_region_lit ?_
  refine qaa (qa8 (vs := X) rfl rfl) rfl ?_; (try simp only [Act.put, lyy])
  have HB : Hid (Below w.heap.size w (w.alloc (.cells X.toArray 46))) := Lib.hid ((Below.refl _ _).alloc (Nat.le_refl _) _)
  have HA := Lib.hid (Arr.new w X 46)
  generalize w.alloc (.cells X.toArray 46) = w1 at *
  generalize hg0 : w.heap.size = g0 at HA ⊢
  clear hg0
  refine qaa (qak (v := .slice none 0 0) rfl rfl) rfl ?_; (try simp only [Act.put, lyy])
  refine qab ?_
  go_upto_region 1 with fail; refine wp_region_lit ?_
  refine qaa (qa3 (vs := [.slice none 0 0]) rfl (by kernel_rfl)) rfl ?_; (try simp only [Act.put, lyy])
  have E := Lib.hid (Ww.start w1 208)
  generalize hw1 : w1.alloc (.cells ([.slice none 0 0] : List Value).toArray 208) = a1 at E ⊢
  clear hw1
  generalize hg1 : w1.heap.size = g1 at E ⊢
  clear hg1
  refine qab ?_
  go_upto_region 2 with fail; refine wp_region_lit ?_
  refine qaa (qad (v := .func (.func 68) #[] #[]) rfl rfl) rfl ?_; (try simp only [Act.put, lyy])
  refine qaa (qat (vs := X) rfl Tryz.underlying46 rfl (szR HLN.out (by kernel_rfl)) rfl (HA.out.below E.out.bl).range) rfl ?_; (try simp only [Act.put, lyy])
  refine qag (qcb enters_wreq rfl rfl rfl rfl) rfl (HC.out _ _ _ HB.out E.out) (fun v1 a2 hR => ?_); (try simp only [Act.put, lyy])
  obtain ⟨v, G⟩ := hR.ex
  have GG := Lib.hid G
  clear hR G E
  obtain ⟨xa, xn, xc, rfl⟩ := GG.out.isSlice
  refine qab ?_
  go_upto_region 3 with fail; refine wp_region_lit ?_
  refine qaa (qai (s := 0) (k := 0) rfl Tryz.underlying208 rfl (by kernel_rfl) rfl rfl) rfl ?_; (try simp only [Act.put, lyy])
  refine qaa (qam (v := .slice xa xn xc) rfl Tryz.underlying22 rfl rfl ((GG.out.get (i := 0) rfl).c 0 _ rfl)) rfl ?_; (try simp only [Act.put, lyy])
  refine qaa (qak (v := .slice xa xn xc) rfl rfl) rfl ?_; (try simp only [Act.put, lyy])
  refine qab ?_
  go_wp2_with fail
  exact bodyPost_ret (results_tmp Tryz.results67 _ _ _) rfl ⟨_, rfl, (show S5 w1 _ out _ from ⟨GG.out.bl, GG.out.row⟩).mono HB.out⟩
set_option maxHeartbeats 4000000 in
theorem xReq_any (w : World) (m : MRq) (X : List Value) (hm : m.Ok) (ho : ∀ p ∈ m.items, -9223372036854775808 ≤ p.2.one) (hX : Fro 0 (rqAt m X) w) (hb : (rqB m).length ≤ 100000000000) : Calls Tryz.prog 24 #[.agg X.toArray] w fun e w' => ∃ v', e = .returned v' ∧ S5 w v' (rqB m) w' := by
  have HC : Hid (∀ w1 : World, Below w.heap.size w w1 → Calls Tryz.prog 67 #[.agg X.toArray, .func (.func 68) #[] #[]] w1 fun e w' => ∃ v', e = .returned v' ∧ S5 w1 v' (rqB m) w') := Lib.hid fun w1 hw => wrReq_any w1 m X hm ho (hX.below hw) hb
  have hln : (X).length = 237 := rqAt_len hm hX
  clear hb hX ho hm
  generalize rqB m = out at *
  have HLN := Lib.hid hln
  clear hln
  go_enter Tryz.func24, Tryz.ntmps24
  go_upto_region 0 with fail; refine wp_region_lit ?_
  refine qaa (qa8 (vs := X) rfl rfl) rfl ?_; (try simp only [Act.put, lyy])
  have HB : Hid (Below w.heap.size w (w.alloc (.cells X.toArray 46))) := Lib.hid ((Below.refl _ _).alloc (Nat.le_refl _) _)
  have HA := Lib.hid (Arr.new w X 46)
  generalize w.alloc (.cells X.toArray 46) = w1 at *
  generalize hg0 : w.heap.size = g0 at HA ⊢
  clear hg0
  refine qaa (qak (v := .slice none 0 0) rfl rfl) rfl ?_; (try simp only [Act.put, lyy])
  refine qab ?_
  go_upto_region 1 with fail; refine wp_region_lit ?_
  refine qaa (qat (vs := X) rfl Tryz.underlying46 rfl (szR HLN.out (by kernel_rfl)) rfl (HA.out).range) rfl ?_; (try simp only [Act.put, lyy])
  refine qag (qaf enters_wrReq rfl rfl rfl rfl) rfl (HC.out _ HB.out) (fun v1 a2 hR => ?_); (try simp only [Act.put, lyy])
  have HR := Lib.hid hR
  clear hR
  obtain ⟨xa, xc, rfl, -, -⟩ := HR.out.sl
  refine qaa (qak (v := .slice xa out.length xc) rfl rfl) rfl ?_; (try simp only [Act.put, lyy])
  refine qab ?_
  go_wp2_with fail
  exact bodyPost_ret (results_tmp Tryz.results24 _ _ _) rfl ⟨_, rfl, HR.out.mono HB.out⟩
theorem enters_wrRsp : Enters 71 := qan Tryz.func71 (by kernel_rfl) rfl
theorem enters_xRsp : Enters 26 := qan Tryz.func26 (by kernel_rfl) rfl
set_option maxHeartbeats 4000000 in
theorem wrRsp_any (w : World) (m : MRp) (X : List Value) (hm : m.Ok) (ho : ∀ p ∈ m.mail, -9223372036854775808 ≤ p.one) (hX : Fro 0 (rpAt m X) w) (hb : (rpB m).length ≤ 100000000000) : Calls Tryz.prog 71 #[.agg X.toArray, .func (.func 72) #[] #[]] w fun e w' => ∃ v', e = .returned v' ∧ S5 w v' (rpB m) w' := by
  have HC : Hid (∀ (w1 : World) (p : Nat) (u : World), Below w.heap.size w w1 → Ww w1 p [] [] u → Calls Tryz.prog 72 #[.pointer (some ⟨p, 0, none⟩), .agg X.toArray] u fun e u' => ∃ v', e = .returned v' ∧ Ww w1 p [] (rpB m) u') := Lib.hid fun w1 p u hw H => (by have h := wrsp_any w1 p [] [] m X u hm ho (hX.below hw) (by simpa using hb) H; rw [List.nil_append] at h; exact h)
  have hln : (X).length = 265 := rpAt_len hm hX
  clear hb hX ho hm
  generalize rpB m = out at *
  have HLN := Lib.hid hln
  clear hln
  go_enter Tryz.func71, Tryz.ntmps71
  go_upto_region 0 with fail; refine wp_region_lit ?_
  refine qaa (qa8 (vs := X) rfl rfl) rfl ?_; (try simp only [Act.put, lyy])
  have HB : Hid (Below w.heap.size w (w.alloc (.cells X.toArray 54))) := Lib.hid ((Below.refl _ _).alloc (Nat.le_refl _) _)
  have HA := Lib.hid (Arr.new w X 54)
  generalize w.alloc (.cells X.toArray 54) = w1 at *
  generalize hg0 : w.heap.size = g0 at HA ⊢
  clear hg0
  refine qaa (qak (v := .slice none 0 0) rfl rfl) rfl ?_; (try simp only [Act.put, lyy])
  refine qab ?_
  go_upto_region 1 with fail; refine wp_region_lit ?_
  refine qaa (qa3 (vs := [.slice none 0 0]) rfl (by kernel_rfl)) rfl ?_; (try simp only [Act.put, lyy])
  have E := Lib.hid (Ww.start w1 208)
  generalize hw1 : w1.alloc (.cells ([.slice none 0 0] : List Value).toArray 208) = a1 at E ⊢
  clear hw1
  generalize hg1 : w1.heap.size = g1 at E ⊢
  clear hg1
  refine qab ?_
  go_upto_region 2 with fail; refine wp_region_lit ?_
  refine qaa (qad (v := .func (.func 72) #[] #[]) rfl rfl) rfl ?_; (try simp only [Act.put, lyy])
  refine qaa (qat (vs := X) rfl Tryz.underlying54 rfl (szR HLN.out (by kernel_rfl)) rfl (HA.out.below E.out.bl).range) rfl ?_; (try simp only [Act.put, lyy])
  refine qag (qcb enters_wrsp rfl rfl rfl rfl) rfl (HC.out _ _ _ HB.out E.out) (fun v1 a2 hR => ?_); (try simp only [Act.put, lyy])
  obtain ⟨v, G⟩ := hR.ex
  have GG := Lib.hid G
  clear hR G E
  obtain ⟨xa, xn, xc, rfl⟩ := GG.out.isSlice
  refine qab ?_
  go_upto_region 3 with fail; refine wp_region_lit ?_
  refine qaa (qai (s := 0) (k := 0) rfl Tryz.underlying208 rfl (by kernel_rfl) rfl rfl) rfl ?_; (try simp only [Act.put, lyy])
  refine qaa (qam (v := .slice xa xn xc) rfl Tryz.underlying22 rfl rfl ((GG.out.get (i := 0) rfl).c 0 _ rfl)) rfl ?_; (try simp only [Act.put, lyy])
  refine qaa (qak (v := .slice xa xn xc) rfl rfl) rfl ?_; (try simp only [Act.put, lyy])
  refine qab ?_
  go_wp2_with fail
  exact bodyPost_ret (results_tmp Tryz.results71 _ _ _) rfl ⟨_, rfl, (show S5 w1 _ out _ from ⟨GG.out.bl, GG.out.row⟩).mono HB.out⟩
set_option maxHeartbeats 4000000 in
theorem xRsp_any (w : World) (m : MRp) (X : List Value) (hm : m.Ok) (ho : ∀ p ∈ m.mail, -9223372036854775808 ≤ p.one) (hX : Fro 0 (rpAt m X) w) (hb : (rpB m).length ≤ 100000000000) : Calls Tryz.prog 26 #[.agg X.toArray] w fun e w' => ∃ v', e = .returned v' ∧ S5 w v' (rpB m) w' := by
  have HC : Hid (∀ w1 : World, Below w.heap.size w w1 → Calls Tryz.prog 71 #[.agg X.toArray, .func (.func 72) #[] #[]] w1 fun e w' => ∃ v', e = .returned v' ∧ S5 w1 v' (rpB m) w') := Lib.hid fun w1 hw => wrRsp_any w1 m X hm ho (hX.below hw) hb
  have hln : (X).length = 265 := rpAt_len hm hX
  clear hb hX ho hm
  generalize rpB m = out at *
  have HLN := Lib.hid hln
  clear hln
  go_enter Tryz.func26, Tryz.ntmps26
  go_upto_region 0 with fail; refine wp_region_lit ?_
  refine qaa (qa8 (vs := X) rfl rfl) rfl ?_; (try simp only [Act.put, lyy])
  have HB : Hid (Below w.heap.size w (w.alloc (.cells X.toArray 54))) := Lib.hid ((Below.refl _ _).alloc (Nat.le_refl _) _)
  have HA := Lib.hid (Arr.new w X 54)
  generalize w.alloc (.cells X.toArray 54) = w1 at *
  generalize hg0 : w.heap.size = g0 at HA ⊢
  clear hg0
  refine qaa (qak (v := .slice none 0 0) rfl rfl) rfl ?_; (try simp only [Act.put, lyy])
  refine qab ?_
  go_upto_region 1 with fail; refine wp_region_lit ?_
  refine qaa (qat (vs := X) rfl Tryz.underlying54 rfl (szR HLN.out (by kernel_rfl)) rfl (HA.out).range) rfl ?_; (try simp only [Act.put, lyy])
  refine qag (qaf enters_wrRsp rfl rfl rfl rfl) rfl (HC.out _ HB.out) (fun v1 a2 hR => ?_); (try simp only [Act.put, lyy])
  have HR := Lib.hid hR
  clear hR
  obtain ⟨xa, xc, rfl, -, -⟩ := HR.out.sl
  refine qaa (qak (v := .slice xa out.length xc) rfl rfl) rfl ?_; (try simp only [Act.put, lyy])
  refine qab ?_
  go_wp2_with fail
  exact bodyPost_ret (results_tmp Tryz.results26 _ _ _) rfl ⟨_, rfl, HR.out.mono HB.out⟩
theorem enters_wrAcc : Enters 75 := qan Tryz.func75 (by kernel_rfl) rfl
theorem enters_xAcc : Enters 28 := qan Tryz.func28 (by kernel_rfl) rfl
set_option maxHeartbeats 4000000 in
theorem wrAcc_any (w : World) (m : MAc) (X : List Value) (hm : m.Ok) (ho : ∀ s ∈ m.slots, ∀ p ∈ s.mail, -9223372036854775808 ≤ p.one) (hX : Fro 0 (acAt m X) w) (hb : (acB m).length ≤ 100000000000) : Calls Tryz.prog 75 #[.agg X.toArray, .func (.func 76) #[] #[]] w fun e w' => ∃ v', e = .returned v' ∧ S5 w v' (acB m) w' := by
  have HC : Hid (∀ (w1 : World) (p : Nat) (u : World), Below w.heap.size w w1 → Ww w1 p [] [] u → Calls Tryz.prog 76 #[.pointer (some ⟨p, 0, none⟩), .agg X.toArray] u fun e u' => ∃ v', e = .returned v' ∧ Ww w1 p [] (acB m) u') := Lib.hid fun w1 p u hw H => (by have h := wacc_any w1 p [] [] m X u hm ho (hX.below hw) (by simpa using hb) H; rw [List.nil_append] at h; exact h)
  have hln : (X).length = 105 := acAt_len hm hX
  clear hb hX ho hm
  generalize acB m = out at *
  have HLN := Lib.hid hln
  clear hln
  go_enter Tryz.func75, Tryz.ntmps75
  go_upto_region 0 with fail; refine wp_region_lit ?_
  refine qaa (qa8 (vs := X) rfl rfl) rfl ?_; (try simp only [Act.put, lyy])
  have HB : Hid (Below w.heap.size w (w.alloc (.cells X.toArray 60))) := Lib.hid ((Below.refl _ _).alloc (Nat.le_refl _) _)
  have HA := Lib.hid (Arr.new w X 60)
  generalize w.alloc (.cells X.toArray 60) = w1 at *
  generalize hg0 : w.heap.size = g0 at HA ⊢
  clear hg0
  refine qaa (qak (v := .slice none 0 0) rfl rfl) rfl ?_; (try simp only [Act.put, lyy])
  refine qab ?_
  go_upto_region 1 with fail; refine wp_region_lit ?_
  refine qaa (qa3 (vs := [.slice none 0 0]) rfl (by kernel_rfl)) rfl ?_; (try simp only [Act.put, lyy])
  have E := Lib.hid (Ww.start w1 208)
  generalize hw1 : w1.alloc (.cells ([.slice none 0 0] : List Value).toArray 208) = a1 at E ⊢
  clear hw1
  generalize hg1 : w1.heap.size = g1 at E ⊢
  clear hg1
  refine qab ?_
  go_upto_region 2 with fail; refine wp_region_lit ?_
  refine qaa (qad (v := .func (.func 76) #[] #[]) rfl rfl) rfl ?_; (try simp only [Act.put, lyy])
  refine qaa (qat (vs := X) rfl Tryz.underlying60 rfl (szR HLN.out (by kernel_rfl)) rfl (HA.out.below E.out.bl).range) rfl ?_; (try simp only [Act.put, lyy])
  refine qag (qcb enters_wacc rfl rfl rfl rfl) rfl (HC.out _ _ _ HB.out E.out) (fun v1 a2 hR => ?_); (try simp only [Act.put, lyy])
  obtain ⟨v, G⟩ := hR.ex
  have GG := Lib.hid G
  clear hR G E
  obtain ⟨xa, xn, xc, rfl⟩ := GG.out.isSlice
  refine qab ?_
  go_upto_region 3 with fail; refine wp_region_lit ?_
  refine qaa (qai (s := 0) (k := 0) rfl Tryz.underlying208 rfl (by kernel_rfl) rfl rfl) rfl ?_; (try simp only [Act.put, lyy])
  refine qaa (qam (v := .slice xa xn xc) rfl Tryz.underlying22 rfl rfl ((GG.out.get (i := 0) rfl).c 0 _ rfl)) rfl ?_; (try simp only [Act.put, lyy])
  refine qaa (qak (v := .slice xa xn xc) rfl rfl) rfl ?_; (try simp only [Act.put, lyy])
  refine qab ?_
  go_wp2_with fail
  exact bodyPost_ret (results_tmp Tryz.results75 _ _ _) rfl ⟨_, rfl, (show S5 w1 _ out _ from ⟨GG.out.bl, GG.out.row⟩).mono HB.out⟩
set_option maxHeartbeats 4000000 in
theorem xAcc_any (w : World) (m : MAc) (X : List Value) (hm : m.Ok) (ho : ∀ s ∈ m.slots, ∀ p ∈ s.mail, -9223372036854775808 ≤ p.one) (hX : Fro 0 (acAt m X) w) (hb : (acB m).length ≤ 100000000000) : Calls Tryz.prog 28 #[.agg X.toArray] w fun e w' => ∃ v', e = .returned v' ∧ S5 w v' (acB m) w' := by
  have HC : Hid (∀ w1 : World, Below w.heap.size w w1 → Calls Tryz.prog 75 #[.agg X.toArray, .func (.func 76) #[] #[]] w1 fun e w' => ∃ v', e = .returned v' ∧ S5 w1 v' (acB m) w') := Lib.hid fun w1 hw => wrAcc_any w1 m X hm ho (hX.below hw) hb
  have hln : (X).length = 105 := acAt_len hm hX
  clear hb hX ho hm
  generalize acB m = out at *
  have HLN := Lib.hid hln
  clear hln
  go_enter Tryz.func28, Tryz.ntmps28
  go_upto_region 0 with fail; refine wp_region_lit ?_
  refine qaa (qa8 (vs := X) rfl rfl) rfl ?_; (try simp only [Act.put, lyy])
  have HB : Hid (Below w.heap.size w (w.alloc (.cells X.toArray 60))) := Lib.hid ((Below.refl _ _).alloc (Nat.le_refl _) _)
  have HA := Lib.hid (Arr.new w X 60)
  generalize w.alloc (.cells X.toArray 60) = w1 at *
  generalize hg0 : w.heap.size = g0 at HA ⊢
  clear hg0
  refine qaa (qak (v := .slice none 0 0) rfl rfl) rfl ?_; (try simp only [Act.put, lyy])
  refine qab ?_
  go_upto_region 1 with fail; refine wp_region_lit ?_
  refine qaa (qat (vs := X) rfl Tryz.underlying60 rfl (szR HLN.out (by kernel_rfl)) rfl (HA.out).range) rfl ?_; (try simp only [Act.put, lyy])
  refine qag (qaf enters_wrAcc rfl rfl rfl rfl) rfl (HC.out _ HB.out) (fun v1 a2 hR => ?_); (try simp only [Act.put, lyy])
  have HR := Lib.hid hR
  clear hR
  obtain ⟨xa, xc, rfl, -, -⟩ := HR.out.sl
  refine qaa (qak (v := .slice xa out.length xc) rfl rfl) rfl ?_; (try simp only [Act.put, lyy])
  refine qab ?_
  go_wp2_with fail
  exact bodyPost_ret (results_tmp Tryz.results28 _ _ _) rfl ⟨_, rfl, HR.out.mono HB.out⟩
theorem enters_wrUss : Enters 79 := qan Tryz.func79 (by kernel_rfl) rfl
theorem enters_xUss : Enters 30 := qan Tryz.func30 (by kernel_rfl) rfl
set_option maxHeartbeats 4000000 in
theorem wrUss_any (w : World) (ms : List MUs) (a : Option Addr) (c : Nat) (hn : ms.length ≤ 100000000000) (hX : Fro 0 (SlR 3 usAt ms a c) w) (hb : (alB usB ms).length ≤ 100000000000) : Calls Tryz.prog 79 #[.slice a ms.length c, .func (.func 80) #[] #[]] w fun e w' => ∃ v', e = .returned v' ∧ S5 w v' (alB usB ms) w' := by
  have HC : Hid (∀ (w1 : World) (p : Nat) (u : World), Below w.heap.size w w1 → Ww w1 p [] [] u → Calls Tryz.prog 80 #[.pointer (some ⟨p, 0, none⟩), .slice a ms.length c] u fun e u' => ∃ v', e = .returned v' ∧ Ww w1 p [] (alB usB ms) u') := Lib.hid fun w1 p u hw H => (by have h := wuss_any w1 p [] [] ms a c u hn (hX.below hw) (by simpa using hb) H; rw [List.nil_append] at h; exact h)
  clear hb hX hn
  generalize ms.length = n at *
  generalize alB usB ms = out at *
  go_enter Tryz.func79, Tryz.ntmps79
  go_upto_region 0 with fail; refine wp_region_lit ?_
  have HB : Hid (Below w.heap.size w w) := Lib.hid (Below.refl _ _)
  refine qaa (qak (v := .slice none 0 0) rfl rfl) rfl ?_; (try simp only [Act.put, lyy])
  refine qab ?_
  go_upto_region 1 with fail; refine wp_region_lit ?_
  refine qaa (qa3 (vs := [.slice none 0 0]) rfl (by kernel_rfl)) rfl ?_; (try simp only [Act.put, lyy])
  have E := Lib.hid (Ww.start w 208)
  generalize hw1 : w.alloc (.cells ([.slice none 0 0] : List Value).toArray 208) = a1 at E ⊢
  clear hw1
  generalize hg1 : w.heap.size = g1 at E ⊢
  clear hg1
  refine qab ?_
  go_upto_region 2 with fail; refine wp_region_lit ?_
  refine qaa (qad (v := .func (.func 80) #[] #[]) rfl rfl) rfl ?_; (try simp only [Act.put, lyy])
  refine qaa (qad (v := .slice a n c) rfl rfl) rfl ?_; (try simp only [Act.put, lyy])
  refine qag (qcb enters_wuss rfl rfl rfl rfl) rfl (HC.out _ _ _ HB.out E.out) (fun v1 a2 hR => ?_); (try simp only [Act.put, lyy])
  obtain ⟨v, G⟩ := hR.ex
  have GG := Lib.hid G
  clear hR G E
  obtain ⟨xa, xn, xc, rfl⟩ := GG.out.isSlice
  refine qab ?_
  go_upto_region 3 with fail; refine wp_region_lit ?_
  refine qaa (qai (s := 0) (k := 0) rfl Tryz.underlying208 rfl (by kernel_rfl) rfl rfl) rfl ?_; (try simp only [Act.put, lyy])
  refine qaa (qam (v := .slice xa xn xc) rfl Tryz.underlying22 rfl rfl ((GG.out.get (i := 0) rfl).c 0 _ rfl)) rfl ?_; (try simp only [Act.put, lyy])
  refine qaa (qak (v := .slice xa xn xc) rfl rfl) rfl ?_; (try simp only [Act.put, lyy])
  refine qab ?_
  go_wp2_with fail
  exact bodyPost_ret (results_tmp Tryz.results79 _ _ _) rfl ⟨_, rfl, (show S5 w _ out _ from ⟨GG.out.bl, GG.out.row⟩).mono HB.out⟩
set_option maxHeartbeats 4000000 in
theorem xUss_any (w : World) (ms : List MUs) (a : Option Addr) (c : Nat) (hn : ms.length ≤ 100000000000) (hX : Fro 0 (SlR 3 usAt ms a c) w) (hb : (alB usB ms).length ≤ 100000000000) : Calls Tryz.prog 30 #[.slice a ms.length c] w fun e w' => ∃ v', e = .returned v' ∧ S5 w v' (alB usB ms) w' := by
  have HC : Hid (∀ w1 : World, Below w.heap.size w w1 → Calls Tryz.prog 79 #[.slice a ms.length c, .func (.func 80) #[] #[]] w1 fun e w' => ∃ v', e = .returned v' ∧ S5 w1 v' (alB usB ms) w') := Lib.hid fun w1 hw => wrUss_any w1 ms a c hn (hX.below hw) hb
  clear hb hX hn
  generalize ms.length = n at *
  generalize alB usB ms = out at *
  go_enter Tryz.func30, Tryz.ntmps30
  go_upto_region 0 with fail; refine wp_region_lit ?_
  have HB : Hid (Below w.heap.size w w) := Lib.hid (Below.refl _ _)
  refine qaa (qak (v := .slice none 0 0) rfl rfl) rfl ?_; (try simp only [Act.put, lyy])
  refine qab ?_
  go_upto_region 1 with fail; refine wp_region_lit ?_
  refine qaa (qad (v := .slice a n c) rfl rfl) rfl ?_; (try simp only [Act.put, lyy])
  refine qag (qaf enters_wrUss rfl rfl rfl rfl) rfl (HC.out _ HB.out) (fun v1 a2 hR => ?_); (try simp only [Act.put, lyy])
  have HR := Lib.hid hR
  clear hR
  obtain ⟨xa, xc, rfl, -, -⟩ := HR.out.sl
  refine qaa (qak (v := .slice xa out.length xc) rfl rfl) rfl ?_; (try simp only [Act.put, lyy])
  refine qab ?_
  go_wp2_with fail
  exact bodyPost_ret (results_tmp Tryz.results30 _ _ _) rfl ⟨_, rfl, HR.out.mono HB.out⟩
end Go.Proofs.YtcgbgmbnagmohaaGreat
