import Derived.Test.YtgioojahadlmhaaLy
import Derived.Test.YtgioojahadlmhaaPw4
import Derived.Test.YtgioojahadlmhaaWrG
namespace Go.Proofs.Ytgioojahadlmhaa
open Go.RowKit
set_option maxRecDepth 20000
attribute [local irreducible] wpList
theorem rqB_al (m : MRq) : rqB m = viB m.kind ++ viB m.acc ++ viB m.dev ++ txB m.pin ++ txB m.next ++ txB m.name ++ lsB m.ls ++ m.token ++ pkB m.signed ++ m.sig ++ alB pkB m.ones ++ viB m.ver ++ alB itB m.items := by simp [rqB, rqF, rqH, psB, alB, List.append_assoc]; rfl
theorem enters_wreq : Enters 40 := qan Try.func40 (by kernel_rfl) rfl
set_option maxHeartbeats 4000000 in
theorem wreq_any (w : World) (p : Nat) (L : List (Nat × List Value)) (l : List (BitVec 8)) (m : MRq) (X : List Value) (u : World) (hm : m.Ok) (ho : ∀ p ∈ m.items, -9223372036854775808 ≤ p.2.one) (hX : Fro 0 (rqAt m X) w) (hb : l.length + (rqB m).length ≤ 100000000000) (H : Ww w p L l u) : Calls Try.prog 40 #[.pointer (some ⟨p, 0, none⟩), .agg (X).toArray] u fun e u' => ∃ v', e = .returned v' ∧ Ww w p L (l ++ (rqB m)) u' := by
  obtain ⟨c1, a0, c0, a2, c2, rfl, l1, o1, f1, f2, f3⟩ := rqAt_fix hm hX
  clear hX
  have F1 := Lib.hid f1
  have F2 := Lib.hid f2
  have F3 := Lib.hid f3
  have y1 := hm.kind0
  have y2 := hm.kind1
  have hls := hm.ls
  have k1 := hm.token
  have k2 := hm.signed
  have k3 := hm.sig
  have K4 := Lib.hid hm.ones
  have K5 := Lib.hid hm.items
  have n1 := hm.many
  have n2 := hm.much
  have HO := Lib.hid ho
  clear f1 f2 f3 hm ho
  have EB : Hid (l ++ viB m.kind ++ viB m.acc ++ viB m.dev ++ txB m.pin ++ txB m.next ++ txB m.name ++ lsB m.ls ++ m.token ++ pkB m.signed ++ m.sig ++ alB pkB m.ones ++ viB m.ver ++ alB itB m.items = l ++ (rqB m)) := Lib.hid (by rw [rqB_al]; simp only [List.append_assoc])
  have HB : Hid ((l ++ viB m.kind ++ viB m.acc ++ viB m.dev ++ txB m.pin ++ txB m.next ++ txB m.name ++ lsB m.ls ++ m.token ++ pkB m.signed ++ m.sig ++ alB pkB m.ones ++ viB m.ver ++ alB itB m.items).length ≤ 100000000000) := Lib.hid (by rw [EB.out, List.length_append]; exact hb)
  have E := Lib.hid H
  clear hb H
  go_enter Try.func40, Try.ntmps40
  go_upto_region 0 with fail; refine wp_region_lit ?_
  refine qaa (qbu (vs := rqR (.int .u8 m.kind) (.int .i64 m.acc) (.int .i64 m.dev) (.string (strOf m.pin)) (.string (strOf m.next)) (.string (strOf m.name)) (c1) (m.token.map b8) (pkC m.signed) (m.sig.map b8) (.slice a0 m.ones.length c0) (.int .i64 m.ver) (.slice a2 m.items.length c2)) rfl rfl) rfl ?_; (try simp only [Act.put, lyy])
  replace E := Lib.hid (E.out.new (rqR (.int .u8 m.kind) (.int .i64 m.acc) (.int .i64 m.dev) (.string (strOf m.pin)) (.string (strOf m.next)) (.string (strOf m.name)) (c1) (m.token.map b8) (pkC m.signed) (m.sig.map b8) (.slice a0 m.ones.length c0) (.int .i64 m.ver) (.slice a2 m.items.length c2)) 46)
  generalize u.alloc (.cells (rqR (.int .u8 m.kind) (.int .i64 m.acc) (.int .i64 m.dev) (.string (strOf m.pin)) (.string (strOf m.next)) (.string (strOf m.name)) (c1) (m.token.map b8) (pkC m.signed) (m.sig.map b8) (.slice a0 m.ones.length c0) (.int .i64 m.ver) (.slice a2 m.items.length c2)).toArray 46) = a1 at *
  generalize u.heap.size = g2 at *
  refine qab ?_
  go_upto_region 1 with fail; refine wp_region_lit ?_
  refine qaa (qad (v := .pointer (some ⟨p, 0, none⟩)) rfl rfl) rfl ?_; (try simp only [Act.put, lyy])
  refine qaa (qat (s := 0) (k := 0) rfl Try.underlying46 rfl (by kernel_rfl) rfl rfl) rfl ?_; (try simp only [Act.put, lyy])
  refine qaa (qaz rfl Try.underlying5 rfl rfl ((E.out.get (i := 0) rfl).c 0 _ (rqR_Kind ))) rfl ?_; (try simp only [Act.put, lyy])
  refine qaa (run_cv8iR rfl rfl y1 y2) rfl ?_; (try simp only [Act.put, lyy])
  refine qag (qaf qa0 rfl rfl rfl rfl) rfl (qbj w p _ _ (m.kind) _ (by have h := HB.out; simp only [List.length_append] at h ⊢; omega) E.out) (fun v4 a3 hR => ?_); (try simp only [Act.put, lyy])
  replace E := Lib.hid hR
  clear hR
  refine qab ?_
  go_upto_region 2 with fail; refine wp_region_lit ?_
  refine qaa (qad (v := .pointer (some ⟨p, 0, none⟩)) rfl rfl) rfl ?_; (try simp only [Act.put, lyy])
  refine qaa (qat (s := 0) (k := 1) rfl Try.underlying46 rfl (by kernel_rfl) rfl rfl) rfl ?_; (try simp only [Act.put, lyy])
  refine qaa (qaz rfl Try.underlying3 rfl rfl ((E.out.get (i := 0) rfl).c 1 _ (rqR_Account ))) rfl ?_; (try simp only [Act.put, lyy])
  refine qag (qaf qa0 rfl rfl rfl rfl) rfl (qbj w p _ _ (m.acc) _ (by have h := HB.out; simp only [List.length_append] at h ⊢; omega) E.out) (fun v6 a5 hR => ?_); (try simp only [Act.put, lyy])
  replace E := Lib.hid hR
  clear hR
  refine qab ?_
  go_upto_region 3 with fail; refine wp_region_lit ?_
  refine qaa (qad (v := .pointer (some ⟨p, 0, none⟩)) rfl rfl) rfl ?_; (try simp only [Act.put, lyy])
  refine qaa (qat (s := 0) (k := 2) rfl Try.underlying46 rfl (by kernel_rfl) rfl rfl) rfl ?_; (try simp only [Act.put, lyy])
  refine qaa (qaz rfl Try.underlying3 rfl rfl ((E.out.get (i := 0) rfl).c 2 _ (rqR_Device ))) rfl ?_; (try simp only [Act.put, lyy])
  refine qag (qaf qa0 rfl rfl rfl rfl) rfl (qbj w p _ _ (m.dev) _ (by have h := HB.out; simp only [List.length_append] at h ⊢; omega) E.out) (fun v8 a7 hR => ?_); (try simp only [Act.put, lyy])
  replace E := Lib.hid hR
  clear hR
  refine qab ?_
  go_upto_region 4 with fail; refine wp_region_lit ?_
  refine qaa (qad (v := .pointer (some ⟨p, 0, none⟩)) rfl rfl) rfl ?_; (try simp only [Act.put, lyy])
  refine qaa (qat (s := 0) (k := 3) rfl Try.underlying46 rfl (by kernel_rfl) rfl rfl) rfl ?_; (try simp only [Act.put, lyy])
  refine qaa (qaz rfl Try.underlying9 rfl rfl ((E.out.get (i := 0) rfl).c 3 _ (rqR_Pin ))) rfl ?_; (try simp only [Act.put, lyy])
  refine qag (qaf enters_wtxt rfl rfl rfl rfl) rfl (wtxt_any w p _ _ (m.pin) _ (by have h := HB.out; simp only [List.length_append] at h ⊢; omega) E.out) (fun v10 a9 hR => ?_); (try simp only [Act.put, lyy])
  replace E := Lib.hid hR
  clear hR
  refine qab ?_
  go_upto_region 5 with fail; refine wp_region_lit ?_
  refine qaa (qad (v := .pointer (some ⟨p, 0, none⟩)) rfl rfl) rfl ?_; (try simp only [Act.put, lyy])
  refine qaa (qat (s := 0) (k := 4) rfl Try.underlying46 rfl (by kernel_rfl) rfl rfl) rfl ?_; (try simp only [Act.put, lyy])
  refine qaa (qaz rfl Try.underlying9 rfl rfl ((E.out.get (i := 0) rfl).c 4 _ (rqR_Next ))) rfl ?_; (try simp only [Act.put, lyy])
  refine qag (qaf enters_wtxt rfl rfl rfl rfl) rfl (wtxt_any w p _ _ (m.next) _ (by have h := HB.out; simp only [List.length_append] at h ⊢; omega) E.out) (fun v12 a11 hR => ?_); (try simp only [Act.put, lyy])
  replace E := Lib.hid hR
  clear hR
  refine qab ?_
  go_upto_region 6 with fail; refine wp_region_lit ?_
  refine qaa (qad (v := .pointer (some ⟨p, 0, none⟩)) rfl rfl) rfl ?_; (try simp only [Act.put, lyy])
  refine qaa (qat (s := 0) (k := 5) rfl Try.underlying46 rfl (by kernel_rfl) rfl rfl) rfl ?_; (try simp only [Act.put, lyy])
  refine qaa (qaz rfl Try.underlying9 rfl rfl ((E.out.get (i := 0) rfl).c 5 _ (rqR_Name ))) rfl ?_; (try simp only [Act.put, lyy])
  refine qag (qaf enters_wtxt rfl rfl rfl rfl) rfl (wtxt_any w p _ _ (m.name) _ (by have h := HB.out; simp only [List.length_append] at h ⊢; omega) E.out) (fun v14 a13 hR => ?_); (try simp only [Act.put, lyy])
  replace E := Lib.hid hR
  clear hR
  refine qab ?_
  go_upto_region 7 with fail; refine wp_region_lit ?_
  refine qaa (qad (v := .pointer (some ⟨p, 0, none⟩)) rfl rfl) rfl ?_; (try simp only [Act.put, lyy])
  refine qaa (qat (s := 98) (k := 6) rfl Try.underlying46 rfl (by kernel_rfl) rfl rfl) rfl ?_; (try simp only [Act.put, lyy])
  refine qaa (qa4 (vs := c1) rfl Try.underlying40 rfl (szR l1 (by kernel_rfl)) rfl ((E.out.get (i := 0) rfl).seg (rqR_List l1))) rfl ?_; (try simp only [Act.put, lyy])
  refine qag (qaf enters_wlst rfl rfl rfl rfl) rfl (wlst_any w p _ _ m.ls c1 _ hls F1.out (by have h := HB.out; simp only [List.length_append] at h ⊢; omega) E.out) (fun v16 a15 hR => ?_); (try simp only [Act.put, lyy])
  replace E := Lib.hid hR
  clear hR
  refine qab ?_
  go_upto_region 8 with fail; refine wp_region_lit ?_
  refine qaa (qad (v := .pointer (some ⟨p, 0, none⟩)) rfl rfl) rfl ?_; (try simp only [Act.put, lyy])
  refine qaa (qat (s := 31) (k := 105) rfl Try.underlying46 rfl (by kernel_rfl) rfl rfl) rfl ?_; (try simp only [Act.put, lyy])
  refine qaa (qa4 (vs := m.token.map b8) rfl Try.underlying35 rfl (szR (by rw [List.length_map, k1]) (by kernel_rfl)) rfl ((E.out.get (i := 0) rfl).seg (rqR_Token l1 (by rw [List.length_map, k1])))) rfl ?_; (try simp only [Act.put, lyy])
  refine qag (qaf enters_wkey rfl rfl rfl rfl) rfl (wkey_any w p _ _ m.token _ k1 (by have h := HB.out; simp only [List.length_append] at h ⊢; omega) E.out) (fun v18 a17 hR => ?_); (try simp only [Act.put, lyy])
  replace E := Lib.hid hR
  clear hR
  refine qab ?_
  go_upto_region 9 with fail; refine wp_region_lit ?_
  refine qaa (qad (v := .pointer (some ⟨p, 0, none⟩)) rfl rfl) rfl ?_; (try simp only [Act.put, lyy])
  refine qaa (qat (s := 32) (k := 137) rfl Try.underlying46 rfl (by kernel_rfl) rfl rfl) rfl ?_; (try simp only [Act.put, lyy])
  refine qaa (qa4 (vs := pkC m.signed) rfl Try.underlying42 rfl (szR (pkC_len' k2) (by kernel_rfl)) rfl ((E.out.get (i := 0) rfl).seg (rqR_Signed l1 (by rw [List.length_map, k1]) (pkC_len' k2)))) rfl ?_; (try simp only [Act.put, lyy])
  refine qag (qaf enters_wpre rfl rfl rfl rfl) rfl (wpre_any w p _ _ m.signed _ k2 (by have h := HB.out; simp only [List.length_append] at h ⊢; omega) E.out) (fun v20 a19 hR => ?_); (try simp only [Act.put, lyy])
  replace E := Lib.hid hR
  clear hR
  refine qab ?_
  go_upto_region 10 with fail; refine wp_region_lit ?_
  refine qaa (qad (v := .pointer (some ⟨p, 0, none⟩)) rfl rfl) rfl ?_; (try simp only [Act.put, lyy])
  refine qaa (qat (s := 63) (k := 170) rfl Try.underlying46 rfl (by kernel_rfl) rfl rfl) rfl ?_; (try simp only [Act.put, lyy])
  refine qaa (qa4 (vs := m.sig.map b8) rfl Try.underlying38 rfl (szR (by rw [List.length_map, k3]) (by kernel_rfl)) rfl ((E.out.get (i := 0) rfl).seg (rqR_Sig l1 (by rw [List.length_map, k1]) (pkC_len' k2) (by rw [List.length_map, k3])))) rfl ?_; (try simp only [Act.put, lyy])
  refine qag (qaf enters_wsig rfl rfl rfl rfl) rfl (wsig_any w p _ _ m.sig _ k3 (by have h := HB.out; simp only [List.length_append] at h ⊢; omega) E.out) (fun v22 a21 hR => ?_); (try simp only [Act.put, lyy])
  replace E := Lib.hid hR
  clear hR
  refine qab ?_
  go_upto_region 11 with fail; refine wp_region_lit ?_
  refine qaa (qad (v := .pointer (some ⟨p, 0, none⟩)) rfl rfl) rfl ?_; (try simp only [Act.put, lyy])
  refine qaa (qat (s := 0) (k := 234) rfl Try.underlying46 rfl (by kernel_rfl) rfl rfl) rfl ?_; (try simp only [Act.put, lyy])
  refine qaa (qaz rfl Try.underlying43 rfl rfl ((E.out.get (i := 0) rfl).c 234 _ (rqR_Ones l1 (by rw [List.length_map, k1]) (pkC_len' k2) (by rw [List.length_map, k3])))) rfl ?_; (try simp only [Act.put, lyy])
  refine qag (run_call3 enters_walP rfl rfl rfl rfl rfl) rfl (walP_any w p _ _ m.ones a0 c0 _ (by omega) K4.out F2.out (by have h := HB.out; simp only [List.length_append] at h ⊢; omega) E.out) (fun v24 a23 hR => ?_); (try simp only [Act.put, lyy])
  replace E := Lib.hid hR
  clear hR
  refine qab ?_
  go_upto_region 12 with fail; refine wp_region_lit ?_
  refine qaa (qad (v := .pointer (some ⟨p, 0, none⟩)) rfl rfl) rfl ?_; (try simp only [Act.put, lyy])
  refine qaa (qat (s := 0) (k := 235) rfl Try.underlying46 rfl (by kernel_rfl) rfl rfl) rfl ?_; (try simp only [Act.put, lyy])
  refine qaa (qaz rfl Try.underlying3 rfl rfl ((E.out.get (i := 0) rfl).c 235 _ (rqR_Version l1 (by rw [List.length_map, k1]) (pkC_len' k2) (by rw [List.length_map, k3])))) rfl ?_; (try simp only [Act.put, lyy])
  refine qag (qaf qa0 rfl rfl rfl rfl) rfl (qbj w p _ _ (m.ver) _ (by have h := HB.out; simp only [List.length_append] at h ⊢; omega) E.out) (fun v26 a25 hR => ?_); (try simp only [Act.put, lyy])
  replace E := Lib.hid hR
  clear hR
  refine qab ?_
  go_upto_region 13 with fail; refine wp_region_lit ?_
  refine qaa (qad (v := .pointer (some ⟨p, 0, none⟩)) rfl rfl) rfl ?_; (try simp only [Act.put, lyy])
  refine qaa (qat (s := 0) (k := 236) rfl Try.underlying46 rfl (by kernel_rfl) rfl rfl) rfl ?_; (try simp only [Act.put, lyy])
  refine qaa (qaz rfl Try.underlying44 rfl rfl ((E.out.get (i := 0) rfl).c 236 _ (rqR_Items l1 (by rw [List.length_map, k1]) (pkC_len' k2) (by rw [List.length_map, k3])))) rfl ?_; (try simp only [Act.put, lyy])
  refine qag (run_call3 enters_walI rfl rfl rfl rfl rfl) rfl (walI_any w p _ _ m.items a2 c2 _ (by omega) (fun p hp => ⟨K5.out p hp, HO.out p hp⟩) F3.out (by have h := HB.out; simp only [List.length_append] at h ⊢; omega) E.out) (fun v28 a27 hR => ?_); (try simp only [Act.put, lyy])
  replace E := Lib.hid hR
  clear hR
  refine qab ?_
  have E2 := Lib.hid (E.out.drop.cast EB.out)
  go_wp2_with fail
  exact bodyPost_end (results_none Try.results40 _ _ _) rfl ⟨_, rfl, E2.out⟩
end Go.Proofs.Ytgioojahadlmhaa
namespace Go.Proofs.Ytgioojahadlmhaa
open Go.RowKit
set_option maxRecDepth 20000
attribute [local irreducible] wpList
theorem Ww.start (w : World) (t : TypeId) : Ww w w.heap.size [] [] (w.alloc (.cells ([.slice none 0 0] : List Value).toArray t)) :=
  ⟨⟨_, (Gw.start (Ev.start (w := w) (F := fun _ => True) fun _ _ => trivial) 5 1).new [.slice none 0 0] t⟩⟩
theorem rqAt_len {m : MRq} {X : List Value} {w : World} (hm : m.Ok) (h : Fro 0 (rqAt m X) w) : X.length = 237 := by
  obtain ⟨c1, a0, c0, a2, c2, rfl, l1, o1, f1, f2, f3⟩ := rqAt_fix hm h
  exact qau l1 (by rw [List.length_map, hm.token]) (pkC_len' hm.signed) (by rw [List.length_map, hm.sig])
theorem enters_wrLst : Enters 55 := qan Try.func55 (by kernel_rfl) rfl
theorem enters_xLst : Enters 22 := qan Try.func22 (by kernel_rfl) rfl
set_option maxHeartbeats 4000000 in
theorem wrLst_any (w : World) (m : MLs) (X : List Value) (hm : m.Ok) (hX : Fro 0 (lsAt m X) w) (hb : (lsB m).length ≤ 100000000000) : Calls Try.prog 55 #[.agg X.toArray, .func (.func 56) #[] #[]] w fun e w' => ∃ v', e = .returned v' ∧ S5 w v' (lsB m) w' := by
  have HC : Hid (∀ (w1 : World) (p : Nat) (u : World), Below w.heap.size w w1 → Ww w1 p [] [] u → Calls Try.prog 56 #[.pointer (some ⟨p, 0, none⟩), .agg X.toArray] u fun e u' => ∃ v', e = .returned v' ∧ Ww w1 p [] (lsB m) u') := Lib.hid fun w1 p u hw H => (by have h := wlst_any w1 p [] [] m X u hm (hX.below hw) (by simpa using hb) H; rw [List.nil_append] at h; exact h)
  have hln : (X).length = 99 := lsAt_len hm hX.now
  clear hb hX hm
  generalize lsB m = out at *
  have HLN := Lib.hid hln
  clear hln
  go_enter Try.func55, Try.ntmps55
  go_upto_region 0 with fail; refine wp_region_lit ?_
  refine qaa (qbu (vs := X) rfl rfl) rfl ?_; (try simp only [Act.put, lyy])
  have HB : Hid (Below w.heap.size w (w.alloc (.cells X.toArray 40))) := Lib.hid ((Below.refl _ _).alloc (Nat.le_refl _) _)
  have HA := Lib.hid (Arr.new w X 40)
  generalize w.alloc (.cells X.toArray 40) = w1 at *
  generalize hg0 : w.heap.size = g0 at HA ⊢
  clear hg0
  refine qaa (qak (v := .slice none 0 0) rfl rfl) rfl ?_; (try simp only [Act.put, lyy])
  refine qab ?_
  go_upto_region 1 with fail; refine wp_region_lit ?_
  refine qaa (qa5 (vs := [.slice none 0 0]) rfl (by kernel_rfl)) rfl ?_; (try simp only [Act.put, lyy])
  have E := Lib.hid (Ww.start w1 140)
  generalize hw1 : w1.alloc (.cells ([.slice none 0 0] : List Value).toArray 140) = a1 at E ⊢
  clear hw1
  generalize hg1 : w1.heap.size = g1 at E ⊢
  clear hg1
  refine qab ?_
  go_upto_region 2 with fail; refine wp_region_lit ?_
  refine qaa (qad (v := .func (.func 56) #[] #[]) rfl rfl) rfl ?_; (try simp only [Act.put, lyy])
  refine qaa (qa4 (vs := X) rfl Try.underlying40 rfl (szR HLN.out (by kernel_rfl)) rfl (HA.out.below E.out.bl).range) rfl ?_; (try simp only [Act.put, lyy])
  refine qag (run_callv2 enters_wlst rfl rfl rfl rfl) rfl (HC.out _ _ _ HB.out E.out) (fun v1 a2 hR => ?_); (try simp only [Act.put, lyy])
  obtain ⟨v, G⟩ := hR.ex
  have GG := Lib.hid G
  clear hR G E
  obtain ⟨xa, xn, xc, rfl⟩ := GG.out.isSlice
  refine qab ?_
  go_upto_region 3 with fail; refine wp_region_lit ?_
  refine qaa (qat (s := 0) (k := 0) rfl Try.underlying140 rfl (by kernel_rfl) rfl rfl) rfl ?_; (try simp only [Act.put, lyy])
  refine qaa (qaz (v := .slice xa xn xc) rfl Try.underlying22 rfl rfl ((GG.out.get (i := 0) rfl).c 0 _ rfl)) rfl ?_; (try simp only [Act.put, lyy])
  refine qaa (qak (v := .slice xa xn xc) rfl rfl) rfl ?_; (try simp only [Act.put, lyy])
  refine qab ?_
  go_wp2_with fail
  exact bodyPost_ret (results_tmp Try.results55 _ _ _) rfl ⟨_, rfl, (show S5 w1 _ out _ from ⟨GG.out.bl, GG.out.row⟩).mono HB.out⟩
set_option maxHeartbeats 4000000 in
theorem xLst_any (w : World) (m : MLs) (X : List Value) (hm : m.Ok) (hX : Fro 0 (lsAt m X) w) (hb : (lsB m).length ≤ 100000000000) : Calls Try.prog 22 #[.agg X.toArray] w fun e w' => ∃ v', e = .returned v' ∧ S5 w v' (lsB m) w' := by
  have HC : Hid (∀ w1 : World, Below w.heap.size w w1 → Calls Try.prog 55 #[.agg X.toArray, .func (.func 56) #[] #[]] w1 fun e w' => ∃ v', e = .returned v' ∧ S5 w1 v' (lsB m) w') := Lib.hid fun w1 hw => wrLst_any w1 m X hm (hX.below hw) hb
  have hln : (X).length = 99 := lsAt_len hm hX.now
  clear hb hX hm
  generalize lsB m = out at *
  have HLN := Lib.hid hln
  clear hln
  go_enter Try.func22, Try.ntmps22
  go_upto_region 0 with fail; refine wp_region_lit ?_
  refine qaa (qbu (vs := X) rfl rfl) rfl ?_; (try simp only [Act.put, lyy])
  have HB : Hid (Below w.heap.size w (w.alloc (.cells X.toArray 40))) := Lib.hid ((Below.refl _ _).alloc (Nat.le_refl _) _)
  have HA := Lib.hid (Arr.new w X 40)
  generalize w.alloc (.cells X.toArray 40) = w1 at *
  generalize hg0 : w.heap.size = g0 at HA ⊢
  clear hg0
  refine qaa (qak (v := .slice none 0 0) rfl rfl) rfl ?_; (try simp only [Act.put, lyy])
  refine qab ?_
  go_upto_region 1 with fail; refine wp_region_lit ?_
  refine qaa (qa4 (vs := X) rfl Try.underlying40 rfl (szR HLN.out (by kernel_rfl)) rfl (HA.out).range) rfl ?_; (try simp only [Act.put, lyy])
  refine qag (qaf enters_wrLst rfl rfl rfl rfl) rfl (HC.out _ HB.out) (fun v1 a2 hR => ?_); (try simp only [Act.put, lyy])
  have HR := Lib.hid hR
  clear hR
  obtain ⟨xa, xc, rfl, -, -⟩ := HR.out.sl
  refine qaa (qak (v := .slice xa out.length xc) rfl rfl) rfl ?_; (try simp only [Act.put, lyy])
  refine qab ?_
  go_wp2_with fail
  exact bodyPost_ret (results_tmp Try.results22 _ _ _) rfl ⟨_, rfl, HR.out.mono HB.out⟩
theorem enters_wrReq : Enters 39 := qan Try.func39 (by kernel_rfl) rfl
theorem enters_xReq : Enters 11 := qan Try.func11 (by kernel_rfl) rfl
set_option maxHeartbeats 4000000 in
theorem wrReq_any (w : World) (m : MRq) (X : List Value) (hm : m.Ok) (ho : ∀ p ∈ m.items, -9223372036854775808 ≤ p.2.one) (hX : Fro 0 (rqAt m X) w) (hb : (rqB m).length ≤ 100000000000) : Calls Try.prog 39 #[.agg X.toArray, .func (.func 40) #[] #[]] w fun e w' => ∃ v', e = .returned v' ∧ S5 w v' (rqB m) w' := by
  have HC : Hid (∀ (w1 : World) (p : Nat) (u : World), Below w.heap.size w w1 → Ww w1 p [] [] u → Calls Try.prog 40 #[.pointer (some ⟨p, 0, none⟩), .agg X.toArray] u fun e u' => ∃ v', e = .returned v' ∧ Ww w1 p [] (rqB m) u') := Lib.hid fun w1 p u hw H => (by have h := wreq_any w1 p [] [] m X u hm ho (hX.below hw) (by simpa using hb) H; rw [List.nil_append] at h; exact h)
  have hln : (X).length = 237 := rqAt_len hm hX
  clear hb hX ho hm
  generalize rqB m = out at *
  have HLN := Lib.hid hln
  clear hln
  go_enter Try.func39, Try.ntmps39
  go_upto_region 0 with fail; refine wp_region_lit ?_
  refine qaa (qbu (vs := X) rfl rfl) rfl ?_; (try simp only [Act.put, lyy])
  have HB : Hid (Below w.heap.size w (w.alloc (.cells X.toArray 46))) := Lib.hid ((Below.refl _ _).alloc (Nat.le_refl _) _)
  have HA := Lib.hid (Arr.new w X 46)
  generalize w.alloc (.cells X.toArray 46) = w1 at *
  generalize hg0 : w.heap.size = g0 at HA ⊢
  clear hg0
  refine qaa (qak (v := .slice none 0 0) rfl rfl) rfl ?_; (try simp only [Act.put, lyy])
  refine qab ?_
  go_upto_region 1 with fail; refine wp_region_lit ?_
  refine qaa (qa5 (vs := [.slice none 0 0]) rfl (by kernel_rfl)) rfl ?_; (try simp only [Act.put, lyy])
  have E := Lib.hid (Ww.start w1 140)
  generalize hw1 : w1.alloc (.cells ([.slice none 0 0] : List Value).toArray 140) = a1 at E ⊢
  clear hw1
  generalize hg1 : w1.heap.size = g1 at E ⊢
  clear hg1
  refine qab ?_
  go_upto_region 2 with fail; refine wp_region_lit ?_
  refine qaa (qad (v := .func (.func 40) #[] #[]) rfl rfl) rfl ?_; (try simp only [Act.put, lyy])
  refine qaa (qa4 (vs := X) rfl Try.underlying46 rfl (szR HLN.out (by kernel_rfl)) rfl (HA.out.below E.out.bl).range) rfl ?_; (try simp only [Act.put, lyy])
  refine qag (run_callv2 enters_wreq rfl rfl rfl rfl) rfl (HC.out _ _ _ HB.out E.out) (fun v1 a2 hR => ?_); (try simp only [Act.put, lyy])
  obtain ⟨v, G⟩ := hR.ex
  have GG := Lib.hid G
  clear hR G E
  obtain ⟨xa, xn, xc, rfl⟩ := GG.out.isSlice
  refine qab ?_
  go_upto_region 3 with fail; refine wp_region_lit ?_
  refine qaa (qat (s := 0) (k := 0) rfl Try.underlying140 rfl (by kernel_rfl) rfl rfl) rfl ?_; (try simp only [Act.put, lyy])
  refine qaa (qaz (v := .slice xa xn xc) rfl Try.underlying22 rfl rfl ((GG.out.get (i := 0) rfl).c 0 _ rfl)) rfl ?_; (try simp only [Act.put, lyy])
  refine qaa (qak (v := .slice xa xn xc) rfl rfl) rfl ?_; (try simp only [Act.put, lyy])
  refine qab ?_
  go_wp2_with fail
  exact bodyPost_ret (results_tmp Try.results39 _ _ _) rfl ⟨_, rfl, (show S5 w1 _ out _ from ⟨GG.out.bl, GG.out.row⟩).mono HB.out⟩
set_option maxHeartbeats 4000000 in
theorem xReq_any (w : World) (m : MRq) (X : List Value) (hm : m.Ok) (ho : ∀ p ∈ m.items, -9223372036854775808 ≤ p.2.one) (hX : Fro 0 (rqAt m X) w) (hb : (rqB m).length ≤ 100000000000) : Calls Try.prog 11 #[.agg X.toArray] w fun e w' => ∃ v', e = .returned v' ∧ S5 w v' (rqB m) w' := by
  have HC : Hid (∀ w1 : World, Below w.heap.size w w1 → Calls Try.prog 39 #[.agg X.toArray, .func (.func 40) #[] #[]] w1 fun e w' => ∃ v', e = .returned v' ∧ S5 w1 v' (rqB m) w') := Lib.hid fun w1 hw => wrReq_any w1 m X hm ho (hX.below hw) hb
  have hln : (X).length = 237 := rqAt_len hm hX
  clear hb hX ho hm
  generalize rqB m = out at *
  have HLN := Lib.hid hln
  clear hln
  go_enter Try.func11, Try.ntmps11
  go_upto_region 0 with fail; refine wp_region_lit ?_
  refine qaa (qbu (vs := X) rfl rfl) rfl ?_; (try simp only [Act.put, lyy])
  have HB : Hid (Below w.heap.size w (w.alloc (.cells X.toArray 46))) := Lib.hid ((Below.refl _ _).alloc (Nat.le_refl _) _)
  have HA := Lib.hid (Arr.new w X 46)
  generalize w.alloc (.cells X.toArray 46) = w1 at *
  generalize hg0 : w.heap.size = g0 at HA ⊢
  clear hg0
  refine qaa (qak (v := .slice none 0 0) rfl rfl) rfl ?_; (try simp only [Act.put, lyy])
  refine qab ?_
  go_upto_region 1 with fail; refine wp_region_lit ?_
  refine qaa (qa4 (vs := X) rfl Try.underlying46 rfl (szR HLN.out (by kernel_rfl)) rfl (HA.out).range) rfl ?_; (try simp only [Act.put, lyy])
  refine qag (qaf enters_wrReq rfl rfl rfl rfl) rfl (HC.out _ HB.out) (fun v1 a2 hR => ?_); (try simp only [Act.put, lyy])
  have HR := Lib.hid hR
  clear hR
  obtain ⟨xa, xc, rfl, -, -⟩ := HR.out.sl
  refine qaa (qak (v := .slice xa out.length xc) rfl rfl) rfl ?_; (try simp only [Act.put, lyy])
  refine qab ?_
  go_wp2_with fail
  exact bodyPost_ret (results_tmp Try.results11 _ _ _) rfl ⟨_, rfl, HR.out.mono HB.out⟩
theorem enters_wrUss : Enters 35 := qan Try.func35 (by kernel_rfl) rfl
theorem enters_xUss : Enters 8 := qan Try.func8 (by kernel_rfl) rfl
set_option maxHeartbeats 4000000 in
theorem wrUss_any (w : World) (ms : List MUs) (a : Option Addr) (c : Nat) (hn : ms.length ≤ 100000000000) (hX : Fro 0 (SlR 3 usAt ms a c) w) (hb : (alB usB ms).length ≤ 100000000000) : Calls Try.prog 35 #[.slice a ms.length c, .func (.func 36) #[] #[]] w fun e w' => ∃ v', e = .returned v' ∧ S5 w v' (alB usB ms) w' := by
  have HC : Hid (∀ (w1 : World) (p : Nat) (u : World), Below w.heap.size w w1 → Ww w1 p [] [] u → Calls Try.prog 36 #[.pointer (some ⟨p, 0, none⟩), .slice a ms.length c] u fun e u' => ∃ v', e = .returned v' ∧ Ww w1 p [] (alB usB ms) u') := Lib.hid fun w1 p u hw H => (by have h := wuss_any w1 p [] [] ms a c u hn (hX.below hw) (by simpa using hb) H; rw [List.nil_append] at h; exact h)
  clear hb hX hn
  generalize ms.length = n at *
  generalize alB usB ms = out at *
  go_enter Try.func35, Try.ntmps35
  go_upto_region 0 with fail; refine wp_region_lit ?_
  have HB : Hid (Below w.heap.size w w) := Lib.hid (Below.refl _ _)
  refine qaa (qak (v := .slice none 0 0) rfl rfl) rfl ?_; (try simp only [Act.put, lyy])
  refine qab ?_
  go_upto_region 1 with fail; refine wp_region_lit ?_
  refine qaa (qa5 (vs := [.slice none 0 0]) rfl (by kernel_rfl)) rfl ?_; (try simp only [Act.put, lyy])
  have E := Lib.hid (Ww.start w 140)
  generalize hw1 : w.alloc (.cells ([.slice none 0 0] : List Value).toArray 140) = a1 at E ⊢
  clear hw1
  generalize hg1 : w.heap.size = g1 at E ⊢
  clear hg1
  refine qab ?_
  go_upto_region 2 with fail; refine wp_region_lit ?_
  refine qaa (qad (v := .func (.func 36) #[] #[]) rfl rfl) rfl ?_; (try simp only [Act.put, lyy])
  refine qaa (qad (v := .slice a n c) rfl rfl) rfl ?_; (try simp only [Act.put, lyy])
  refine qag (run_callv2 enters_wuss rfl rfl rfl rfl) rfl (HC.out _ _ _ HB.out E.out) (fun v1 a2 hR => ?_); (try simp only [Act.put, lyy])
  obtain ⟨v, G⟩ := hR.ex
  have GG := Lib.hid G
  clear hR G E
  obtain ⟨xa, xn, xc, rfl⟩ := GG.out.isSlice
  refine qab ?_
  go_upto_region 3 with fail; refine wp_region_lit ?_
  refine qaa (qat (s := 0) (k := 0) rfl Try.underlying140 rfl (by kernel_rfl) rfl rfl) rfl ?_; (try simp only [Act.put, lyy])
  refine qaa (qaz (v := .slice xa xn xc) rfl Try.underlying22 rfl rfl ((GG.out.get (i := 0) rfl).c 0 _ rfl)) rfl ?_; (try simp only [Act.put, lyy])
  refine qaa (qak (v := .slice xa xn xc) rfl rfl) rfl ?_; (try simp only [Act.put, lyy])
  refine qab ?_
  go_wp2_with fail
  exact bodyPost_ret (results_tmp Try.results35 _ _ _) rfl ⟨_, rfl, (show S5 w _ out _ from ⟨GG.out.bl, GG.out.row⟩).mono HB.out⟩
set_option maxHeartbeats 4000000 in
theorem xUss_any (w : World) (ms : List MUs) (a : Option Addr) (c : Nat) (hn : ms.length ≤ 100000000000) (hX : Fro 0 (SlR 3 usAt ms a c) w) (hb : (alB usB ms).length ≤ 100000000000) : Calls Try.prog 8 #[.slice a ms.length c] w fun e w' => ∃ v', e = .returned v' ∧ S5 w v' (alB usB ms) w' := by
  have HC : Hid (∀ w1 : World, Below w.heap.size w w1 → Calls Try.prog 35 #[.slice a ms.length c, .func (.func 36) #[] #[]] w1 fun e w' => ∃ v', e = .returned v' ∧ S5 w1 v' (alB usB ms) w') := Lib.hid fun w1 hw => wrUss_any w1 ms a c hn (hX.below hw) hb
  clear hb hX hn
  generalize ms.length = n at *
  generalize alB usB ms = out at *
  go_enter Try.func8, Try.ntmps8
  go_upto_region 0 with fail; refine wp_region_lit ?_
  have HB : Hid (Below w.heap.size w w) := Lib.hid (Below.refl _ _)
  refine qaa (qak (v := .slice none 0 0) rfl rfl) rfl ?_; (try simp only [Act.put, lyy])
  refine qab ?_
  go_upto_region 1 with fail; refine wp_region_lit ?_
  refine qaa (qad (v := .slice a n c) rfl rfl) rfl ?_; (try simp only [Act.put, lyy])
  refine qag (qaf enters_wrUss rfl rfl rfl rfl) rfl (HC.out _ HB.out) (fun v1 a2 hR => ?_); (try simp only [Act.put, lyy])
  have HR := Lib.hid hR
  clear hR
  obtain ⟨xa, xc, rfl, -, -⟩ := HR.out.sl
  refine qaa (qak (v := .slice xa out.length xc) rfl rfl) rfl ?_; (try simp only [Act.put, lyy])
  refine qab ?_
  go_wp2_with fail
  exact bodyPost_ret (results_tmp Try.results8 _ _ _) rfl ⟨_, rfl, HR.out.mono HB.out⟩
end Go.Proofs.Ytgioojahadlmhaa
