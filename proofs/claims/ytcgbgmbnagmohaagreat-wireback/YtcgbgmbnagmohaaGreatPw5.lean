import Derived.Test.YtcgbgmbnagmohaaGreatLy
import Derived.Test.YtcgbgmbnagmohaaGreatPw4
import Derived.Test.YtcgbgmbnagmohaaGreatWrG
namespace Go.Proofs.YtcgbgmbnagmohaaGreat
open Go.RowKit
set_option maxRecDepth 20000
attribute [local irreducible] wpList
theorem rqB_al (m : MRq) : rqB m = viB m.kind ++ viB m.acc ++ viB m.dev ++ txB m.pin ++ txB m.next ++ txB m.name ++ lsB m.ls ++ m.token ++ pkB m.signed ++ m.sig ++ alB pkB m.ones ++ viB m.ver ++ alB itB m.items := by simp [rqB, rqF, rqH, psB, alB, List.append_assoc]; rfl
theorem rpB_al (m : MRp) : rpB m = viB m.err ++ lsB m.ls ++ buB m.bu ++ alB evB m.mail := by simp [rpB, evsB, alB, List.append_assoc]
theorem slB_al (m : MSlot) : slB m = viB m.dev ++ pkB m.signed ++ m.sig ++ alB pkB m.ones ++ viB m.last ++ alB evB m.mail := by simp [slB, psB, evsB, alB, List.append_assoc]
theorem acB_al (m : MAc) : acB m = viB m.id ++ txB m.pin ++ viB m.wrong ++ viB m.till ++ lsB m.ls ++ alB slB m.slots ++ alB (fun k => k) m.tokens := by simp [acB, acG, acF, alB, List.append_assoc]
theorem enters_wreq : Enters 68 := qan Tryz.func68 (by kernel_rfl) rfl
set_option maxHeartbeats 4000000 in
theorem wreq_any (w : World) (p : Nat) (L : List (Nat × List Value)) (l : List (BitVec 8)) (m : MRq) (X : List Value) (u : World) (hm : m.Ok) (ho : ∀ p ∈ m.items, -9223372036854775808 ≤ p.2.one) (hX : Fro 0 (rqAt m X) w) (hb : l.length + (rqB m).length ≤ 100000000000) (H : Ww w p L l u) : Calls Tryz.prog 68 #[.pointer (some ⟨p, 0, none⟩), .agg (X).toArray] u fun e u' => ∃ v', e = .returned v' ∧ Ww w p L (l ++ (rqB m)) u' := by
  obtain ⟨c1, a0, c0, a2, c2, rfl, l1, o1, f1, f2, f3⟩ := rqAt_fix hm hX
  clear hX
  have F1 := Lib.hid f1
  have F2 := Lib.hid f2
  have F3 := Lib.hid f3
  have y1 := hm.kind0
  have y2 := hm.kind1
  have hls := hm.ls
  have k1 := hm.token
  have k2 := hm.signed
  have k3 := hm.sig
  have K4 := Lib.hid hm.ones
  have K5 := Lib.hid hm.items
  have n1 := hm.many
  have n2 := hm.much
  have HO := Lib.hid ho
  clear f1 f2 f3 hm ho
  have EB : Hid (l ++ viB m.kind ++ viB m.acc ++ viB m.dev ++ txB m.pin ++ txB m.next ++ txB m.name ++ lsB m.ls ++ m.token ++ pkB m.signed ++ m.sig ++ alB pkB m.ones ++ viB m.ver ++ alB itB m.items = l ++ (rqB m)) := Lib.hid (by rw [rqB_al]; simp only [List.append_assoc])
  have HB : Hid ((l ++ viB m.kind ++ viB m.acc ++ viB m.dev ++ txB m.pin ++ txB m.next ++ txB m.name ++ lsB m.ls ++ m.token ++ pkB m.signed ++ m.sig ++ alB pkB m.ones ++ viB m.ver ++ alB itB m.items).length ≤ 100000000000) := Lib.hid (by rw [EB.out, List.length_append]; exact hb)
  have E := Lib.hid H
  clear hb H
  go_enter Tryz.func68, Tryz.ntmps68
  go_upto_region 0 with fail; refine wp_region_lit ?_
  refine qaa (qa8 (vs := rqR (.int .u8 m.kind) (.int .i64 m.acc) (.int .i64 m.dev) (.string (strOf m.pin)) (.string (strOf m.next)) (.string (strOf m.name)) (c1) (m.token.map b8) (pkC m.signed) (m.sig.map b8) (.slice a0 m.ones.length c0) (.int .i64 m.ver) (.slice a2 m.items.length c2)) rfl rfl) rfl ?_; (try simp only [Act.put, lyy])
  replace E := Lib.hid (E.out.new (rqR (.int .u8 m.kind) (.int .i64 m.acc) (.int .i64 m.dev) (.string (strOf m.pin)) (.string (strOf m.next)) (.string (strOf m.name)) (c1) (m.token.map b8) (pkC m.signed) (m.sig.map b8) (.slice a0 m.ones.length c0) (.int .i64 m.ver) (.slice a2 m.items.length c2)) 46)
  generalize u.alloc (.cells (rqR (.int .u8 m.kind) (.int .i64 m.acc) (.int .i64 m.dev) (.string (strOf m.pin)) (.string (strOf m.next)) (.string (strOf m.name)) (c1) (m.token.map b8) (pkC m.signed) (m.sig.map b8) (.slice a0 m.ones.length c0) (.int .i64 m.ver) (.slice a2 m.items.length c2)).toArray 46) = a1 at *
  generalize u.heap.size = g2 at *
  refine qab ?_
  go_upto_region 1 with fail; refine wp_region_lit ?_
  refine qaa (qad (v := .pointer (some ⟨p, 0, none⟩)) rfl rfl) rfl ?_; (try simp only [Act.put, lyy])
  refine qaa (qai (s := 0) (k := 0) rfl Tryz.underlying46 rfl (by kernel_rfl) rfl rfl) rfl ?_; (try simp only [Act.put, lyy])
  refine qaa (qam rfl Tryz.underlying5 rfl rfl ((E.out.get (i := 0) rfl).c 0 _ (rqR_Kind ))) rfl ?_; (try simp only [Act.put, lyy])
  refine qaa (run_cv8iR rfl rfl y1 y2) rfl ?_; (try simp only [Act.put, lyy])
  refine qag (qaf qa5 rfl rfl rfl rfl) rfl (qbn w p _ _ (m.kind) _ (by have h := HB.out; simp only [List.length_append] at h ⊢; omega) E.out) (fun v4 a3 hR => ?_); (try simp only [Act.put, lyy])
  replace E := Lib.hid hR
  clear hR
  refine qab ?_
  go_upto_region 2 with fail; refine wp_region_lit ?_
  refine qaa (qad (v := .pointer (some ⟨p, 0, none⟩)) rfl rfl) rfl ?_; (try simp only [Act.put, lyy])
  refine qaa (qai (s := 0) (k := 1) rfl Tryz.underlying46 rfl (by kernel_rfl) rfl rfl) rfl ?_; (try simp only [Act.put, lyy])
  refine qaa (qam rfl Tryz.underlying3 rfl rfl ((E.out.get (i := 0) rfl).c 1 _ (rqR_Account ))) rfl ?_; (try simp only [Act.put, lyy])
  refine qag (qaf qa5 rfl rfl rfl rfl) rfl (qbn w p _ _ (m.acc) _ (by have h := HB.out; simp only [List.length_append] at h ⊢; omega) E.out) (fun v6 a5 hR => ?_); (try simp only [Act.put, lyy])
  replace E := Lib.hid hR
  clear hR
  refine qab ?_
  go_upto_region 3 with fail; refine wp_region_lit ?_
  refine qaa (qad (v := .pointer (some ⟨p, 0, none⟩)) rfl rfl) rfl ?_; (try simp only [Act.put, lyy])
  refine qaa (qai (s := 0) (k := 2) rfl Tryz.underlying46 rfl (by kernel_rfl) rfl rfl) rfl ?_; (try simp only [Act.put, lyy])
  refine qaa (qam rfl Tryz.underlying3 rfl rfl ((E.out.get (i := 0) rfl).c 2 _ (rqR_Device ))) rfl ?_; (try simp only [Act.put, lyy])
  refine qag (qaf qa5 rfl rfl rfl rfl) rfl (qbn w p _ _ (m.dev) _ (by have h := HB.out; simp only [List.length_append] at h ⊢; omega) E.out) (fun v8 a7 hR => ?_); (try simp only [Act.put, lyy])
  replace E := Lib.hid hR
  clear hR
  refine qab ?_
  go_upto_region 4 with fail; refine wp_region_lit ?_
  refine qaa (qad (v := .pointer (some ⟨p, 0, none⟩)) rfl rfl) rfl ?_; (try simp only [Act.put, lyy])
  refine qaa (qai (s := 0) (k := 3) rfl Tryz.underlying46 rfl (by kernel_rfl) rfl rfl) rfl ?_; (try simp only [Act.put, lyy])
  refine qaa (qam rfl Tryz.underlying9 rfl rfl ((E.out.get (i := 0) rfl).c 3 _ (rqR_Pin ))) rfl ?_; (try simp only [Act.put, lyy])
  refine qag (qaf enters_wtxt rfl rfl rfl rfl) rfl (wtxt_any w p _ _ (m.pin) _ (by have h := HB.out; simp only [List.length_append] at h ⊢; omega) E.out) (fun v10 a9 hR => ?_); (try simp only [Act.put, lyy])
  replace E := Lib.hid hR
  clear hR
  refine qab ?_
  go_upto_region 5 with fail; refine wp_region_lit ?_
  refine qaa (qad (v := .pointer (some ⟨p, 0, none⟩)) rfl rfl) rfl ?_; (try simp only [Act.put, lyy])
  refine qaa (qai (s := 0) (k := 4) rfl Tryz.underlying46 rfl (by kernel_rfl) rfl rfl) rfl ?_; (try simp only [Act.put, lyy])
  refine qaa (qam rfl Tryz.underlying9 rfl rfl ((E.out.get (i := 0) rfl).c 4 _ (rqR_Next ))) rfl ?_; (try simp only [Act.put, lyy])
  refine qag (qaf enters_wtxt rfl rfl rfl rfl) rfl (wtxt_any w p _ _ (m.next) _ (by have h := HB.out; simp only [List.length_append] at h ⊢; omega) E.out) (fun v12 a11 hR => ?_); (try simp only [Act.put, lyy])
  replace E := Lib.hid hR
  clear hR
  refine qab ?_
  go_upto_region 6 with fail; refine wp_region_lit ?_
  refine qaa (qad (v := .pointer (some ⟨p, 0, none⟩)) rfl rfl) rfl ?_; (try simp only [Act.put, lyy])
  refine qaa (qai (s := 0) (k := 5) rfl Tryz.underlying46 rfl (by kernel_rfl) rfl rfl) rfl ?_; (try simp only [Act.put, lyy])
  refine qaa (qam rfl Tryz.underlying9 rfl rfl ((E.out.get (i := 0) rfl).c 5 _ (rqR_Name ))) rfl ?_; (try simp only [Act.put, lyy])
  refine qag (qaf enters_wtxt rfl rfl rfl rfl) rfl (wtxt_any w p _ _ (m.name) _ (by have h := HB.out; simp only [List.length_append] at h ⊢; omega) E.out) (fun v14 a13 hR => ?_); (try simp only [Act.put, lyy])
  replace E := Lib.hid hR
  clear hR
  refine qab ?_
  go_upto_region 7 with fail; refine wp_region_lit ?_
  refine qaa (qad (v := .pointer (some ⟨p, 0, none⟩)) rfl rfl) rfl ?_; (try simp only [Act.put, lyy])
  refine qaa (qai (s := 98) (k := 6) rfl Tryz.underlying46 rfl (by kernel_rfl) rfl rfl) rfl ?_; (try simp only [Act.put, lyy])
  refine qaa (qat (vs := c1) rfl Tryz.underlying32 rfl (szR l1 (by kernel_rfl)) rfl ((E.out.get (i := 0) rfl).seg (rqR_List l1))) rfl ?_; (try simp only [Act.put, lyy])
  refine qag (qaf enters_wlst rfl rfl rfl rfl) rfl (wlst_any w p _ _ m.ls c1 _ hls F1.out (by have h := HB.out; simp only [List.length_append] at h ⊢; omega) E.out) (fun v16 a15 hR => ?_); (try simp only [Act.put, lyy])
  replace E := Lib.hid hR
  clear hR
  refine qab ?_
  go_upto_region 8 with fail; refine wp_region_lit ?_
  refine qaa (qad (v := .pointer (some ⟨p, 0, none⟩)) rfl rfl) rfl ?_; (try simp only [Act.put, lyy])
  refine qaa (qai (s := 31) (k := 105) rfl Tryz.underlying46 rfl (by kernel_rfl) rfl rfl) rfl ?_; (try simp only [Act.put, lyy])
  refine qaa (qat (vs := m.token.map b8) rfl Tryz.underlying27 rfl (szR (by rw [List.length_map, k1]) (by kernel_rfl)) rfl ((E.out.get (i := 0) rfl).seg (rqR_Token l1 (by rw [List.length_map, k1])))) rfl ?_; (try simp only [Act.put, lyy])
  refine qag (qaf qcp rfl rfl rfl rfl) rfl (wkey_any w p _ _ m.token _ k1 (by have h := HB.out; simp only [List.length_append] at h ⊢; omega) E.out) (fun v18 a17 hR => ?_); (try simp only [Act.put, lyy])
  replace E := Lib.hid hR
  clear hR
  refine qab ?_
  go_upto_region 9 with fail; refine wp_region_lit ?_
  refine qaa (qad (v := .pointer (some ⟨p, 0, none⟩)) rfl rfl) rfl ?_; (try simp only [Act.put, lyy])
  refine qaa (qai (s := 32) (k := 137) rfl Tryz.underlying46 rfl (by kernel_rfl) rfl rfl) rfl ?_; (try simp only [Act.put, lyy])
  refine qaa (qat (vs := pkC m.signed) rfl Tryz.underlying42 rfl (szR (pkC_len' k2) (by kernel_rfl)) rfl ((E.out.get (i := 0) rfl).seg (rqR_Signed l1 (by rw [List.length_map, k1]) (pkC_len' k2)))) rfl ?_; (try simp only [Act.put, lyy])
  refine qag (qaf enters_wpre rfl rfl rfl rfl) rfl (wpre_any w p _ _ m.signed _ k2 (by have h := HB.out; simp only [List.length_append] at h ⊢; omega) E.out) (fun v20 a19 hR => ?_); (try simp only [Act.put, lyy])
  replace E := Lib.hid hR
  clear hR
  refine qab ?_
  go_upto_region 10 with fail; refine wp_region_lit ?_
  refine qaa (qad (v := .pointer (some ⟨p, 0, none⟩)) rfl rfl) rfl ?_; (try simp only [Act.put, lyy])
  refine qaa (qai (s := 63) (k := 170) rfl Tryz.underlying46 rfl (by kernel_rfl) rfl rfl) rfl ?_; (try simp only [Act.put, lyy])
  refine qaa (qat (vs := m.sig.map b8) rfl Tryz.underlying30 rfl (szR (by rw [List.length_map, k3]) (by kernel_rfl)) rfl ((E.out.get (i := 0) rfl).seg (rqR_Sig l1 (by rw [List.length_map, k1]) (pkC_len' k2) (by rw [List.length_map, k3])))) rfl ?_; (try simp only [Act.put, lyy])
  refine qag (qaf enters_wsig rfl rfl rfl rfl) rfl (wsig_any w p _ _ m.sig _ k3 (by have h := HB.out; simp only [List.length_append] at h ⊢; omega) E.out) (fun v22 a21 hR => ?_); (try simp only [Act.put, lyy])
  replace E := Lib.hid hR
  clear hR
  refine qab ?_
  go_upto_region 11 with fail; refine wp_region_lit ?_
  refine qaa (qad (v := .pointer (some ⟨p, 0, none⟩)) rfl rfl) rfl ?_; (try simp only [Act.put, lyy])
  refine qaa (qai (s := 0) (k := 234) rfl Tryz.underlying46 rfl (by kernel_rfl) rfl rfl) rfl ?_; (try simp only [Act.put, lyy])
  refine qaa (qam rfl Tryz.underlying43 rfl rfl ((E.out.get (i := 0) rfl).c 234 _ (rqR_Ones l1 (by rw [List.length_map, k1]) (pkC_len' k2) (by rw [List.length_map, k3])))) rfl ?_; (try simp only [Act.put, lyy])
  refine qag (qc3 enters_walP rfl rfl rfl rfl rfl) rfl (walP_any w p _ _ m.ones a0 c0 _ (by omega) K4.out F2.out (by have h := HB.out; simp only [List.length_append] at h ⊢; omega) E.out) (fun v24 a23 hR => ?_); (try simp only [Act.put, lyy])
  replace E := Lib.hid hR
  clear hR
  refine qab ?_
  go_upto_region 12 with fail; refine wp_region_lit ?_
  refine qaa (qad (v := .pointer (some ⟨p, 0, none⟩)) rfl rfl) rfl ?_; (try simp only [Act.put, lyy])
  refine qaa (qai (s := 0) (k := 235) rfl Tryz.underlying46 rfl (by kernel_rfl) rfl rfl) rfl ?_; (try simp only [Act.put, lyy])
  refine qaa (qam rfl Tryz.underlying3 rfl rfl ((E.out.get (i := 0) rfl).c 235 _ (rqR_Version l1 (by rw [List.length_map, k1]) (pkC_len' k2) (by rw [List.length_map, k3])))) rfl ?_; (try simp only [Act.put, lyy])
  refine qag (qaf qa5 rfl rfl rfl rfl) rfl (qbn w p _ _ (m.ver) _ (by have h := HB.out; simp only [List.length_append] at h ⊢; omega) E.out) (fun v26 a25 hR => ?_); (try simp only [Act.put, lyy])
  replace E := Lib.hid hR
  clear hR
  refine qab ?_
  go_upto_region 13 with fail; refine wp_region_lit ?_
  refine qaa (qad (v := .pointer (some ⟨p, 0, none⟩)) rfl rfl) rfl ?_; (try simp only [Act.put, lyy])
  refine qaa (qai (s := 0) (k := 236) rfl Tryz.underlying46 rfl (by kernel_rfl) rfl rfl) rfl ?_; (try simp only [Act.put, lyy])
  refine qaa (qam rfl Tryz.underlying44 rfl rfl ((E.out.get (i := 0) rfl).c 236 _ (rqR_Items l1 (by rw [List.length_map, k1]) (pkC_len' k2) (by rw [List.length_map, k3])))) rfl ?_; (try simp only [Act.put, lyy])
  refine qag (qc3 enters_walI rfl rfl rfl rfl rfl) rfl (walI_any w p _ _ m.items a2 c2 _ (by omega) (fun p hp => ⟨K5.out p hp, HO.out p hp⟩) F3.out (by have h := HB.out; simp only [List.length_append] at h ⊢; omega) E.out) (fun v28 a27 hR => ?_); (try simp only [Act.put, lyy])
  replace E := Lib.hid hR
  clear hR
  refine qab ?_
  have E2 := Lib.hid (E.out.drop.cast EB.out)
  go_wp2_with fail
  exact bodyPost_end (results_none Tryz.results68 _ _ _) rfl ⟨_, rfl, E2.out⟩
theorem enters_wrsp : Enters 72 := qan Tryz.func72 (by kernel_rfl) rfl
set_option maxHeartbeats 4000000 in
theorem wrsp_any (w : World) (p : Nat) (L : List (Nat × List Value)) (l : List (BitVec 8)) (m : MRp) (X : List Value) (u : World) (hm : m.Ok) (ho : ∀ p ∈ m.mail, -9223372036854775808 ≤ p.one) (hX : Fro 0 (rpAt m X) w) (hb : l.length + (rpB m).length ≤ 100000000000) (H : Ww w p L l u) : Calls Tryz.prog 72 #[.pointer (some ⟨p, 0, none⟩), .agg (X).toArray] u fun e u' => ∃ v', e = .returned v' ∧ Ww w p L (l ++ (rpB m)) u' := by
  obtain ⟨c1, c2, a0, c0, rfl, l1, l2, o1, o2, f1, f2, f3⟩ := rpAt_fix hm hX
  clear hX
  have F1 := Lib.hid f1
  have F2 := Lib.hid f2
  have F3 := Lib.hid f3
  have y1 := hm.err0
  have y2 := hm.err1
  have hls := hm.ls
  have hbu := hm.bu
  have K5 := Lib.hid hm.mail
  have n1 := hm.many
  have HO := Lib.hid ho
  clear f1 f2 f3 hm ho
  have EB : Hid (l ++ viB m.err ++ lsB m.ls ++ buB m.bu ++ alB evB m.mail = l ++ (rpB m)) := Lib.hid (by rw [rpB_al]; simp only [List.append_assoc])
  have HB : Hid ((l ++ viB m.err ++ lsB m.ls ++ buB m.bu ++ alB evB m.mail).length ≤ 100000000000) := Lib.hid (by rw [EB.out, List.length_append]; exact hb)
  have E := Lib.hid H
  clear hb H
  go_enter Tryz.func72, Tryz.ntmps72
  go_upto_region 0 with fail; refine wp_region_lit ?_
  refine qaa (qa8 (vs := rpR (.int .u16 m.err) (c1) (c2) (.slice a0 m.mail.length c0)) rfl rfl) rfl ?_; (try simp only [Act.put, lyy])
  replace E := Lib.hid (E.out.new (rpR (.int .u16 m.err) (c1) (c2) (.slice a0 m.mail.length c0)) 54)
  generalize u.alloc (.cells (rpR (.int .u16 m.err) (c1) (c2) (.slice a0 m.mail.length c0)).toArray 54) = a1 at *
  generalize u.heap.size = g2 at *
  refine qab ?_
  go_upto_region 1 with fail; refine wp_region_lit ?_
  refine qaa (qad (v := .pointer (some ⟨p, 0, none⟩)) rfl rfl) rfl ?_; (try simp only [Act.put, lyy])
  refine qaa (qai (s := 0) (k := 0) rfl Tryz.underlying54 rfl (by kernel_rfl) rfl rfl) rfl ?_; (try simp only [Act.put, lyy])
  refine qaa (qam rfl Tryz.underlying49 rfl rfl ((E.out.get (i := 0) rfl).c 0 _ (rpR_Err ))) rfl ?_; (try simp only [Act.put, lyy])
  refine qaa (run_cv16i rfl rfl y1 y2) rfl ?_; (try simp only [Act.put, lyy])
  refine qag (qaf qa5 rfl rfl rfl rfl) rfl (qbn w p _ _ (m.err) _ (by have h := HB.out; simp only [List.length_append] at h ⊢; omega) E.out) (fun v4 a3 hR => ?_); (try simp only [Act.put, lyy])
  replace E := Lib.hid hR
  clear hR
  refine qab ?_
  go_upto_region 2 with fail; refine wp_region_lit ?_
  refine qaa (qad (v := .pointer (some ⟨p, 0, none⟩)) rfl rfl) rfl ?_; (try simp only [Act.put, lyy])
  refine qaa (qai (s := 98) (k := 1) rfl Tryz.underlying54 rfl (by kernel_rfl) rfl rfl) rfl ?_; (try simp only [Act.put, lyy])
  refine qaa (qat (vs := c1) rfl Tryz.underlying32 rfl (szR l1 (by kernel_rfl)) rfl ((E.out.get (i := 0) rfl).seg (rpR_List l1))) rfl ?_; (try simp only [Act.put, lyy])
  refine qag (qaf enters_wlst rfl rfl rfl rfl) rfl (wlst_any w p _ _ m.ls c1 _ hls F1.out (by have h := HB.out; simp only [List.length_append] at h ⊢; omega) E.out) (fun v6 a5 hR => ?_); (try simp only [Act.put, lyy])
  replace E := Lib.hid hR
  clear hR
  refine qab ?_
  go_upto_region 3 with fail; refine wp_region_lit ?_
  refine qaa (qad (v := .pointer (some ⟨p, 0, none⟩)) rfl rfl) rfl ?_; (try simp only [Act.put, lyy])
  refine qaa (qai (s := 163) (k := 100) rfl Tryz.underlying54 rfl (by kernel_rfl) rfl rfl) rfl ?_; (try simp only [Act.put, lyy])
  refine qaa (qat (vs := c2) rfl Tryz.underlying51 rfl (szR l2 (by kernel_rfl)) rfl ((E.out.get (i := 0) rfl).seg (rpR_Bundle l1 l2))) rfl ?_; (try simp only [Act.put, lyy])
  refine qag (qaf enters_wbun rfl rfl rfl rfl) rfl (wbun_any w p _ _ m.bu c2 _ hbu F2.out (by have h := HB.out; simp only [List.length_append] at h ⊢; omega) E.out) (fun v8 a7 hR => ?_); (try simp only [Act.put, lyy])
  replace E := Lib.hid hR
  clear hR
  refine qab ?_
  go_upto_region 4 with fail; refine wp_region_lit ?_
  refine qaa (qad (v := .pointer (some ⟨p, 0, none⟩)) rfl rfl) rfl ?_; (try simp only [Act.put, lyy])
  refine qaa (qai (s := 0) (k := 264) rfl Tryz.underlying54 rfl (by kernel_rfl) rfl rfl) rfl ?_; (try simp only [Act.put, lyy])
  refine qaa (qam rfl Tryz.underlying52 rfl rfl ((E.out.get (i := 0) rfl).c 264 _ (rpR_Mail l1 l2))) rfl ?_; (try simp only [Act.put, lyy])
  refine qag (qc3 enters_walV rfl rfl rfl rfl rfl) rfl (walV_any w p _ _ m.mail a0 c0 _ (by omega) (fun p hp => ⟨K5.out p hp, HO.out p hp⟩) F3.out (by have h := HB.out; simp only [List.length_append] at h ⊢; omega) E.out) (fun v10 a9 hR => ?_); (try simp only [Act.put, lyy])
  replace E := Lib.hid hR
  clear hR
  refine qab ?_
  have E2 := Lib.hid (E.out.drop.cast EB.out)
  go_wp2_with fail
  exact bodyPost_end (results_none Tryz.results72 _ _ _) rfl ⟨_, rfl, E2.out⟩
theorem enters_wslt : Enters 143 := qan Tryz.func143 (by kernel_rfl) rfl
set_option maxHeartbeats 4000000 in
theorem wslt_any (w : World) (p : Nat) (L : List (Nat × List Value)) (l : List (BitVec 8)) (m : MSlot) (X : List Value) (u : World) (hm : m.Ok) (ho : ∀ p ∈ m.mail, -9223372036854775808 ≤ p.one) (hX : Fro 0 (slAt m X) w) (hb : l.length + (slB m).length ≤ 100000000000) (H : Ww w p L l u) : Calls Tryz.prog 143 #[.pointer (some ⟨p, 0, none⟩), .agg (X).toArray] u fun e u' => ∃ v', e = .returned v' ∧ Ww w p L (l ++ (slB m)) u' := by
  obtain ⟨a0, c0, a2, c2, rfl, f1, f2⟩ := slAt_fix hm hX
  clear hX
  have F1 := Lib.hid f1
  have F2 := Lib.hid f2
  have k1 := hm.signed
  have k2 := hm.sig
  have K3 := Lib.hid hm.ones
  have K5 := Lib.hid hm.mail
  have n1 := hm.many
  have n2 := hm.much
  have HO := Lib.hid ho
  clear f1 f2 hm ho
  have EB : Hid (l ++ viB m.dev ++ pkB m.signed ++ m.sig ++ alB pkB m.ones ++ viB m.last ++ alB evB m.mail = l ++ (slB m)) := Lib.hid (by rw [slB_al]; simp only [List.append_assoc])
  have HB : Hid ((l ++ viB m.dev ++ pkB m.signed ++ m.sig ++ alB pkB m.ones ++ viB m.last ++ alB evB m.mail).length ≤ 100000000000) := Lib.hid (by rw [EB.out, List.length_append]; exact hb)
  have E := Lib.hid H
  clear hb H
  go_enter Tryz.func143, Tryz.ntmps143
  go_upto_region 0 with fail; refine wp_region_lit ?_
  refine qaa (qa8 (vs := slR (.int .i64 m.dev) (pkC m.signed) (m.sig.map b8) (.slice a0 m.ones.length c0) (.int .i64 m.last) (.slice a2 m.mail.length c2)) rfl rfl) rfl ?_; (try simp only [Act.put, lyy])
  replace E := Lib.hid (E.out.new (slR (.int .i64 m.dev) (pkC m.signed) (m.sig.map b8) (.slice a0 m.ones.length c0) (.int .i64 m.last) (.slice a2 m.mail.length c2)) 107)
  generalize u.alloc (.cells (slR (.int .i64 m.dev) (pkC m.signed) (m.sig.map b8) (.slice a0 m.ones.length c0) (.int .i64 m.last) (.slice a2 m.mail.length c2)).toArray 107) = a1 at *
  generalize u.heap.size = g2 at *
  refine qab ?_
  go_upto_region 1 with fail; refine wp_region_lit ?_
  refine qaa (qad (v := .pointer (some ⟨p, 0, none⟩)) rfl rfl) rfl ?_; (try simp only [Act.put, lyy])
  refine qaa (qai (s := 0) (k := 0) rfl Tryz.underlying107 rfl (by kernel_rfl) rfl rfl) rfl ?_; (try simp only [Act.put, lyy])
  refine qaa (qam rfl Tryz.underlying3 rfl rfl ((E.out.get (i := 0) rfl).c 0 _ (slR_Device ))) rfl ?_; (try simp only [Act.put, lyy])
  refine qag (qaf qa5 rfl rfl rfl rfl) rfl (qbn w p _ _ (m.dev) _ (by have h := HB.out; simp only [List.length_append] at h ⊢; omega) E.out) (fun v4 a3 hR => ?_); (try simp only [Act.put, lyy])
  replace E := Lib.hid hR
  clear hR
  refine qab ?_
  go_upto_region 2 with fail; refine wp_region_lit ?_
  refine qaa (qad (v := .pointer (some ⟨p, 0, none⟩)) rfl rfl) rfl ?_; (try simp only [Act.put, lyy])
  refine qaa (qai (s := 32) (k := 1) rfl Tryz.underlying107 rfl (by kernel_rfl) rfl rfl) rfl ?_; (try simp only [Act.put, lyy])
  refine qaa (qat (vs := pkC m.signed) rfl Tryz.underlying42 rfl (szR (pkC_len' k1) (by kernel_rfl)) rfl ((E.out.get (i := 0) rfl).seg (slR_Signed (pkC_len' k1)))) rfl ?_; (try simp only [Act.put, lyy])
  refine qag (qaf enters_wpre rfl rfl rfl rfl) rfl (wpre_any w p _ _ m.signed _ k1 (by have h := HB.out; simp only [List.length_append] at h ⊢; omega) E.out) (fun v6 a5 hR => ?_); (try simp only [Act.put, lyy])
  replace E := Lib.hid hR
  clear hR
  refine qab ?_
  go_upto_region 3 with fail; refine wp_region_lit ?_
  refine qaa (qad (v := .pointer (some ⟨p, 0, none⟩)) rfl rfl) rfl ?_; (try simp only [Act.put, lyy])
  refine qaa (qai (s := 63) (k := 34) rfl Tryz.underlying107 rfl (by kernel_rfl) rfl rfl) rfl ?_; (try simp only [Act.put, lyy])
  refine qaa (qat (vs := m.sig.map b8) rfl Tryz.underlying30 rfl (szR (by rw [List.length_map, k2]) (by kernel_rfl)) rfl ((E.out.get (i := 0) rfl).seg (slR_Sig (pkC_len' k1) (by rw [List.length_map, k2])))) rfl ?_; (try simp only [Act.put, lyy])
  refine qag (qaf enters_wsig rfl rfl rfl rfl) rfl (wsig_any w p _ _ m.sig _ k2 (by have h := HB.out; simp only [List.length_append] at h ⊢; omega) E.out) (fun v8 a7 hR => ?_); (try simp only [Act.put, lyy])
  replace E := Lib.hid hR
  clear hR
  refine qab ?_
  go_upto_region 4 with fail; refine wp_region_lit ?_
  refine qaa (qad (v := .pointer (some ⟨p, 0, none⟩)) rfl rfl) rfl ?_; (try simp only [Act.put, lyy])
  refine qaa (qai (s := 0) (k := 98) rfl Tryz.underlying107 rfl (by kernel_rfl) rfl rfl) rfl ?_; (try simp only [Act.put, lyy])
  refine qaa (qam rfl Tryz.underlying43 rfl rfl ((E.out.get (i := 0) rfl).c 98 _ (slR_Ones (pkC_len' k1) (by rw [List.length_map, k2])))) rfl ?_; (try simp only [Act.put, lyy])
  refine qag (qc3 enters_walP rfl rfl rfl rfl rfl) rfl (walP_any w p _ _ m.ones a0 c0 _ (by omega) K3.out F1.out (by have h := HB.out; simp only [List.length_append] at h ⊢; omega) E.out) (fun v10 a9 hR => ?_); (try simp only [Act.put, lyy])
  replace E := Lib.hid hR
  clear hR
  refine qab ?_
  go_upto_region 5 with fail; refine wp_region_lit ?_
  refine qaa (qad (v := .pointer (some ⟨p, 0, none⟩)) rfl rfl) rfl ?_; (try simp only [Act.put, lyy])
  refine qaa (qai (s := 0) (k := 99) rfl Tryz.underlying107 rfl (by kernel_rfl) rfl rfl) rfl ?_; (try simp only [Act.put, lyy])
  refine qaa (qam rfl Tryz.underlying3 rfl rfl ((E.out.get (i := 0) rfl).c 99 _ (slR_Last (pkC_len' k1) (by rw [List.length_map, k2])))) rfl ?_; (try simp only [Act.put, lyy])
  refine qag (qaf qa5 rfl rfl rfl rfl) rfl (qbn w p _ _ (m.last) _ (by have h := HB.out; simp only [List.length_append] at h ⊢; omega) E.out) (fun v12 a11 hR => ?_); (try simp only [Act.put, lyy])
  replace E := Lib.hid hR
  clear hR
  refine qab ?_
  go_upto_region 6 with fail; refine wp_region_lit ?_
  refine qaa (qad (v := .pointer (some ⟨p, 0, none⟩)) rfl rfl) rfl ?_; (try simp only [Act.put, lyy])
  refine qaa (qai (s := 0) (k := 100) rfl Tryz.underlying107 rfl (by kernel_rfl) rfl rfl) rfl ?_; (try simp only [Act.put, lyy])
  refine qaa (qam rfl Tryz.underlying52 rfl rfl ((E.out.get (i := 0) rfl).c 100 _ (slR_Mail (pkC_len' k1) (by rw [List.length_map, k2])))) rfl ?_; (try simp only [Act.put, lyy])
  refine qag (qc3 enters_walV rfl rfl rfl rfl rfl) rfl (walV_any w p _ _ m.mail a2 c2 _ (by omega) (fun p hp => ⟨K5.out p hp, HO.out p hp⟩) F2.out (by have h := HB.out; simp only [List.length_append] at h ⊢; omega) E.out) (fun v14 a13 hR => ?_); (try simp only [Act.put, lyy])
  replace E := Lib.hid hR
  clear hR
  refine qab ?_
  have E2 := Lib.hid (E.out.drop.cast EB.out)
  go_wp2_with fail
  exact bodyPost_end (results_none Tryz.results143 _ _ _) rfl ⟨_, rfl, E2.out⟩
theorem enters_walS : Enters 142 := qan Tryz.func142 (by kernel_rfl) rfl
set_option maxHeartbeats 4000000 in
theorem walS_any (w : World) (p : Nat) (L : List (Nat × List Value)) (l : List (BitVec 8)) (ms : List MSlot) (a : Option Addr) (c : Nat) (u : World) (hn : ms.length ≤ 100000000000) (hp : ∀ p ∈ ms, p.Ok ∧ ∀ q ∈ p.mail, -9223372036854775808 ≤ q.one) (hX : Fro 0 (SlR 101 slAt ms a c) w) (hb : l.length + (alB slB ms).length ≤ 100000000000) (H : Ww w p L l u) : Calls Tryz.prog 142 #[.pointer (some ⟨p, 0, none⟩), .slice a ms.length c, .func (.func 143) #[] #[]] u fun e u' => ∃ v', e = .returned v' ∧ Ww w p L (l ++ (alB slB ms)) u' := by
  have HE : Hid (∀ i, i < ms.length → ∃ g f cs x, a = some ⟨g, f, none⟩ ∧ alF slB ms (i + 1) = alF slB ms i ++ x ∧ (cs : List Value).length = 101 ∧ One cs ∧ (∀ u, Below w.heap.size w u → u.rangeAt g (f + i * 101) cs) ∧ (∀ (u : World) (L : List (Nat × List Value)) (y : List (BitVec 8)), y = l ++ alF slB ms i → Ww w p L y u → Calls Tryz.prog 143 #[.pointer (some ⟨p, 0, none⟩), .agg cs.toArray] u fun e u' => ∃ v', e = .returned v' ∧ Ww w p L (y ++ x) u')) := Lib.hid fun i hi => by
    obtain ⟨g, f, cs, h1, h2, h3, h4, h5⟩ := slR_get hX hi
    have hk := hp _ (List.getElem_mem hi)
    have hle := alF_le slB ms hi
    obtain ⟨q1, q2, q3, q4, e, -⟩ := slAt_fix hk.1 h5
    have hone : One cs := by rw [e]; exact slR_one rfl (pkC_one hk.1.signed) (One.b8 _) rfl rfl rfl
    exact ⟨g, f, cs, slB ms[i], h1, alF_succ hi, h3, hone, fun u hu => qbw h4 h2 hu, fun u L y hy H => wslt_any w p L y ms[i] cs u hk.1 hk.2 h5 (by rw [hy, List.length_append]; omega) H⟩
  have E0 : Hid (viB (ms.length : Int) = alF slB ms 0) := Lib.hid (alF_zero _ _)
  have EO : Hid (alF slB ms ms.length = alB slB ms) := Lib.hid (alF_all _ _)
  have HB : Hid (l.length + (viB (ms.length : Int)).length ≤ 100000000000) := Lib.hid (by have h := alF_head slB ms; omega)
  have E := Lib.hid H
  clear hb H hX hp
  obtain ⟨Gf, hGf⟩ : ∃ Gf, Gf = alF slB ms := ⟨_, rfl⟩
  rw [← hGf] at HE E0 EO
  clear hGf
  generalize alB slB ms = out at *
  generalize ms.length = n at *
  go_enter Tryz.func142, Tryz.ntmps142
  go_upto_region 0 with fail; refine wp_region_lit ?_
  refine qaa (qad (v := .pointer (some ⟨p, 0, none⟩)) rfl rfl) rfl ?_; (try simp only [Act.put, lyy])
  refine qaa (qad (v := .slice a n c) rfl rfl) rfl ?_; (try simp only [Act.put, lyy])
  refine qaa (qa4 rfl Tryz.underlying57 rfl) rfl ?_; (try simp only [Act.put, lyy])
  refine qag (qaf qa5 rfl rfl rfl rfl) rfl (qbn w p L l (n : Int) u HB.out E.out) (fun v1 a1 hR => ?_); (try simp only [Act.put, lyy])
  replace E := Lib.hid hR
  clear hR
  rw [E0.out] at E
  refine qab ?_
  go_upto_region 1 with fail; refine wp_region_lit ?_
  refine qaa (qad (v := .slice a n c) rfl rfl) rfl ?_; (try simp only [Act.put, lyy])
  refine qaa (qa4 rfl Tryz.underlying57 rfl) rfl ?_; (try simp only [Act.put, lyy])
  refine qaa (qad (v := .int .i64 0) rfl rfl) rfl ?_; (try simp only [Act.put, lyy])
  refine qab ?_
  go_wp2_with fail
  go_loopw [14] (fun s14 u => ∃ i : Nat, i ≤ n ∧ s14 = .int .i64 (i : Int) ∧ Ww w p L (l ++ Gf i) u) (fun s14 _ => ((n : Int) - intOf s14).toNat)
  case atStart => exact ⟨0, by omega, rfl, E.out⟩
  case round =>
    obtain ⟨i, hi, rfl, hJ⟩ := hrel
    replace E := Lib.hid hJ
    clear hJ
    by_cases hik : i = n
    · subst hik
      replace E := Lib.hid (E.out.cast (show _ = l ++ out by rw [EO.out]))
      go_upto_region 2 with fail; refine wp_region_lit ?_
      refine qaa (qay (c := false) rfl rfl rfl (decide_eq_false (by omega))) rfl ?_; (try simp only [Act.put, lyy])
      refine qab ?_
      go_wp2_with fail
      exact bodyPost_end (results_none Tryz.results142 _ _ _) rfl ⟨_, rfl, E.out⟩
    · obtain ⟨g, f, cs, x, rfl, hx, hz, hone, hr, hc⟩ := HE.out i (by omega)
      have HX := Lib.hid hx
      have HR1 := Lib.hid hr
      have HC1 := Lib.hid hc
      have HO1 := Lib.hid hone
      clear hx hr hc hone
      go_upto_region 2 with fail; refine wp_region_lit ?_
      refine qaa (qay (c := true) rfl rfl rfl (decide_eq_true (by omega))) rfl ?_; (try simp only [Act.put, lyy])
      refine qab ?_
      go_upto_region 3 with fail; refine wp_region_lit ?_
      refine qaa (qca (z := 101) (i := i) rfl Tryz.underlying57 (by kernel_rfl) rfl rfl (by omega)) rfl ?_; (try simp only [Act.put, lyy])
      refine qaa (qat (vs := cs) rfl Tryz.underlying107 rfl (szR hz (by kernel_rfl)) rfl (HR1.out _ E.out.bl)) rfl ?_; (try simp only [Act.put, lyy])
      refine qaa (qa3 (vs := slR ((.int .i64 0)) (pkR ((.int .i64 0)) (z8 32)) (z8 64) ((.slice none 0 0)) ((.int .i64 0)) ((.slice none 0 0))) rfl (by kernel_rfl)) rfl ?_; (try simp only [Act.put, lyy])
      replace E := Lib.hid (E.out.new (slR ((.int .i64 0)) (pkR ((.int .i64 0)) (z8 32)) (z8 64) ((.slice none 0 0)) ((.int .i64 0)) ((.slice none 0 0))) 107)
      generalize wr.alloc (.cells (slR ((.int .i64 0)) (pkR ((.int .i64 0)) (z8 32)) (z8 64) ((.slice none 0 0)) ((.int .i64 0)) ((.slice none 0 0))).toArray 107) = a1 at *
      generalize wr.heap.size = g1 at *
      refine qal (qa0 (vs := cs) rfl (szR hz (by kernel_rfl)) rfl rfl (One.all HO1.out) ((E.out.get (i := 0) rfl).thereM (by have q2 : (slR ((.int .i64 0)) (pkR ((.int .i64 0)) (z8 32)) (z8 64) ((.slice none 0 0)) ((.int .i64 0)) ((.slice none 0 0))).length = 101 := (slR_len (qar (z8_len' 32)) (z8_len' 64)); omega))) rfl rfl ?_
      replace E := Lib.hid (E.out.put 0 rfl (m' := cs) (hz.trans (show (slR ((.int .i64 0)) (pkR ((.int .i64 0)) (z8 32)) (z8 64) ((.slice none 0 0)) ((.int .i64 0)) ((.slice none 0 0))).length = 101 from (slR_len (qar (z8_len' 32)) (z8_len' 64))).symm))
      replace E := Lib.hid (show Ww w p ((g1, cs) :: L) _ _ from E.out)
      generalize a1.setCells g1 0 cs = a2 at *
      refine qab ?_
      go_upto_region 4 with fail; refine wp_region_lit ?_
      refine qaa (qad (v := .func (.func 143) #[] #[]) rfl rfl) rfl ?_; (try simp only [Act.put, lyy])
      refine qaa (qad (v := .pointer (some ⟨p, 0, none⟩)) rfl rfl) rfl ?_; (try simp only [Act.put, lyy])
      refine qaa (qat (vs := cs) rfl Tryz.underlying107 rfl (szR hz (by kernel_rfl)) rfl (E.out.get (i := 0) rfl).range) rfl ?_; (try simp only [Act.put, lyy])
      refine qag (qcb enters_wslt rfl rfl rfl rfl) rfl (HC1.out _ _ _ rfl E.out) (fun v3 a3 hR => ?_); (try simp only [Act.put, lyy])
      replace E := Lib.hid (hR.drop.cast (show _ = l ++ Gf (i + 1) by rw [HX.out, List.append_assoc]))
      clear hR
      refine qab ?_
      go_upto_region 5 with fail; refine wp_region_lit ?_
      refine qaa (qa6 (a := i) (b := 1) rfl rfl rfl (by omega)) rfl ?_; (try simp only [Act.put, lyy])
      refine qaa (qad (v := .int .i64 ((i + 1 : Nat) : Int)) rfl rfl) rfl ?_; (try simp only [Act.put, lyy])
      refine qab ?_
      go_wp2_with fail
      exact ⟨⟨i + 1, by omega, rfl, E.out⟩, by simp [intOf]; omega⟩
theorem enters_walK : Enters 144 := qan Tryz.func144 (by kernel_rfl) rfl
set_option maxHeartbeats 4000000 in
theorem walK_any (w : World) (p : Nat) (L : List (Nat × List Value)) (l : List (BitVec 8)) (ms : List (List (BitVec 8))) (a : Option Addr) (c : Nat) (u : World) (hn : ms.length ≤ 100000000000) (hp : ∀ p ∈ ms, p.length = 32) (hX : Fro 0 (SlR 32 tkAt ms a c) w) (hb : l.length + (alB (fun k => k) ms).length ≤ 100000000000) (H : Ww w p L l u) : Calls Tryz.prog 144 #[.pointer (some ⟨p, 0, none⟩), .slice a ms.length c, .func (.func 109) #[] #[]] u fun e u' => ∃ v', e = .returned v' ∧ Ww w p L (l ++ (alB (fun k => k) ms)) u' := by
  have HE : Hid (∀ i, i < ms.length → ∃ g f cs x, a = some ⟨g, f, none⟩ ∧ alF (fun k => k) ms (i + 1) = alF (fun k => k) ms i ++ x ∧ (cs : List Value).length = 32 ∧ One cs ∧ (∀ u, Below w.heap.size w u → u.rangeAt g (f + i * 32) cs) ∧ (∀ (u : World) (L : List (Nat × List Value)) (y : List (BitVec 8)), y = l ++ alF (fun k => k) ms i → Ww w p L y u → Calls Tryz.prog 109 #[.pointer (some ⟨p, 0, none⟩), .agg cs.toArray] u fun e u' => ∃ v', e = .returned v' ∧ Ww w p L (y ++ x) u')) := Lib.hid fun i hi => by
    obtain ⟨g, f, cs, h1, h2, h3, h4, h5⟩ := slR_get hX hi
    have hk := hp _ (List.getElem_mem hi)
    have hle := alF_le (fun k => k) ms hi
    have e : cs = ms[i].map b8 := h5.now
    have hone : One cs := by rw [e]; exact One.b8 _
    exact ⟨g, f, cs, ms[i], h1, alF_succ hi, h3, hone, fun u hu => qbw h4 h2 hu, fun u L y hy H => by rw [e]; exact wkey_any w p L y ms[i] u hk (by rw [hy, List.length_append]; omega) H⟩
  have E0 : Hid (viB (ms.length : Int) = alF (fun k => k) ms 0) := Lib.hid (alF_zero _ _)
  have EO : Hid (alF (fun k => k) ms ms.length = alB (fun k => k) ms) := Lib.hid (alF_all _ _)
  have HB : Hid (l.length + (viB (ms.length : Int)).length ≤ 100000000000) := Lib.hid (by have h := alF_head (fun k => k) ms; omega)
  have E := Lib.hid H
  clear hb H hX hp
  obtain ⟨Gf, hGf⟩ : ∃ Gf, Gf = alF (fun k => k) ms := ⟨_, rfl⟩
  rw [← hGf] at HE E0 EO
  clear hGf
  generalize alB (fun k => k) ms = out at *
  generalize ms.length = n at *
  go_enter Tryz.func144, Tryz.ntmps144
  go_upto_region 0 with fail; refine wp_region_lit ?_
  refine qaa (qad (v := .pointer (some ⟨p, 0, none⟩)) rfl rfl) rfl ?_; (try simp only [Act.put, lyy])
  refine qaa (qad (v := .slice a n c) rfl rfl) rfl ?_; (try simp only [Act.put, lyy])
  refine qaa (qa4 rfl Tryz.underlying58 rfl) rfl ?_; (try simp only [Act.put, lyy])
  refine qag (qaf qa5 rfl rfl rfl rfl) rfl (qbn w p L l (n : Int) u HB.out E.out) (fun v1 a1 hR => ?_); (try simp only [Act.put, lyy])
  replace E := Lib.hid hR
  clear hR
  rw [E0.out] at E
  refine qab ?_
  go_upto_region 1 with fail; refine wp_region_lit ?_
  refine qaa (qad (v := .slice a n c) rfl rfl) rfl ?_; (try simp only [Act.put, lyy])
  refine qaa (qa4 rfl Tryz.underlying58 rfl) rfl ?_; (try simp only [Act.put, lyy])
  refine qaa (qad (v := .int .i64 0) rfl rfl) rfl ?_; (try simp only [Act.put, lyy])
  refine qab ?_
  go_wp2_with fail
  go_loopw [14] (fun s14 u => ∃ i : Nat, i ≤ n ∧ s14 = .int .i64 (i : Int) ∧ Ww w p L (l ++ Gf i) u) (fun s14 _ => ((n : Int) - intOf s14).toNat)
  case atStart => exact ⟨0, by omega, rfl, E.out⟩
  case round =>
    obtain ⟨i, hi, rfl, hJ⟩ := hrel
    replace E := Lib.hid hJ
    clear hJ
    by_cases hik : i = n
    · subst hik
      replace E := Lib.hid (E.out.cast (show _ = l ++ out by rw [EO.out]))
      go_upto_region 2 with fail; refine wp_region_lit ?_
      refine qaa (qay (c := false) rfl rfl rfl (decide_eq_false (by omega))) rfl ?_; (try simp only [Act.put, lyy])
      refine qab ?_
      go_wp2_with fail
      exact bodyPost_end (results_none Tryz.results144 _ _ _) rfl ⟨_, rfl, E.out⟩
    · obtain ⟨g, f, cs, x, rfl, hx, hz, hone, hr, hc⟩ := HE.out i (by omega)
      have HX := Lib.hid hx
      have HR1 := Lib.hid hr
      have HC1 := Lib.hid hc
      have HO1 := Lib.hid hone
      clear hx hr hc hone
      go_upto_region 2 with fail; refine wp_region_lit ?_
      refine qaa (qay (c := true) rfl rfl rfl (decide_eq_true (by omega))) rfl ?_; (try simp only [Act.put, lyy])
      refine qab ?_
      go_upto_region 3 with fail; refine wp_region_lit ?_
      refine qaa (qca (z := 32) (i := i) rfl Tryz.underlying58 (by kernel_rfl) rfl rfl (by omega)) rfl ?_; (try simp only [Act.put, lyy])
      refine qaa (qat (vs := cs) rfl Tryz.underlying27 rfl (szR hz (by kernel_rfl)) rfl (HR1.out _ E.out.bl)) rfl ?_; (try simp only [Act.put, lyy])
      refine qaa (qa3 (vs := z8 32) rfl (by kernel_rfl)) rfl ?_; (try simp only [Act.put, lyy])
      replace E := Lib.hid (E.out.new (z8 32) 27)
      generalize wr.alloc (.cells (z8 32).toArray 27) = a1 at *
      generalize wr.heap.size = g1 at *
      refine qal (qa0 (vs := cs) rfl (szR hz (by kernel_rfl)) rfl rfl (One.all HO1.out) ((E.out.get (i := 0) rfl).thereM (by have q2 : (z8 32).length = 32 := (z8_len' 32); omega))) rfl rfl ?_
      replace E := Lib.hid (E.out.put 0 rfl (m' := cs) (hz.trans (show (z8 32).length = 32 from (z8_len' 32)).symm))
      replace E := Lib.hid (show Ww w p ((g1, cs) :: L) _ _ from E.out)
      generalize a1.setCells g1 0 cs = a2 at *
      refine qab ?_
      go_upto_region 4 with fail; refine wp_region_lit ?_
      refine qaa (qad (v := .func (.func 109) #[] #[]) rfl rfl) rfl ?_; (try simp only [Act.put, lyy])
      refine qaa (qad (v := .pointer (some ⟨p, 0, none⟩)) rfl rfl) rfl ?_; (try simp only [Act.put, lyy])
      refine qaa (qat (vs := cs) rfl Tryz.underlying27 rfl (szR hz (by kernel_rfl)) rfl (E.out.get (i := 0) rfl).range) rfl ?_; (try simp only [Act.put, lyy])
      refine qag (qcb qcp rfl rfl rfl rfl) rfl (HC1.out _ _ _ rfl E.out) (fun v3 a3 hR => ?_); (try simp only [Act.put, lyy])
      replace E := Lib.hid (hR.drop.cast (show _ = l ++ Gf (i + 1) by rw [HX.out, List.append_assoc]))
      clear hR
      refine qab ?_
      go_upto_region 5 with fail; refine wp_region_lit ?_
      refine qaa (qa6 (a := i) (b := 1) rfl rfl rfl (by omega)) rfl ?_; (try simp only [Act.put, lyy])
      refine qaa (qad (v := .int .i64 ((i + 1 : Nat) : Int)) rfl rfl) rfl ?_; (try simp only [Act.put, lyy])
      refine qab ?_
      go_wp2_with fail
      exact ⟨⟨i + 1, by omega, rfl, E.out⟩, by simp [intOf]; omega⟩
theorem enters_wacc : Enters 76 := qan Tryz.func76 (by kernel_rfl) rfl
set_option maxHeartbeats 4000000 in
theorem wacc_any (w : World) (p : Nat) (L : List (Nat × List Value)) (l : List (BitVec 8)) (m : MAc) (X : List Value) (u : World) (hm : m.Ok) (ho : ∀ s ∈ m.slots, ∀ p ∈ s.mail, -9223372036854775808 ≤ p.one) (hX : Fro 0 (acAt m X) w) (hb : l.length + (acB m).length ≤ 100000000000) (H : Ww w p L l u) : Calls Tryz.prog 76 #[.pointer (some ⟨p, 0, none⟩), .agg (X).toArray] u fun e u' => ∃ v', e = .returned v' ∧ Ww w p L (l ++ (acB m)) u' := by
  obtain ⟨c1, a0, c0, a2, c2, rfl, l1, o1, f1, f2, f3⟩ := acAt_fix hm hX
  clear hX
  have F1 := Lib.hid f1
  have F2 := Lib.hid f2
  have F3 := Lib.hid f3
  have hls := hm.ls
  have K4 := Lib.hid hm.slots
  have K5 := Lib.hid hm.tokens
  have n1 := hm.many
  have n2 := hm.much
  have HO := Lib.hid ho
  clear f1 f2 f3 hm ho
  have EB : Hid (l ++ viB m.id ++ txB m.pin ++ viB m.wrong ++ viB m.till ++ lsB m.ls ++ alB slB m.slots ++ alB (fun k => k) m.tokens = l ++ (acB m)) := Lib.hid (by rw [acB_al]; simp only [List.append_assoc])
  have HB : Hid ((l ++ viB m.id ++ txB m.pin ++ viB m.wrong ++ viB m.till ++ lsB m.ls ++ alB slB m.slots ++ alB (fun k => k) m.tokens).length ≤ 100000000000) := Lib.hid (by rw [EB.out, List.length_append]; exact hb)
  have E := Lib.hid H
  clear hb H
  go_enter Tryz.func76, Tryz.ntmps76
  go_upto_region 0 with fail; refine wp_region_lit ?_
  refine qaa (qa8 (vs := acR (.int .i64 m.id) (.string (strOf m.pin)) (.int .i64 m.wrong) (.int .i64 m.till) (c1) (.slice a0 m.slots.length c0) (.slice a2 m.tokens.length c2)) rfl rfl) rfl ?_; (try simp only [Act.put, lyy])
  replace E := Lib.hid (E.out.new (acR (.int .i64 m.id) (.string (strOf m.pin)) (.int .i64 m.wrong) (.int .i64 m.till) (c1) (.slice a0 m.slots.length c0) (.slice a2 m.tokens.length c2)) 60)
  generalize u.alloc (.cells (acR (.int .i64 m.id) (.string (strOf m.pin)) (.int .i64 m.wrong) (.int .i64 m.till) (c1) (.slice a0 m.slots.length c0) (.slice a2 m.tokens.length c2)).toArray 60) = a1 at *
  generalize u.heap.size = g2 at *
  refine qab ?_
  go_upto_region 1 with fail; refine wp_region_lit ?_
  refine qaa (qad (v := .pointer (some ⟨p, 0, none⟩)) rfl rfl) rfl ?_; (try simp only [Act.put, lyy])
  refine qaa (qai (s := 0) (k := 0) rfl Tryz.underlying60 rfl (by kernel_rfl) rfl rfl) rfl ?_; (try simp only [Act.put, lyy])
  refine qaa (qam rfl Tryz.underlying3 rfl rfl ((E.out.get (i := 0) rfl).c 0 _ (acR_ID ))) rfl ?_; (try simp only [Act.put, lyy])
  refine qag (qaf qa5 rfl rfl rfl rfl) rfl (qbn w p _ _ (m.id) _ (by have h := HB.out; simp only [List.length_append] at h ⊢; omega) E.out) (fun v4 a3 hR => ?_); (try simp only [Act.put, lyy])
  replace E := Lib.hid hR
  clear hR
  refine qab ?_
  go_upto_region 2 with fail; refine wp_region_lit ?_
  refine qaa (qad (v := .pointer (some ⟨p, 0, none⟩)) rfl rfl) rfl ?_; (try simp only [Act.put, lyy])
  refine qaa (qai (s := 0) (k := 1) rfl Tryz.underlying60 rfl (by kernel_rfl) rfl rfl) rfl ?_; (try simp only [Act.put, lyy])
  refine qaa (qam rfl Tryz.underlying9 rfl rfl ((E.out.get (i := 0) rfl).c 1 _ (acR_Pin ))) rfl ?_; (try simp only [Act.put, lyy])
  refine qag (qaf enters_wtxt rfl rfl rfl rfl) rfl (wtxt_any w p _ _ (m.pin) _ (by have h := HB.out; simp only [List.length_append] at h ⊢; omega) E.out) (fun v6 a5 hR => ?_); (try simp only [Act.put, lyy])
  replace E := Lib.hid hR
  clear hR
  refine qab ?_
  go_upto_region 3 with fail; refine wp_region_lit ?_
  refine qaa (qad (v := .pointer (some ⟨p, 0, none⟩)) rfl rfl) rfl ?_; (try simp only [Act.put, lyy])
  refine qaa (qai (s := 0) (k := 2) rfl Tryz.underlying60 rfl (by kernel_rfl) rfl rfl) rfl ?_; (try simp only [Act.put, lyy])
  refine qaa (qam rfl Tryz.underlying3 rfl rfl ((E.out.get (i := 0) rfl).c 2 _ (acR_Wrong ))) rfl ?_; (try simp only [Act.put, lyy])
  refine qag (qaf qa5 rfl rfl rfl rfl) rfl (qbn w p _ _ (m.wrong) _ (by have h := HB.out; simp only [List.length_append] at h ⊢; omega) E.out) (fun v8 a7 hR => ?_); (try simp only [Act.put, lyy])
  replace E := Lib.hid hR
  clear hR
  refine qab ?_
  go_upto_region 4 with fail; refine wp_region_lit ?_
  refine qaa (qad (v := .pointer (some ⟨p, 0, none⟩)) rfl rfl) rfl ?_; (try simp only [Act.put, lyy])
  refine qaa (qai (s := 0) (k := 3) rfl Tryz.underlying60 rfl (by kernel_rfl) rfl rfl) rfl ?_; (try simp only [Act.put, lyy])
  refine qaa (qam rfl Tryz.underlying3 rfl rfl ((E.out.get (i := 0) rfl).c 3 _ (acR_Until ))) rfl ?_; (try simp only [Act.put, lyy])
  refine qag (qaf qa5 rfl rfl rfl rfl) rfl (qbn w p _ _ (m.till) _ (by have h := HB.out; simp only [List.length_append] at h ⊢; omega) E.out) (fun v10 a9 hR => ?_); (try simp only [Act.put, lyy])
  replace E := Lib.hid hR
  clear hR
  refine qab ?_
  go_upto_region 5 with fail; refine wp_region_lit ?_
  refine qaa (qad (v := .pointer (some ⟨p, 0, none⟩)) rfl rfl) rfl ?_; (try simp only [Act.put, lyy])
  refine qaa (qai (s := 98) (k := 4) rfl Tryz.underlying60 rfl (by kernel_rfl) rfl rfl) rfl ?_; (try simp only [Act.put, lyy])
  refine qaa (qat (vs := c1) rfl Tryz.underlying32 rfl (szR l1 (by kernel_rfl)) rfl ((E.out.get (i := 0) rfl).seg (acR_List l1))) rfl ?_; (try simp only [Act.put, lyy])
  refine qag (qaf enters_wlst rfl rfl rfl rfl) rfl (wlst_any w p _ _ m.ls c1 _ hls F1.out (by have h := HB.out; simp only [List.length_append] at h ⊢; omega) E.out) (fun v12 a11 hR => ?_); (try simp only [Act.put, lyy])
  replace E := Lib.hid hR
  clear hR
  refine qab ?_
  go_upto_region 6 with fail; refine wp_region_lit ?_
  refine qaa (qad (v := .pointer (some ⟨p, 0, none⟩)) rfl rfl) rfl ?_; (try simp only [Act.put, lyy])
  refine qaa (qai (s := 0) (k := 103) rfl Tryz.underlying60 rfl (by kernel_rfl) rfl rfl) rfl ?_; (try simp only [Act.put, lyy])
  refine qaa (qam rfl Tryz.underlying57 rfl rfl ((E.out.get (i := 0) rfl).c 103 _ (qc1 l1))) rfl ?_; (try simp only [Act.put, lyy])
  refine qag (qc3 enters_walS rfl rfl rfl rfl rfl) rfl (walS_any w p _ _ m.slots a0 c0 _ (by omega) (fun p hp => ⟨K4.out p hp, HO.out p hp⟩) F2.out (by have h := HB.out; simp only [List.length_append] at h ⊢; omega) E.out) (fun v14 a13 hR => ?_); (try simp only [Act.put, lyy])
  replace E := Lib.hid hR
  clear hR
  refine qab ?_
  go_upto_region 7 with fail; refine wp_region_lit ?_
  refine qaa (qad (v := .pointer (some ⟨p, 0, none⟩)) rfl rfl) rfl ?_; (try simp only [Act.put, lyy])
  refine qaa (qai (s := 0) (k := 104) rfl Tryz.underlying60 rfl (by kernel_rfl) rfl rfl) rfl ?_; (try simp only [Act.put, lyy])
  refine qaa (qam rfl Tryz.underlying58 rfl rfl ((E.out.get (i := 0) rfl).c 104 _ (qcn l1))) rfl ?_; (try simp only [Act.put, lyy])
  refine qag (qc3 enters_walK rfl rfl rfl rfl rfl) rfl (walK_any w p _ _ m.tokens a2 c2 _ (by omega) K5.out F3.out (by have h := HB.out; simp only [List.length_append] at h ⊢; omega) E.out) (fun v16 a15 hR => ?_); (try simp only [Act.put, lyy])
  replace E := Lib.hid hR
  clear hR
  refine qab ?_
  have E2 := Lib.hid (E.out.drop.cast EB.out)
  go_wp2_with fail
  exact bodyPost_end (results_none Tryz.results76 _ _ _) rfl ⟨_, rfl, E2.out⟩
end Go.Proofs.YtcgbgmbnagmohaaGreat
