import Derived.Test.YtcgbgmbnagmohaaGreatLy
import Derived.Test.YtcgbgmbnagmohaaGreatPw2
namespace Go.Proofs.YtcgbgmbnagmohaaGreat
open Go.RowKit
set_option maxRecDepth 20000
attribute [local irreducible] wpList
theorem lsB_al (m : MLs) : lsB m = viB m.acc ++ viB m.ver ++ m.ident ++ alB pkB m.devs ++ m.sig := by simp [lsB, lsF, alB, List.append_assoc]
theorem buB_al (m : MBu) : buB m = viB m.acc ++ viB m.dev ++ m.ident ++ m.key ++ pkB m.signed ++ m.sig ++ alB pkB m.ones := by simp [buB, psB, alB, List.append_assoc]
theorem evAt_fix {m : MEv} {X : List Value} {w : World} (hm : m.Ok) (h : Fro 0 (evAt m X) w) : ∃ a c, X = evC m (.slice a m.body.length c) ∧ Fro 0 (Sl (.slice a m.body.length c) m.body) w := by
  obtain ⟨a, c, hq, -⟩ := h.now
  refine ⟨a, c, hq, fun V hV => ?_⟩
  obtain ⟨a2, c2, h1, h2⟩ := h V hV
  rw [hq, evC_row, evC_row] at h1
  have h3 : (_ : List Value)[71]? = (_ : List Value)[71]? := congrArg (fun l : List Value => l[71]?) h1
  rw [evR_Body (by rw [List.length_map, hm.eph]) (qcu hm.head), evR_Body (by rw [List.length_map, hm.eph]) (qcu hm.head)] at h3
  simp only [Option.some.injEq, Value.slice.injEq] at h3
  obtain ⟨rfl, _, rfl⟩ := h3
  exact h2
theorem buAt_fix {m : MBu} {X : List Value} {w : World} (hm : m.Ok) (h : Fro 0 (buAt m X) w) : ∃ a c, X = buR (.int .i64 m.acc) (.int .i64 m.dev) (m.ident.map b8) (m.key.map b8) (pkC m.signed) (m.sig.map b8) (.slice a m.ones.length c) ∧ Fro 0 (SlR 33 pkAt m.ones a c) w := by
  obtain ⟨a, c, hq, -⟩ := h.now
  refine ⟨a, c, hq, fun V hV => ?_⟩
  obtain ⟨a2, c2, h1, h2⟩ := h V hV
  rw [hq] at h1
  have t1 : (m.ident.map b8).length = 32 := by rw [List.length_map, hm.ident]
  have t2 : (m.key.map b8).length = 32 := by rw [List.length_map, hm.key]
  have t3 : (m.sig.map b8).length = 64 := by rw [List.length_map, hm.sig]
  have h3 : (_ : List Value)[163]? = (_ : List Value)[163]? := congrArg (fun l : List Value => l[163]?) h1
  rw [buR_One t1 t2 (pkC_len' hm.signed) t3, buR_One t1 t2 (pkC_len' hm.signed) t3] at h3
  simp only [Option.some.injEq, Value.slice.injEq] at h3
  obtain ⟨rfl, _, rfl⟩ := h3
  exact h2
theorem enters_wlst : Enters 60 := qan Tryz.func60 (by kernel_rfl) rfl
set_option maxHeartbeats 4000000 in
theorem wlst_any (w : World) (p : Nat) (L : List (Nat × List Value)) (l : List (BitVec 8)) (m : MLs) (X : List Value) (u : World) (hm : m.Ok) (hX : Fro 0 (lsAt m X) w) (hb : l.length + (lsB m).length ≤ 100000000000) (H : Ww w p L l u) : Calls Tryz.prog 60 #[.pointer (some ⟨p, 0, none⟩), .agg (X).toArray] u fun e u' => ∃ v', e = .returned v' ∧ Ww w p L (l ++ (lsB m)) u' := by
  obtain ⟨a0, c0, rfl, HF⟩ := lsAt_fix hm hX
  clear hX
  obtain ⟨k1, k2, k3, k4⟩ := hm
  have HF2 := Lib.hid HF
  have K3 := Lib.hid k3
  clear HF k3
  have EB : Hid (l ++ viB m.acc ++ viB m.ver ++ m.ident ++ alB pkB m.devs ++ m.sig = l ++ (lsB m)) := Lib.hid (by rw [lsB_al]; simp only [List.append_assoc])
  have HB : Hid ((l ++ viB m.acc ++ viB m.ver ++ m.ident ++ alB pkB m.devs ++ m.sig).length ≤ 100000000000) := Lib.hid (by rw [EB.out, List.length_append]; exact hb)
  have E := Lib.hid H
  clear hb H
  go_enter Tryz.func60, Tryz.ntmps60
  go_upto_region 0 with fail; refine wp_region_lit ?_
  refine qaa (qa8 (vs := lsR (.int .i64 m.acc) (.int .i64 m.ver) (m.ident.map b8) (.slice a0 m.devs.length c0) (m.sig.map b8)) rfl rfl) rfl ?_; (try simp only [Act.put, lyy])
  replace E := Lib.hid (E.out.new (lsR (.int .i64 m.acc) (.int .i64 m.ver) (m.ident.map b8) (.slice a0 m.devs.length c0) (m.sig.map b8)) 32)
  generalize u.alloc (.cells (lsR (.int .i64 m.acc) (.int .i64 m.ver) (m.ident.map b8) (.slice a0 m.devs.length c0) (m.sig.map b8)).toArray 32) = a1 at *
  generalize u.heap.size = g2 at *
  refine qab ?_
  go_upto_region 1 with fail; refine wp_region_lit ?_
  refine qaa (qad (v := .pointer (some ⟨p, 0, none⟩)) rfl rfl) rfl ?_; (try simp only [Act.put, lyy])
  refine qaa (qai (s := 0) (k := 0) rfl Tryz.underlying32 rfl (by kernel_rfl) rfl rfl) rfl ?_; (try simp only [Act.put, lyy])
  refine qaa (qam rfl Tryz.underlying3 rfl rfl ((E.out.get (i := 0) rfl).c 0 _ (lsR_Account ))) rfl ?_; (try simp only [Act.put, lyy])
  refine qag (qaf qa5 rfl rfl rfl rfl) rfl (qbn w p _ _ (m.acc) _ (by have h := HB.out; simp only [List.length_append] at h ⊢; omega) E.out) (fun v4 a3 hR => ?_); (try simp only [Act.put, lyy])
  replace E := Lib.hid hR
  clear hR
  refine qab ?_
  go_upto_region 2 with fail; refine wp_region_lit ?_
  refine qaa (qad (v := .pointer (some ⟨p, 0, none⟩)) rfl rfl) rfl ?_; (try simp only [Act.put, lyy])
  refine qaa (qai (s := 0) (k := 1) rfl Tryz.underlying32 rfl (by kernel_rfl) rfl rfl) rfl ?_; (try simp only [Act.put, lyy])
  refine qaa (qam rfl Tryz.underlying3 rfl rfl ((E.out.get (i := 0) rfl).c 1 _ (lsR_Version ))) rfl ?_; (try simp only [Act.put, lyy])
  refine qag (qaf qa5 rfl rfl rfl rfl) rfl (qbn w p _ _ (m.ver) _ (by have h := HB.out; simp only [List.length_append] at h ⊢; omega) E.out) (fun v6 a5 hR => ?_); (try simp only [Act.put, lyy])
  replace E := Lib.hid hR
  clear hR
  refine qab ?_
  go_upto_region 3 with fail; refine wp_region_lit ?_
  refine qaa (qad (v := .pointer (some ⟨p, 0, none⟩)) rfl rfl) rfl ?_; (try simp only [Act.put, lyy])
  refine qaa (qai (s := 31) (k := 2) rfl Tryz.underlying32 rfl (by kernel_rfl) rfl rfl) rfl ?_; (try simp only [Act.put, lyy])
  refine qaa (qat (vs := m.ident.map b8) rfl Tryz.underlying27 rfl (szR (by rw [List.length_map, k1]) (by kernel_rfl)) rfl ((E.out.get (i := 0) rfl).seg (lsR_Ident (by rw [List.length_map, k1])))) rfl ?_; (try simp only [Act.put, lyy])
  refine qag (qaf qcp rfl rfl rfl rfl) rfl (wkey_any w p _ _ m.ident _ k1 (by have h := HB.out; simp only [List.length_append] at h ⊢; omega) E.out) (fun v8 a7 hR => ?_); (try simp only [Act.put, lyy])
  replace E := Lib.hid hR
  clear hR
  refine qab ?_
  go_upto_region 4 with fail; refine wp_region_lit ?_
  refine qaa (qad (v := .pointer (some ⟨p, 0, none⟩)) rfl rfl) rfl ?_; (try simp only [Act.put, lyy])
  refine qaa (qai (s := 0) (k := 34) rfl Tryz.underlying32 rfl (by kernel_rfl) rfl rfl) rfl ?_; (try simp only [Act.put, lyy])
  refine qaa (qam rfl Tryz.underlying28 rfl rfl ((E.out.get (i := 0) rfl).c 34 _ (qce (by rw [List.length_map, k1])))) rfl ?_; (try simp only [Act.put, lyy])
  refine qag (qc3 enters_walE rfl rfl rfl rfl rfl) rfl (walE_any w p _ _ m.devs a0 c0 _ (by omega) K3.out HF2.out (by have h := HB.out; simp only [List.length_append] at h ⊢; omega) E.out) (fun v10 a9 hR => ?_); (try simp only [Act.put, lyy])
  replace E := Lib.hid hR
  clear hR
  refine qab ?_
  go_upto_region 5 with fail; refine wp_region_lit ?_
  refine qaa (qad (v := .pointer (some ⟨p, 0, none⟩)) rfl rfl) rfl ?_; (try simp only [Act.put, lyy])
  refine qaa (qai (s := 63) (k := 35) rfl Tryz.underlying32 rfl (by kernel_rfl) rfl rfl) rfl ?_; (try simp only [Act.put, lyy])
  refine qaa (qat (vs := m.sig.map b8) rfl Tryz.underlying30 rfl (szR (by rw [List.length_map, k2]) (by kernel_rfl)) rfl ((E.out.get (i := 0) rfl).seg (lsR_Sig (by rw [List.length_map, k1]) (by rw [List.length_map, k2])))) rfl ?_; (try simp only [Act.put, lyy])
  refine qag (qaf enters_wsig rfl rfl rfl rfl) rfl (wsig_any w p _ _ m.sig _ k2 (by have h := HB.out; simp only [List.length_append] at h ⊢; omega) E.out) (fun v12 a11 hR => ?_); (try simp only [Act.put, lyy])
  replace E := Lib.hid hR
  clear hR
  refine qab ?_
  have E2 := Lib.hid (E.out.drop.cast EB.out)
  go_wp2_with fail
  exact bodyPost_end (results_none Tryz.results60 _ _ _) rfl ⟨_, rfl, E2.out⟩
theorem enters_wbun : Enters 136 := qan Tryz.func136 (by kernel_rfl) rfl
set_option maxHeartbeats 4000000 in
theorem wbun_any (w : World) (p : Nat) (L : List (Nat × List Value)) (l : List (BitVec 8)) (m : MBu) (X : List Value) (u : World) (hm : m.Ok) (hX : Fro 0 (buAt m X) w) (hb : l.length + (buB m).length ≤ 100000000000) (H : Ww w p L l u) : Calls Tryz.prog 136 #[.pointer (some ⟨p, 0, none⟩), .agg (X).toArray] u fun e u' => ∃ v', e = .returned v' ∧ Ww w p L (l ++ (buB m)) u' := by
  obtain ⟨a0, c0, rfl, HF⟩ := buAt_fix hm hX
  clear hX
  obtain ⟨k1, k2, k3, k4, k5, k6⟩ := hm
  have HF2 := Lib.hid HF
  have K5 := Lib.hid k5
  clear HF k5
  have EB : Hid (l ++ viB m.acc ++ viB m.dev ++ m.ident ++ m.key ++ pkB m.signed ++ m.sig ++ alB pkB m.ones = l ++ (buB m)) := Lib.hid (by rw [buB_al]; simp only [List.append_assoc])
  have HB : Hid ((l ++ viB m.acc ++ viB m.dev ++ m.ident ++ m.key ++ pkB m.signed ++ m.sig ++ alB pkB m.ones).length ≤ 100000000000) := Lib.hid (by rw [EB.out, List.length_append]; exact hb)
  have E := Lib.hid H
  clear hb H
  go_enter Tryz.func136, Tryz.ntmps136
  go_upto_region 0 with fail; refine wp_region_lit ?_
  refine qaa (qa8 (vs := buR (.int .i64 m.acc) (.int .i64 m.dev) (m.ident.map b8) (m.key.map b8) (pkC m.signed) (m.sig.map b8) (.slice a0 m.ones.length c0)) rfl rfl) rfl ?_; (try simp only [Act.put, lyy])
  replace E := Lib.hid (E.out.new (buR (.int .i64 m.acc) (.int .i64 m.dev) (m.ident.map b8) (m.key.map b8) (pkC m.signed) (m.sig.map b8) (.slice a0 m.ones.length c0)) 51)
  generalize u.alloc (.cells (buR (.int .i64 m.acc) (.int .i64 m.dev) (m.ident.map b8) (m.key.map b8) (pkC m.signed) (m.sig.map b8) (.slice a0 m.ones.length c0)).toArray 51) = a1 at *
  generalize u.heap.size = g2 at *
  refine qab ?_
  go_upto_region 1 with fail; refine wp_region_lit ?_
  refine qaa (qad (v := .pointer (some ⟨p, 0, none⟩)) rfl rfl) rfl ?_; (try simp only [Act.put, lyy])
  refine qaa (qai (s := 0) (k := 0) rfl Tryz.underlying51 rfl (by kernel_rfl) rfl rfl) rfl ?_; (try simp only [Act.put, lyy])
  refine qaa (qam rfl Tryz.underlying3 rfl rfl ((E.out.get (i := 0) rfl).c 0 _ (buR_Account ))) rfl ?_; (try simp only [Act.put, lyy])
  refine qag (qaf qa5 rfl rfl rfl rfl) rfl (qbn w p _ _ (m.acc) _ (by have h := HB.out; simp only [List.length_append] at h ⊢; omega) E.out) (fun v4 a3 hR => ?_); (try simp only [Act.put, lyy])
  replace E := Lib.hid hR
  clear hR
  refine qab ?_
  go_upto_region 2 with fail; refine wp_region_lit ?_
  refine qaa (qad (v := .pointer (some ⟨p, 0, none⟩)) rfl rfl) rfl ?_; (try simp only [Act.put, lyy])
  refine qaa (qai (s := 0) (k := 1) rfl Tryz.underlying51 rfl (by kernel_rfl) rfl rfl) rfl ?_; (try simp only [Act.put, lyy])
  refine qaa (qam rfl Tryz.underlying3 rfl rfl ((E.out.get (i := 0) rfl).c 1 _ (buR_Device ))) rfl ?_; (try simp only [Act.put, lyy])
  refine qag (qaf qa5 rfl rfl rfl rfl) rfl (qbn w p _ _ (m.dev) _ (by have h := HB.out; simp only [List.length_append] at h ⊢; omega) E.out) (fun v6 a5 hR => ?_); (try simp only [Act.put, lyy])
  replace E := Lib.hid hR
  clear hR
  refine qab ?_
  go_upto_region 3 with fail; refine wp_region_lit ?_
  refine qaa (qad (v := .pointer (some ⟨p, 0, none⟩)) rfl rfl) rfl ?_; (try simp only [Act.put, lyy])
  refine qaa (qai (s := 31) (k := 2) rfl Tryz.underlying51 rfl (by kernel_rfl) rfl rfl) rfl ?_; (try simp only [Act.put, lyy])
  refine qaa (qat (vs := m.ident.map b8) rfl Tryz.underlying27 rfl (szR (by rw [List.length_map, k1]) (by kernel_rfl)) rfl ((E.out.get (i := 0) rfl).seg (buR_Ident (by rw [List.length_map, k1])))) rfl ?_; (try simp only [Act.put, lyy])
  refine qag (qaf qcp rfl rfl rfl rfl) rfl (wkey_any w p _ _ m.ident _ k1 (by have h := HB.out; simp only [List.length_append] at h ⊢; omega) E.out) (fun v8 a7 hR => ?_); (try simp only [Act.put, lyy])
  replace E := Lib.hid hR
  clear hR
  refine qab ?_
  go_upto_region 4 with fail; refine wp_region_lit ?_
  refine qaa (qad (v := .pointer (some ⟨p, 0, none⟩)) rfl rfl) rfl ?_; (try simp only [Act.put, lyy])
  refine qaa (qai (s := 31) (k := 34) rfl Tryz.underlying51 rfl (by kernel_rfl) rfl rfl) rfl ?_; (try simp only [Act.put, lyy])
  refine qaa (qat (vs := m.key.map b8) rfl Tryz.underlying27 rfl (szR (by rw [List.length_map, k2]) (by kernel_rfl)) rfl ((E.out.get (i := 0) rfl).seg (buR_Key (by rw [List.length_map, k1]) (by rw [List.length_map, k2])))) rfl ?_; (try simp only [Act.put, lyy])
  refine qag (qaf qcp rfl rfl rfl rfl) rfl (wkey_any w p _ _ m.key _ k2 (by have h := HB.out; simp only [List.length_append] at h ⊢; omega) E.out) (fun v10 a9 hR => ?_); (try simp only [Act.put, lyy])
  replace E := Lib.hid hR
  clear hR
  refine qab ?_
  go_upto_region 5 with fail; refine wp_region_lit ?_
  refine qaa (qad (v := .pointer (some ⟨p, 0, none⟩)) rfl rfl) rfl ?_; (try simp only [Act.put, lyy])
  refine qaa (qai (s := 32) (k := 66) rfl Tryz.underlying51 rfl (by kernel_rfl) rfl rfl) rfl ?_; (try simp only [Act.put, lyy])
  refine qaa (qat (vs := pkC m.signed) rfl Tryz.underlying42 rfl (szR (pkC_len' k3) (by kernel_rfl)) rfl ((E.out.get (i := 0) rfl).seg (buR_Signed (by rw [List.length_map, k1]) (by rw [List.length_map, k2]) (pkC_len' k3)))) rfl ?_; (try simp only [Act.put, lyy])
  refine qag (qaf enters_wpre rfl rfl rfl rfl) rfl (wpre_any w p _ _ m.signed _ k3 (by have h := HB.out; simp only [List.length_append] at h ⊢; omega) E.out) (fun v12 a11 hR => ?_); (try simp only [Act.put, lyy])
  replace E := Lib.hid hR
  clear hR
  refine qab ?_
  go_upto_region 6 with fail; refine wp_region_lit ?_
  refine qaa (qad (v := .pointer (some ⟨p, 0, none⟩)) rfl rfl) rfl ?_; (try simp only [Act.put, lyy])
  refine qaa (qai (s := 63) (k := 99) rfl Tryz.underlying51 rfl (by kernel_rfl) rfl rfl) rfl ?_; (try simp only [Act.put, lyy])
  refine qaa (qat (vs := m.sig.map b8) rfl Tryz.underlying30 rfl (szR (by rw [List.length_map, k4]) (by kernel_rfl)) rfl ((E.out.get (i := 0) rfl).seg (buR_Sig (by rw [List.length_map, k1]) (by rw [List.length_map, k2]) (pkC_len' k3) (by rw [List.length_map, k4])))) rfl ?_; (try simp only [Act.put, lyy])
  refine qag (qaf enters_wsig rfl rfl rfl rfl) rfl (wsig_any w p _ _ m.sig _ k4 (by have h := HB.out; simp only [List.length_append] at h ⊢; omega) E.out) (fun v14 a13 hR => ?_); (try simp only [Act.put, lyy])
  replace E := Lib.hid hR
  clear hR
  refine qab ?_
  go_upto_region 7 with fail; refine wp_region_lit ?_
  refine qaa (qad (v := .pointer (some ⟨p, 0, none⟩)) rfl rfl) rfl ?_; (try simp only [Act.put, lyy])
  refine qaa (qai (s := 0) (k := 163) rfl Tryz.underlying51 rfl (by kernel_rfl) rfl rfl) rfl ?_; (try simp only [Act.put, lyy])
  refine qaa (qam rfl Tryz.underlying43 rfl rfl ((E.out.get (i := 0) rfl).c 163 _ (buR_One (by rw [List.length_map, k1]) (by rw [List.length_map, k2]) (pkC_len' k3) (by rw [List.length_map, k4])))) rfl ?_; (try simp only [Act.put, lyy])
  refine qag (qc3 enters_walP rfl rfl rfl rfl rfl) rfl (walP_any w p _ _ m.ones a0 c0 _ (by omega) K5.out HF2.out (by have h := HB.out; simp only [List.length_append] at h ⊢; omega) E.out) (fun v16 a15 hR => ?_); (try simp only [Act.put, lyy])
  replace E := Lib.hid hR
  clear hR
  refine qab ?_
  have E2 := Lib.hid (E.out.drop.cast EB.out)
  go_wp2_with fail
  exact bodyPost_end (results_none Tryz.results136 _ _ _) rfl ⟨_, rfl, E2.out⟩
theorem enters_wenv : Enters 64 := qan Tryz.func64 (by kernel_rfl) rfl
set_option maxHeartbeats 4000000 in
theorem wenv_any (w : World) (p : Nat) (L : List (Nat × List Value)) (l : List (BitVec 8)) (m : MEv) (X : List Value) (u : World) (hm : m.Ok) (ho : -9223372036854775808 ≤ m.one) (hX : Fro 0 (evAt m X) w) (hb : l.length + (evB m).length ≤ 100000000000) (H : Ww w p L l u) : Calls Tryz.prog 64 #[.pointer (some ⟨p, 0, none⟩), .agg (X).toArray] u fun e u' => ∃ v', e = .returned v' ∧ Ww w p L (l ++ (evB m)) u' := by
  obtain ⟨a0, c0, rfl, HF⟩ := evAt_fix hm hX
  clear hX
  obtain ⟨k1, k2, k3⟩ := hm
  have HF2 := Lib.hid HF
  clear HF
  rw [evC_row]
  have EB : Hid (l ++ viB m.fr ++ viB m.dev ++ trB m.first ++ m.eph ++ viB m.signed ++ viB (oneN m.one) ++ hdB m.head ++ (viB (m.body.length : Int) ++ m.body) = l ++ (evB m)) := Lib.hid (by unfold evB; simp only [List.append_assoc])
  have HB : Hid ((l ++ viB m.fr ++ viB m.dev ++ trB m.first ++ m.eph ++ viB m.signed ++ viB (oneN m.one) ++ hdB m.head ++ (viB (m.body.length : Int) ++ m.body)).length ≤ 100000000000) := Lib.hid (by rw [EB.out, List.length_append]; exact hb)
  have E := Lib.hid H
  clear hb H
  go_enter Tryz.func64, Tryz.ntmps64
  go_upto_region 0 with fail; refine wp_region_lit ?_
  refine qaa (qa8 (vs := evR (.int .i64 m.fr) (.int .i64 m.dev) (.bool m.first) (m.eph.map b8) (.int .i64 m.signed) (.int .i64 m.one) (hdC m.head) (.slice a0 m.body.length c0)) rfl rfl) rfl ?_; (try simp only [Act.put, lyy])
  replace E := Lib.hid (E.out.new (evR (.int .i64 m.fr) (.int .i64 m.dev) (.bool m.first) (m.eph.map b8) (.int .i64 m.signed) (.int .i64 m.one) (hdC m.head) (.slice a0 m.body.length c0)) 38)
  generalize u.alloc (.cells (evR (.int .i64 m.fr) (.int .i64 m.dev) (.bool m.first) (m.eph.map b8) (.int .i64 m.signed) (.int .i64 m.one) (hdC m.head) (.slice a0 m.body.length c0)).toArray 38) = a1 at *
  generalize u.heap.size = g2 at *
  refine qab ?_
  go_upto_region 1 with fail; refine wp_region_lit ?_
  refine qaa (qad (v := .pointer (some ⟨p, 0, none⟩)) rfl rfl) rfl ?_; (try simp only [Act.put, lyy])
  refine qaa (qai (s := 0) (k := 0) rfl Tryz.underlying38 rfl (by kernel_rfl) rfl rfl) rfl ?_; (try simp only [Act.put, lyy])
  refine qaa (qam rfl Tryz.underlying3 rfl rfl ((E.out.get (i := 0) rfl).c 0 _ (evR_From ))) rfl ?_; (try simp only [Act.put, lyy])
  refine qag (qaf qa5 rfl rfl rfl rfl) rfl (qbn w p _ _ (m.fr) _ (by have h := HB.out; simp only [List.length_append] at h ⊢; omega) E.out) (fun v4 a3 hR => ?_); (try simp only [Act.put, lyy])
  replace E := Lib.hid hR
  clear hR
  refine qab ?_
  go_upto_region 2 with fail; refine wp_region_lit ?_
  refine qaa (qad (v := .pointer (some ⟨p, 0, none⟩)) rfl rfl) rfl ?_; (try simp only [Act.put, lyy])
  refine qaa (qai (s := 0) (k := 1) rfl Tryz.underlying38 rfl (by kernel_rfl) rfl rfl) rfl ?_; (try simp only [Act.put, lyy])
  refine qaa (qam rfl Tryz.underlying3 rfl rfl ((E.out.get (i := 0) rfl).c 1 _ (evR_Device ))) rfl ?_; (try simp only [Act.put, lyy])
  refine qag (qaf qa5 rfl rfl rfl rfl) rfl (qbn w p _ _ (m.dev) _ (by have h := HB.out; simp only [List.length_append] at h ⊢; omega) E.out) (fun v6 a5 hR => ?_); (try simp only [Act.put, lyy])
  replace E := Lib.hid hR
  clear hR
  refine qab ?_
  go_upto_region 3 with fail; refine wp_region_lit ?_
  refine qaa (qad (v := .pointer (some ⟨p, 0, none⟩)) rfl rfl) rfl ?_; (try simp only [Act.put, lyy])
  refine qaa (qai (s := 0) (k := 2) rfl Tryz.underlying38 rfl (by kernel_rfl) rfl rfl) rfl ?_; (try simp only [Act.put, lyy])
  refine qaa (qam rfl Tryz.underlying4 rfl rfl ((E.out.get (i := 0) rfl).c 2 _ (evR_First ))) rfl ?_; (try simp only [Act.put, lyy])
  refine qag (qaf enters_wtru rfl rfl rfl rfl) rfl (wtru_any w p _ _ (m.first) _ (by have h := HB.out; simp only [List.length_append] at h ⊢; omega) E.out) (fun v8 a7 hR => ?_); (try simp only [Act.put, lyy])
  replace E := Lib.hid hR
  clear hR
  refine qab ?_
  go_upto_region 4 with fail; refine wp_region_lit ?_
  refine qaa (qad (v := .pointer (some ⟨p, 0, none⟩)) rfl rfl) rfl ?_; (try simp only [Act.put, lyy])
  refine qaa (qai (s := 31) (k := 3) rfl Tryz.underlying38 rfl (by kernel_rfl) rfl rfl) rfl ?_; (try simp only [Act.put, lyy])
  refine qaa (qat (vs := m.eph.map b8) rfl Tryz.underlying27 rfl (szR (by rw [List.length_map, k1]) (by kernel_rfl)) rfl ((E.out.get (i := 0) rfl).seg (evR_Eph (by rw [List.length_map, k1])))) rfl ?_; (try simp only [Act.put, lyy])
  refine qag (qaf qcp rfl rfl rfl rfl) rfl (wkey_any w p _ _ m.eph _ k1 (by have h := HB.out; simp only [List.length_append] at h ⊢; omega) E.out) (fun v10 a9 hR => ?_); (try simp only [Act.put, lyy])
  replace E := Lib.hid hR
  clear hR
  refine qab ?_
  go_upto_region 5 with fail; refine wp_region_lit ?_
  refine qaa (qad (v := .pointer (some ⟨p, 0, none⟩)) rfl rfl) rfl ?_; (try simp only [Act.put, lyy])
  refine qaa (qai (s := 0) (k := 35) rfl Tryz.underlying38 rfl (by kernel_rfl) rfl rfl) rfl ?_; (try simp only [Act.put, lyy])
  refine qaa (qam rfl Tryz.underlying3 rfl rfl ((E.out.get (i := 0) rfl).c 35 _ (evR_Signed (by rw [List.length_map, k1])))) rfl ?_; (try simp only [Act.put, lyy])
  refine qag (qaf qa5 rfl rfl rfl rfl) rfl (qbn w p _ _ (m.signed) _ (by have h := HB.out; simp only [List.length_append] at h ⊢; omega) E.out) (fun v12 a11 hR => ?_); (try simp only [Act.put, lyy])
  replace E := Lib.hid hR
  clear hR
  refine qab ?_
  go_upto_region 6 with fail; refine wp_region_lit ?_
  refine qaa (qad (v := .pointer (some ⟨p, 0, none⟩)) rfl rfl) rfl ?_; (try simp only [Act.put, lyy])
  refine qaa (qai (s := 0) (k := 36) rfl Tryz.underlying38 rfl (by kernel_rfl) rfl rfl) rfl ?_; (try simp only [Act.put, lyy])
  refine qaa (qam rfl Tryz.underlying3 rfl rfl ((E.out.get (i := 0) rfl).c 36 _ (evR_One (by rw [List.length_map, k1])))) rfl ?_; (try simp only [Act.put, lyy])
  refine qag (qaf enters_wnon rfl rfl rfl rfl) rfl (wnon_any w p _ _ (m.one) _ ho (by have h := HB.out; simp only [List.length_append] at h ⊢; omega) E.out) (fun v14 a13 hR => ?_); (try simp only [Act.put, lyy])
  replace E := Lib.hid hR
  clear hR
  refine qab ?_
  go_upto_region 7 with fail; refine wp_region_lit ?_
  refine qaa (qad (v := .pointer (some ⟨p, 0, none⟩)) rfl rfl) rfl ?_; (try simp only [Act.put, lyy])
  refine qaa (qai (s := 33) (k := 37) rfl Tryz.underlying38 rfl (by kernel_rfl) rfl rfl) rfl ?_; (try simp only [Act.put, lyy])
  refine qaa (qat (vs := hdC m.head) rfl Tryz.underlying36 rfl (szR (qcu k2) (by kernel_rfl)) rfl ((E.out.get (i := 0) rfl).seg (evR_Head (by rw [List.length_map, k1]) (qcu k2)))) rfl ?_; (try simp only [Act.put, lyy])
  refine qag (qaf enters_whdr rfl rfl rfl rfl) rfl (whdr_any w p _ _ m.head _ k2 (by have h := HB.out; simp only [List.length_append] at h ⊢; omega) E.out) (fun v16 a15 hR => ?_); (try simp only [Act.put, lyy])
  replace E := Lib.hid hR
  clear hR
  refine qab ?_
  go_upto_region 8 with fail; refine wp_region_lit ?_
  refine qaa (qad (v := .pointer (some ⟨p, 0, none⟩)) rfl rfl) rfl ?_; (try simp only [Act.put, lyy])
  refine qaa (qai (s := 0) (k := 71) rfl Tryz.underlying38 rfl (by kernel_rfl) rfl rfl) rfl ?_; (try simp only [Act.put, lyy])
  refine qaa (qam rfl Tryz.underlying22 rfl rfl ((E.out.get (i := 0) rfl).c 71 _ (evR_Body (by rw [List.length_map, k1]) (qcu k2)))) rfl ?_; (try simp only [Act.put, lyy])
  refine qag (qaf enters_wbyt rfl rfl rfl rfl) rfl (wbyt_any w p _ _ m.body a0 c0 _ HF2.out (by have h := HB.out; simp only [List.length_append] at h ⊢; omega) E.out) (fun v18 a17 hR => ?_); (try simp only [Act.put, lyy])
  replace E := Lib.hid hR
  clear hR
  refine qab ?_
  have E2 := Lib.hid (E.out.drop.cast EB.out)
  go_wp2_with fail
  exact bodyPost_end (results_none Tryz.results64 _ _ _) rfl ⟨_, rfl, E2.out⟩
end Go.Proofs.YtcgbgmbnagmohaaGreat
