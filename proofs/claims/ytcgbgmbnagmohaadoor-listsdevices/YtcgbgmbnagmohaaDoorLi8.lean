import Derived.Test.YtcgbgmbnagmohaaDoorLy
import Derived.Test.YtcgbgmbnagmohaaDoorLi5
import Derived.Deep.CutBlock
import Derived.Test.YtcgbgmbnagmohaaDoorSgCon
import Derived.Test.YtcgbgmbnagmohaaDoorChG
import Derived.Test.YtcgbgmbnagmohaaDoorLi4
import Derived.Test.YtcgbgmbnagmohaaDoorLi1
namespace Go.Proofs.YtcgbgmbnagmohaaDoor
open Go.RowKit
set_option maxRecDepth 20000
attribute [local irreducible] wpList
theorem qcq : Enters 26 := qaq Tryd.func26 (by kernel_rfl) rfl
set_option maxHeartbeats 4000000 in
theorem qdm (n : Int) (w : World) : Calls Tryd.prog 26 #[.int .i64 n] w fun e w' => e = .returned (.bool (wiB n)) ∧ Below w.heap.size w w' := by
 have E := Lib.hid (Ev.start (w := w) (F := fun _ => True) fun _ _ => trivial)
 by_cases h1 : 1 ≤ n
 ·have hW : wiB n = decide (n ≤ 1099511627776) := by unfold wiB; rw [decide_eq_true h1]; rfl
  rw [hW]
  obtain ⟨r, hr⟩ : ∃ r, r = decide (n ≤ 1099511627776) := ⟨_, rfl⟩
  rw [← hr]
  have HR := Lib.hid hr.symm
  clear hr hW
  go_enter Tryd.func26, Tryd.ntmps26
  go_upto_region 0 with fail; refine wp_region_lit ?_
  refine qaa (qaf (v := .bool false) rfl rfl) rfl ?_; (try simp only [Act.put, lyy])
  refine qab ?_
  go_upto_region 1 with fail; refine wp_region_lit ?_
  refine qaa (qae (v := .int .i64 n) rfl rfl) rfl ?_; (try simp only [Act.put, lyy])
  refine qaa (run_geqI (c := true) rfl rfl rfl (decide_eq_true (by omega))) rfl ?_; (try simp only [Act.put, lyy])
  refine qaa (qae (v := .bool true) rfl rfl) rfl ?_; (try simp only [Act.put, lyy])
  refine qah (qae (v := .int .i64 n) rfl rfl) rfl ?_; (try simp only [Act.put, lyy])
  refine qah (run_leqI (c := r) rfl rfl rfl HR.out) rfl ?_; (try simp only [Act.put, lyy])
  refine qaa (qaz (b := true) (v := .bool r) rfl rfl rfl) rfl ?_; (try simp only [Act.put, lyy])
  refine qaa (qaf (v := .bool r) rfl rfl) rfl ?_; (try simp only [Act.put, lyy])
  refine qab ?_
  go_wp2_with fail
  go_ret
  exact ⟨rfl, E.out.bl⟩
 ·have hW : wiB n = false := by unfold wiB; rw [decide_eq_false h1]; rfl
  rw [hW]
  clear hW
  go_enter Tryd.func26, Tryd.ntmps26
  go_upto_region 0 with fail; refine wp_region_lit ?_
  refine qaa (qaf (v := .bool false) rfl rfl) rfl ?_; (try simp only [Act.put, lyy])
  refine qab ?_
  go_upto_region 1 with fail; refine wp_region_lit ?_
  refine qaa (qae (v := .int .i64 n) rfl rfl) rfl ?_; (try simp only [Act.put, lyy])
  refine qaa (run_geqI (c := false) rfl rfl rfl (decide_eq_false (by omega))) rfl ?_; (try simp only [Act.put, lyy])
  refine qaa (qae (v := .bool false) rfl rfl) rfl ?_; (try simp only [Act.put, lyy])
  refine qa3 rfl ?_; (try simp only [Act.put, lyy])
  refine qa3 rfl ?_; (try simp only [Act.put, lyy])
  refine qaa (qaz (b := false) (v := .bool false) rfl rfl rfl) rfl ?_; (try simp only [Act.put, lyy])
  refine qaa (qaf (v := .bool false) rfl rfl) rfl ?_; (try simp only [Act.put, lyy])
  refine qab ?_
  go_wp2_with fail
  go_ret
  exact ⟨rfl, E.out.bl⟩
theorem enters_rise : Enters 25 := qaq Tryd.func25 (by kernel_rfl) rfl
set_option maxHeartbeats 8000000 in
theorem rise_any (a : Option Addr) (c : Nat) (l : List MPk) (w : World) (hs : Fro 0 (SlR 33 pkAt l a c) w) (hk : ∀ p ∈ l, p.key.length = 32) (hmany : l.length ≤ 60000) : Calls Tryd.prog 25 #[.slice a l.length c] w fun e w' => e = .returned (.bool (riB 0 l)) ∧ Below w.heap.size w w' := by
 have E := Lib.hid (Ev.start (w := w) (F := SlR 33 pkAt l a c) hs)
 have HK := Lib.hid hk
 have HAT : Hid (∀ (j : Nat) (hj : j < l.length) (h : Int), riB h (l.drop j) = (wiB l[j].id && decide (h < l[j].id) && riB l[j].id (l.drop (j + 1)))) := Lib.hid fun j hj h => riB_at hj h
 have HE := Lib.hid (riB_end l)
 have H0 : Hid (riB 0 l = riB 0 (l.drop 0)) := Lib.hid rfl
 clear hs hk
 generalize riB 0 l = r at *
 obtain ⟨m, hm⟩ : ∃ m, m = l.length := ⟨_, rfl⟩
 rw [← hm]
 rw [← hm] at hmany
 have HM := Lib.hid hm
 go_enter Tryd.func25, Tryd.ntmps25
 go_upto_region 0 with fail; refine wp_region_lit ?_
 refine qaa (qaf (v := .bool false) rfl rfl) rfl ?_; (try simp only [Act.put, lyy])
 refine qab ?_
 go_upto_region 1 with fail; refine wp_region_lit ?_
 refine qaa (qaf (v := .int .i64 0) rfl rfl) rfl ?_; (try simp only [Act.put, lyy])
 refine qab ?_
 go_upto_region 2 with fail; refine wp_region_lit ?_
 refine qaa (qae (v := .slice a m c) rfl rfl) rfl ?_; (try simp only [Act.put, lyy])
 refine qaa (qbe rfl Tryd.underlying25 rfl) rfl ?_; (try simp only [Act.put, lyy])
 refine qaa (qae (v := .int .i64 0) rfl rfl) rfl ?_; (try simp only [Act.put, lyy])
 refine qab ?_
 go_wp2_with fail
 go_loopw [3, 5, 8] (fun s3 s5 s8 u => ∃ (j : Nat) (h : Int), s3 = .int .i64 h ∧ s8 = .int .i64 (j : Int) ∧ j ≤ m ∧ Hid (r = riB h (l.drop j)) ∧ Ev w [] [] (SlR 33 pkAt l a c) (fun _ => True) u) (fun _ _ s8 _ => ((m : Int) - intOf s8).toNat)
 case atStart => exact ⟨0, 0, rfl, rfl, Nat.zero_le _, H0, E.out⟩
 case round =>
  obtain ⟨j, h, rfl, rfl, hj, HJ, hE⟩ := hrel
  replace E := Lib.hid hE
  clear hE
  by_cases hjm : j = m
  ·go_upto_region 3 with fail; refine wp_region_lit ?_
   refine qaa (qbr (c := false) rfl rfl rfl (decide_eq_false (by omega))) rfl ?_; (try simp only [Act.put, lyy])
   refine qab ?_
   go_upto_region 9 with fail; refine wp_region_lit ?_
   refine qaa (qaf (v := .bool true) rfl rfl) rfl ?_; (try simp only [Act.put, lyy])
   refine qab ?_
   go_wp2_with fail
   go_ret
   exact ⟨by rw [HJ.out, hjm, HM.out, HE.out]; rfl, E.out.bl⟩
  ·have hjl : j < l.length := by have := HM.out; omega
   obtain ⟨g, fo, rfl, hg, hr⟩ := pk_at E.out.f hjl
   have hkl := HK.out _ (List.getElem_mem hjl)
   have HX := Lib.hid (HAT.out j hjl h)
   generalize l[j] = q at *
   rw [pkC_en] at hr
   have HR := Lib.hid hr
   clear hr
   go_upto_region 3 with fail; refine wp_region_lit ?_
   refine qaa (qbr (c := true) rfl rfl rfl (decide_eq_true (by omega))) rfl ?_; (try simp only [Act.put, lyy])
   refine qab ?_
   go_upto_region 4 with fail; refine wp_region_lit ?_
   refine qaa (qcl (z := 33) rfl Tryd.underlying25 (by kernel_rfl) rfl rfl (by omega)) rfl ?_; (try simp only [Act.put, lyy])
   refine qaa (qaj (vs := enR (.int .i64 q.id) (q.key.map b8)) rfl Tryd.underlying34 rfl (szR (qbn (by rw [List.length_map, hkl])) (by kernel_rfl)) rfl HR.out) rfl ?_; (try simp only [Act.put, lyy])
   refine qaa (qat (vs := enR ((.int .i64 0)) (z8 32)) rfl (by kernel_rfl)) rfl ?_; (try simp only [Act.put, lyy])
   replace E := Lib.hid (E.out.new (enR ((.int .i64 0)) (z8 32)) 34)
   generalize wr.alloc (.cells (enR ((.int .i64 0)) (z8 32)).toArray 34) = a1 at *
   generalize wr.heap.size = g2 at *
   refine qag (qar (vs := enR (.int .i64 q.id) (q.key.map b8)) rfl (szR (qbn (by rw [List.length_map, hkl])) (by kernel_rfl)) rfl rfl (One.all (enR_one rfl (One.b8 _))) ((E.out.get (i := 0) rfl).thereM (by have q1 : (enR (.int .i64 q.id) (q.key.map b8)).length = 33 := (qbn (by rw [List.length_map, hkl])); have q2 : (enR ((.int .i64 0)) (z8 32)).length = 33 := (qbn (qa7 32)); omega))) rfl rfl ?_
   replace E := Lib.hid (E.out.put 0 rfl (m := enR (.int .i64 q.id) (q.key.map b8)) ((show (enR (.int .i64 q.id) (q.key.map b8)).length = 33 from (qbn (by rw [List.length_map, hkl]))).trans (show (enR ((.int .i64 0)) (z8 32)).length = 33 from (qbn (qa7 32))).symm))
   generalize a1.setCells g2 0 (enR (.int .i64 q.id) (q.key.map b8)) = a3 at *
   replace E := Lib.hid (show Ev _ [(g2, enR (.int .i64 q.id) (q.key.map b8))] _ _ _ a3 from E.out)
   refine qab ?_
   clear HR
   cases hw : wiB q.id with
   | false =>
    go_upto_region 5 with fail; refine wp_region_lit ?_
    refine qaa (qan (s := 0) (k := 0) rfl Tryd.underlying34 rfl (by kernel_rfl) rfl rfl) rfl ?_; (try simp only [Act.put, lyy])
    refine qaa (qav rfl Tryd.underlying3 rfl rfl ((E.out.get (i := 0) rfl).c 0 _ (enR_ID ))) rfl ?_; (try simp only [Act.put, lyy])
    refine qam (qap qcq rfl rfl rfl) rfl ((hw ▸ qdm q.id _)) (fun a4 hb => ?_); (try simp only [Act.put, lyy])
    replace E := Lib.hid (E.out.below hb)
    clear hb
    refine qaa (run_notF rfl rfl) rfl ?_; (try simp only [Act.put, lyy])
    refine qaa (qae (v := .bool true) rfl rfl) rfl ?_; (try simp only [Act.put, lyy])
    refine qa3 rfl ?_; (try simp only [Act.put, lyy])
    refine qa3 rfl ?_; (try simp only [Act.put, lyy])
    refine qa3 rfl ?_; (try simp only [Act.put, lyy])
    refine qa3 rfl ?_; (try simp only [Act.put, lyy])
    refine qaa (qaz (b := true) (v := .bool true) rfl rfl rfl) rfl ?_; (try simp only [Act.put, lyy])
    refine qab ?_
    go_upto_region 6 with fail; refine wp_region_lit ?_
    refine qaa (qaf (v := .bool false) rfl rfl) rfl ?_; (try simp only [Act.put, lyy])
    refine qab ?_
    go_wp2_with fail
    go_ret
    exact ⟨by rw [HJ.out, HX.out, hw]; rfl, E.out.bl⟩
   | true =>
    by_cases hlt : h < q.id
    ·go_upto_region 5 with fail; refine wp_region_lit ?_
     refine qaa (qan (s := 0) (k := 0) rfl Tryd.underlying34 rfl (by kernel_rfl) rfl rfl) rfl ?_; (try simp only [Act.put, lyy])
     refine qaa (qav rfl Tryd.underlying3 rfl rfl ((E.out.get (i := 0) rfl).c 0 _ (enR_ID ))) rfl ?_; (try simp only [Act.put, lyy])
     refine qam (qap qcq rfl rfl rfl) rfl ((hw ▸ qdm q.id _)) (fun a4 hb => ?_); (try simp only [Act.put, lyy])
     replace E := Lib.hid (E.out.below hb)
     clear hb
     refine qaa (qc7 rfl rfl) rfl ?_; (try simp only [Act.put, lyy])
     refine qaa (qae (v := .bool false) rfl rfl) rfl ?_; (try simp only [Act.put, lyy])
     refine qah (qan (s := 0) (k := 0) rfl Tryd.underlying34 rfl (by kernel_rfl) rfl rfl) rfl ?_; (try simp only [Act.put, lyy])
     refine qah (qav rfl Tryd.underlying3 rfl rfl ((E.out.get (i := 0) rfl).c 0 _ (enR_ID ))) rfl ?_; (try simp only [Act.put, lyy])
     refine qah (qae (v := .int .i64 h) rfl rfl) rfl ?_; (try simp only [Act.put, lyy])
     refine qah (run_leqI (c := false) rfl rfl rfl (decide_eq_false (by omega))) rfl ?_; (try simp only [Act.put, lyy])
     refine qaa (qaz (b := false) (v := .bool false) rfl rfl rfl) rfl ?_; (try simp only [Act.put, lyy])
     refine qab ?_
     go_upto_region 7 with fail; refine wp_region_lit ?_
     refine qaa (qan (s := 0) (k := 0) rfl Tryd.underlying34 rfl (by kernel_rfl) rfl rfl) rfl ?_; (try simp only [Act.put, lyy])
     refine qaa (qav rfl Tryd.underlying3 rfl rfl ((E.out.get (i := 0) rfl).c 0 _ (enR_ID ))) rfl ?_; (try simp only [Act.put, lyy])
     refine qaa (qaf (v := .int .i64 q.id) rfl rfl) rfl ?_; (try simp only [Act.put, lyy])
     refine qab ?_
     go_upto_region 8 with fail; refine wp_region_lit ?_
     refine qaa (qb1 (a := j) (b := 1) rfl rfl rfl (by omega)) rfl ?_; (try simp only [Act.put, lyy])
     refine qaa (qae (v := .int .i64 ((j + 1 : Nat) : Int)) rfl rfl) rfl ?_; (try simp only [Act.put, lyy])
     refine qab ?_
     replace E := Lib.hid E.out.drop
     have NX : Hid (r = riB q.id (l.drop (j + 1))) := Lib.hid (by rw [HJ.out, HX.out, hw, decide_eq_true hlt]; rfl)
     go_wp2_with fail
     exact ⟨⟨j + 1, q.id, rfl, rfl, by omega, NX, E.out⟩, by simp [intOf]; omega⟩
    ·go_upto_region 5 with fail; refine wp_region_lit ?_
     refine qaa (qan (s := 0) (k := 0) rfl Tryd.underlying34 rfl (by kernel_rfl) rfl rfl) rfl ?_; (try simp only [Act.put, lyy])
     refine qaa (qav rfl Tryd.underlying3 rfl rfl ((E.out.get (i := 0) rfl).c 0 _ (enR_ID ))) rfl ?_; (try simp only [Act.put, lyy])
     refine qam (qap qcq rfl rfl rfl) rfl ((hw ▸ qdm q.id _)) (fun a4 hb => ?_); (try simp only [Act.put, lyy])
     replace E := Lib.hid (E.out.below hb)
     clear hb
     refine qaa (qc7 rfl rfl) rfl ?_; (try simp only [Act.put, lyy])
     refine qaa (qae (v := .bool false) rfl rfl) rfl ?_; (try simp only [Act.put, lyy])
     refine qah (qan (s := 0) (k := 0) rfl Tryd.underlying34 rfl (by kernel_rfl) rfl rfl) rfl ?_; (try simp only [Act.put, lyy])
     refine qah (qav rfl Tryd.underlying3 rfl rfl ((E.out.get (i := 0) rfl).c 0 _ (enR_ID ))) rfl ?_; (try simp only [Act.put, lyy])
     refine qah (qae (v := .int .i64 h) rfl rfl) rfl ?_; (try simp only [Act.put, lyy])
     refine qah (run_leqI (c := true) rfl rfl rfl (decide_eq_true (by omega))) rfl ?_; (try simp only [Act.put, lyy])
     refine qaa (qaz (b := false) (v := .bool true) rfl rfl rfl) rfl ?_; (try simp only [Act.put, lyy])
     refine qab ?_
     go_upto_region 6 with fail; refine wp_region_lit ?_
     refine qaa (qaf (v := .bool false) rfl rfl) rfl ?_; (try simp only [Act.put, lyy])
     refine qab ?_
     go_wp2_with fail
     go_ret
     exact ⟨by rw [HJ.out, HX.out, hw, decide_eq_false (by omega : ¬ h < q.id)]; rfl, E.out.bl⟩
theorem enters_clone : Enters 22 := qaq Tryd.func22 (by kernel_rfl) rfl
set_option maxHeartbeats 8000000 in
theorem clone_any (m : MLs) (X : List Value) (w : World) (hm : m.Ok) (hX : Fro 0 (lsAt m X) w) : Calls Tryd.prog 22 #[.agg X.toArray] w fun e w' => ∃ v', e = .returned v' ∧ ((∃ a c, v' = .agg (lsR (.int .i64 m.acc) (.int .i64 m.ver) (m.ident.map b8) (.slice a m.devs.length c) (m.sig.map b8)).toArray ∧ Fro w.heap.size (SlR 33 pkAt m.devs a c) w') ∧ Below w.heap.size w w') := by
 obtain ⟨a0, c0, rfl, HF⟩ := qcx hm hX
 have k1 := hm.ident
 have k2 := hm.sig
 have HDV := Lib.hid hm.devs
 have hmany := hm.many
 have E := Lib.hid (Ev.start (w := w) (F := SlR 33 pkAt m.devs a0 c0) HF)
 clear hX HF hm
 go_enter Tryd.func22, Tryd.ntmps22
 go_upto_region 0 with fail; refine wp_region_lit ?_
 refine qaa (qau (vs := lsR (.int .i64 m.acc) (.int .i64 m.ver) (m.ident.map b8) (.slice a0 m.devs.length c0) (m.sig.map b8)) rfl rfl) rfl ?_; (try simp only [Act.put, lyy])
 replace E := Lib.hid (E.out.new (lsR (.int .i64 m.acc) (.int .i64 m.ver) (m.ident.map b8) (.slice a0 m.devs.length c0) (m.sig.map b8)) 29)
 generalize w.alloc (.cells (lsR (.int .i64 m.acc) (.int .i64 m.ver) (m.ident.map b8) (.slice a0 m.devs.length c0) (m.sig.map b8)).toArray 29) = a1 at *
 generalize w.heap.size = g2 at *
 refine qaa (qat (vs := lsR ((.int .i64 0)) ((.int .i64 0)) (z8 32) ((.slice none 0 0)) (z8 64)) rfl (by kernel_rfl)) rfl ?_; (try simp only [Act.put, lyy])
 replace E := Lib.hid (E.out.new (lsR ((.int .i64 0)) ((.int .i64 0)) (z8 32) ((.slice none 0 0)) (z8 64)) 29)
 generalize a1.alloc (.cells (lsR ((.int .i64 0)) ((.int .i64 0)) (z8 32) ((.slice none 0 0)) (z8 64)).toArray 29) = a3 at *
 generalize a1.heap.size = g4 at *
 refine qab ?_
 go_upto_region 1 with fail; refine wp_region_lit ?_
 refine qaa (qan (s := 0) (k := 34) rfl Tryd.underlying29 rfl (by kernel_rfl) rfl rfl) rfl ?_; (try simp only [Act.put, lyy])
 refine qaa (qav rfl Tryd.underlying25 rfl rfl ((E.out.get (i := 1) rfl).c 34 _ (qal (by rw [List.length_map, k1])))) rfl ?_; (try simp only [Act.put, lyy])
 refine wpList_cloneE rfl rfl rfl rfl E.out.f HDV.out hmany (fun av cv b1 hF hb => ?_); (try simp only [Act.put, lyy])
 replace E := Lib.hid (E.out.call hb hF)
 clear hF hb
 refine qaa (qan (s := 0) (k := 34) rfl Tryd.underlying29 rfl (by kernel_rfl) rfl rfl) rfl ?_; (try simp only [Act.put, lyy])
 refine qag (run_stc (v := .slice av m.devs.length cv) rfl (by kernel_rfl) rfl rfl rfl rfl ((E.out.get (i := 1) rfl).c 34 _ (qal (by rw [List.length_map, k1]))) ((E.out.get (i := 1) rfl).f _)) rfl rfl ?_
 replace E := Lib.hid (E.out.set 1 rfl (j := 34) (by have q2 : (lsR (.int .i64 m.acc) (.int .i64 m.ver) (m.ident.map b8) (.slice a0 m.devs.length c0) (m.sig.map b8)).length = 99 := (qas (by rw [List.length_map, k1]) (by rw [List.length_map, k2])); omega) (.slice av m.devs.length cv))
 rw [show (lsR (.int .i64 m.acc) (.int .i64 m.ver) (m.ident.map b8) (.slice a0 m.devs.length c0) (m.sig.map b8)).set 34 (.slice av m.devs.length cv) = lsR (.int .i64 m.acc) (.int .i64 m.ver) (m.ident.map b8) (.slice av m.devs.length cv) (m.sig.map b8) from (qdb (by rw [List.length_map, k1]) _)] at E
 generalize b1.setCell ⟨g2, 34, none⟩ (.slice av m.devs.length cv) = a5 at *
 replace E := Lib.hid (show Ev _ [(g4, lsR ((.int .i64 0)) ((.int .i64 0)) (z8 32) ((.slice none 0 0)) (z8 64)), (g2, lsR (.int .i64 m.acc) (.int .i64 m.ver) (m.ident.map b8) (.slice av m.devs.length cv) (m.sig.map b8))] _ _ _ a5 from E.out)
 refine qab ?_
 go_upto_region 2 with fail; refine wp_region_lit ?_
 refine qaa (qaj (vs := lsR (.int .i64 m.acc) (.int .i64 m.ver) (m.ident.map b8) (.slice av m.devs.length cv) (m.sig.map b8)) rfl Tryd.underlying29 rfl (szR (qas (by rw [List.length_map, k1]) (by rw [List.length_map, k2])) (by kernel_rfl)) rfl (E.out.get (i := 1) rfl).range) rfl ?_; (try simp only [Act.put, lyy])
 refine qag (qar (vs := lsR (.int .i64 m.acc) (.int .i64 m.ver) (m.ident.map b8) (.slice av m.devs.length cv) (m.sig.map b8)) rfl (szR (qas (by rw [List.length_map, k1]) (by rw [List.length_map, k2])) (by kernel_rfl)) rfl rfl (One.all (lsR_one rfl rfl (One.b8 _) rfl (One.b8 _))) ((E.out.get (i := 0) rfl).thereM (by have q1 : (lsR (.int .i64 m.acc) (.int .i64 m.ver) (m.ident.map b8) (.slice av m.devs.length cv) (m.sig.map b8)).length = 99 := (qas (by rw [List.length_map, k1]) (by rw [List.length_map, k2])); have q2 : (lsR ((.int .i64 0)) ((.int .i64 0)) (z8 32) ((.slice none 0 0)) (z8 64)).length = 99 := (qas (qa7 32) (qa7 64)); omega))) rfl rfl ?_
 replace E := Lib.hid (E.out.put 0 rfl (m := lsR (.int .i64 m.acc) (.int .i64 m.ver) (m.ident.map b8) (.slice av m.devs.length cv) (m.sig.map b8)) ((show (lsR (.int .i64 m.acc) (.int .i64 m.ver) (m.ident.map b8) (.slice av m.devs.length cv) (m.sig.map b8)).length = 99 from (qas (by rw [List.length_map, k1]) (by rw [List.length_map, k2]))).trans (show (lsR ((.int .i64 0)) ((.int .i64 0)) (z8 32) ((.slice none 0 0)) (z8 64)).length = 99 from (qas (qa7 32) (qa7 64))).symm))
 generalize a5.setCells g4 0 (lsR (.int .i64 m.acc) (.int .i64 m.ver) (m.ident.map b8) (.slice av m.devs.length cv) (m.sig.map b8)) = a6 at *
 replace E := Lib.hid (show Ev _ [(g4, lsR (.int .i64 m.acc) (.int .i64 m.ver) (m.ident.map b8) (.slice av m.devs.length cv) (m.sig.map b8)), (g2, lsR (.int .i64 m.acc) (.int .i64 m.ver) (m.ident.map b8) (.slice av m.devs.length cv) (m.sig.map b8))] _ _ _ a6 from E.out)
 refine qab ?_
 go_wp2_with fail
 refine bodyPost_ret (v := .agg (lsR (.int .i64 m.acc) (.int .i64 m.ver) (m.ident.map b8) (.slice av m.devs.length cv) (m.sig.map b8)).toArray) (qa8 Tryd.results22 rfl Tryd.underlying29 rfl (szR (qas (by rw [List.length_map, k1]) (by rw [List.length_map, k2])) (by kernel_rfl)) (E.out.get (i := 0) rfl).range) rfl ⟨_, rfl, ⟨av, cv, rfl, fun V hV => (E.out.tell V hV).1⟩, E.out.bl⟩
theorem enters_cont : Enters 18 := qaq Tryd.func18 (by kernel_rfl) rfl
set_option maxHeartbeats 8000000 in
theorem cont_any (m : MLs) (X : List Value) (w : World) (hm : m.Ok) (hX : Fro 0 (lsAt m X) w) : Calls Tryd.prog 18 #[.agg X.toArray] w fun e w' => ∃ v', e = .returned v' ∧ S5 w v' (conB m) w' := by
 have hl := lsF_len hm m.devs.length (Nat.le_refl _)
 have hmany := hm.many
 have hp := lsF_pos hm m.devs.length
 have e64 := lsB_len64 hm
 have CL : Hid (∀ u, Since w u → Calls Tryd.prog 30 #[.agg X.toArray] u fun e w' => ∃ v', e = .returned v' ∧ S5 u v' (lsB m) w') := Lib.hid fun u hu => xLst_any u m X hm (hX.below hu) (by omega)
 have lX := lsAt_len hm hX.now
 have oX := lsAt_one hX.now
 have ET : Hid (conB m = txtL ++ lsF m m.devs.length) := Lib.hid rfl
 have EK : Hid ((lsB m).take (lsF m m.devs.length).length = lsF m m.devs.length) := Lib.hid lsB_take
 clear hX hm
 have E := Lib.hid (Ev.start (w := w) (F := fun _ => True) fun _ _ => trivial)
 generalize conB m = out at *
 generalize lsB m = L at *
 generalize lsF m m.devs.length = K at *
 obtain ⟨n, hn⟩ : ∃ n, n = L.length := ⟨_, rfl⟩
 have HN := Lib.hid hn
 have HL : Hid (n = K.length + 64) := Lib.hid (by rw [hn, e64])
 have hK1 : K.length ≤ 10000000 := by omega
 clear hn e64 hl hmany
 obtain ⟨k, hk⟩ : ∃ k, k = K.length := ⟨_, rfl⟩
 have HKL := Lib.hid hk
 clear hk
 go_enter Tryd.func18, Tryd.ntmps18
 go_upto_region 0 with fail; refine wp_region_lit ?_
 refine qaa (qau (vs := X) rfl rfl) rfl ?_; (try simp only [Act.put, lyy])
 replace E := Lib.hid (E.out.new (X) 29)
 generalize w.alloc (.cells (X).toArray 29) = a1 at *
 generalize w.heap.size = g2 at *
 refine qaa (qaf (v := .slice none 0 0) rfl rfl) rfl ?_; (try simp only [Act.put, lyy])
 refine qab ?_
 go_upto_region 1 with fail; refine wp_region_lit ?_
 refine qaa (qaj (vs := X) rfl Tryd.underlying29 rfl (szR lX (by kernel_rfl)) rfl (E.out.get (i := 0) rfl).range) rfl ?_; (try simp only [Act.put, lyy])
 refine qbj (qap enters_xLst rfl rfl rfl) rfl (CL.out _ E.out.bl) (fun v4 a3 hR => ?_); (try simp only [Act.put, lyy])
 have hb7 := hR.bl
 have hs9 := hR.sl
 obtain ⟨xa, xc, rfl, -, -⟩ := id hs9
 replace E := Lib.hid (E.out.call hb7 (fro_sl hR.O))
 clear hR hb7 hs9
 rw [← HN.out] at E ⊢
 refine qaa (qaf (v := .slice xa n xc) rfl rfl) rfl ?_; (try simp only [Act.put, lyy])
 refine qab ?_
 go_upto_region 2 with fail; refine wp_region_lit ?_
 skip
 refine qaa (run_bsl (cells := (txtL.map b8).toArray) (z := .int .u8 0) rfl Tryd.underlying22 (by kernel_rfl) (by omega) (by omega) (by kernel_rfl)) rfl ?_; (try simp only [Act.put, lyy])
 refine qaa (run_cvb rfl rfl) rfl ?_; (try simp only [Act.put, lyy])
 replace E := Lib.hid (E.out.below ((Below.refl a3.heap.size a3).alloc (Nat.le_refl _) (.cells (txtL.map b8).toArray 5 ((txtL.map b8).toArray.size, (txtL.map b8).toArray.size + 1))))
 have HT := Lib.hid (mark_range a3 (txtL.map b8).toArray 5)
 generalize a3.alloc (.cells (txtL.map b8).toArray 5 ((txtL.map b8).toArray.size, (txtL.map b8).toArray.size + 1)) = b1 at *
 generalize a3.heap.size = gt at *
 refine qaa (qae (v := .slice xa n xc) rfl rfl) rfl ?_; (try simp only [Act.put, lyy])
 refine qaa (qae (v := .slice xa n xc) rfl rfl) rfl ?_; (try simp only [Act.put, lyy])
 refine qaa (qbe rfl Tryd.underlying22 rfl) rfl ?_; (try simp only [Act.put, lyy])
 refine qaa (run_subN (a := n) (b := 64) rfl rfl rfl (by have := HL.out; omega) (by have := HL.out; omega)) rfl ?_; (try simp only [Act.put, lyy])
 have hnk : n - 64 = k := by have := HL.out; have := HKL.out; omega
 rw [hnk]
 have HS : Hid (Sl (.slice xa k xc) K b1) := Lib.hid (by have h0 := E.out.h.1; rw [HN.out] at h0; have h := sl_takeC (n := K.length) h0 (by have := HL.out; have := HN.out; omega); rw [EK.out] at h; rwa [HKL.out])
 refine qaa (run_slo rfl Tryd.underlying22 (by kernel_rfl) rfl rfl (by obtain ⟨_, _, h1, h2, _⟩ := HS.out; simp only [Value.slice.injEq] at h1; have := HKL.out; omega)) rfl ?_; (try simp only [Act.put, lyy])
 refine wpList_appFull (g := gt) (l := txtL) (m := K) rfl rfl rfl rfl HT.out HS.out (by omega) (by show 12 + K.length ≤ _; omega) (fun vq b2 hR => ?_); (try simp only [Act.put, lyy])
 have HR : Hid (S5 w vq out b2) := Lib.hid (by rw [ET.out]; exact hR.mono E.out.bl)
 clear hR
 refine qaa (qaf (v := vq) rfl rfl) rfl ?_; (try simp only [Act.put, lyy])
 refine qab ?_
 go_wp2_with fail
 exact bodyPost_ret (results_tmp Tryd.results18 _ _ _) rfl ⟨_, rfl, HR.out⟩
end Go.Proofs.YtcgbgmbnagmohaaDoor
namespace Go.Proofs.YtcgbgmbnagmohaaDoor
open Go.RowKit
set_option maxRecDepth 20000
attribute [local irreducible] wpList
def snM (k : List (BitVec 8)) (m : MLs) : MLs := ⟨m.acc, m.ver, pubB k, m.devs, sigB k (conB ⟨m.acc, m.ver, pubB k, m.devs, m.sig⟩)⟩
theorem snM_ok {k : List (BitVec 8)} {m : MLs} (h : m.Ok) : (snM k m).Ok := ⟨pubB_len k, sigB_len k _, h.devs, h.many⟩
theorem mdM_ok {k : List (BitVec 8)} {m : MLs} (h : m.Ok) : MLs.Ok ⟨m.acc, m.ver, pubB k, m.devs, m.sig⟩ := ⟨pubB_len k, h.sig, h.devs, h.many⟩
theorem enters_lsign : Enters 11 := qaq Tryd.func11 (by kernel_rfl) rfl
set_option maxHeartbeats 8000000 in
theorem lsign_any (HP : PubC) (HS : SigC) (k : List (BitVec 8)) (m : MLs) (X : List Value) (w : World) (hk : k.length = 32) (hm : m.Ok) (hX : Fro 0 (lsAt m X) w) (hc : (conB m).length ≤ 300) (hW : W9 w) : Calls Tryd.prog 11 #[.agg (k.map b8).toArray, .agg X.toArray] w fun e w' => ∃ v', e = .returned v' ∧ ((∃ a c, v' = .agg (lsR (.int .i64 m.acc) (.int .i64 m.ver) ((snM k m).ident.map b8) (.slice a m.devs.length c) ((snM k m).sig.map b8)).toArray ∧ Fro w.heap.size (SlR 33 pkAt m.devs a c) w') ∧ Below w.heap.size w w') := by
 have HW := Lib.hid hW
 have CC : Hid (∀ u, Since w u → Calls Tryd.prog 22 #[.agg X.toArray] u fun e w' => ∃ v', e = .returned v' ∧ ((∃ a c, v' = .agg (lsR (.int .i64 m.acc) (.int .i64 m.ver) (m.ident.map b8) (.slice a m.devs.length c) (m.sig.map b8)).toArray ∧ Fro u.heap.size (SlR 33 pkAt m.devs a c) w') ∧ Below u.heap.size u w')) := Lib.hid fun u hu => clone_any m X u hm (hX.below hu)
 have lX := lsAt_len hm hX.now
 have oX := lsAt_one hX.now
 have k1 := hm.ident
 have k2 := hm.sig
 have lP := pubB_len k
 have CP : Hid (∀ u : World, Since w u → Calls Tryd.prog 23 #[.agg (k.map b8).toArray] u fun e w' => e = .returned (.agg ((pubB k).map b8).toArray) ∧ Below u.heap.size u w') := Lib.hid fun u hu => HP k u hk (hW.below hu)
 have hc2 : (conB ⟨m.acc, m.ver, pubB k, m.devs, m.sig⟩).length ≤ 300 := by
  rw [conB_len] at hc ⊢
  have e : (lsF ⟨m.acc, m.ver, pubB k, m.devs, m.sig⟩ m.devs.length).length = (lsF m m.devs.length).length := by
   unfold lsF
   simp only [List.length_append, lP, k1]
  show 12 + (lsF ⟨m.acc, m.ver, pubB k, m.devs, m.sig⟩ m.devs.length).length ≤ 300
  omega
 have CO : Hid (∀ (u : World) (a : Option Addr) (c : Nat), Fro 0 (SlR 33 pkAt m.devs a c) u → Calls Tryd.prog 18 #[.agg (lsR (.int .i64 m.acc) (.int .i64 m.ver) ((pubB k).map b8) (.slice a m.devs.length c) (m.sig.map b8)).toArray] u fun e w' => ∃ v', e = .returned v' ∧ S5 u v' (conB ⟨m.acc, m.ver, pubB k, m.devs, m.sig⟩) w') := Lib.hid fun u a c h => cont_any ⟨m.acc, m.ver, pubB k, m.devs, m.sig⟩ _ u (mdM_ok hm) fun V hV => ⟨a, c, rfl, h V hV⟩
 have CS : Hid (∀ (u : World) (vb : Value), Since w u → Sl vb (conB ⟨m.acc, m.ver, pubB k, m.devs, m.sig⟩) u → Calls Tryd.prog 24 #[.agg (k.map b8).toArray, vb] u fun e w' => e = .returned (.agg ((snM k m).sig.map b8).toArray) ∧ Below u.heap.size u w') := Lib.hid fun u vb hu hv => HS k vb _ u hk hv hc2 (hW.below hu)
 have lS : (snM k m).sig.length = 64 := sigB_len k _
 have hI : (snM k m).ident = pubB k := rfl
 rw [hI]
 clear hX hm hW hc hc2 hI
 generalize conB ⟨m.acc, m.ver, pubB k, m.devs, m.sig⟩ = B at *
 generalize (snM k m).sig = G at *
 generalize pubB k = PU at *
 have E := Lib.hid (Ev.start (w := w) (F := fun _ => True) fun _ _ => trivial)
 go_enter Tryd.func11, Tryd.ntmps11
 go_upto_region 0 with fail; refine wp_region_lit ?_
 refine qaa (qau (vs := k.map b8) rfl rfl) rfl ?_; (try simp only [Act.put, lyy])
 replace E := Lib.hid (E.out.new (k.map b8) 24)
 generalize w.alloc (.cells (k.map b8).toArray 24) = a1 at *
 generalize w.heap.size = g2 at *
 refine qaa (qau (vs := X) rfl rfl) rfl ?_; (try simp only [Act.put, lyy])
 replace E := Lib.hid (E.out.new (X) 29)
 generalize a1.alloc (.cells (X).toArray 29) = a3 at *
 generalize a1.heap.size = g4 at *
 refine qaa (qat (vs := lsR ((.int .i64 0)) ((.int .i64 0)) (z8 32) ((.slice none 0 0)) (z8 64)) rfl (by kernel_rfl)) rfl ?_; (try simp only [Act.put, lyy])
 replace E := Lib.hid (E.out.new (lsR ((.int .i64 0)) ((.int .i64 0)) (z8 32) ((.slice none 0 0)) (z8 64)) 29)
 generalize a3.alloc (.cells (lsR ((.int .i64 0)) ((.int .i64 0)) (z8 32) ((.slice none 0 0)) (z8 64)).toArray 29) = a5 at *
 generalize a3.heap.size = g6 at *
 refine qab ?_
 go_upto_region 1 with fail; refine wp_region_lit ?_
 refine qaa (qaj (vs := X) rfl Tryd.underlying29 rfl (szR lX (by kernel_rfl)) rfl (E.out.get (i := 1) rfl).range) rfl ?_; (try simp only [Act.put, lyy])
 refine qbj (qap enters_clone rfl rfl rfl) rfl (CC.out _ E.out.bl) (fun v8 a7 hR => ?_); (try simp only [Act.put, lyy])
 obtain ⟨⟨av, cv, rfl, hF⟩, hb7⟩ := hR
 replace E := Lib.hid (E.out.call hb7 hF)
 clear hF hb7
 refine qaa (qat (vs := lsR ((.int .i64 0)) ((.int .i64 0)) (z8 32) ((.slice none 0 0)) (z8 64)) rfl (by kernel_rfl)) rfl ?_; (try simp only [Act.put, lyy])
 replace E := Lib.hid (E.out.new (lsR ((.int .i64 0)) ((.int .i64 0)) (z8 32) ((.slice none 0 0)) (z8 64)) 29)
 generalize a7.alloc (.cells (lsR ((.int .i64 0)) ((.int .i64 0)) (z8 32) ((.slice none 0 0)) (z8 64)).toArray 29) = a9 at *
 generalize a7.heap.size = g10 at *
 refine qag (qar (vs := lsR (.int .i64 m.acc) (.int .i64 m.ver) (m.ident.map b8) (.slice av m.devs.length cv) (m.sig.map b8)) rfl (szR (qas (by rw [List.length_map, k1]) (by rw [List.length_map, k2])) (by kernel_rfl)) rfl rfl (One.all (lsR_one rfl rfl (One.b8 _) rfl (One.b8 _))) ((E.out.get (i := 0) rfl).thereM (by have q1 : (lsR (.int .i64 m.acc) (.int .i64 m.ver) (m.ident.map b8) (.slice av m.devs.length cv) (m.sig.map b8)).length = 99 := (qas (by rw [List.length_map, k1]) (by rw [List.length_map, k2])); have q2 : (lsR ((.int .i64 0)) ((.int .i64 0)) (z8 32) ((.slice none 0 0)) (z8 64)).length = 99 := (qas (qa7 32) (qa7 64)); omega))) rfl rfl ?_
 replace E := Lib.hid (E.out.put 0 rfl (m := lsR (.int .i64 m.acc) (.int .i64 m.ver) (m.ident.map b8) (.slice av m.devs.length cv) (m.sig.map b8)) ((show (lsR (.int .i64 m.acc) (.int .i64 m.ver) (m.ident.map b8) (.slice av m.devs.length cv) (m.sig.map b8)).length = 99 from (qas (by rw [List.length_map, k1]) (by rw [List.length_map, k2]))).trans (show (lsR ((.int .i64 0)) ((.int .i64 0)) (z8 32) ((.slice none 0 0)) (z8 64)).length = 99 from (qas (qa7 32) (qa7 64))).symm))
 generalize a9.setCells g10 0 (lsR (.int .i64 m.acc) (.int .i64 m.ver) (m.ident.map b8) (.slice av m.devs.length cv) (m.sig.map b8)) = a11 at *
 replace E := Lib.hid (show Ev _ [(g10, lsR (.int .i64 m.acc) (.int .i64 m.ver) (m.ident.map b8) (.slice av m.devs.length cv) (m.sig.map b8)), (g6, lsR ((.int .i64 0)) ((.int .i64 0)) (z8 32) ((.slice none 0 0)) (z8 64)), (g4, X), (g2, k.map b8)] _ _ _ a11 from E.out)
 refine qab ?_
 go_upto_region 2 with fail; refine wp_region_lit ?_
 refine qaa (qaj (vs := k.map b8) rfl Tryd.underlying24 rfl (szR (by rw [List.length_map, hk]) (by kernel_rfl)) rfl (E.out.get (i := 3) rfl).range) rfl ?_; (try simp only [Act.put, lyy])
 refine qam (qap enters_spublic rfl rfl rfl) rfl (CP.out _ E.out.bl) (fun a12 hb => ?_); (try simp only [Act.put, lyy])
 replace E := Lib.hid (E.out.below hb)
 clear hb
 refine qaa (qan (s := 31) (k := 2) rfl Tryd.underlying29 rfl (by kernel_rfl) rfl rfl) rfl ?_; (try simp only [Act.put, lyy])
 refine qag (qar (vs := PU.map b8) rfl (szR (by rw [List.length_map, lP]) (by kernel_rfl)) rfl rfl (One.all (One.b8 _)) ((E.out.get (i := 0) rfl).thereM (by have q1 : (PU.map b8).length = 32 := (by rw [List.length_map, lP]); have q2 : (lsR (.int .i64 m.acc) (.int .i64 m.ver) (m.ident.map b8) (.slice av m.devs.length cv) (m.sig.map b8)).length = 99 := (qas (by rw [List.length_map, k1]) (by rw [List.length_map, k2])); omega))) rfl rfl ?_
 replace E := Lib.hid (E.out.mid 0 rfl (f := 2) (m := PU.map b8) (by have q1 : (PU.map b8).length = 32 := (by rw [List.length_map, lP]); have q2 : (lsR (.int .i64 m.acc) (.int .i64 m.ver) (m.ident.map b8) (.slice av m.devs.length cv) (m.sig.map b8)).length = 99 := (qas (by rw [List.length_map, k1]) (by rw [List.length_map, k2])); omega))
 rw [show (lsR (.int .i64 m.acc) (.int .i64 m.ver) (m.ident.map b8) (.slice av m.devs.length cv) (m.sig.map b8)).take 2 ++ (PU.map b8 ++ (lsR (.int .i64 m.acc) (.int .i64 m.ver) (m.ident.map b8) (.slice av m.devs.length cv) (m.sig.map b8)).drop (2 + (PU.map b8).length)) = lsR (.int .i64 m.acc) (.int .i64 m.ver) (PU.map b8) (.slice av m.devs.length cv) (m.sig.map b8) from (lsR_setIdent (by rw [List.length_map, k1]) (by rw [List.length_map, lP]))] at E
 generalize a12.setCells g10 2 (PU.map b8) = a13 at *
 replace E := Lib.hid (show Ev _ [(g10, lsR (.int .i64 m.acc) (.int .i64 m.ver) (PU.map b8) (.slice av m.devs.length cv) (m.sig.map b8)), (g6, lsR ((.int .i64 0)) ((.int .i64 0)) (z8 32) ((.slice none 0 0)) (z8 64)), (g4, X), (g2, k.map b8)] _ _ _ a13 from E.out)
 refine qab ?_
 go_upto_region 3 with fail
 refine wp_region_noPanic ?_; refine qay (S := Till 5 (fun V => Below a13.heap.size a13 V)) (by kernel_rfl) (.inr (Below.refl _ _).drew) (fun _ => ?_); have hS : Below a13.heap.size a13 a13.drew := (Below.refl _ _).drew
 have E0 := E
 replace E := Lib.hid (E.out.below hS)
 generalize a13.drew = b0 at *
 refine qak 0 rfl rfl (by kernel_rfl) (by kernel_rfl) (by kernel_rfl) (by kernel_rfl) (by kernel_rfl) (fun _ _ _ h => h) rfl (fun V hV => qaj (vs := k.map b8) rfl Tryd.underlying24 rfl (szR (by rw [List.length_map, hk]) (by kernel_rfl)) rfl ((E0.out.below hV).get (i := 3) rfl).range) hS ?_; (try simp only [Act.put, lyy])
 refine qak 1 rfl rfl (by kernel_rfl) (by kernel_rfl) (by kernel_rfl) (by kernel_rfl) (by kernel_rfl) (fun _ _ _ h => h) rfl (fun V hV => qaj (vs := lsR (.int .i64 m.acc) (.int .i64 m.ver) (PU.map b8) (.slice av m.devs.length cv) (m.sig.map b8)) rfl Tryd.underlying29 rfl (szR (qas (by rw [List.length_map, lP]) (by rw [List.length_map, k2])) (by kernel_rfl)) rfl ((E0.out.below hV).get (i := 0) rfl).range) hS ?_; (try simp only [Act.put, lyy])
 refine wpAnyD_callC 2 (by kernel_rfl) rfl rfl rfl (qap enters_cont rfl rfl rfl) (CO.out _ av cv (fun V hV => (E.out.tell V (hV.mono (Nat.zero_le _) fun _ h => h)).1)) (fun v w h => hS.trans (h.bl.mono hS.size)) (fun v7 b1 hR => ?_); (try simp only [Act.put, lyy])
 have hb9 := hR.bl
 have hs9 := hR.sl
 replace hS := hS.trans (hb9.mono hS.size)
 replace E := Lib.hid (E.out.below hb9)
 have HSL := Lib.hid hs9
 clear hR hs9 hb9
 refine wpAnyD_callC 3 (by kernel_rfl) rfl rfl rfl (qao enters_ssign rfl rfl rfl rfl) (qbq (CS.out _ v7 E.out.bl HSL.out)) (fun v w h => hS.trans (h.2.mono hS.size)) (fun v8 b2 hR => ?_); (try simp only [Act.put, lyy])
 obtain ⟨rfl, hb9⟩ := hR
 replace hS := hS.trans (hb9.mono hS.size)
 replace E := Lib.hid (E.out.below hb9)
 clear hb9 HSL
 refine qak 4 rfl rfl (by kernel_rfl) (by kernel_rfl) (by kernel_rfl) (by kernel_rfl) (by kernel_rfl) (fun _ _ _ h => h) rfl (fun V hV => qan (s := 63) (k := 35) rfl Tryd.underlying29 rfl (by kernel_rfl) rfl rfl) hS ?_; (try simp only [Act.put, lyy])
 refine qbo 5 (by kernel_rfl) rfl rfl rfl (qar (vs := G.map b8) rfl (szR (by rw [List.length_map, lS]) (by kernel_rfl)) rfl rfl (One.all (One.b8 _)) ((E.out.get (i := 0) rfl).thereM (by have q1 : (G.map b8).length = 64 := (by rw [List.length_map, lS]); have q2 : (lsR (.int .i64 m.acc) (.int .i64 m.ver) (PU.map b8) (.slice av m.devs.length cv) (m.sig.map b8)).length = 99 := (qas (by rw [List.length_map, lP]) (by rw [List.length_map, k2])); omega))) (.inl rfl) ?_
 replace E := Lib.hid (E.out.mid 0 rfl (f := 35) (m := G.map b8) (by have q1 : (G.map b8).length = 64 := (by rw [List.length_map, lS]); have q2 : (lsR (.int .i64 m.acc) (.int .i64 m.ver) (PU.map b8) (.slice av m.devs.length cv) (m.sig.map b8)).length = 99 := (qas (by rw [List.length_map, lP]) (by rw [List.length_map, k2])); omega))
 rw [show (lsR (.int .i64 m.acc) (.int .i64 m.ver) (PU.map b8) (.slice av m.devs.length cv) (m.sig.map b8)).take 35 ++ (G.map b8 ++ (lsR (.int .i64 m.acc) (.int .i64 m.ver) (PU.map b8) (.slice av m.devs.length cv) (m.sig.map b8)).drop (35 + (G.map b8).length)) = lsR (.int .i64 m.acc) (.int .i64 m.ver) (PU.map b8) (.slice av m.devs.length cv) (G.map b8) from (lsR_setSig (by rw [List.length_map, lP]) (by rw [List.length_map, k2]) (by rw [List.length_map, lS]))] at E
 generalize b2.setCells g10 35 (G.map b8) = b3 at *
 refine qa2 (by kernel_rfl) ?_ _; refine NoPanic.normal ?_
 replace E := Lib.hid (show Ev _ [(g10, lsR (.int .i64 m.acc) (.int .i64 m.ver) (PU.map b8) (.slice av m.devs.length cv) (G.map b8)), (g6, lsR ((.int .i64 0)) ((.int .i64 0)) (z8 32) ((.slice none 0 0)) (z8 64)), (g4, X), (g2, k.map b8)] _ _ _ b3 from E.out)
 go_upto_region 4 with fail; refine wp_region_lit ?_
 refine qaa (qaj (vs := lsR (.int .i64 m.acc) (.int .i64 m.ver) (PU.map b8) (.slice av m.devs.length cv) (G.map b8)) rfl Tryd.underlying29 rfl (szR (qas (by rw [List.length_map, lP]) (by rw [List.length_map, lS])) (by kernel_rfl)) rfl (E.out.get (i := 0) rfl).range) rfl ?_; (try simp only [Act.put, lyy])
 refine qag (qar (vs := lsR (.int .i64 m.acc) (.int .i64 m.ver) (PU.map b8) (.slice av m.devs.length cv) (G.map b8)) rfl (szR (qas (by rw [List.length_map, lP]) (by rw [List.length_map, lS])) (by kernel_rfl)) rfl rfl (One.all (lsR_one rfl rfl (One.b8 _) rfl (One.b8 _))) ((E.out.get (i := 1) rfl).thereM (by have q1 : (lsR (.int .i64 m.acc) (.int .i64 m.ver) (PU.map b8) (.slice av m.devs.length cv) (G.map b8)).length = 99 := (qas (by rw [List.length_map, lP]) (by rw [List.length_map, lS])); have q2 : (lsR ((.int .i64 0)) ((.int .i64 0)) (z8 32) ((.slice none 0 0)) (z8 64)).length = 99 := (qas (qa7 32) (qa7 64)); omega))) rfl rfl ?_
 replace E := Lib.hid (E.out.put 1 rfl (m := lsR (.int .i64 m.acc) (.int .i64 m.ver) (PU.map b8) (.slice av m.devs.length cv) (G.map b8)) ((show (lsR (.int .i64 m.acc) (.int .i64 m.ver) (PU.map b8) (.slice av m.devs.length cv) (G.map b8)).length = 99 from (qas (by rw [List.length_map, lP]) (by rw [List.length_map, lS]))).trans (show (lsR ((.int .i64 0)) ((.int .i64 0)) (z8 32) ((.slice none 0 0)) (z8 64)).length = 99 from (qas (qa7 32) (qa7 64))).symm))
 generalize b3.setCells g6 0 (lsR (.int .i64 m.acc) (.int .i64 m.ver) (PU.map b8) (.slice av m.devs.length cv) (G.map b8)) = a14 at *
 replace E := Lib.hid (show Ev _ [(g10, lsR (.int .i64 m.acc) (.int .i64 m.ver) (PU.map b8) (.slice av m.devs.length cv) (G.map b8)), (g6, lsR (.int .i64 m.acc) (.int .i64 m.ver) (PU.map b8) (.slice av m.devs.length cv) (G.map b8)), (g4, X), (g2, k.map b8)] _ _ _ a14 from E.out)
 refine qab ?_
 go_wp2_with fail
 refine bodyPost_ret (v := .agg (lsR (.int .i64 m.acc) (.int .i64 m.ver) (PU.map b8) (.slice av m.devs.length cv) (G.map b8)).toArray) (qa8 Tryd.results11 rfl Tryd.underlying29 rfl (szR (qas (by rw [List.length_map, lP]) (by rw [List.length_map, lS])) (by kernel_rfl)) (E.out.get (i := 1) rfl).range) rfl ⟨_, rfl, ⟨av, cv, rfl, fun V hV => (E.out.tell V hV).1⟩, E.out.bl⟩
theorem enters_right : Enters 13 := qaq Tryd.func13 (by kernel_rfl) rfl
set_option maxHeartbeats 16000000 in
theorem right_any (HV : VerC) (m : MLs) (X : List Value) (w : World) (hm : m.Ok) (hX : Fro 0 (lsAt m X) w) (hc : (conB m).length ≤ 300) (hW : W9 w) : Calls Tryd.prog 13 #[.agg X.toArray] w fun e w' => e = .returned (.bool (rightB m)) ∧ Below w.heap.size w w' := by
 have HW := Lib.hid hW
 have CO : Hid (∀ u, Since w u → Calls Tryd.prog 18 #[.agg X.toArray] u fun e w' => ∃ v', e = .returned v' ∧ S5 u v' (conB m) w') := Lib.hid fun u hu => cont_any m X u hm (hX.below hu)
 have CV : Hid (∀ (u : World) (vb : Value), Since w u → Sl vb (conB m) u → Calls Tryd.prog 27 #[.agg (m.ident.map b8).toArray, vb, .agg (m.sig.map b8).toArray] u fun e w' => e = .returned (.bool (verB m.ident (conB m) m.sig)) ∧ Below u.heap.size u w') := Lib.hid fun u vb hu hv => HV m.ident vb _ m.sig u hm.ident hm.sig hv hc (hW.below hu)
 obtain ⟨a0, c0, rfl, HF⟩ := qcx hm hX
 have k1 := hm.ident
 have k2 := hm.sig
 have hmany := hm.many
 have CR : Hid (∀ u, Fro 0 (SlR 33 pkAt m.devs a0 c0) u → Calls Tryd.prog 25 #[.slice a0 m.devs.length c0] u fun e w' => e = .returned (.bool (riB 0 m.devs)) ∧ Below u.heap.size u w') := Lib.hid fun u h => rise_any a0 c0 m.devs u h hm.devs hm.many
 have E := Lib.hid (Ev.start (w := w) (F := SlR 33 pkAt m.devs a0 c0) HF)
 have HRt : Hid (rightB m = (decide (1 ≤ m.devs.length) && decide (m.devs.length ≤ 8) && riB 0 m.devs && wiB m.acc && wiB m.ver && verB m.ident (conB m) m.sig)) := Lib.hid rfl
 clear hX hm hW hc HF
 generalize rightB m = R9 at *
 generalize verB m.ident (conB m) m.sig = vr at *
 generalize conB m = B at *
 generalize hn : m.devs.length = n at *
 have HNN := Lib.hid hn
 clear hn
 by_cases h1 : n < 1
 ·go_enter Tryd.func13, Tryd.ntmps13
  go_upto_region 0 with fail; refine wp_region_lit ?_
  refine qaa (qau (vs := lsR (.int .i64 m.acc) (.int .i64 m.ver) (m.ident.map b8) (.slice a0 n c0) (m.sig.map b8)) rfl rfl) rfl ?_; (try simp only [Act.put, lyy])
  replace E := Lib.hid (E.out.new (lsR (.int .i64 m.acc) (.int .i64 m.ver) (m.ident.map b8) (.slice a0 n c0) (m.sig.map b8)) 29)
  generalize w.alloc (.cells (lsR (.int .i64 m.acc) (.int .i64 m.ver) (m.ident.map b8) (.slice a0 n c0) (m.sig.map b8)).toArray 29) = a1 at *
  generalize w.heap.size = g2 at *
  refine qaa (qaf (v := .bool false) rfl rfl) rfl ?_; (try simp only [Act.put, lyy])
  refine qab ?_
  go_upto_region 1 with fail; refine wp_region_lit ?_
  refine qaa (qan (s := 0) (k := 34) rfl Tryd.underlying29 rfl (by kernel_rfl) rfl rfl) rfl ?_; (try simp only [Act.put, lyy])
  refine qaa (qav rfl Tryd.underlying25 rfl rfl ((E.out.get (i := 0) rfl).c 34 _ (qal (by rw [List.length_map, k1])))) rfl ?_; (try simp only [Act.put, lyy])
  refine qaa (qbe rfl Tryd.underlying25 rfl) rfl ?_; (try simp only [Act.put, lyy])
  refine qaa (qaf (v := .int .i64 ((n : Nat) : Int)) rfl rfl) rfl ?_; (try simp only [Act.put, lyy])
  refine qab ?_
  go_upto_region 2 with fail; refine wp_region_lit ?_
  refine qaa (qae (v := .int .i64 ((n : Nat) : Int)) rfl rfl) rfl ?_; (try simp only [Act.put, lyy])
  refine qaa (qbr (c := true) rfl rfl rfl (decide_eq_true (by omega))) rfl ?_; (try simp only [Act.put, lyy])
  refine qaa (qae (v := .bool true) rfl rfl) rfl ?_; (try simp only [Act.put, lyy])
  refine qa3 rfl ?_; (try simp only [Act.put, lyy])
  refine qa3 rfl ?_; (try simp only [Act.put, lyy])
  refine qaa (qaz (b := true) (v := .bool true) rfl rfl rfl) rfl ?_; (try simp only [Act.put, lyy])
  refine qaa (qae (v := .bool true) rfl rfl) rfl ?_; (try simp only [Act.put, lyy])
  refine qa3 rfl ?_; (try simp only [Act.put, lyy])
  refine qa3 rfl ?_; (try simp only [Act.put, lyy])
  refine qa3 rfl ?_; (try simp only [Act.put, lyy])
  refine qa3 rfl ?_; (try simp only [Act.put, lyy])
  refine qaa (qaz (b := true) (v := .bool true) rfl rfl rfl) rfl ?_; (try simp only [Act.put, lyy])
  refine qab ?_
  go_upto_region 3 with fail; refine wp_region_lit ?_
  refine qaa (qaf (v := .bool false) rfl rfl) rfl ?_; (try simp only [Act.put, lyy])
  refine qab ?_
  go_wp2_with fail
  go_ret
  exact ⟨by rw [HRt.out]; rw [decide_eq_false (by omega : ¬ 1 ≤ n)]; rfl, E.out.bl⟩
 by_cases h2 : 8 < n
 ·go_enter Tryd.func13, Tryd.ntmps13
  go_upto_region 0 with fail; refine wp_region_lit ?_
  refine qaa (qau (vs := lsR (.int .i64 m.acc) (.int .i64 m.ver) (m.ident.map b8) (.slice a0 n c0) (m.sig.map b8)) rfl rfl) rfl ?_; (try simp only [Act.put, lyy])
  replace E := Lib.hid (E.out.new (lsR (.int .i64 m.acc) (.int .i64 m.ver) (m.ident.map b8) (.slice a0 n c0) (m.sig.map b8)) 29)
  generalize w.alloc (.cells (lsR (.int .i64 m.acc) (.int .i64 m.ver) (m.ident.map b8) (.slice a0 n c0) (m.sig.map b8)).toArray 29) = a1 at *
  generalize w.heap.size = g2 at *
  refine qaa (qaf (v := .bool false) rfl rfl) rfl ?_; (try simp only [Act.put, lyy])
  refine qab ?_
  go_upto_region 1 with fail; refine wp_region_lit ?_
  refine qaa (qan (s := 0) (k := 34) rfl Tryd.underlying29 rfl (by kernel_rfl) rfl rfl) rfl ?_; (try simp only [Act.put, lyy])
  refine qaa (qav rfl Tryd.underlying25 rfl rfl ((E.out.get (i := 0) rfl).c 34 _ (qal (by rw [List.length_map, k1])))) rfl ?_; (try simp only [Act.put, lyy])
  refine qaa (qbe rfl Tryd.underlying25 rfl) rfl ?_; (try simp only [Act.put, lyy])
  refine qaa (qaf (v := .int .i64 ((n : Nat) : Int)) rfl rfl) rfl ?_; (try simp only [Act.put, lyy])
  refine qab ?_
  go_upto_region 2 with fail; refine wp_region_lit ?_
  refine qaa (qae (v := .int .i64 ((n : Nat) : Int)) rfl rfl) rfl ?_; (try simp only [Act.put, lyy])
  refine qaa (qbr (c := false) rfl rfl rfl (decide_eq_false (by omega))) rfl ?_; (try simp only [Act.put, lyy])
  refine qaa (qae (v := .bool false) rfl rfl) rfl ?_; (try simp only [Act.put, lyy])
  refine qah (qae (v := .int .i64 ((n : Nat) : Int)) rfl rfl) rfl ?_; (try simp only [Act.put, lyy])
  refine qah (qcu (c := true) rfl rfl rfl (decide_eq_true (by omega))) rfl ?_; (try simp only [Act.put, lyy])
  refine qaa (qaz (b := false) (v := .bool true) rfl rfl rfl) rfl ?_; (try simp only [Act.put, lyy])
  refine qaa (qae (v := .bool true) rfl rfl) rfl ?_; (try simp only [Act.put, lyy])
  refine qa3 rfl ?_; (try simp only [Act.put, lyy])
  refine qa3 rfl ?_; (try simp only [Act.put, lyy])
  refine qa3 rfl ?_; (try simp only [Act.put, lyy])
  refine qa3 rfl ?_; (try simp only [Act.put, lyy])
  refine qaa (qaz (b := true) (v := .bool true) rfl rfl rfl) rfl ?_; (try simp only [Act.put, lyy])
  refine qab ?_
  go_upto_region 3 with fail; refine wp_region_lit ?_
  refine qaa (qaf (v := .bool false) rfl rfl) rfl ?_; (try simp only [Act.put, lyy])
  refine qab ?_
  go_wp2_with fail
  go_ret
  exact ⟨by rw [HRt.out]; rw [decide_eq_false (by omega : ¬ n ≤ 8), Bool.and_false]; rfl, E.out.bl⟩
 have hn1 : decide (1 ≤ n) = true := decide_eq_true (by omega)
 have hn2 : decide (n ≤ 8) = true := decide_eq_true (by omega)
 cases hr : riB 0 m.devs with
 | false =>
  go_enter Tryd.func13, Tryd.ntmps13
  go_upto_region 0 with fail; refine wp_region_lit ?_
  refine qaa (qau (vs := lsR (.int .i64 m.acc) (.int .i64 m.ver) (m.ident.map b8) (.slice a0 n c0) (m.sig.map b8)) rfl rfl) rfl ?_; (try simp only [Act.put, lyy])
  replace E := Lib.hid (E.out.new (lsR (.int .i64 m.acc) (.int .i64 m.ver) (m.ident.map b8) (.slice a0 n c0) (m.sig.map b8)) 29)
  generalize w.alloc (.cells (lsR (.int .i64 m.acc) (.int .i64 m.ver) (m.ident.map b8) (.slice a0 n c0) (m.sig.map b8)).toArray 29) = a1 at *
  generalize w.heap.size = g2 at *
  refine qaa (qaf (v := .bool false) rfl rfl) rfl ?_; (try simp only [Act.put, lyy])
  refine qab ?_
  go_upto_region 1 with fail; refine wp_region_lit ?_
  refine qaa (qan (s := 0) (k := 34) rfl Tryd.underlying29 rfl (by kernel_rfl) rfl rfl) rfl ?_; (try simp only [Act.put, lyy])
  refine qaa (qav rfl Tryd.underlying25 rfl rfl ((E.out.get (i := 0) rfl).c 34 _ (qal (by rw [List.length_map, k1])))) rfl ?_; (try simp only [Act.put, lyy])
  refine qaa (qbe rfl Tryd.underlying25 rfl) rfl ?_; (try simp only [Act.put, lyy])
  refine qaa (qaf (v := .int .i64 ((n : Nat) : Int)) rfl rfl) rfl ?_; (try simp only [Act.put, lyy])
  refine qab ?_
  go_upto_region 2 with fail; refine wp_region_lit ?_
  refine qaa (qae (v := .int .i64 ((n : Nat) : Int)) rfl rfl) rfl ?_; (try simp only [Act.put, lyy])
  refine qaa (qbr (c := false) rfl rfl rfl (decide_eq_false (by omega))) rfl ?_; (try simp only [Act.put, lyy])
  refine qaa (qae (v := .bool false) rfl rfl) rfl ?_; (try simp only [Act.put, lyy])
  refine qah (qae (v := .int .i64 ((n : Nat) : Int)) rfl rfl) rfl ?_; (try simp only [Act.put, lyy])
  refine qah (qcu (c := false) rfl rfl rfl (decide_eq_false (by omega))) rfl ?_; (try simp only [Act.put, lyy])
  refine qaa (qaz (b := false) (v := .bool false) rfl rfl rfl) rfl ?_; (try simp only [Act.put, lyy])
  refine qaa (qae (v := .bool false) rfl rfl) rfl ?_; (try simp only [Act.put, lyy])
  refine qah (qan (s := 0) (k := 34) rfl Tryd.underlying29 rfl (by kernel_rfl) rfl rfl) rfl ?_; (try simp only [Act.put, lyy])
  refine qah (qav rfl Tryd.underlying25 rfl rfl ((E.out.get (i := 0) rfl).c 34 _ (qal (by rw [List.length_map, k1])))) rfl ?_; (try simp only [Act.put, lyy])
  refine qbp (qap enters_rise rfl rfl rfl) rfl ((hr ▸ CR.out _ E.out.froF)) (fun a3 hb => ?_); (try simp only [Act.put, lyy])
  replace E := Lib.hid (E.out.below hb)
  clear hb
  refine qah (run_notF rfl rfl) rfl ?_; (try simp only [Act.put, lyy])
  refine qaa (qaz (b := false) (v := .bool true) rfl rfl rfl) rfl ?_; (try simp only [Act.put, lyy])
  refine qab ?_
  go_upto_region 3 with fail; refine wp_region_lit ?_
  refine qaa (qaf (v := .bool false) rfl rfl) rfl ?_; (try simp only [Act.put, lyy])
  refine qab ?_
  go_wp2_with fail
  go_ret
  exact ⟨by rw [HRt.out]; rw [hr, hn1, hn2]; rfl, E.out.bl⟩
 | true =>
  cases hwa : wiB m.acc with
  | false =>
   go_enter Tryd.func13, Tryd.ntmps13
   go_upto_region 0 with fail; refine wp_region_lit ?_
   refine qaa (qau (vs := lsR (.int .i64 m.acc) (.int .i64 m.ver) (m.ident.map b8) (.slice a0 n c0) (m.sig.map b8)) rfl rfl) rfl ?_; (try simp only [Act.put, lyy])
   replace E := Lib.hid (E.out.new (lsR (.int .i64 m.acc) (.int .i64 m.ver) (m.ident.map b8) (.slice a0 n c0) (m.sig.map b8)) 29)
   generalize w.alloc (.cells (lsR (.int .i64 m.acc) (.int .i64 m.ver) (m.ident.map b8) (.slice a0 n c0) (m.sig.map b8)).toArray 29) = a1 at *
   generalize w.heap.size = g2 at *
   refine qaa (qaf (v := .bool false) rfl rfl) rfl ?_; (try simp only [Act.put, lyy])
   refine qab ?_
   go_upto_region 1 with fail; refine wp_region_lit ?_
   refine qaa (qan (s := 0) (k := 34) rfl Tryd.underlying29 rfl (by kernel_rfl) rfl rfl) rfl ?_; (try simp only [Act.put, lyy])
   refine qaa (qav rfl Tryd.underlying25 rfl rfl ((E.out.get (i := 0) rfl).c 34 _ (qal (by rw [List.length_map, k1])))) rfl ?_; (try simp only [Act.put, lyy])
   refine qaa (qbe rfl Tryd.underlying25 rfl) rfl ?_; (try simp only [Act.put, lyy])
   refine qaa (qaf (v := .int .i64 ((n : Nat) : Int)) rfl rfl) rfl ?_; (try simp only [Act.put, lyy])
   refine qab ?_
   go_upto_region 2 with fail; refine wp_region_lit ?_
   refine qaa (qae (v := .int .i64 ((n : Nat) : Int)) rfl rfl) rfl ?_; (try simp only [Act.put, lyy])
   refine qaa (qbr (c := false) rfl rfl rfl (decide_eq_false (by omega))) rfl ?_; (try simp only [Act.put, lyy])
   refine qaa (qae (v := .bool false) rfl rfl) rfl ?_; (try simp only [Act.put, lyy])
   refine qah (qae (v := .int .i64 ((n : Nat) : Int)) rfl rfl) rfl ?_; (try simp only [Act.put, lyy])
   refine qah (qcu (c := false) rfl rfl rfl (decide_eq_false (by omega))) rfl ?_; (try simp only [Act.put, lyy])
   refine qaa (qaz (b := false) (v := .bool false) rfl rfl rfl) rfl ?_; (try simp only [Act.put, lyy])
   refine qaa (qae (v := .bool false) rfl rfl) rfl ?_; (try simp only [Act.put, lyy])
   refine qah (qan (s := 0) (k := 34) rfl Tryd.underlying29 rfl (by kernel_rfl) rfl rfl) rfl ?_; (try simp only [Act.put, lyy])
   refine qah (qav rfl Tryd.underlying25 rfl rfl ((E.out.get (i := 0) rfl).c 34 _ (qal (by rw [List.length_map, k1])))) rfl ?_; (try simp only [Act.put, lyy])
   refine qbp (qap enters_rise rfl rfl rfl) rfl ((hr ▸ CR.out _ E.out.froF)) (fun a3 hb => ?_); (try simp only [Act.put, lyy])
   replace E := Lib.hid (E.out.below hb)
   clear hb
   refine qah (qc7 rfl rfl) rfl ?_; (try simp only [Act.put, lyy])
   refine qaa (qaz (b := false) (v := .bool false) rfl rfl rfl) rfl ?_; (try simp only [Act.put, lyy])
   refine qab ?_
   go_upto_region 4 with fail
   refine wp_region_noPanic ?_; refine qay (S := fun _ V => Below a3.heap.size a3 V) (by kernel_rfl) ((Below.refl _ _).drew) (fun hS => ?_)
   replace E := Lib.hid (E.out.below hS)
   generalize a3.drew = a4 at *
   refine qbg (S' := fun _ V => Below a4.heap.size a4 V) (fun _ V h => hS.trans (h.mono hS.size)) _ _ _ _ ?_
   replace hS := Below.refl a4.heap.size a4
   refine qac 0 rfl rfl (by kernel_rfl) (by kernel_rfl) (by kernel_rfl) (fun _ _ _ h => h) rfl (fun V hV => qan (s := 0) (k := 0) rfl Tryd.underlying29 rfl (by kernel_rfl) rfl rfl) hS ?_; (try simp only [Act.put, lyy])
   refine qac 1 rfl rfl (by kernel_rfl) (by kernel_rfl) (by kernel_rfl) (fun _ _ _ h => h) rfl (fun V hV => qav rfl Tryd.underlying3 rfl rfl (((E.out.below hV).get (i := 0) rfl).c 0 _ (lsR_Account ))) hS ?_; (try simp only [Act.put, lyy])
   refine qbi 2 (by kernel_rfl) rfl rfl rfl (qap qcq rfl rfl rfl) ((qbq ((hwa ▸ qdm m.acc _)))) (fun v w h => hS.trans ((h.2).mono hS.size)) (fun v5 a6 hR => ?_); (try simp only [Act.put, lyy])
   obtain ⟨rfl, hb9⟩ := hR
   replace hS := hS.trans (hb9.mono hS.size)
   replace E := Lib.hid (E.out.below hb9)
   clear hb9
   refine qbg (S' := fun _ V => Below a6.heap.size a6 V) (fun _ V h => hS.trans (h.mono hS.size)) _ _ _ _ ?_
   replace hS := Below.refl a6.heap.size a6
   refine qac 3 rfl rfl (by kernel_rfl) (by kernel_rfl) (by kernel_rfl) (fun _ _ _ h => h) rfl (fun V hV => qae (v := .bool false) rfl rfl) hS ?_; (try simp only [Act.put, lyy])
   refine qaw 4 rfl rfl (by kernel_rfl) (by kernel_rfl) (by kernel_rfl) (fun _ _ _ h => h) rfl hS ?_; (try simp only [Act.put, lyy])
   refine qaw 5 rfl rfl (by kernel_rfl) (by kernel_rfl) (by kernel_rfl) (fun _ _ _ h => h) rfl hS ?_; (try simp only [Act.put, lyy])
   refine qaw 6 rfl rfl (by kernel_rfl) (by kernel_rfl) (by kernel_rfl) (fun _ _ _ h => h) rfl hS ?_; (try simp only [Act.put, lyy])
   refine qac 7 rfl rfl (by kernel_rfl) (by kernel_rfl) (by kernel_rfl) (fun _ _ _ h => h) rfl (fun V hV => qaz (b := false) (v := .bool false) rfl rfl rfl) hS ?_; (try simp only [Act.put, lyy])
   refine qac 8 rfl rfl (by kernel_rfl) (by kernel_rfl) (by kernel_rfl) (fun _ _ _ h => h) rfl (fun V hV => qae (v := .bool false) rfl rfl) hS ?_; (try simp only [Act.put, lyy])
   refine qaw 9 rfl rfl (by kernel_rfl) (by kernel_rfl) (by kernel_rfl) (fun _ _ _ h => h) rfl hS ?_; (try simp only [Act.put, lyy])
   refine qaw 10 rfl rfl (by kernel_rfl) (by kernel_rfl) (by kernel_rfl) (fun _ _ _ h => h) rfl hS ?_; (try simp only [Act.put, lyy])
   refine qaw 11 rfl rfl (by kernel_rfl) (by kernel_rfl) (by kernel_rfl) (fun _ _ _ h => h) rfl hS ?_; (try simp only [Act.put, lyy])
   refine qaw 12 rfl rfl (by kernel_rfl) (by kernel_rfl) (by kernel_rfl) (fun _ _ _ h => h) rfl hS ?_; (try simp only [Act.put, lyy])
   refine qaw 13 rfl rfl (by kernel_rfl) (by kernel_rfl) (by kernel_rfl) (fun _ _ _ h => h) rfl hS ?_; (try simp only [Act.put, lyy])
   refine qaw 14 rfl rfl (by kernel_rfl) (by kernel_rfl) (by kernel_rfl) (fun _ _ _ h => h) rfl hS ?_; (try simp only [Act.put, lyy])
   refine qaw 15 rfl rfl (by kernel_rfl) (by kernel_rfl) (by kernel_rfl) (fun _ _ _ h => h) rfl hS ?_; (try simp only [Act.put, lyy])
   refine qac 16 rfl rfl (by kernel_rfl) (by kernel_rfl) (by kernel_rfl) (fun _ _ _ h => h) rfl (fun V hV => qaz (b := false) (v := .bool false) rfl rfl rfl) hS ?_; (try simp only [Act.put, lyy])
   refine qac 17 rfl rfl (by kernel_rfl) (by kernel_rfl) (by kernel_rfl) (fun _ _ _ h => h) rfl (fun V hV => qaf (v := .bool false) rfl rfl) hS ?_; (try simp only [Act.put, lyy])
   refine qa2 (by kernel_rfl) ?_ _; refine NoPanic.normal ?_
   go_wp2_with fail
   go_ret
   exact ⟨by rw [HRt.out, hr, hwa, hn1, hn2]; rfl, E.out.bl⟩
  | true =>
   cases hwv : wiB m.ver with
   | false =>
    go_enter Tryd.func13, Tryd.ntmps13
    go_upto_region 0 with fail; refine wp_region_lit ?_
    refine qaa (qau (vs := lsR (.int .i64 m.acc) (.int .i64 m.ver) (m.ident.map b8) (.slice a0 n c0) (m.sig.map b8)) rfl rfl) rfl ?_; (try simp only [Act.put, lyy])
    replace E := Lib.hid (E.out.new (lsR (.int .i64 m.acc) (.int .i64 m.ver) (m.ident.map b8) (.slice a0 n c0) (m.sig.map b8)) 29)
    generalize w.alloc (.cells (lsR (.int .i64 m.acc) (.int .i64 m.ver) (m.ident.map b8) (.slice a0 n c0) (m.sig.map b8)).toArray 29) = a1 at *
    generalize w.heap.size = g2 at *
    refine qaa (qaf (v := .bool false) rfl rfl) rfl ?_; (try simp only [Act.put, lyy])
    refine qab ?_
    go_upto_region 1 with fail; refine wp_region_lit ?_
    refine qaa (qan (s := 0) (k := 34) rfl Tryd.underlying29 rfl (by kernel_rfl) rfl rfl) rfl ?_; (try simp only [Act.put, lyy])
    refine qaa (qav rfl Tryd.underlying25 rfl rfl ((E.out.get (i := 0) rfl).c 34 _ (qal (by rw [List.length_map, k1])))) rfl ?_; (try simp only [Act.put, lyy])
    refine qaa (qbe rfl Tryd.underlying25 rfl) rfl ?_; (try simp only [Act.put, lyy])
    refine qaa (qaf (v := .int .i64 ((n : Nat) : Int)) rfl rfl) rfl ?_; (try simp only [Act.put, lyy])
    refine qab ?_
    go_upto_region 2 with fail; refine wp_region_lit ?_
    refine qaa (qae (v := .int .i64 ((n : Nat) : Int)) rfl rfl) rfl ?_; (try simp only [Act.put, lyy])
    refine qaa (qbr (c := false) rfl rfl rfl (decide_eq_false (by omega))) rfl ?_; (try simp only [Act.put, lyy])
    refine qaa (qae (v := .bool false) rfl rfl) rfl ?_; (try simp only [Act.put, lyy])
    refine qah (qae (v := .int .i64 ((n : Nat) : Int)) rfl rfl) rfl ?_; (try simp only [Act.put, lyy])
    refine qah (qcu (c := false) rfl rfl rfl (decide_eq_false (by omega))) rfl ?_; (try simp only [Act.put, lyy])
    refine qaa (qaz (b := false) (v := .bool false) rfl rfl rfl) rfl ?_; (try simp only [Act.put, lyy])
    refine qaa (qae (v := .bool false) rfl rfl) rfl ?_; (try simp only [Act.put, lyy])
    refine qah (qan (s := 0) (k := 34) rfl Tryd.underlying29 rfl (by kernel_rfl) rfl rfl) rfl ?_; (try simp only [Act.put, lyy])
    refine qah (qav rfl Tryd.underlying25 rfl rfl ((E.out.get (i := 0) rfl).c 34 _ (qal (by rw [List.length_map, k1])))) rfl ?_; (try simp only [Act.put, lyy])
    refine qbp (qap enters_rise rfl rfl rfl) rfl ((hr ▸ CR.out _ E.out.froF)) (fun a3 hb => ?_); (try simp only [Act.put, lyy])
    replace E := Lib.hid (E.out.below hb)
    clear hb
    refine qah (qc7 rfl rfl) rfl ?_; (try simp only [Act.put, lyy])
    refine qaa (qaz (b := false) (v := .bool false) rfl rfl rfl) rfl ?_; (try simp only [Act.put, lyy])
    refine qab ?_
    go_upto_region 4 with fail
    refine wp_region_noPanic ?_; refine qay (S := fun _ V => Below a3.heap.size a3 V) (by kernel_rfl) ((Below.refl _ _).drew) (fun hS => ?_)
    replace E := Lib.hid (E.out.below hS)
    generalize a3.drew = a4 at *
    refine qbg (S' := fun _ V => Below a4.heap.size a4 V) (fun _ V h => hS.trans (h.mono hS.size)) _ _ _ _ ?_
    replace hS := Below.refl a4.heap.size a4
    refine qac 0 rfl rfl (by kernel_rfl) (by kernel_rfl) (by kernel_rfl) (fun _ _ _ h => h) rfl (fun V hV => qan (s := 0) (k := 0) rfl Tryd.underlying29 rfl (by kernel_rfl) rfl rfl) hS ?_; (try simp only [Act.put, lyy])
    refine qac 1 rfl rfl (by kernel_rfl) (by kernel_rfl) (by kernel_rfl) (fun _ _ _ h => h) rfl (fun V hV => qav rfl Tryd.underlying3 rfl rfl (((E.out.below hV).get (i := 0) rfl).c 0 _ (lsR_Account ))) hS ?_; (try simp only [Act.put, lyy])
    refine qbi 2 (by kernel_rfl) rfl rfl rfl (qap qcq rfl rfl rfl) ((qbq ((hwa ▸ qdm m.acc _)))) (fun v w h => hS.trans ((h.2).mono hS.size)) (fun v5 a6 hR => ?_); (try simp only [Act.put, lyy])
    obtain ⟨rfl, hb9⟩ := hR
    replace hS := hS.trans (hb9.mono hS.size)
    replace E := Lib.hid (E.out.below hb9)
    clear hb9
    refine qbg (S' := fun _ V => Below a6.heap.size a6 V) (fun _ V h => hS.trans (h.mono hS.size)) _ _ _ _ ?_
    replace hS := Below.refl a6.heap.size a6
    refine qac 3 rfl rfl (by kernel_rfl) (by kernel_rfl) (by kernel_rfl) (fun _ _ _ h => h) rfl (fun V hV => qae (v := .bool true) rfl rfl) hS ?_; (try simp only [Act.put, lyy])
    refine qac 4 rfl rfl (by kernel_rfl) (by kernel_rfl) (by kernel_rfl) (fun _ _ _ h => h) rfl (fun V hV => qan (s := 0) (k := 1) rfl Tryd.underlying29 rfl (by kernel_rfl) rfl rfl) hS ?_; (try simp only [Act.put, lyy])
    refine qac 5 rfl rfl (by kernel_rfl) (by kernel_rfl) (by kernel_rfl) (fun _ _ _ h => h) rfl (fun V hV => qav rfl Tryd.underlying3 rfl rfl (((E.out.below hV).get (i := 0) rfl).c 1 _ (lsR_Version ))) hS ?_; (try simp only [Act.put, lyy])
    refine qbi 6 (by kernel_rfl) rfl rfl rfl (qap qcq rfl rfl rfl) ((qbq ((hwv ▸ qdm m.ver _)))) (fun v w h => hS.trans ((h.2).mono hS.size)) (fun v7 a8 hR => ?_); (try simp only [Act.put, lyy])
    obtain ⟨rfl, hb9⟩ := hR
    replace hS := hS.trans (hb9.mono hS.size)
    replace E := Lib.hid (E.out.below hb9)
    clear hb9
    refine qbg (S' := fun _ V => Below a8.heap.size a8 V) (fun _ V h => hS.trans (h.mono hS.size)) _ _ _ _ ?_
    replace hS := Below.refl a8.heap.size a8
    refine qac 7 rfl rfl (by kernel_rfl) (by kernel_rfl) (by kernel_rfl) (fun _ _ _ h => h) rfl (fun V hV => qaz (b := true) (v := .bool false) rfl rfl rfl) hS ?_; (try simp only [Act.put, lyy])
    refine qac 8 rfl rfl (by kernel_rfl) (by kernel_rfl) (by kernel_rfl) (fun _ _ _ h => h) rfl (fun V hV => qae (v := .bool false) rfl rfl) hS ?_; (try simp only [Act.put, lyy])
    refine qaw 9 rfl rfl (by kernel_rfl) (by kernel_rfl) (by kernel_rfl) (fun _ _ _ h => h) rfl hS ?_; (try simp only [Act.put, lyy])
    refine qaw 10 rfl rfl (by kernel_rfl) (by kernel_rfl) (by kernel_rfl) (fun _ _ _ h => h) rfl hS ?_; (try simp only [Act.put, lyy])
    refine qaw 11 rfl rfl (by kernel_rfl) (by kernel_rfl) (by kernel_rfl) (fun _ _ _ h => h) rfl hS ?_; (try simp only [Act.put, lyy])
    refine qaw 12 rfl rfl (by kernel_rfl) (by kernel_rfl) (by kernel_rfl) (fun _ _ _ h => h) rfl hS ?_; (try simp only [Act.put, lyy])
    refine qaw 13 rfl rfl (by kernel_rfl) (by kernel_rfl) (by kernel_rfl) (fun _ _ _ h => h) rfl hS ?_; (try simp only [Act.put, lyy])
    refine qaw 14 rfl rfl (by kernel_rfl) (by kernel_rfl) (by kernel_rfl) (fun _ _ _ h => h) rfl hS ?_; (try simp only [Act.put, lyy])
    refine qaw 15 rfl rfl (by kernel_rfl) (by kernel_rfl) (by kernel_rfl) (fun _ _ _ h => h) rfl hS ?_; (try simp only [Act.put, lyy])
    refine qac 16 rfl rfl (by kernel_rfl) (by kernel_rfl) (by kernel_rfl) (fun _ _ _ h => h) rfl (fun V hV => qaz (b := false) (v := .bool false) rfl rfl rfl) hS ?_; (try simp only [Act.put, lyy])
    refine qac 17 rfl rfl (by kernel_rfl) (by kernel_rfl) (by kernel_rfl) (fun _ _ _ h => h) rfl (fun V hV => qaf (v := .bool false) rfl rfl) hS ?_; (try simp only [Act.put, lyy])
    refine qa2 (by kernel_rfl) ?_ _; refine NoPanic.normal ?_
    go_wp2_with fail
    go_ret
    exact ⟨by rw [HRt.out, hr, hwa, hwv, hn1, hn2]; rfl, E.out.bl⟩
   | true =>
    go_enter Tryd.func13, Tryd.ntmps13
    go_upto_region 0 with fail; refine wp_region_lit ?_
    refine qaa (qau (vs := lsR (.int .i64 m.acc) (.int .i64 m.ver) (m.ident.map b8) (.slice a0 n c0) (m.sig.map b8)) rfl rfl) rfl ?_; (try simp only [Act.put, lyy])
    replace E := Lib.hid (E.out.new (lsR (.int .i64 m.acc) (.int .i64 m.ver) (m.ident.map b8) (.slice a0 n c0) (m.sig.map b8)) 29)
    generalize w.alloc (.cells (lsR (.int .i64 m.acc) (.int .i64 m.ver) (m.ident.map b8) (.slice a0 n c0) (m.sig.map b8)).toArray 29) = a1 at *
    generalize w.heap.size = g2 at *
    refine qaa (qaf (v := .bool false) rfl rfl) rfl ?_; (try simp only [Act.put, lyy])
    refine qab ?_
    go_upto_region 1 with fail; refine wp_region_lit ?_
    refine qaa (qan (s := 0) (k := 34) rfl Tryd.underlying29 rfl (by kernel_rfl) rfl rfl) rfl ?_; (try simp only [Act.put, lyy])
    refine qaa (qav rfl Tryd.underlying25 rfl rfl ((E.out.get (i := 0) rfl).c 34 _ (qal (by rw [List.length_map, k1])))) rfl ?_; (try simp only [Act.put, lyy])
    refine qaa (qbe rfl Tryd.underlying25 rfl) rfl ?_; (try simp only [Act.put, lyy])
    refine qaa (qaf (v := .int .i64 ((n : Nat) : Int)) rfl rfl) rfl ?_; (try simp only [Act.put, lyy])
    refine qab ?_
    go_upto_region 2 with fail; refine wp_region_lit ?_
    refine qaa (qae (v := .int .i64 ((n : Nat) : Int)) rfl rfl) rfl ?_; (try simp only [Act.put, lyy])
    refine qaa (qbr (c := false) rfl rfl rfl (decide_eq_false (by omega))) rfl ?_; (try simp only [Act.put, lyy])
    refine qaa (qae (v := .bool false) rfl rfl) rfl ?_; (try simp only [Act.put, lyy])
    refine qah (qae (v := .int .i64 ((n : Nat) : Int)) rfl rfl) rfl ?_; (try simp only [Act.put, lyy])
    refine qah (qcu (c := false) rfl rfl rfl (decide_eq_false (by omega))) rfl ?_; (try simp only [Act.put, lyy])
    refine qaa (qaz (b := false) (v := .bool false) rfl rfl rfl) rfl ?_; (try simp only [Act.put, lyy])
    refine qaa (qae (v := .bool false) rfl rfl) rfl ?_; (try simp only [Act.put, lyy])
    refine qah (qan (s := 0) (k := 34) rfl Tryd.underlying29 rfl (by kernel_rfl) rfl rfl) rfl ?_; (try simp only [Act.put, lyy])
    refine qah (qav rfl Tryd.underlying25 rfl rfl ((E.out.get (i := 0) rfl).c 34 _ (qal (by rw [List.length_map, k1])))) rfl ?_; (try simp only [Act.put, lyy])
    refine qbp (qap enters_rise rfl rfl rfl) rfl ((hr ▸ CR.out _ E.out.froF)) (fun a3 hb => ?_); (try simp only [Act.put, lyy])
    replace E := Lib.hid (E.out.below hb)
    clear hb
    refine qah (qc7 rfl rfl) rfl ?_; (try simp only [Act.put, lyy])
    refine qaa (qaz (b := false) (v := .bool false) rfl rfl rfl) rfl ?_; (try simp only [Act.put, lyy])
    refine qab ?_
    go_upto_region 4 with fail
    refine wp_region_noPanic ?_; refine qay (S := fun _ V => Below a3.heap.size a3 V) (by kernel_rfl) ((Below.refl _ _).drew) (fun hS => ?_)
    replace E := Lib.hid (E.out.below hS)
    generalize a3.drew = a4 at *
    refine qbg (S' := fun _ V => Below a4.heap.size a4 V) (fun _ V h => hS.trans (h.mono hS.size)) _ _ _ _ ?_
    replace hS := Below.refl a4.heap.size a4
    refine qac 0 rfl rfl (by kernel_rfl) (by kernel_rfl) (by kernel_rfl) (fun _ _ _ h => h) rfl (fun V hV => qan (s := 0) (k := 0) rfl Tryd.underlying29 rfl (by kernel_rfl) rfl rfl) hS ?_; (try simp only [Act.put, lyy])
    refine qac 1 rfl rfl (by kernel_rfl) (by kernel_rfl) (by kernel_rfl) (fun _ _ _ h => h) rfl (fun V hV => qav rfl Tryd.underlying3 rfl rfl (((E.out.below hV).get (i := 0) rfl).c 0 _ (lsR_Account ))) hS ?_; (try simp only [Act.put, lyy])
    refine qbi 2 (by kernel_rfl) rfl rfl rfl (qap qcq rfl rfl rfl) ((qbq ((hwa ▸ qdm m.acc _)))) (fun v w h => hS.trans ((h.2).mono hS.size)) (fun v5 a6 hR => ?_); (try simp only [Act.put, lyy])
    obtain ⟨rfl, hb9⟩ := hR
    replace hS := hS.trans (hb9.mono hS.size)
    replace E := Lib.hid (E.out.below hb9)
    clear hb9
    refine qbg (S' := fun _ V => Below a6.heap.size a6 V) (fun _ V h => hS.trans (h.mono hS.size)) _ _ _ _ ?_
    replace hS := Below.refl a6.heap.size a6
    refine qac 3 rfl rfl (by kernel_rfl) (by kernel_rfl) (by kernel_rfl) (fun _ _ _ h => h) rfl (fun V hV => qae (v := .bool true) rfl rfl) hS ?_; (try simp only [Act.put, lyy])
    refine qac 4 rfl rfl (by kernel_rfl) (by kernel_rfl) (by kernel_rfl) (fun _ _ _ h => h) rfl (fun V hV => qan (s := 0) (k := 1) rfl Tryd.underlying29 rfl (by kernel_rfl) rfl rfl) hS ?_; (try simp only [Act.put, lyy])
    refine qac 5 rfl rfl (by kernel_rfl) (by kernel_rfl) (by kernel_rfl) (fun _ _ _ h => h) rfl (fun V hV => qav rfl Tryd.underlying3 rfl rfl (((E.out.below hV).get (i := 0) rfl).c 1 _ (lsR_Version ))) hS ?_; (try simp only [Act.put, lyy])
    refine qbi 6 (by kernel_rfl) rfl rfl rfl (qap qcq rfl rfl rfl) ((qbq ((hwv ▸ qdm m.ver _)))) (fun v w h => hS.trans ((h.2).mono hS.size)) (fun v7 a8 hR => ?_); (try simp only [Act.put, lyy])
    obtain ⟨rfl, hb9⟩ := hR
    replace hS := hS.trans (hb9.mono hS.size)
    replace E := Lib.hid (E.out.below hb9)
    clear hb9
    refine qbg (S' := fun _ V => Below a8.heap.size a8 V) (fun _ V h => hS.trans (h.mono hS.size)) _ _ _ _ ?_
    replace hS := Below.refl a8.heap.size a8
    refine qac 7 rfl rfl (by kernel_rfl) (by kernel_rfl) (by kernel_rfl) (fun _ _ _ h => h) rfl (fun V hV => qaz (b := true) (v := .bool true) rfl rfl rfl) hS ?_; (try simp only [Act.put, lyy])
    refine qac 8 rfl rfl (by kernel_rfl) (by kernel_rfl) (by kernel_rfl) (fun _ _ _ h => h) rfl (fun V hV => qae (v := .bool true) rfl rfl) hS ?_; (try simp only [Act.put, lyy])
    refine qac 9 rfl rfl (by kernel_rfl) (by kernel_rfl) (by kernel_rfl) (fun _ _ _ h => h) rfl (fun V hV => qan (s := 31) (k := 2) rfl Tryd.underlying29 rfl (by kernel_rfl) rfl rfl) hS ?_; (try simp only [Act.put, lyy])
    refine qac 10 rfl rfl (by kernel_rfl) (by kernel_rfl) (by kernel_rfl) (fun _ _ _ h => h) rfl (fun V hV => qaj (vs := m.ident.map b8) rfl Tryd.underlying24 rfl (szR (by rw [List.length_map, k1]) (by kernel_rfl)) rfl (((E.out.below hV).get (i := 0) rfl).seg (lsR_Ident (by rw [List.length_map, k1])))) hS ?_; (try simp only [Act.put, lyy])
    refine qac 11 rfl rfl (by kernel_rfl) (by kernel_rfl) (by kernel_rfl) (fun _ _ _ h => h) rfl (fun V hV => qaj (vs := lsR (.int .i64 m.acc) (.int .i64 m.ver) (m.ident.map b8) (.slice a0 n c0) (m.sig.map b8)) rfl Tryd.underlying29 rfl (szR (qas (by rw [List.length_map, k1]) (by rw [List.length_map, k2])) (by kernel_rfl)) rfl ((E.out.below hV).get (i := 0) rfl).range) hS ?_; (try simp only [Act.put, lyy])
    refine qac 13 rfl rfl (by kernel_rfl) (by kernel_rfl) (by kernel_rfl) (fun _ _ _ h => h) rfl (fun V hV => qan (s := 63) (k := 35) rfl Tryd.underlying29 rfl (by kernel_rfl) rfl rfl) hS ?_; (try simp only [Act.put, lyy])
    refine qac 14 rfl rfl (by kernel_rfl) (by kernel_rfl) (by kernel_rfl) (fun _ _ _ h => h) rfl (fun V hV => qaj (vs := m.sig.map b8) rfl Tryd.underlying27 rfl (szR (by rw [List.length_map, k2]) (by kernel_rfl)) rfl (((E.out.below hV).get (i := 0) rfl).seg (lsR_Sig (by rw [List.length_map, k1]) (by rw [List.length_map, k2])))) hS ?_; (try simp only [Act.put, lyy])
    refine qbi 12 (by kernel_rfl) rfl rfl rfl (qap enters_cont rfl rfl rfl) ((CO.out _ E.out.bl)) (fun v w h => hS.trans ((h.bl).mono hS.size)) (fun v9 a10 hR => ?_); (try simp only [Act.put, lyy])
    have hb9 := hR.bl
    have hs9 := hR.sl
    replace hS := hS.trans (hb9.mono hS.size)
    replace E := Lib.hid (E.out.below hb9)
    have HSL := Lib.hid hs9
    clear hR hs9 hb9
    refine qbg (S' := fun _ V => Below a10.heap.size a10 V) (fun _ V h => hS.trans (h.mono hS.size)) _ _ _ _ ?_
    replace hS := Below.refl a10.heap.size a10
    refine qbi 15 (by kernel_rfl) rfl rfl rfl (qbx enters_sverify rfl rfl rfl rfl rfl) ((qbq (CV.out _ v9 E.out.bl HSL.out))) (fun v w h => hS.trans ((h.2).mono hS.size)) (fun v11 a12 hR => ?_); (try simp only [Act.put, lyy])
    obtain ⟨rfl, hb9⟩ := hR
    replace hS := hS.trans (hb9.mono hS.size)
    replace E := Lib.hid (E.out.below hb9)
    clear hb9
    refine qbg (S' := fun _ V => Below a12.heap.size a12 V) (fun _ V h => hS.trans (h.mono hS.size)) _ _ _ _ ?_
    replace hS := Below.refl a12.heap.size a12
    refine qac 16 rfl rfl (by kernel_rfl) (by kernel_rfl) (by kernel_rfl) (fun _ _ _ h => h) rfl (fun V hV => qaz (b := true) (v := .bool vr) rfl rfl rfl) hS ?_; (try simp only [Act.put, lyy])
    refine qac 17 rfl rfl (by kernel_rfl) (by kernel_rfl) (by kernel_rfl) (fun _ _ _ h => h) rfl (fun V hV => qaf (v := .bool vr) rfl rfl) hS ?_; (try simp only [Act.put, lyy])
    refine qa2 (by kernel_rfl) ?_ _; refine NoPanic.normal ?_
    go_wp2_with fail
    go_ret
    exact ⟨by rw [HRt.out, hr, hwa, hwv, hn1, hn2]; rfl, E.out.bl⟩
end Go.Proofs.YtcgbgmbnagmohaaDoor
namespace Go.Proofs.YtcgbgmbnagmohaaDoor
open Go.RowKit
set_option maxRecDepth 20000
attribute [local irreducible] wpList
def scK (y : BitVec 8) : List (BitVec 8) := (y % 4#8) :: 7#8 :: List.replicate 30 0
theorem scK_len (y : BitVec 8) : (scK y).length = 32 := rfl
theorem run_addZ {w : World} {ρ : Operand → Value} {o : Oper} {x y : Operand} {t t' : TypeId} {a b : Int} (ho : o.op = .binOp .add t x y t') (hx : ρ x = .int .i64 a) (hy : ρ y = .int .i64 b) (h1 : -4611686018427387904 ≤ a + b) (h2 : a + b < 4611686018427387904) : (execOp ρ o).run Tryd.prog w = .ok (.value (.int .i64 (a + b))) w := by
 rw [run_add ho hx hy (by omega) (by omega)]
theorem run_subZ {w : World} {ρ : Operand → Value} {o : Oper} {x y : Operand} {t t' : TypeId} {a b : Int} (ho : o.op = .binOp .sub t x y t') (hx : ρ x = .int .i64 a) (hy : ρ y = .int .i64 b) (h1 : -4611686018427387904 ≤ a - b) (h2 : a - b < 4611686018427387904) : (execOp ρ o).run Tryd.prog w = .ok (.value (.int .i64 (a - b))) w := by
 rw [run_sub ho hx hy (by omega) (by omega)]
theorem enters_sec11 : Enters 12 := qaq Tryd.func12 (by kernel_rfl) rfl
set_option maxHeartbeats 4000000 in
theorem sec_any (y : BitVec 8) (w : World) : Calls Tryd.prog 12 #[b8 y] w fun e w' => e = .returned (.agg ((scK y).map b8).toArray) ∧ Below w.heap.size w w' := by
 have E := Lib.hid (Ev.start (w := w) (F := fun _ => True) fun _ _ => trivial)
 have EK : Hid (Tryd.prog.built 24 [(0, b8 (y % 4#8)), (1, .int .u8 7)] = some ((scK y).map b8).toArray) := Lib.hid (by unfold scK; generalize y % 4#8 = z; kernel_rfl)
 have lS := scK_len y
 generalize scK y = q at *
 go_enter Tryd.func12, Tryd.ntmps12
 go_upto_region 0 with fail; refine wp_region_lit ?_
 refine qaa (qat (vs := z8 32) rfl (by kernel_rfl)) rfl ?_; (try simp only [Act.put, lyy])
 replace E := Lib.hid (E.out.new (z8 32) 24)
 generalize w.alloc (.cells (z8 32).toArray 24) = a1 at *
 generalize w.heap.size = g2 at *
 refine qab ?_
 go_upto_region 1 with fail; refine wp_region_lit ?_
 refine qaa (qae (v := b8 y) rfl rfl) rfl ?_; (try simp only [Act.put, lyy])
 refine qaa (run_rem8C (b := 4#8) rfl rfl rfl (by decide)) rfl ?_; (try simp only [Act.put, lyy])
 refine qaa (qcb (ps := [(0, b8 (y % 4#8)), (1, .int .u8 7)]) rfl rfl EK.out) rfl ?_; (try simp only [Act.put, lyy])
 refine qag (qar (vs := q.map b8) rfl (szR (by rw [List.length_map, lS]) (by kernel_rfl)) rfl rfl (One.all (One.b8 _)) ((E.out.get (i := 0) rfl).thereM (by have q1 : (q.map b8).length = 32 := (by rw [List.length_map, lS]); have q2 : (z8 32).length = 32 := (qa7 32); omega))) rfl rfl ?_
 replace E := Lib.hid (E.out.put 0 rfl (m := q.map b8) ((show (q.map b8).length = 32 from (by rw [List.length_map, lS])).trans (show (z8 32).length = 32 from (qa7 32)).symm))
 generalize a1.setCells g2 0 (q.map b8) = a3 at *
 replace E := Lib.hid (show Ev _ [(g2, q.map b8)] _ _ _ a3 from E.out)
 refine qab ?_
 go_wp2_with fail
 exact bodyPost_ret (v := .agg (q.map b8).toArray) (qa8 Tryd.results12 rfl Tryd.underlying24 rfl (szR (by rw [List.length_map, lS]) (by kernel_rfl)) (E.out.get (i := 0) rfl).range) rfl ⟨rfl, E.out.bl⟩
def plA (c : List (BitVec 8)) (j : Nat) : Int := if 0 < j then 1 + ((c.getD 0 0 % 3#8).toNat : Int) else 1
def plV (c : List (BitVec 8)) (j : Nat) : Int := if 1 < j then 1 + ((c.getD 1 0 % 4#8).toNat : Int) else 1
def plL (c : List (BitVec 8)) : Nat → Int
 | 0 => 0
 | j + 1 => if j < 2 then 0 else plL c j + (1 + ((c.getD j 0 % 2#8).toNat : Int)) - (if 250 < (c.getD j 0).toNat then 2 else 0)
def plE (c : List (BitVec 8)) (j : Nat) : MPk := ⟨plL c (j + 1), c.getD j 0 :: BitVec.ofNat 8 j :: List.replicate 30 0⟩
def plDs (c : List (BitVec 8)) (j : Nat) : List MPk := (List.range (j - 2)).map fun i => plE c (i + 2)
def s0 : List (BitVec 8) := List.replicate 64 0
def plM (c : List (BitVec 8)) : MLs := ⟨plA c (min c.length 9), plV c (min c.length 9), k0, plDs c (min c.length 9), s0⟩
theorem plDs_len (c : List (BitVec 8)) (j : Nat) : (plDs c j).length = j - 2 := by simp [plDs]
theorem plDs_succ (c : List (BitVec 8)) {j : Nat} (h : 2 ≤ j) : plDs c (j + 1) = plDs c j ++ [plE c j] := by
 unfold plDs
 rw [show j + 1 - 2 = (j - 2) + 1 by omega, List.range_succ, List.map_append, List.map_singleton, show j - 2 + 2 = j by omega]
theorem plDs_two (c : List (BitVec 8)) {j : Nat} (h : j ≤ 2) : plDs c j = [] := by
 unfold plDs
 rw [show j - 2 = 0 by omega]
 rfl
theorem plL_two (c : List (BitVec 8)) {j : Nat} (h : j ≤ 2) : plL c j = 0 := by
 match j, h with
 | 0, _ => rfl
 | 1, _ => rfl
 | 2, _ => rfl
theorem plL_le (c : List (BitVec 8)) : ∀ j : Nat, -(2 * (j : Int)) ≤ plL c j ∧ plL c j ≤ 2 * (j : Int)
 | 0 => by simp [plL]
 | j + 1 => by
  have h := plL_le c j
  have h2 : (c.getD j 0 % 2#8).toNat < 2 := by
   rw [BitVec.toNat_umod]
   exact Nat.mod_lt _ (by decide)
  unfold plL
  split
  ·omega
  ·split <;> omega
theorem plDs_key (c : List (BitVec 8)) (j : Nat) : ∀ p ∈ plDs c j, p.key.length = 32 := fun p hp => by
 obtain ⟨i, _, rfl⟩ := List.mem_map.1 hp
 rfl
theorem plM_ok (c : List (BitVec 8)) : (plM c).Ok := ⟨rfl, rfl, plDs_key c _, by show (plDs c _).length ≤ 60000; rw [plDs_len]; omega⟩
theorem byteAt {ao : Option Addr} {c : List (BitVec 8)} {cc : Nat} {u : World} (h : Sl (.slice ao c.length cc) c u) (hp : 0 < c.length) : ∃ g f, ao = some ⟨g, f, none⟩ ∧ g < u.heap.size ∧ ∀ i, i < c.length → u.cell? ⟨g, f + i, none⟩ = some (b8 (c.getD i 0)) := by
 obtain ⟨g, f, c2, h1, h2, h3⟩ := h.adr hp
 simp only [Value.slice.injEq] at h1
 obtain ⟨rfl, _, _⟩ := h1
 exact ⟨g, f, rfl, h2, fun i hi => h3 i _ (qbv b8 0 hi)⟩
theorem enters_plain11 : Enters 7 := qaq Tryd.func7 (by kernel_rfl) rfl
set_option maxHeartbeats 16000000 in
theorem plain_any (ao : Option Addr) (c : List (BitVec 8)) (cc : Nat) (w : World) (hc : Sl (.slice ao c.length cc) c w) : Calls Tryd.prog 7 #[.slice ao c.length cc] w fun r w' => ∃ v', r = .returned v' ∧ ((∃ va vc, v' = .agg (lsR (.int .i64 (plM c).acc) (.int .i64 (plM c).ver) ((plM c).ident.map b8) (.slice va (plM c).devs.length vc) ((plM c).sig.map b8)).toArray ∧ Fro w.heap.size (fun V => SlR 33 pkAt (plM c).devs va vc V ∧ V.ownsRow w.heap.size 34 33 (.slice va (plM c).devs.length vc) (plM c).devs.length ((plM c).devs.map pkC).flatten) w') ∧ Below w.heap.size w w') := by
 have E := Lib.hid (Ev.start (w := w) (F := fun V => Sl (.slice ao c.length cc) c V) fun V hV => hc.ext hV)
 clear hc
 have EL : Hid (Tryd.prog.built 29 [(0, .int .i64 1), (1, .int .i64 1)] = some (lsR (.int .i64 1) (.int .i64 1) (k0.map b8) (.slice none 0 0) (s0.map b8)).toArray) := Lib.hid (by kernel_rfl)
 have EC : Hid (plM c = ⟨plA c (min c.length 9), plV c (min c.length 9), k0, plDs c (min c.length 9), s0⟩) := Lib.hid rfl
 have lK : k0.length = 32 := rfl
 have lZ : s0.length = 64 := rfl
 have PL := Lib.hid (plL_le c)
 have PS : Hid (∀ j : Nat, 2 ≤ j → plDs c (j + 1) = plDs c j ++ [plE c j]) := Lib.hid fun j h => plDs_succ c h
 have P2 : Hid (∀ j : Nat, j ≤ 2 → plDs c j = []) := Lib.hid fun j h => plDs_two c h
 have A0 : Hid (∀ j : Nat, j ≠ 0 → plA c (j + 1) = plA c j) := Lib.hid fun j h => by unfold plA; rw [if_pos (by omega), if_pos (by omega)]
 have A1 : Hid (plA c 1 = 1 + ((c.getD 0 0 % 3#8).toNat : Int)) := Lib.hid (by unfold plA; rw [if_pos (by omega)])
 have V0 : Hid (∀ j : Nat, j ≠ 1 → plV c (j + 1) = plV c j) := Lib.hid fun j h => by unfold plV; rcases Nat.lt_or_ge 1 j with q | q; rw [if_pos (by omega), if_pos q]; rw [if_neg (by omega), if_neg (by omega)]
 have V1 : Hid (plV c 2 = 1 + ((c.getD 1 0 % 4#8).toNat : Int)) := Lib.hid (by unfold plV; rw [if_pos (by omega)])
 have L2 : Hid (∀ j : Nat, j ≤ 2 → plL c j = 0) := Lib.hid fun j h => plL_two c h
 have L3 : Hid (∀ j : Nat, 2 ≤ j → plL c (j + 1) = plL c j + (1 + ((c.getD j 0 % 2#8).toNat : Int)) - (if 250 < (c.getD j 0).toNat then 2 else 0)) := Lib.hid fun j h => by rw [plL, if_neg (by omega)]
 have PE : Hid (∀ j : Nat, plE c j = ⟨plL c (j + 1), c.getD j 0 :: BitVec.ofNat 8 j :: List.replicate 30 0⟩) := Lib.hid fun j => rfl
 have AA : Hid (plA c 0 = 1 ∧ plV c 0 = 1) := Lib.hid ⟨rfl, rfl⟩
 generalize plM c = mm at *
 generalize k0 = kz at *
 generalize s0 = sz at *
 have HB : Hid (∀ u, Sl (.slice ao c.length cc) c u → 0 < c.length → ∃ g f, ao = some ⟨g, f, none⟩ ∧ g < u.heap.size ∧ ∀ i, i < c.length → u.cell? ⟨g, f + i, none⟩ = some (b8 (c.getD i 0))) := Lib.hid fun u h hp => byteAt h hp
 generalize hm : c.length = m at *
 clear hm
 go_enter Tryd.func7, Tryd.ntmps7
 go_upto_region 0 with fail; refine wp_region_lit ?_
 refine qaa (qat (vs := lsR ((.int .i64 0)) ((.int .i64 0)) (z8 32) ((.slice none 0 0)) (z8 64)) rfl (by kernel_rfl)) rfl ?_; (try simp only [Act.put, lyy])
 replace E := Lib.hid (E.out.new (lsR ((.int .i64 0)) ((.int .i64 0)) (z8 32) ((.slice none 0 0)) (z8 64)) 29)
 generalize w.alloc (.cells (lsR ((.int .i64 0)) ((.int .i64 0)) (z8 32) ((.slice none 0 0)) (z8 64)).toArray 29) = a1 at *
 generalize w.heap.size = g2 at *
 refine qab ?_
 go_upto_region 1 with fail; refine wp_region_lit ?_
 refine qaa (qcb (ps := [(0, .int .i64 1), (1, .int .i64 1)]) rfl rfl EL.out) rfl ?_; (try simp only [Act.put, lyy])
 refine qaa (qat (vs := lsR ((.int .i64 0)) ((.int .i64 0)) (z8 32) ((.slice none 0 0)) (z8 64)) rfl (by kernel_rfl)) rfl ?_; (try simp only [Act.put, lyy])
 replace E := Lib.hid (E.out.new (lsR ((.int .i64 0)) ((.int .i64 0)) (z8 32) ((.slice none 0 0)) (z8 64)) 29)
 generalize a1.alloc (.cells (lsR ((.int .i64 0)) ((.int .i64 0)) (z8 32) ((.slice none 0 0)) (z8 64)).toArray 29) = a3 at *
 generalize a1.heap.size = g4 at *
 refine qag (qar (vs := lsR (.int .i64 1) (.int .i64 1) (kz.map b8) (.slice none 0 0) (sz.map b8)) rfl (szR (qas (by rw [List.length_map, lK]) (by rw [List.length_map, lZ])) (by kernel_rfl)) rfl rfl (One.all (lsR_one rfl rfl (One.b8 _) rfl (One.b8 _))) ((E.out.get (i := 0) rfl).thereM (by have q1 : (lsR (.int .i64 1) (.int .i64 1) (kz.map b8) (.slice none 0 0) (sz.map b8)).length = 99 := (qas (by rw [List.length_map, lK]) (by rw [List.length_map, lZ])); have q2 : (lsR ((.int .i64 0)) ((.int .i64 0)) (z8 32) ((.slice none 0 0)) (z8 64)).length = 99 := (qas (qa7 32) (qa7 64)); omega))) rfl rfl ?_
 replace E := Lib.hid (E.out.put 0 rfl (m := lsR (.int .i64 1) (.int .i64 1) (kz.map b8) (.slice none 0 0) (sz.map b8)) ((show (lsR (.int .i64 1) (.int .i64 1) (kz.map b8) (.slice none 0 0) (sz.map b8)).length = 99 from (qas (by rw [List.length_map, lK]) (by rw [List.length_map, lZ]))).trans (show (lsR ((.int .i64 0)) ((.int .i64 0)) (z8 32) ((.slice none 0 0)) (z8 64)).length = 99 from (qas (qa7 32) (qa7 64))).symm))
 generalize a3.setCells g4 0 (lsR (.int .i64 1) (.int .i64 1) (kz.map b8) (.slice none 0 0) (sz.map b8)) = a5 at *
 replace E := Lib.hid (show Ev _ [(g4, lsR (.int .i64 1) (.int .i64 1) (kz.map b8) (.slice none 0 0) (sz.map b8)), (g2, lsR ((.int .i64 0)) ((.int .i64 0)) (z8 32) ((.slice none 0 0)) (z8 64))] _ _ _ a5 from E.out)
 refine qab ?_
 go_upto_region 2 with fail; refine wp_region_lit ?_
 refine qaa (qaf (v := .int .i64 0) rfl rfl) rfl ?_; (try simp only [Act.put, lyy])
 refine qab ?_
 go_upto_region 3 with fail; refine wp_region_lit ?_
 refine qaa (qaf (v := .int .i64 0) rfl rfl) rfl ?_; (try simp only [Act.put, lyy])
 refine qab ?_
 replace E := Lib.hid ((Gw.start E.out 34 33).know (H0 := LR pkAt [] []) fun V _ => LR.nil V)
 go_wp2_with fail
 go_loopw [4, 5] (fun s4 s5 u => ∃ (j : Nat) (l : List MPk) (css : List (List Value)) (va : Option Addr) (vn vc : Nat), s4 = .int .i64 (plL c j) ∧ s5 = .int .i64 (j : Int) ∧ l = plDs c j ∧ j - 2 = l.length ∧ j ≤ m ∧ j ≤ 9 ∧ (∀ p ∈ css, p.length = 33) ∧ css = l.map pkC ∧ Gw w [(g4, lsR (.int .i64 (plA c j)) (.int .i64 (plV c j)) (kz.map b8) (.slice va vn vc) (sz.map b8)), (g2, lsR ((.int .i64 0)) ((.int .i64 0)) (z8 32) ((.slice none 0 0)) (z8 64))] 34 33 (.slice va vn vc) (j - 2) css.flatten (fun V => Sl (.slice ao m cc) c V) (LR pkAt l css) u) (fun _ s5 _ => (9 - intOf s5).toNat)
 case atStart => exact ⟨0, [], [], none, 0, 0, rfl, rfl, (P2.out 0 (by omega)).symm, rfl, Nat.zero_le _, Nat.zero_le _, (fun _ h => by cases h), rfl, by rw [AA.out.1, AA.out.2]; exact E.out⟩
 case round =>
  obtain ⟨j, l, css, va, vn, vc, rfl, rfl, hl, hjl, hjm, hj9, hq, hcs, hJ⟩ := hrel
  replace E := Lib.hid hJ
  have HK := Lib.hid hq
  have HL := Lib.hid hl
  clear hJ hq hl
  have hpl := PL.out j
  by_cases hend : j = m ∨ j = 9
  ·by_cases hjm2 : j = m
   ·have hmj : m ≤ j := by omega
    clear hjm2 hend
    go_upto_region 4 with fail; refine wp_region_lit ?_
    refine qaa (qae (v := .int .i64 (j : Int)) rfl rfl) rfl ?_; (try simp only [Act.put, lyy])
    refine qaa (qae (v := .slice ao m cc) rfl rfl) rfl ?_; (try simp only [Act.put, lyy])
    refine qaa (qbe rfl Tryd.underlying22 rfl) rfl ?_; (try simp only [Act.put, lyy])
    refine qaa (qbr (c := false) rfl rfl rfl (decide_eq_false (by omega))) rfl ?_; (try simp only [Act.put, lyy])
    refine qaa (qae (v := .bool false) rfl rfl) rfl ?_; (try simp only [Act.put, lyy])
    refine qa3 rfl ?_; (try simp only [Act.put, lyy])
    refine qa3 rfl ?_; (try simp only [Act.put, lyy])
    refine qaa (qaz (b := false) (v := .bool false) rfl rfl rfl) rfl ?_; (try simp only [Act.put, lyy])
    refine qab ?_
    have E1 := Lib.hid E.out.done
    clear E
    have E := E1
    clear E1
    go_upto_region 14 with fail; refine wp_region_lit ?_
    refine qaa (qaj (vs := lsR (.int .i64 (plA c j)) (.int .i64 (plV c j)) (kz.map b8) (.slice va vn vc) (sz.map b8)) rfl Tryd.underlying29 rfl (szR (qas (by rw [List.length_map, lK]) (by rw [List.length_map, lZ])) (by kernel_rfl)) rfl (E.out.get (i := 0) rfl).range) rfl ?_; (try simp only [Act.put, lyy])
    refine qag (qar (vs := lsR (.int .i64 (plA c j)) (.int .i64 (plV c j)) (kz.map b8) (.slice va vn vc) (sz.map b8)) rfl (szR (qas (by rw [List.length_map, lK]) (by rw [List.length_map, lZ])) (by kernel_rfl)) rfl rfl (One.all (lsR_one rfl rfl (One.b8 _) rfl (One.b8 _))) ((E.out.get (i := 1) rfl).thereM (by have q1 : (lsR (.int .i64 (plA c j)) (.int .i64 (plV c j)) (kz.map b8) (.slice va vn vc) (sz.map b8)).length = 99 := (qas (by rw [List.length_map, lK]) (by rw [List.length_map, lZ])); have q2 : (lsR ((.int .i64 0)) ((.int .i64 0)) (z8 32) ((.slice none 0 0)) (z8 64)).length = 99 := (qas (qa7 32) (qa7 64)); omega))) rfl rfl ?_
    replace E := Lib.hid (E.out.put 1 rfl (m := lsR (.int .i64 (plA c j)) (.int .i64 (plV c j)) (kz.map b8) (.slice va vn vc) (sz.map b8)) ((show (lsR (.int .i64 (plA c j)) (.int .i64 (plV c j)) (kz.map b8) (.slice va vn vc) (sz.map b8)).length = 99 from (qas (by rw [List.length_map, lK]) (by rw [List.length_map, lZ]))).trans (show (lsR ((.int .i64 0)) ((.int .i64 0)) (z8 32) ((.slice none 0 0)) (z8 64)).length = 99 from (qas (qa7 32) (qa7 64))).symm))
    generalize wr.setCells g2 0 (lsR (.int .i64 (plA c j)) (.int .i64 (plV c j)) (kz.map b8) (.slice va vn vc) (sz.map b8)) = a6 at *
    replace E := Lib.hid (show Ev _ [(g4, lsR (.int .i64 (plA c j)) (.int .i64 (plV c j)) (kz.map b8) (.slice va vn vc) (sz.map b8)), (g2, lsR (.int .i64 (plA c j)) (.int .i64 (plV c j)) (kz.map b8) (.slice va vn vc) (sz.map b8))] _ _ _ a6 from E.out)
    refine qab ?_
    have HF : Hid (Fro w.heap.size (fun V => ∃ a' c', (.slice va vn vc : Value) = .slice a' l.length c' ∧ SlR 33 pkAt l a' c' V) a6) := Lib.hid fun V hV => slR_own (E.out.tell V hV).1 hjl (E.out.tell V hV).2.1 HK.out (E.out.tell V hV).2.2
    obtain ⟨a', c', hv6, hS0⟩ := HF.out.now
    simp only [Value.slice.injEq] at hv6
    obtain ⟨-, hvn, -⟩ := hv6
    have HF2 : Hid (Fro w.heap.size (SlR 33 pkAt l va vc) a6) := Lib.hid fun V hV => by
     obtain ⟨a2, c2, h1, h2⟩ := HF.out V hV
     simp only [Value.slice.injEq] at h1
     obtain ⟨rfl, _, rfl⟩ := h1
     exact h2
    have hmm := EC.out
    rw [show min m 9 = j by omega, ← HL.out] at hmm
    subst hmm
    go_wp2_with fail
    refine bodyPost_ret (v := .agg (lsR (.int .i64 (plA c j)) (.int .i64 (plV c j)) (kz.map b8) (.slice va vn vc) (sz.map b8)).toArray) (qa8 Tryd.results7 rfl Tryd.underlying29 rfl (szR (qas (by rw [List.length_map, lK]) (by rw [List.length_map, lZ])) (by kernel_rfl)) (E.out.get (i := 1) rfl).range) rfl ⟨_, rfl, ⟨va, vc, ?_, fun V hV => ⟨HF2.out V hV, ?_⟩⟩, E.out.bl⟩
    ·rw [hvn]
    ·have h9 := (E.out.tell V hV).1
     rw [hjl, hvn, hcs] at h9
     exact h9
   ·go_upto_region 4 with fail; refine wp_region_lit ?_
    refine qaa (qae (v := .int .i64 (j : Int)) rfl rfl) rfl ?_; (try simp only [Act.put, lyy])
    refine qaa (qae (v := .slice ao m cc) rfl rfl) rfl ?_; (try simp only [Act.put, lyy])
    refine qaa (qbe rfl Tryd.underlying22 rfl) rfl ?_; (try simp only [Act.put, lyy])
    refine qaa (qbr (c := true) rfl rfl rfl (decide_eq_true (by omega))) rfl ?_; (try simp only [Act.put, lyy])
    refine qaa (qae (v := .bool true) rfl rfl) rfl ?_; (try simp only [Act.put, lyy])
    refine qah (qae (v := .int .i64 (j : Int)) rfl rfl) rfl ?_; (try simp only [Act.put, lyy])
    refine qah (qbr (c := false) rfl rfl rfl (decide_eq_false (by omega))) rfl ?_; (try simp only [Act.put, lyy])
    refine qaa (qaz (b := true) (v := .bool false) rfl rfl rfl) rfl ?_; (try simp only [Act.put, lyy])
    refine qab ?_
    have E1 := Lib.hid E.out.done
    clear E
    have E := E1
    clear E1
    go_upto_region 14 with fail; refine wp_region_lit ?_
    refine qaa (qaj (vs := lsR (.int .i64 (plA c j)) (.int .i64 (plV c j)) (kz.map b8) (.slice va vn vc) (sz.map b8)) rfl Tryd.underlying29 rfl (szR (qas (by rw [List.length_map, lK]) (by rw [List.length_map, lZ])) (by kernel_rfl)) rfl (E.out.get (i := 0) rfl).range) rfl ?_; (try simp only [Act.put, lyy])
    refine qag (qar (vs := lsR (.int .i64 (plA c j)) (.int .i64 (plV c j)) (kz.map b8) (.slice va vn vc) (sz.map b8)) rfl (szR (qas (by rw [List.length_map, lK]) (by rw [List.length_map, lZ])) (by kernel_rfl)) rfl rfl (One.all (lsR_one rfl rfl (One.b8 _) rfl (One.b8 _))) ((E.out.get (i := 1) rfl).thereM (by have q1 : (lsR (.int .i64 (plA c j)) (.int .i64 (plV c j)) (kz.map b8) (.slice va vn vc) (sz.map b8)).length = 99 := (qas (by rw [List.length_map, lK]) (by rw [List.length_map, lZ])); have q2 : (lsR ((.int .i64 0)) ((.int .i64 0)) (z8 32) ((.slice none 0 0)) (z8 64)).length = 99 := (qas (qa7 32) (qa7 64)); omega))) rfl rfl ?_
    replace E := Lib.hid (E.out.put 1 rfl (m := lsR (.int .i64 (plA c j)) (.int .i64 (plV c j)) (kz.map b8) (.slice va vn vc) (sz.map b8)) ((show (lsR (.int .i64 (plA c j)) (.int .i64 (plV c j)) (kz.map b8) (.slice va vn vc) (sz.map b8)).length = 99 from (qas (by rw [List.length_map, lK]) (by rw [List.length_map, lZ]))).trans (show (lsR ((.int .i64 0)) ((.int .i64 0)) (z8 32) ((.slice none 0 0)) (z8 64)).length = 99 from (qas (qa7 32) (qa7 64))).symm))
    generalize wr.setCells g2 0 (lsR (.int .i64 (plA c j)) (.int .i64 (plV c j)) (kz.map b8) (.slice va vn vc) (sz.map b8)) = a6 at *
    replace E := Lib.hid (show Ev _ [(g4, lsR (.int .i64 (plA c j)) (.int .i64 (plV c j)) (kz.map b8) (.slice va vn vc) (sz.map b8)), (g2, lsR (.int .i64 (plA c j)) (.int .i64 (plV c j)) (kz.map b8) (.slice va vn vc) (sz.map b8))] _ _ _ a6 from E.out)
    refine qab ?_
    have HF : Hid (Fro w.heap.size (fun V => ∃ a' c', (.slice va vn vc : Value) = .slice a' l.length c' ∧ SlR 33 pkAt l a' c' V) a6) := Lib.hid fun V hV => slR_own (E.out.tell V hV).1 hjl (E.out.tell V hV).2.1 HK.out (E.out.tell V hV).2.2
    obtain ⟨a', c', hv6, hS0⟩ := HF.out.now
    simp only [Value.slice.injEq] at hv6
    obtain ⟨-, hvn, -⟩ := hv6
    have HF2 : Hid (Fro w.heap.size (SlR 33 pkAt l va vc) a6) := Lib.hid fun V hV => by
     obtain ⟨a2, c2, h1, h2⟩ := HF.out V hV
     simp only [Value.slice.injEq] at h1
     obtain ⟨rfl, _, rfl⟩ := h1
     exact h2
    have hmm := EC.out
    rw [show min m 9 = j by omega, ← HL.out] at hmm
    subst hmm
    go_wp2_with fail
    refine bodyPost_ret (v := .agg (lsR (.int .i64 (plA c j)) (.int .i64 (plV c j)) (kz.map b8) (.slice va vn vc) (sz.map b8)).toArray) (qa8 Tryd.results7 rfl Tryd.underlying29 rfl (szR (qas (by rw [List.length_map, lK]) (by rw [List.length_map, lZ])) (by kernel_rfl)) (E.out.get (i := 1) rfl).range) rfl ⟨_, rfl, ⟨va, vc, ?_, fun V hV => ⟨HF2.out V hV, ?_⟩⟩, E.out.bl⟩
    ·rw [hvn]
    ·have h9 := (E.out.tell V hV).1
     rw [hjl, hvn, hcs] at h9
     exact h9
  ·have hsl0 := E.out.ev.fs wr (Ext.refl _ _ _)
   obtain ⟨g, fo, rfl, hg, -⟩ := HB.out _ hsl0 (by omega)
   have HY : Hid (∀ u, Sl (.slice (some ⟨g, fo, none⟩) m cc) c u → u.cell? ⟨g, fo + j, none⟩ = some (b8 (c.getD j 0))) := Lib.hid fun u hu => by
    obtain ⟨g2, f2, h1, _, h3⟩ := HB.out u hu (by omega)
    simp only [Option.some.injEq, Addr.mk.injEq] at h1
    obtain ⟨rfl, rfl, _⟩ := h1
    exact h3 j (by omega)
   clear hsl0
   go_upto_region 4 with fail; refine wp_region_lit ?_
   refine qaa (qae (v := .int .i64 (j : Int)) rfl rfl) rfl ?_; (try simp only [Act.put, lyy])
   refine qaa (qae (v := .slice (some ⟨g, fo, none⟩) m cc) rfl rfl) rfl ?_; (try simp only [Act.put, lyy])
   refine qaa (qbe rfl Tryd.underlying22 rfl) rfl ?_; (try simp only [Act.put, lyy])
   refine qaa (qbr (c := true) rfl rfl rfl (decide_eq_true (by omega))) rfl ?_; (try simp only [Act.put, lyy])
   refine qaa (qae (v := .bool true) rfl rfl) rfl ?_; (try simp only [Act.put, lyy])
   refine qah (qae (v := .int .i64 (j : Int)) rfl rfl) rfl ?_; (try simp only [Act.put, lyy])
   refine qah (qbr (c := true) rfl rfl rfl (decide_eq_true (by omega))) rfl ?_; (try simp only [Act.put, lyy])
   refine qaa (qaz (b := true) (v := .bool true) rfl rfl rfl) rfl ?_; (try simp only [Act.put, lyy])
   refine qab ?_
   by_cases hj0 : j = 0
   ·have HY0 : Hid (∀ u, Sl (.slice (some ⟨g, fo, none⟩) m cc) c u → u.cell? ⟨g, fo + 0, none⟩ = some (b8 (c.getD 0 0))) := Lib.hid (by rw [← hj0]; exact HY.out)
    obtain ⟨B, hB⟩ : ∃ B, B = c.getD 0 0 := ⟨_, rfl⟩
    rw [← hB] at HY0
    have hBm : (B % 3#8).toNat < 3 := by rw [BitVec.toNat_umod]; exact Nat.mod_lt _ (by decide)
    go_upto_region 10 with fail; refine wp_region_lit ?_
    refine qaa (qae (v := .int .i64 (j : Int)) rfl rfl) rfl ?_; (try simp only [Act.put, lyy])
    refine qaa (qb4 (c := true) rfl rfl rfl (by rw [hj0]; rfl)) rfl ?_; (try simp only [Act.put, lyy])
    refine qaa (qaf (v := .bool true) rfl rfl) rfl ?_; (try simp only [Act.put, lyy])
    refine qab ?_
    go_upto_region 11 with fail; refine wp_region_lit ?_
    refine qaa (qae (v := .slice (some ⟨g, fo, none⟩) m cc) rfl rfl) rfl ?_; (try simp only [Act.put, lyy])
    refine qaa (qda (i := 0) rfl Tryd.underlying22 (by kernel_rfl) rfl rfl (by omega)) rfl ?_; (try simp only [Act.put, lyy])
    refine qaa (qav rfl Tryd.underlying5 rfl rfl (HY0.out _ (E.out.ev.f))) rfl ?_; (try simp only [Act.put, lyy])
    refine qaa (run_rem8C (b := 3#8) rfl rfl rfl (by decide)) rfl ?_; (try simp only [Act.put, lyy])
    refine qaa (run_cv8i rfl rfl) rfl ?_; (try simp only [Act.put, lyy])
    refine qaa (run_addZ (a := 1) rfl rfl rfl (by omega) (by omega)) rfl ?_; (try simp only [Act.put, lyy])
    refine qaa (qan (s := 0) (k := 0) rfl Tryd.underlying29 rfl (by kernel_rfl) rfl rfl) rfl ?_; (try simp only [Act.put, lyy])
    refine qag (run_stc (v := .int .i64 (1 + ((B % 3#8).toNat : Int))) rfl (by kernel_rfl) rfl rfl rfl rfl ((E.out.get (i := 0) rfl).c 0 _ (lsR_Account )) ((E.out.get (i := 0) rfl).f _)) rfl rfl ?_
    replace E := Lib.hid (E.out.set 0 rfl (j := 0) (by have q2 : (lsR (.int .i64 (plA c j)) (.int .i64 (plV c j)) (kz.map b8) (.slice va vn vc) (sz.map b8)).length = 99 := (qas (by rw [List.length_map, lK]) (by rw [List.length_map, lZ])); omega) (.int .i64 (1 + ((B % 3#8).toNat : Int))))
    rw [show (lsR (.int .i64 (plA c j)) (.int .i64 (plV c j)) (kz.map b8) (.slice va vn vc) (sz.map b8)).set 0 (.int .i64 (1 + ((B % 3#8).toNat : Int))) = lsR (.int .i64 (1 + ((B % 3#8).toNat : Int))) (.int .i64 (plV c j)) (kz.map b8) (.slice va vn vc) (sz.map b8) from (lsR_setAccount  _)] at E
    generalize wr.setCell ⟨g4, 0, none⟩ (.int .i64 (1 + ((B % 3#8).toNat : Int))) = a6 at *
    replace E := Lib.hid (show Gw _ [(g4, lsR (.int .i64 (1 + ((B % 3#8).toNat : Int))) (.int .i64 (plV c j)) (kz.map b8) (.slice va vn vc) (sz.map b8)), (g2, lsR ((.int .i64 0)) ((.int .i64 0)) (z8 32) ((.slice none 0 0)) (z8 64))] _ _ _ _ _ _ _ a6 from E.out)
    refine qab ?_
    go_upto_region 5 with fail; refine wp_region_lit ?_
    refine qaa (qae (v := .int .i64 (j : Int)) rfl rfl) rfl ?_; (try simp only [Act.put, lyy])
    refine qaa (qb1 (a := j) (b := 1) rfl rfl rfl (by omega)) rfl ?_; (try simp only [Act.put, lyy])
    refine qaa (qaf (v := .int .i64 ((j + 1 : Nat) : Int)) rfl rfl) rfl ?_; (try simp only [Act.put, lyy])
    refine qab ?_
    have e1 := A1.out
    have e2 := V0.out j (by omega)
    rw [← hB] at e1
    have E9 : Hid (plA c (j + 1) = 1 + ((B % 3#8).toNat : Int)) := Lib.hid (by rw [hj0]; exact e1)
    have E8 := Lib.hid e2
    clear e1 e2
    have E7 := Lib.hid (L2.out (j + 1) (by omega))
    have E6 := Lib.hid (L2.out j (by omega))
    have E5 := Lib.hid (P2.out (j + 1) (by omega))
    have E4 : Hid (l = []) := Lib.hid (by rw [HL.out, P2.out j (by omega)])
    go_wp2_with fail
    exact ⟨⟨j + 1, l, css, va, vn, vc, by rw [E7.out, E6.out], rfl, by rw [E4.out, E5.out], by rw [E4.out]; show j + 1 - 2 = 0; omega, by omega, by omega, HK.out, hcs, by rw [E9.out, E8.out, show j + 1 - 2 = j - 2 by omega]; exact E.out⟩, by simp [intOf]; omega⟩
   by_cases hj1 : j = 1
   ·have HY0 : Hid (∀ u, Sl (.slice (some ⟨g, fo, none⟩) m cc) c u → u.cell? ⟨g, fo + 1, none⟩ = some (b8 (c.getD 1 0))) := Lib.hid (by rw [← hj1]; exact HY.out)
    obtain ⟨B, hB⟩ : ∃ B, B = c.getD 1 0 := ⟨_, rfl⟩
    rw [← hB] at HY0
    have hBm : (B % 4#8).toNat < 4 := by rw [BitVec.toNat_umod]; exact Nat.mod_lt _ (by decide)
    go_upto_region 10 with fail; refine wp_region_lit ?_
    refine qaa (qae (v := .int .i64 (j : Int)) rfl rfl) rfl ?_; (try simp only [Act.put, lyy])
    refine qaa (qb4 (c := false) rfl rfl rfl (by simp; omega)) rfl ?_; (try simp only [Act.put, lyy])
    refine qaa (qaf (v := .bool false) rfl rfl) rfl ?_; (try simp only [Act.put, lyy])
    refine qab ?_
    go_upto_region 12 with fail; refine wp_region_lit ?_
    refine qaa (qae (v := .int .i64 (j : Int)) rfl rfl) rfl ?_; (try simp only [Act.put, lyy])
    refine qaa (qb4 (c := true) rfl rfl rfl (by rw [hj1]; rfl)) rfl ?_; (try simp only [Act.put, lyy])
    refine qaa (qaf (v := .bool true) rfl rfl) rfl ?_; (try simp only [Act.put, lyy])
    refine qab ?_
    go_upto_region 13 with fail; refine wp_region_lit ?_
    refine qaa (qae (v := .slice (some ⟨g, fo, none⟩) m cc) rfl rfl) rfl ?_; (try simp only [Act.put, lyy])
    refine qaa (qda (i := 1) rfl Tryd.underlying22 (by kernel_rfl) rfl rfl (by omega)) rfl ?_; (try simp only [Act.put, lyy])
    refine qaa (qav rfl Tryd.underlying5 rfl rfl (HY0.out _ (E.out.ev.f))) rfl ?_; (try simp only [Act.put, lyy])
    refine qaa (run_rem8C (b := 4#8) rfl rfl rfl (by decide)) rfl ?_; (try simp only [Act.put, lyy])
    refine qaa (run_cv8i rfl rfl) rfl ?_; (try simp only [Act.put, lyy])
    refine qaa (run_addZ (a := 1) rfl rfl rfl (by omega) (by omega)) rfl ?_; (try simp only [Act.put, lyy])
    refine qaa (qan (s := 0) (k := 1) rfl Tryd.underlying29 rfl (by kernel_rfl) rfl rfl) rfl ?_; (try simp only [Act.put, lyy])
    refine qag (run_stc (v := .int .i64 (1 + ((B % 4#8).toNat : Int))) rfl (by kernel_rfl) rfl rfl rfl rfl ((E.out.get (i := 0) rfl).c 1 _ (lsR_Version )) ((E.out.get (i := 0) rfl).f _)) rfl rfl ?_
    replace E := Lib.hid (E.out.set 0 rfl (j := 1) (by have q2 : (lsR (.int .i64 (plA c j)) (.int .i64 (plV c j)) (kz.map b8) (.slice va vn vc) (sz.map b8)).length = 99 := (qas (by rw [List.length_map, lK]) (by rw [List.length_map, lZ])); omega) (.int .i64 (1 + ((B % 4#8).toNat : Int))))
    rw [show (lsR (.int .i64 (plA c j)) (.int .i64 (plV c j)) (kz.map b8) (.slice va vn vc) (sz.map b8)).set 1 (.int .i64 (1 + ((B % 4#8).toNat : Int))) = lsR (.int .i64 (plA c j)) (.int .i64 (1 + ((B % 4#8).toNat : Int))) (kz.map b8) (.slice va vn vc) (sz.map b8) from (lsR_setVersion  _)] at E
    generalize wr.setCell ⟨g4, 1, none⟩ (.int .i64 (1 + ((B % 4#8).toNat : Int))) = a6 at *
    replace E := Lib.hid (show Gw _ [(g4, lsR (.int .i64 (plA c j)) (.int .i64 (1 + ((B % 4#8).toNat : Int))) (kz.map b8) (.slice va vn vc) (sz.map b8)), (g2, lsR ((.int .i64 0)) ((.int .i64 0)) (z8 32) ((.slice none 0 0)) (z8 64))] _ _ _ _ _ _ _ a6 from E.out)
    refine qab ?_
    go_upto_region 5 with fail; refine wp_region_lit ?_
    refine qaa (qae (v := .int .i64 (j : Int)) rfl rfl) rfl ?_; (try simp only [Act.put, lyy])
    refine qaa (qb1 (a := j) (b := 1) rfl rfl rfl (by omega)) rfl ?_; (try simp only [Act.put, lyy])
    refine qaa (qaf (v := .int .i64 ((j + 1 : Nat) : Int)) rfl rfl) rfl ?_; (try simp only [Act.put, lyy])
    refine qab ?_
    have e1 := V1.out
    have e2 := A0.out j (by omega)
    rw [← hB] at e1
    have E9 : Hid (plV c (j + 1) = 1 + ((B % 4#8).toNat : Int)) := Lib.hid (by rw [hj1]; exact e1)
    have E8 := Lib.hid e2
    clear e1 e2
    have E7 := Lib.hid (L2.out (j + 1) (by omega))
    have E6 := Lib.hid (L2.out j (by omega))
    have E5 := Lib.hid (P2.out (j + 1) (by omega))
    have E4 : Hid (l = []) := Lib.hid (by rw [HL.out, P2.out j (by omega)])
    go_wp2_with fail
    exact ⟨⟨j + 1, l, css, va, vn, vc, by rw [E7.out, E6.out], rfl, by rw [E4.out, E5.out], by rw [E4.out]; show j + 1 - 2 = 0; omega, by omega, by omega, HK.out, hcs, by rw [E9.out, E8.out, show j + 1 - 2 = j - 2 by omega]; exact E.out⟩, by simp [intOf]; omega⟩
   have HL3 := Lib.hid (L3.out j (by omega))
   have HPE := Lib.hid (PE.out j)
   obtain ⟨B, hB⟩ : ∃ B, B = c.getD j 0 := ⟨_, rfl⟩
   rw [← hB] at HY HL3 HPE
   have hBm : (B % 2#8).toNat < 2 := by rw [BitVec.toNat_umod]; exact Nat.mod_lt _ (by decide)
   have HPS := Lib.hid (PS.out j (by omega))
   have HA0 := Lib.hid (A0.out j hj0)
   have HV0 := Lib.hid (V0.out j hj1)
   have hpl2 := PL.out (j + 1)
   have KLN : Hid ((B :: BitVec.ofNat 8 j :: List.replicate 30 0 : List (BitVec 8)).length = 32) := Lib.hid rfl
   have EKY : Hid (Tryd.prog.built 24 [(0, b8 B), (1, b8 (BitVec.ofNat 8 j))] = some ((B :: BitVec.ofNat 8 j :: List.replicate 30 0 : List (BitVec 8)).map b8).toArray) := Lib.hid (by generalize BitVec.ofNat 8 j = z; kernel_rfl)
   go_upto_region 10 with fail; refine wp_region_lit ?_
   refine qaa (qae (v := .int .i64 (j : Int)) rfl rfl) rfl ?_; (try simp only [Act.put, lyy])
   refine qaa (qb4 (c := false) rfl rfl rfl (by simp; omega)) rfl ?_; (try simp only [Act.put, lyy])
   refine qaa (qaf (v := .bool false) rfl rfl) rfl ?_; (try simp only [Act.put, lyy])
   refine qab ?_
   go_upto_region 12 with fail; refine wp_region_lit ?_
   refine qaa (qae (v := .int .i64 (j : Int)) rfl rfl) rfl ?_; (try simp only [Act.put, lyy])
   refine qaa (qb4 (c := false) rfl rfl rfl (by simp; omega)) rfl ?_; (try simp only [Act.put, lyy])
   refine qaa (qaf (v := .bool false) rfl rfl) rfl ?_; (try simp only [Act.put, lyy])
   refine qab ?_
   go_upto_region 6 with fail; refine wp_region_lit ?_
   refine qaa (qae (v := .int .i64 (plL c j)) rfl rfl) rfl ?_; (try simp only [Act.put, lyy])
   refine qaa (qae (v := .slice (some ⟨g, fo, none⟩) m cc) rfl rfl) rfl ?_; (try simp only [Act.put, lyy])
   refine qaa (qae (v := .int .i64 (j : Int)) rfl rfl) rfl ?_; (try simp only [Act.put, lyy])
   refine qaa (qda (i := j) rfl Tryd.underlying22 (by kernel_rfl) rfl rfl (by omega)) rfl ?_; (try simp only [Act.put, lyy])
   refine qaa (qav rfl Tryd.underlying5 rfl rfl (HY.out _ (E.out.ev.f))) rfl ?_; (try simp only [Act.put, lyy])
   refine qaa (run_rem8C (b := 2#8) rfl rfl rfl (by decide)) rfl ?_; (try simp only [Act.put, lyy])
   refine qaa (run_cv8i rfl rfl) rfl ?_; (try simp only [Act.put, lyy])
   refine qaa (run_addZ (a := 1) rfl rfl rfl (by omega) (by omega)) rfl ?_; (try simp only [Act.put, lyy])
   refine qaa (run_addZ rfl rfl rfl (by omega) (by omega)) rfl ?_; (try simp only [Act.put, lyy])
   refine qaa (qaf (v := .int .i64 (plL c j + (1 + ((B % 2#8).toNat : Int)))) rfl rfl) rfl ?_; (try simp only [Act.put, lyy])
   refine qab ?_
   by_cases h250 : 250 < B.toNat
   ·have NL : Hid (plL c (j + 1) = plL c j + (1 + ((B % 2#8).toNat : Int)) - 2) := Lib.hid (by rw [HL3.out, if_pos h250])
    go_upto_region 7 with fail; refine wp_region_lit ?_
    refine qaa (qae (v := .slice (some ⟨g, fo, none⟩) m cc) rfl rfl) rfl ?_; (try simp only [Act.put, lyy])
    refine qaa (qae (v := .int .i64 (j : Int)) rfl rfl) rfl ?_; (try simp only [Act.put, lyy])
    refine qaa (qda (i := j) rfl Tryd.underlying22 (by kernel_rfl) rfl rfl (by omega)) rfl ?_; (try simp only [Act.put, lyy])
    refine qaa (qav rfl Tryd.underlying5 rfl rfl (HY.out _ (E.out.ev.f))) rfl ?_; (try simp only [Act.put, lyy])
    refine qaa (qcu (c := true) rfl rfl rfl (decide_eq_true (by omega))) rfl ?_; (try simp only [Act.put, lyy])
    refine qab ?_
    go_upto_region 8 with fail; refine wp_region_lit ?_
    refine qaa (qae (v := .int .i64 (plL c j + (1 + ((B % 2#8).toNat : Int)))) rfl rfl) rfl ?_; (try simp only [Act.put, lyy])
    refine qaa (run_subZ rfl rfl rfl (by omega) (by omega)) rfl ?_; (try simp only [Act.put, lyy])
    refine qaa (qaf (v := .int .i64 (plL c j + (1 + ((B % 2#8).toNat : Int)) - 2)) rfl rfl) rfl ?_; (try simp only [Act.put, lyy])
    refine qab ?_
    rw [← NL.out]
    generalize hnx : plL c (j + 1) = nx at *
    have HNX := Lib.hid hnx
    clear hnx
    go_upto_region 9 with fail
    refine wp_region_noPanic ?_; refine qay (S := Till 12 (fun V => Below wr.heap.size wr V)) (by kernel_rfl) (.inr (Below.refl _ _).drew) (fun _ => ?_); have hS : Below wr.heap.size wr wr.drew := (Below.refl _ _).drew
    have E0 := E
    replace E := Lib.hid (E.out.below hS)
    generalize wr.drew = a6 at *
    refine qak 0 rfl rfl (by kernel_rfl) (by kernel_rfl) (by kernel_rfl) (by kernel_rfl) (by kernel_rfl) (fun _ _ _ h => h) rfl (fun V hV => qan (s := 0) (k := 34) rfl Tryd.underlying29 rfl (by kernel_rfl) rfl rfl) hS ?_; (try simp only [Act.put, lyy])
    refine qak 1 rfl rfl (by kernel_rfl) (by kernel_rfl) (by kernel_rfl) (by kernel_rfl) (by kernel_rfl) (fun _ _ _ h => h) rfl (fun V hV => qav rfl Tryd.underlying25 rfl rfl (((E0.out.below hV).get (i := 0) rfl).c 34 _ (qal (by rw [List.length_map, lK])))) hS ?_; (try simp only [Act.put, lyy])
    refine qak 2 rfl rfl (by kernel_rfl) (by kernel_rfl) (by kernel_rfl) (by kernel_rfl) (by kernel_rfl) (fun _ _ _ h => h) rfl (fun V hV => qae (v := .int .i64 nx) rfl rfl) hS ?_; (try simp only [Act.put, lyy])
    refine qak 3 rfl rfl (by kernel_rfl) (by kernel_rfl) (by kernel_rfl) (by kernel_rfl) (by kernel_rfl) (fun _ _ _ h => h) rfl (fun V hV => qae (v := .slice (some ⟨g, fo, none⟩) m cc) rfl rfl) hS ?_; (try simp only [Act.put, lyy])
    refine qak 4 rfl rfl (by kernel_rfl) (by kernel_rfl) (by kernel_rfl) (by kernel_rfl) (by kernel_rfl) (fun _ _ _ h => h) rfl (fun V hV => qae (v := .int .i64 (j : Int)) rfl rfl) hS ?_; (try simp only [Act.put, lyy])
    refine qak 5 rfl rfl (by kernel_rfl) (by kernel_rfl) (by kernel_rfl) (by kernel_rfl) (by kernel_rfl) (fun _ _ _ h => h) rfl (fun V hV => qda (i := j) rfl Tryd.underlying22 (by kernel_rfl) rfl rfl (by omega)) hS ?_; (try simp only [Act.put, lyy])
    refine qak 6 rfl rfl (by kernel_rfl) (by kernel_rfl) (by kernel_rfl) (by kernel_rfl) (by kernel_rfl) (fun _ _ _ h => h) rfl (fun V hV => qav rfl Tryd.underlying5 rfl rfl (HY.out _ ((E0.out.below hV).ev.f))) hS ?_; (try simp only [Act.put, lyy])
    refine qak 7 rfl rfl (by kernel_rfl) (by kernel_rfl) (by kernel_rfl) (by kernel_rfl) (by kernel_rfl) (fun _ _ _ h => h) rfl (fun V hV => qae (v := .int .i64 (j : Int)) rfl rfl) hS ?_; (try simp only [Act.put, lyy])
    refine qak 8 rfl rfl (by kernel_rfl) (by kernel_rfl) (by kernel_rfl) (by kernel_rfl) (by kernel_rfl) (fun _ _ _ h => h) rfl (fun V hV => run_cvi_8 rfl rfl) hS ?_; (try simp only [Act.put, lyy])
    refine qak 9 rfl rfl (by kernel_rfl) (by kernel_rfl) (by kernel_rfl) (by kernel_rfl) (by kernel_rfl) (fun _ _ _ h => h) rfl (fun V hV => qcb (ps := [(0, b8 B), (1, b8 (BitVec.ofNat 8 j))]) rfl rfl EKY.out) hS ?_; (try simp only [Act.put, lyy])
    refine qak 10 rfl rfl (by kernel_rfl) (by kernel_rfl) (by kernel_rfl) (by kernel_rfl) (by kernel_rfl) (fun _ _ _ h => h) rfl (fun V hV => qcb (cells := (enR (.int .i64 nx) ((B :: BitVec.ofNat 8 j :: List.replicate 30 0 : List (BitVec 8)).map b8)).toArray) (ps := [(0, .int .i64 nx), (1, .agg ((B :: BitVec.ofNat 8 j :: List.replicate 30 0 : List (BitVec 8)).map b8).toArray)]) rfl rfl (enR_all rfl (by rw [List.length_map, KLN.out]))) hS ?_; (try simp only [Act.put, lyy])
    have hml : (enR (.int .i64 nx) ((B :: BitVec.ofNat 8 j :: List.replicate 30 0 : List (BitVec 8)).map b8)).length = 33 := (qbn (by rw [List.length_map, KLN.out]))
    have hmo : One (enR (.int .i64 nx) ((B :: BitVec.ofNat 8 j :: List.replicate 30 0 : List (BitVec 8)).map b8)) := (enR_one rfl (One.b8 _))
    refine qcj 11 (by kernel_rfl) rfl rfl rfl (run_bsl1 (m := enR (.int .i64 nx) ((B :: BitVec.ofNat 8 j :: List.replicate 30 0 : List (BitVec 8)).map b8)) (z := 33) (zv := .agg ([.int .i64 0] ++ List.replicate 32 (.int .u8 0) : List Value).toArray) rfl Tryd.underlying25 (by kernel_rfl) rfl hml (by omega) (by omega)) (.inr (hS.alloc hS.size _)) ?_; (try simp only [Act.put, lyy])
    have A2 := Lib.hid (Arr.new a6 (enR (.int .i64 nx) ((B :: BitVec.ofNat 8 j :: List.replicate 30 0 : List (BitVec 8)).map b8)) 34)
    replace E := Lib.hid (E.out.below ((Below.refl a6.heap.size a6).alloc (Nat.le_refl _) (.cells (enR (.int .i64 nx) ((B :: BitVec.ofNat 8 j :: List.replicate 30 0 : List (BitVec 8)).map b8)).toArray 34)))
    generalize a6.alloc (.cells (enR (.int .i64 nx) ((B :: BitVec.ofNat 8 j :: List.replicate 30 0 : List (BitVec 8)).map b8)).toArray 34) = b1 at *
    generalize a6.heap.size = g0 at *
    refine wpAnyD_growC (t := 25) (bw := 40) (zv := .agg ([.int .i64 0] ++ List.replicate 32 (.int .u8 0) : List Value).toArray) (z := 33) 12 (by kernel_rfl) rfl rfl rfl rfl rfl Tryd.underlying25 (by kernel_rfl) rfl (by omega) rfl rfl A2.out.range hml hmo (by omega) (by omega) E.out (fun v7 b2 hG => ?_); (try simp only [Act.put, lyy])
    replace E := Lib.hid hG
    clear hG A2 E0 hS
    obtain ⟨ya, yn, yc, rfl⟩ := E.out.isSlice
    refine qcj 13 (by kernel_rfl) rfl rfl rfl (qan (s := 0) (k := 34) rfl Tryd.underlying29 rfl (by kernel_rfl) rfl rfl) (.inl rfl) ?_; (try simp only [Act.put, lyy])
    refine qbo 14 (by kernel_rfl) rfl rfl rfl (run_stc (v := .slice ya yn yc) rfl (by kernel_rfl) rfl rfl rfl rfl ((E.out.get (i := 0) rfl).c _ _ (qal (by rw [List.length_map, lK]))) ((E.out.get (i := 0) rfl).f _)) (.inl rfl) ?_
    replace E := Lib.hid (E.out.set 0 rfl (j := 0 + 34) (by have q2 : (lsR (.int .i64 (plA c j)) (.int .i64 (plV c j)) (kz.map b8) (.slice va vn vc) (sz.map b8)).length = 99 := (qas (by rw [List.length_map, lK]) (by rw [List.length_map, lZ])); omega) (.slice ya yn yc))
    simp only [List.set_cons_zero] at E
    rw [show (0 + 34 : Nat) = 34 from rfl, qdb (by rw [List.length_map, lK])] at E
    generalize b2.setCell ⟨g4, 0 + 34, none⟩ (.slice ya yn yc) = b3 at *
    refine qa2 (by kernel_rfl) ?_ _; refine NoPanic.normal ?_
    have E9 := Lib.hid (E.out.know (H0 := LR pkAt (l ++ [plE c j]) (css ++ [enR (.int .i64 nx) ((B :: BitVec.ofNat 8 j :: List.replicate 30 0 : List (BitVec 8)).map b8)])) fun V h => h.snoc (by show _ = pkC _; rw [pkC_en, HPE.out]))
    clear E
    have E := E9
    clear E9
    go_upto_region 5 with fail; refine wp_region_lit ?_
    refine qaa (qae (v := .int .i64 (j : Int)) rfl rfl) rfl ?_; (try simp only [Act.put, lyy])
    refine qaa (qb1 (a := j) (b := 1) rfl rfl rfl (by omega)) rfl ?_; (try simp only [Act.put, lyy])
    refine qaa (qaf (v := .int .i64 ((j + 1 : Nat) : Int)) rfl rfl) rfl ?_; (try simp only [Act.put, lyy])
    refine qab ?_
    have hcm : css ++ [enR (.int .i64 nx) ((B :: BitVec.ofNat 8 j :: List.replicate 30 0 : List (BitVec 8)).map b8)] = (l ++ [plE c j]).map pkC := by rw [List.map_append, List.map_singleton, ← hcs, pkC_en (p := plE c j), HPE.out]
    go_wp2_with fail
    exact ⟨⟨j + 1, l ++ [plE c j], css ++ [enR (.int .i64 nx) ((B :: BitVec.ofNat 8 j :: List.replicate 30 0 : List (BitVec 8)).map b8)], ya, yn, yc, by rw [HNX.out], rfl, by rw [HPS.out, HL.out], by rw [List.length_append, ← hjl]; show j + 1 - 2 = j - 2 + 1; omega, by omega, by omega, (fun p hp => by rcases List.mem_append.1 hp with hp | hp; exact HK.out p hp; obtain rfl := List.mem_singleton.1 hp; exact hml), hcm, by rw [List.flatten_append, HA0.out, HV0.out, show j + 1 - 2 = j - 2 + 1 by omega]; simpa using E.out⟩, by simp [intOf]; omega⟩
   ·have NL : Hid (plL c (j + 1) = plL c j + (1 + ((B % 2#8).toNat : Int))) := Lib.hid (by rw [HL3.out, if_neg h250]; omega)
    go_upto_region 7 with fail; refine wp_region_lit ?_
    refine qaa (qae (v := .slice (some ⟨g, fo, none⟩) m cc) rfl rfl) rfl ?_; (try simp only [Act.put, lyy])
    refine qaa (qae (v := .int .i64 (j : Int)) rfl rfl) rfl ?_; (try simp only [Act.put, lyy])
    refine qaa (qda (i := j) rfl Tryd.underlying22 (by kernel_rfl) rfl rfl (by omega)) rfl ?_; (try simp only [Act.put, lyy])
    refine qaa (qav rfl Tryd.underlying5 rfl rfl (HY.out _ (E.out.ev.f))) rfl ?_; (try simp only [Act.put, lyy])
    refine qaa (qcu (c := false) rfl rfl rfl (decide_eq_false (by omega))) rfl ?_; (try simp only [Act.put, lyy])
    refine qab ?_
    rw [← NL.out]
    generalize hnx : plL c (j + 1) = nx at *
    have HNX := Lib.hid hnx
    clear hnx
    go_upto_region 9 with fail
    refine wp_region_noPanic ?_; refine qay (S := Till 12 (fun V => Below wr.heap.size wr V)) (by kernel_rfl) (.inr (Below.refl _ _).drew) (fun _ => ?_); have hS : Below wr.heap.size wr wr.drew := (Below.refl _ _).drew
    have E0 := E
    replace E := Lib.hid (E.out.below hS)
    generalize wr.drew = a6 at *
    refine qak 0 rfl rfl (by kernel_rfl) (by kernel_rfl) (by kernel_rfl) (by kernel_rfl) (by kernel_rfl) (fun _ _ _ h => h) rfl (fun V hV => qan (s := 0) (k := 34) rfl Tryd.underlying29 rfl (by kernel_rfl) rfl rfl) hS ?_; (try simp only [Act.put, lyy])
    refine qak 1 rfl rfl (by kernel_rfl) (by kernel_rfl) (by kernel_rfl) (by kernel_rfl) (by kernel_rfl) (fun _ _ _ h => h) rfl (fun V hV => qav rfl Tryd.underlying25 rfl rfl (((E0.out.below hV).get (i := 0) rfl).c 34 _ (qal (by rw [List.length_map, lK])))) hS ?_; (try simp only [Act.put, lyy])
    refine qak 2 rfl rfl (by kernel_rfl) (by kernel_rfl) (by kernel_rfl) (by kernel_rfl) (by kernel_rfl) (fun _ _ _ h => h) rfl (fun V hV => qae (v := .int .i64 nx) rfl rfl) hS ?_; (try simp only [Act.put, lyy])
    refine qak 3 rfl rfl (by kernel_rfl) (by kernel_rfl) (by kernel_rfl) (by kernel_rfl) (by kernel_rfl) (fun _ _ _ h => h) rfl (fun V hV => qae (v := .slice (some ⟨g, fo, none⟩) m cc) rfl rfl) hS ?_; (try simp only [Act.put, lyy])
    refine qak 4 rfl rfl (by kernel_rfl) (by kernel_rfl) (by kernel_rfl) (by kernel_rfl) (by kernel_rfl) (fun _ _ _ h => h) rfl (fun V hV => qae (v := .int .i64 (j : Int)) rfl rfl) hS ?_; (try simp only [Act.put, lyy])
    refine qak 5 rfl rfl (by kernel_rfl) (by kernel_rfl) (by kernel_rfl) (by kernel_rfl) (by kernel_rfl) (fun _ _ _ h => h) rfl (fun V hV => qda (i := j) rfl Tryd.underlying22 (by kernel_rfl) rfl rfl (by omega)) hS ?_; (try simp only [Act.put, lyy])
    refine qak 6 rfl rfl (by kernel_rfl) (by kernel_rfl) (by kernel_rfl) (by kernel_rfl) (by kernel_rfl) (fun _ _ _ h => h) rfl (fun V hV => qav rfl Tryd.underlying5 rfl rfl (HY.out _ ((E0.out.below hV).ev.f))) hS ?_; (try simp only [Act.put, lyy])
    refine qak 7 rfl rfl (by kernel_rfl) (by kernel_rfl) (by kernel_rfl) (by kernel_rfl) (by kernel_rfl) (fun _ _ _ h => h) rfl (fun V hV => qae (v := .int .i64 (j : Int)) rfl rfl) hS ?_; (try simp only [Act.put, lyy])
    refine qak 8 rfl rfl (by kernel_rfl) (by kernel_rfl) (by kernel_rfl) (by kernel_rfl) (by kernel_rfl) (fun _ _ _ h => h) rfl (fun V hV => run_cvi_8 rfl rfl) hS ?_; (try simp only [Act.put, lyy])
    refine qak 9 rfl rfl (by kernel_rfl) (by kernel_rfl) (by kernel_rfl) (by kernel_rfl) (by kernel_rfl) (fun _ _ _ h => h) rfl (fun V hV => qcb (ps := [(0, b8 B), (1, b8 (BitVec.ofNat 8 j))]) rfl rfl EKY.out) hS ?_; (try simp only [Act.put, lyy])
    refine qak 10 rfl rfl (by kernel_rfl) (by kernel_rfl) (by kernel_rfl) (by kernel_rfl) (by kernel_rfl) (fun _ _ _ h => h) rfl (fun V hV => qcb (cells := (enR (.int .i64 nx) ((B :: BitVec.ofNat 8 j :: List.replicate 30 0 : List (BitVec 8)).map b8)).toArray) (ps := [(0, .int .i64 nx), (1, .agg ((B :: BitVec.ofNat 8 j :: List.replicate 30 0 : List (BitVec 8)).map b8).toArray)]) rfl rfl (enR_all rfl (by rw [List.length_map, KLN.out]))) hS ?_; (try simp only [Act.put, lyy])
    have hml : (enR (.int .i64 nx) ((B :: BitVec.ofNat 8 j :: List.replicate 30 0 : List (BitVec 8)).map b8)).length = 33 := (qbn (by rw [List.length_map, KLN.out]))
    have hmo : One (enR (.int .i64 nx) ((B :: BitVec.ofNat 8 j :: List.replicate 30 0 : List (BitVec 8)).map b8)) := (enR_one rfl (One.b8 _))
    refine qcj 11 (by kernel_rfl) rfl rfl rfl (run_bsl1 (m := enR (.int .i64 nx) ((B :: BitVec.ofNat 8 j :: List.replicate 30 0 : List (BitVec 8)).map b8)) (z := 33) (zv := .agg ([.int .i64 0] ++ List.replicate 32 (.int .u8 0) : List Value).toArray) rfl Tryd.underlying25 (by kernel_rfl) rfl hml (by omega) (by omega)) (.inr (hS.alloc hS.size _)) ?_; (try simp only [Act.put, lyy])
    have A2 := Lib.hid (Arr.new a6 (enR (.int .i64 nx) ((B :: BitVec.ofNat 8 j :: List.replicate 30 0 : List (BitVec 8)).map b8)) 34)
    replace E := Lib.hid (E.out.below ((Below.refl a6.heap.size a6).alloc (Nat.le_refl _) (.cells (enR (.int .i64 nx) ((B :: BitVec.ofNat 8 j :: List.replicate 30 0 : List (BitVec 8)).map b8)).toArray 34)))
    generalize a6.alloc (.cells (enR (.int .i64 nx) ((B :: BitVec.ofNat 8 j :: List.replicate 30 0 : List (BitVec 8)).map b8)).toArray 34) = b1 at *
    generalize a6.heap.size = g0 at *
    refine wpAnyD_growC (t := 25) (bw := 40) (zv := .agg ([.int .i64 0] ++ List.replicate 32 (.int .u8 0) : List Value).toArray) (z := 33) 12 (by kernel_rfl) rfl rfl rfl rfl rfl Tryd.underlying25 (by kernel_rfl) rfl (by omega) rfl rfl A2.out.range hml hmo (by omega) (by omega) E.out (fun v7 b2 hG => ?_); (try simp only [Act.put, lyy])
    replace E := Lib.hid hG
    clear hG A2 E0 hS
    obtain ⟨ya, yn, yc, rfl⟩ := E.out.isSlice
    refine qcj 13 (by kernel_rfl) rfl rfl rfl (qan (s := 0) (k := 34) rfl Tryd.underlying29 rfl (by kernel_rfl) rfl rfl) (.inl rfl) ?_; (try simp only [Act.put, lyy])
    refine qbo 14 (by kernel_rfl) rfl rfl rfl (run_stc (v := .slice ya yn yc) rfl (by kernel_rfl) rfl rfl rfl rfl ((E.out.get (i := 0) rfl).c _ _ (qal (by rw [List.length_map, lK]))) ((E.out.get (i := 0) rfl).f _)) (.inl rfl) ?_
    replace E := Lib.hid (E.out.set 0 rfl (j := 0 + 34) (by have q2 : (lsR (.int .i64 (plA c j)) (.int .i64 (plV c j)) (kz.map b8) (.slice va vn vc) (sz.map b8)).length = 99 := (qas (by rw [List.length_map, lK]) (by rw [List.length_map, lZ])); omega) (.slice ya yn yc))
    simp only [List.set_cons_zero] at E
    rw [show (0 + 34 : Nat) = 34 from rfl, qdb (by rw [List.length_map, lK])] at E
    generalize b2.setCell ⟨g4, 0 + 34, none⟩ (.slice ya yn yc) = b3 at *
    refine qa2 (by kernel_rfl) ?_ _; refine NoPanic.normal ?_
    have E9 := Lib.hid (E.out.know (H0 := LR pkAt (l ++ [plE c j]) (css ++ [enR (.int .i64 nx) ((B :: BitVec.ofNat 8 j :: List.replicate 30 0 : List (BitVec 8)).map b8)])) fun V h => h.snoc (by show _ = pkC _; rw [pkC_en, HPE.out]))
    clear E
    have E := E9
    clear E9
    go_upto_region 5 with fail; refine wp_region_lit ?_
    refine qaa (qae (v := .int .i64 (j : Int)) rfl rfl) rfl ?_; (try simp only [Act.put, lyy])
    refine qaa (qb1 (a := j) (b := 1) rfl rfl rfl (by omega)) rfl ?_; (try simp only [Act.put, lyy])
    refine qaa (qaf (v := .int .i64 ((j + 1 : Nat) : Int)) rfl rfl) rfl ?_; (try simp only [Act.put, lyy])
    refine qab ?_
    have hcm : css ++ [enR (.int .i64 nx) ((B :: BitVec.ofNat 8 j :: List.replicate 30 0 : List (BitVec 8)).map b8)] = (l ++ [plE c j]).map pkC := by rw [List.map_append, List.map_singleton, ← hcs, pkC_en (p := plE c j), HPE.out]
    go_wp2_with fail
    exact ⟨⟨j + 1, l ++ [plE c j], css ++ [enR (.int .i64 nx) ((B :: BitVec.ofNat 8 j :: List.replicate 30 0 : List (BitVec 8)).map b8)], ya, yn, yc, by rw [HNX.out], rfl, by rw [HPS.out, HL.out], by rw [List.length_append, ← hjl]; show j + 1 - 2 = j - 2 + 1; omega, by omega, by omega, (fun p hp => by rcases List.mem_append.1 hp with hp | hp; exact HK.out p hp; obtain rfl := List.mem_singleton.1 hp; exact hml), hcm, by rw [List.flatten_append, HA0.out, HV0.out, show j + 1 - 2 = j - 2 + 1 by omega]; simpa using E.out⟩, by simp [intOf]; omega⟩
end Go.Proofs.YtcgbgmbnagmohaaDoor
namespace Go.Proofs.YtcgbgmbnagmohaaDoor
open Go.RowKit
set_option maxRecDepth 20000
attribute [local irreducible] wpList
theorem slR_nilE {α : Type} {z : Nat} {At : α → List Value → World → Prop} (V : World) : SlR z At ([] : List α) none 0 V := ⟨Nat.le_refl _, [], rfl, (fun _ h => by cases h), (fun _ _ _ h => by simp at h), fun h => absurd rfl h⟩
def p1 : MPk := ⟨1, k0⟩
theorem p1_row : pkC p1 = enR (.int .i64 1) (k0.map b8) := pkC_en
def zM : MLs := ⟨0, 0, k0, [], s0⟩
def oM : MLs := ⟨0, 0, k0, [p1], s0⟩
def pM : MLs := ⟨1, 1, k0, [p1], s0⟩
theorem zM_ok : zM.Ok := ⟨rfl, rfl, (fun _ h => by cases h), by decide⟩
theorem oM_ok : oM.Ok := ⟨rfl, rfl, (fun p h => by rw [List.mem_singleton.1 h]; rfl), by decide⟩
theorem pM_ok : pM.Ok := ⟨rfl, rfl, (fun p h => by rw [List.mem_singleton.1 h]; rfl), by decide⟩
theorem right_sign (k : List (BitVec 8)) (m : MLs) : rightB (snM k m) = frB m := by
 have h : verB (snM k m).ident (conB (snM k m)) (snM k m).sig = true := ver_sig k _
 unfold rightB
 rw [h, Bool.and_true]
 rfl
theorem snM_con {k : List (BitVec 8)} {m : MLs} (h : m.ident.length = 32) : (conB (snM k m)).length = (conB m).length := by
 rw [conB_len, conB_len]
 have e : (lsF (snM k m) (snM k m).devs.length).length = (lsF m m.devs.length).length := by
  unfold lsF
  simp only [List.length_append, h]
  rw [show (snM k m).ident.length = 32 from pubB_len k]
  rfl
 rw [e]
theorem txt_str : strOf txtL = ⟨#[107, 101, 121, 119, 97, 114, 100, 32, 108, 105, 115, 116]⟩ := by rfl
theorem run_eqTxt {w : World} {ρ : Operand → Value} {o : Oper} {x y : Operand} {t t' : TypeId} (ho : o.op = .binOp .eql t x y t') (hx : ρ x = .string (strOf txtL)) (hy : ρ y = .string ⟨#[107, 101, 121, 119, 97, 114, 100, 32, 108, 105, 115, 116]⟩) : (execOp ρ o).run Tryd.prog w = .ok (.value (.bool true)) w := by
 rw [txt_str] at hx
 rw [run_eqstrG ho hx hy]
 simp
theorem enters_kn11 : Enters 9 := qaq Tryd.func9 (by kernel_rfl) rfl
set_option maxHeartbeats 16000000 in
theorem known11_any (HP : PubC) (HS : SigC) (HV : VerC) (w : World) (hW : W9 w) : Calls Tryd.prog 9 #[] w fun e w' => e = .returned (.bool true) ∧ Below w.heap.size w w' := by
 have HW := Lib.hid hW
 have E := Lib.hid (Ev.start (w := w) (F := fun _ => True) fun _ _ => trivial)
 have ZL : Hid (Tryd.prog.built 29 [] = some (lsR (.int .i64 0) (.int .i64 0) (k0.map b8) (.slice none 0 0) (s0.map b8)).toArray) := Lib.hid (by kernel_rfl)
 have EB : Hid (Tryd.prog.built 34 [(0, .int .i64 1)] = some (enR (.int .i64 1) (k0.map b8)).toArray) := Lib.hid (by kernel_rfl)
 have OL : Hid (∀ g : Nat, Tryd.prog.built 29 [(3, .slice (some ⟨g, 0, none⟩) 1 1)] = some (lsR (.int .i64 0) (.int .i64 0) (k0.map b8) (.slice (some ⟨g, 0, none⟩) 1 1) (s0.map b8)).toArray) := Lib.hid fun g => by kernel_rfl
 have PL : Hid (∀ g : Nat, Tryd.prog.built 29 [(0, .int .i64 1), (1, .int .i64 1), (3, .slice (some ⟨g, 0, none⟩) 1 1)] = some (lsR (.int .i64 1) (.int .i64 1) (k0.map b8) (.slice (some ⟨g, 0, none⟩) 1 1) (s0.map b8)).toArray) := Lib.hid fun g => by kernel_rfl
 have HZ : ∀ u, Fro 0 (lsAt zM (lsR (.int .i64 0) (.int .i64 0) (k0.map b8) (.slice none 0 0) (s0.map b8))) u := fun u V hV => ⟨none, 0, rfl, slR_nilE V⟩
 have HO : ∀ (u : World) (g : Nat), Arr g (enR (.int .i64 1) (k0.map b8)) u → Fro 0 (SlR 33 pkAt [p1] (some ⟨g, 0, none⟩) 1) u := fun u g h => slR_sole h (qbn rfl) fun V _ => p1_row.symm
 have CA : Hid (∀ (u : World) (g : Nat), Arr g (enR (.int .i64 1) (k0.map b8)) u → Calls Tryd.prog 14 #[.agg (lsR (.int .i64 0) (.int .i64 0) (k0.map b8) (.slice none 0 0) (s0.map b8)).toArray, .agg (lsR (.int .i64 0) (.int .i64 0) (k0.map b8) (.slice (some ⟨g, 0, none⟩) 1 1) (s0.map b8)).toArray] u fun e w' => e = .returned (.tuple #[.agg (enR (.int .i64 1) (k0.map b8)).toArray, .bool true]) ∧ Below u.heap.size u w') := Lib.hid fun u g h => by
  have h2 := added_any zM oM _ _ u zM_ok oM_ok (HZ u) (fun V hV => ⟨_, _, rfl, HO u g h V hV⟩)
  have e1 : adB zM.devs oM.devs = true := rfl
  have e2 : adP zM.devs oM.devs = p1 := rfl
  rw [e1, e2, p1_row] at h2
  exact h2
 have CK : Hid (∀ u : World, Calls Tryd.prog 12 #[.int .u8 1] u fun e w' => e = .returned (.agg ((scK 1#8).map b8).toArray) ∧ Below u.heap.size u w') := Lib.hid fun u => sec_any 1#8 u
 have lZ : (conB pM).length ≤ 300 := by decide +kernel
 have CS : Hid (∀ (u : World) (g : Nat), Since w u → Arr g (enR (.int .i64 1) (k0.map b8)) u → Calls Tryd.prog 11 #[.agg ((scK 1#8).map b8).toArray, .agg (lsR (.int .i64 1) (.int .i64 1) (k0.map b8) (.slice (some ⟨g, 0, none⟩) 1 1) (s0.map b8)).toArray] u fun e w' => ∃ v', e = .returned v' ∧ ((∃ a c, v' = .agg (lsR (.int .i64 1) (.int .i64 1) ((snM (scK 1#8) pM).ident.map b8) (.slice a 1 c) ((snM (scK 1#8) pM).sig.map b8)).toArray ∧ Fro u.heap.size (SlR 33 pkAt [p1] a c) w') ∧ Below u.heap.size u w')) := Lib.hid fun u g hu h => lsign_any HP HS (scK 1#8) pM _ u rfl pM_ok (fun V hV => ⟨_, _, rfl, HO u g h V hV⟩) lZ (hW.below hu)
 have lZ2 : (conB (snM (scK 1#8) pM)).length ≤ 300 := by rw [snM_con rfl]; exact lZ
 have CR : Hid (∀ (u : World) (a : Option Addr) (c : Nat), Since w u → Fro 0 (SlR 33 pkAt [p1] a c) u → Calls Tryd.prog 13 #[.agg (lsR (.int .i64 1) (.int .i64 1) ((snM (scK 1#8) pM).ident.map b8) (.slice a 1 c) ((snM (scK 1#8) pM).sig.map b8)).toArray] u fun e w' => e = .returned (.bool true) ∧ Below u.heap.size u w') := Lib.hid fun u a c hu h => by
  have h2 := right_any HV (snM (scK 1#8) pM) _ u (snM_ok pM_ok) (fun V hV => ⟨a, c, rfl, h V hV⟩) lZ2 (hW.below hu)
  rw [right_sign, show frB pM = true from rfl] at h2
  exact h2
 have CZ : Hid (∀ u : World, Since w u → Calls Tryd.prog 13 #[.agg (lsR (.int .i64 0) (.int .i64 0) (k0.map b8) (.slice none 0 0) (s0.map b8)).toArray] u fun e w' => e = .returned (.bool false) ∧ Below u.heap.size u w') := Lib.hid fun u hu => by
  have h2 := right_any HV zM _ u zM_ok (HZ u) (by decide +kernel) (hW.below hu)
  rwa [show rightB zM = false from rfl] at h2
 have CC : Hid (∀ (u : World) (a : Option Addr) (c : Nat), Fro 0 (SlR 33 pkAt [p1] a c) u → Calls Tryd.prog 18 #[.agg (lsR (.int .i64 1) (.int .i64 1) ((snM (scK 1#8) pM).ident.map b8) (.slice a 1 c) ((snM (scK 1#8) pM).sig.map b8)).toArray] u fun e w' => ∃ v', e = .returned v' ∧ S5 u v' (conB (snM (scK 1#8) pM)) w') := Lib.hid fun u a c h => cont_any (snM (scK 1#8) pM) _ u (snM_ok pM_ok) fun V hV => ⟨a, c, rfl, h V hV⟩
 have lI : (snM (scK 1#8) pM).ident.length = 32 := pubB_len _
 have lG : (snM (scK 1#8) pM).sig.length = 64 := sigB_len _ _
 have lS := scK_len 1#8
 have lK : k0.length = 32 := rfl
 have lY : s0.length = 64 := rfl
 have ET : Hid ((conB (snM (scK 1#8) pM)).take 12 = txtL) := Lib.hid (by unfold conB; exact List.take_left' rfl)
 have EN : Hid (12 ≤ (conB (snM (scK 1#8) pM)).length) := Lib.hid (by rw [conB_len]; omega)
 clear hW HZ HO lZ lZ2
 generalize conB (snM (scK 1#8) pM) = B at *
 generalize (snM (scK 1#8) pM).ident = I9 at *
 generalize (snM (scK 1#8) pM).sig = G9 at *
 generalize scK 1#8 = K9 at *
 generalize k0 = kz at *
 generalize s0 = sz at *
 go_enter Tryd.func9, Tryd.ntmps9
 go_upto_region 0 with fail; refine wp_region_lit ?_
 refine qaa (qaf (v := .bool false) rfl rfl) rfl ?_; (try simp only [Act.put, List.setIfInBounds_toArray, List.set_cons_zero])
 refine qab ?_
 go_upto_region 1 with fail; refine wp_region_lit ?_
 refine qaa (qcb (ps := []) rfl rfl ZL.out) rfl ?_; (try simp only [Act.put, lyy])
 refine qaa (qcb (ps := [(0, .int .i64 1)]) rfl rfl EB.out) rfl ?_; (try simp only [Act.put, lyy])
 refine qaa (run_bsl1 (m := enR (.int .i64 1) (kz.map b8)) (z := 33) (zv := .agg ([.int .i64 0] ++ List.replicate 32 (.int .u8 0) : List Value).toArray) rfl Tryd.underlying25 (by kernel_rfl) rfl (qbn (by rw [List.length_map, lK])) (by omega) (by omega)) rfl ?_; (try simp only [Act.put, lyy])
 replace E := Lib.hid (E.out.new (enR (.int .i64 1) (kz.map b8)) 34)
 generalize w.alloc (.cells (enR (.int .i64 1) (kz.map b8)).toArray 34) = a1 at *
 generalize w.heap.size = g2 at *
 refine qaa (qcb (ps := [(3, .slice (some ⟨g2, 0, none⟩) 1 1)]) rfl rfl (OL.out g2)) rfl ?_; (try simp only [Act.put, lyy])
 refine qam (qao enters_added rfl rfl rfl rfl) rfl (CA.out _ g2 (E.out.get (i := 0) rfl)) (fun a3 hb => ?_); (try simp only [Act.put, lyy])
 replace E := Lib.hid (E.out.below hb)
 clear hb
 refine qaa (qae (v := .tuple #[.agg (enR (.int .i64 1) (kz.map b8)).toArray, .bool true]) rfl rfl) rfl ?_; (try simp only [Act.put, lyy])
 refine qaa (qbt (v := .agg (enR (.int .i64 1) (kz.map b8)).toArray) rfl rfl rfl) rfl ?_; (try simp only [Act.put, lyy])
 refine qaa (qbt (v := .bool true) rfl rfl rfl) rfl ?_; (try simp only [Act.put, lyy])
 refine qaa (qat (vs := enR ((.int .i64 0)) (z8 32)) rfl (by kernel_rfl)) rfl ?_; (try simp only [Act.put, lyy])
 replace E := Lib.hid (E.out.new (enR ((.int .i64 0)) (z8 32)) 34)
 generalize a3.alloc (.cells (enR ((.int .i64 0)) (z8 32)).toArray 34) = a4 at *
 generalize a3.heap.size = g5 at *
 refine qag (qar (vs := enR (.int .i64 1) (kz.map b8)) rfl (szR (qbn (by rw [List.length_map, lK])) (by kernel_rfl)) rfl rfl (One.all (enR_one rfl (One.b8 _))) ((E.out.get (i := 0) rfl).thereM (by have q1 : (enR (.int .i64 1) (kz.map b8)).length = 33 := (qbn (by rw [List.length_map, lK])); have q2 : (enR ((.int .i64 0)) (z8 32)).length = 33 := (qbn (qa7 32)); omega))) rfl rfl ?_
 replace E := Lib.hid (E.out.put 0 rfl (m := enR (.int .i64 1) (kz.map b8)) ((show (enR (.int .i64 1) (kz.map b8)).length = 33 from (qbn (by rw [List.length_map, lK]))).trans (show (enR ((.int .i64 0)) (z8 32)).length = 33 from (qbn (qa7 32))).symm))
 generalize a4.setCells g5 0 (enR (.int .i64 1) (kz.map b8)) = a6 at *
 replace E := Lib.hid (show Ev _ [(g5, enR (.int .i64 1) (kz.map b8)), (g2, enR (.int .i64 1) (kz.map b8))] _ _ _ a6 from E.out)
 refine qaa (qaf (v := .bool true) rfl rfl) rfl ?_; (try simp only [Act.put, lyy])
 refine qab ?_
 go_upto_region 2 with fail; refine wp_region_lit ?_
 refine qam (qap enters_sec11 rfl rfl rfl) rfl (CK.out _) (fun a7 hb => ?_); (try simp only [Act.put, lyy])
 replace E := Lib.hid (E.out.below hb)
 clear hb
 refine qaa (qcb (ps := [(0, .int .i64 1)]) rfl rfl EB.out) rfl ?_; (try simp only [Act.put, lyy])
 refine qaa (run_bsl1 (m := enR (.int .i64 1) (kz.map b8)) (z := 33) (zv := .agg ([.int .i64 0] ++ List.replicate 32 (.int .u8 0) : List Value).toArray) rfl Tryd.underlying25 (by kernel_rfl) rfl (qbn (by rw [List.length_map, lK])) (by omega) (by omega)) rfl ?_; (try simp only [Act.put, lyy])
 replace E := Lib.hid (E.out.new (enR (.int .i64 1) (kz.map b8)) 34)
 generalize a7.alloc (.cells (enR (.int .i64 1) (kz.map b8)).toArray 34) = a8 at *
 generalize a7.heap.size = g9 at *
 refine qaa (qcb (ps := [(0, .int .i64 1), (1, .int .i64 1), (3, .slice (some ⟨g9, 0, none⟩) 1 1)]) rfl rfl (PL.out g9)) rfl ?_; (try simp only [Act.put, lyy])
 refine qbj (qao enters_lsign rfl rfl rfl rfl) rfl (CS.out _ g9 E.out.bl (E.out.get (i := 0) rfl)) (fun v11 a10 hR => ?_); (try simp only [Act.put, lyy])
 obtain ⟨⟨av, cv, rfl, hF⟩, hb7⟩ := hR
 replace E := Lib.hid (E.out.call hb7 hF)
 clear hF hb7
 refine qaa (qat (vs := lsR ((.int .i64 0)) ((.int .i64 0)) (z8 32) ((.slice none 0 0)) (z8 64)) rfl (by kernel_rfl)) rfl ?_; (try simp only [Act.put, lyy])
 replace E := Lib.hid (E.out.new (lsR ((.int .i64 0)) ((.int .i64 0)) (z8 32) ((.slice none 0 0)) (z8 64)) 29)
 generalize a10.alloc (.cells (lsR ((.int .i64 0)) ((.int .i64 0)) (z8 32) ((.slice none 0 0)) (z8 64)).toArray 29) = a12 at *
 generalize a10.heap.size = g13 at *
 refine qag (qar (vs := lsR (.int .i64 1) (.int .i64 1) (I9.map b8) (.slice av 1 cv) (G9.map b8)) rfl (szR (qas (by rw [List.length_map, lI]) (by rw [List.length_map, lG])) (by kernel_rfl)) rfl rfl (One.all (lsR_one rfl rfl (One.b8 _) rfl (One.b8 _))) ((E.out.get (i := 0) rfl).thereM (by have q1 : (lsR (.int .i64 1) (.int .i64 1) (I9.map b8) (.slice av 1 cv) (G9.map b8)).length = 99 := (qas (by rw [List.length_map, lI]) (by rw [List.length_map, lG])); have q2 : (lsR ((.int .i64 0)) ((.int .i64 0)) (z8 32) ((.slice none 0 0)) (z8 64)).length = 99 := (qas (qa7 32) (qa7 64)); omega))) rfl rfl ?_
 replace E := Lib.hid (E.out.put 0 rfl (m := lsR (.int .i64 1) (.int .i64 1) (I9.map b8) (.slice av 1 cv) (G9.map b8)) ((show (lsR (.int .i64 1) (.int .i64 1) (I9.map b8) (.slice av 1 cv) (G9.map b8)).length = 99 from (qas (by rw [List.length_map, lI]) (by rw [List.length_map, lG]))).trans (show (lsR ((.int .i64 0)) ((.int .i64 0)) (z8 32) ((.slice none 0 0)) (z8 64)).length = 99 from (qas (qa7 32) (qa7 64))).symm))
 generalize a12.setCells g13 0 (lsR (.int .i64 1) (.int .i64 1) (I9.map b8) (.slice av 1 cv) (G9.map b8)) = a14 at *
 replace E := Lib.hid (show Ev _ [(g13, lsR (.int .i64 1) (.int .i64 1) (I9.map b8) (.slice av 1 cv) (G9.map b8)), (g9, enR (.int .i64 1) (kz.map b8)), (g5, enR (.int .i64 1) (kz.map b8)), (g2, enR (.int .i64 1) (kz.map b8))] _ _ _ a14 from E.out)
 refine qab ?_
 go_upto_region 3 with fail; refine wp_region_lit ?_
 refine qaa (qae (v := .bool true) rfl rfl) rfl ?_; (try simp only [Act.put, lyy])
 refine qaa (qae (v := .bool true) rfl rfl) rfl ?_; (try simp only [Act.put, lyy])
 refine qah (qan (s := 0) (k := 0) rfl Tryd.underlying34 rfl (by kernel_rfl) rfl rfl) rfl ?_; (try simp only [Act.put, lyy])
 refine qah (qav rfl Tryd.underlying3 rfl rfl ((E.out.get (i := 2) rfl).c 0 _ (enR_ID ))) rfl ?_; (try simp only [Act.put, lyy])
 refine qah (qb4 (c := true) rfl rfl rfl rfl) rfl ?_; (try simp only [Act.put, lyy])
 refine qaa (qaz (b := true) (v := .bool true) rfl rfl rfl) rfl ?_; (try simp only [Act.put, lyy])
 refine qaa (qae (v := .bool true) rfl rfl) rfl ?_; (try simp only [Act.put, lyy])
 refine qah (qaj (vs := lsR (.int .i64 1) (.int .i64 1) (I9.map b8) (.slice av 1 cv) (G9.map b8)) rfl Tryd.underlying29 rfl (szR (qas (by rw [List.length_map, lI]) (by rw [List.length_map, lG])) (by kernel_rfl)) rfl (E.out.get (i := 0) rfl).range) rfl ?_; (try simp only [Act.put, lyy])
 refine qbp (qap enters_right rfl rfl rfl) rfl (CR.out _ av cv E.out.bl (fun V hV => (E.out.tell V (hV.mono (Nat.zero_le _) fun _ h => h)).1)) (fun a15 hb => ?_); (try simp only [Act.put, lyy])
 replace E := Lib.hid (E.out.below hb)
 clear hb
 refine qaa (qaz (b := true) (v := .bool true) rfl rfl rfl) rfl ?_; (try simp only [Act.put, lyy])
 refine qaa (qae (v := .bool true) rfl rfl) rfl ?_; (try simp only [Act.put, lyy])
 refine qah (qcb (ps := []) rfl rfl ZL.out) rfl ?_; (try simp only [Act.put, lyy])
 refine qbp (qap enters_right rfl rfl rfl) rfl (CZ.out _ E.out.bl) (fun a16 hb => ?_); (try simp only [Act.put, lyy])
 replace E := Lib.hid (E.out.below hb)
 clear hb
 refine qah (run_notF rfl rfl) rfl ?_; (try simp only [Act.put, lyy])
 refine qaa (qaz (b := true) (v := .bool true) rfl rfl rfl) rfl ?_; (try simp only [Act.put, lyy])
 refine qaa (qae (v := .bool true) rfl rfl) rfl ?_; (try simp only [Act.put, lyy])
 refine qah (qaj (vs := lsR (.int .i64 1) (.int .i64 1) (I9.map b8) (.slice av 1 cv) (G9.map b8)) rfl Tryd.underlying29 rfl (szR (qas (by rw [List.length_map, lI]) (by rw [List.length_map, lG])) (by kernel_rfl)) rfl (E.out.get (i := 0) rfl).range) rfl ?_; (try simp only [Act.put, lyy])
 refine wpList_callRG (qap enters_cont rfl rfl rfl) rfl (CC.out _ av cv (fun V hV => (E.out.tell V (hV.mono (Nat.zero_le _) fun _ h => h)).1)) (fun v18 a17 hR => ?_); (try simp only [Act.put, lyy])
 have hb7 := hR.bl
 have hs9 := hR.sl
 obtain ⟨xa, xc, rfl, -, -⟩ := id hs9
 have HT : Hid (Sl (.slice xa 12 xc) txtL a17) := Lib.hid (by have h := sl_takeC (n := 12) hs9 EN.out; rwa [ET.out] at h)
 have hc12 : 12 ≤ xc := by obtain ⟨_, _, h1, h2, _⟩ := HT.out; simp only [Value.slice.injEq] at h1; have : txtL.length = 12 := rfl; omega
 replace E := Lib.hid (E.out.below hb7)
 clear hR hb7 hs9
 refine qah (run_slo rfl Tryd.underlying22 (by kernel_rfl) rfl rfl hc12) rfl ?_; (try simp only [Act.put, lyy])
 refine qah (run_str rfl rfl HT.out) rfl ?_; (try simp only [Act.put, lyy])
 refine qah (run_eqTxt rfl rfl rfl) rfl ?_; (try simp only [Act.put, lyy])
 refine qaa (qaz (b := true) (v := .bool true) rfl rfl rfl) rfl ?_; (try simp only [Act.put, lyy])
 refine qaa (qaf (v := .bool true) rfl rfl) rfl ?_; (try simp only [Act.put, List.setIfInBounds_toArray, List.set_cons_zero])
 refine qab ?_
 go_wp2_with fail
 go_ret
 exact ⟨rfl, E.out.bl⟩
end Go.Proofs.YtcgbgmbnagmohaaDoor
