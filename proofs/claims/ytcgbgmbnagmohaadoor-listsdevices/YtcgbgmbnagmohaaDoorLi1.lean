import Derived.Test.YtcgbgmbnagmohaaDoorLy
import Derived.Test.YtcgbgmbnagmohaaDoorLi0
namespace Go.Proofs.YtcgbgmbnagmohaaDoor
open Go.RowKit
set_option maxRecDepth 20000
attribute [local irreducible] wpList
theorem enters_fd1 : Enters 17 := qaq Tryd.func17 (by kernel_rfl) rfl
set_option maxHeartbeats 4000000 in
theorem fd1_any (p : MPk) (B : Nat) (d : Int) (u : World) (_ : p.key.length = 32) (hB : B < u.heap.size) (hd : u.cell? ⟨B, 0, none⟩ = some (.int .i64 d)) : Calls Tryd.prog 17 #[.agg (pkC p).toArray, .pointer (some ⟨B, 0, none⟩)] u fun e w' => e = .returned (.bool (decide (p.id = d))) ∧ Below u.heap.size u w' := by
 have E := Lib.hid (Ev.start (w := u) (F := fun V => V.cell? ⟨B, 0, none⟩ = some (.int .i64 d)) (cell_fro hB hd))
 have hq : (p.id == d) = decide (p.id = d) := by rw [Bool.eq_iff_iff]; simp
 have HQ := Lib.hid hq
 clear hd hB hq
 rw [pkC_en]
 generalize decide (p.id = d) = r at *
 go_enter Tryd.func17, Tryd.ntmps17
 go_upto_region 0 with fail; refine wp_region_lit ?_
 refine qaa (qau (vs := enR (.int .i64 p.id) (p.key.map b8)) rfl rfl) rfl ?_; (try simp only [Act.put, lyy])
 replace E := Lib.hid (E.out.new (enR (.int .i64 p.id) (p.key.map b8)) 34)
 generalize u.alloc (.cells (enR (.int .i64 p.id) (p.key.map b8)).toArray 34) = a1 at *
 generalize u.heap.size = g2 at *
 refine qaa (qaf (v := .bool false) rfl rfl) rfl ?_; (try simp only [Act.put, lyy])
 refine qab ?_
 go_upto_region 1 with fail; refine wp_region_lit ?_
 refine qaa (qan (s := 0) (k := 0) rfl Tryd.underlying34 rfl (by kernel_rfl) rfl rfl) rfl ?_; (try simp only [Act.put, lyy])
 refine qaa (qav rfl Tryd.underlying3 rfl rfl ((E.out.get (i := 0) rfl).c 0 _ (enR_ID ))) rfl ?_; (try simp only [Act.put, lyy])
 refine qaa (qav rfl Tryd.underlying3 rfl rfl E.out.f) rfl ?_; (try simp only [Act.put, lyy])
 refine qaa (qb4 (c := r) rfl rfl rfl HQ.out) rfl ?_; (try simp only [Act.put, lyy])
 refine qaa (qaf (v := .bool r) rfl rfl) rfl ?_; (try simp only [Act.put, lyy])
 refine qab ?_
 go_wp2_with fail
 go_ret
 exact ⟨rfl, E.out.bl⟩
theorem enters_idxf : Enters 16 := qaq Tryd.func16 (by kernel_rfl) rfl
set_option maxHeartbeats 8000000 in
theorem idxf_any (a : Option Addr) (c : Nat) (l : List MPk) (B : Nat) (d : Int) (w : World) (hs : Fro 0 (SlR 33 pkAt l a c) w) (hk : ∀ p ∈ l, p.key.length = 32) (hmany : l.length ≤ 60000) (hB : B < w.heap.size) (hd : w.cell? ⟨B, 0, none⟩ = some (.int .i64 d)) : Calls Tryd.prog 16 #[.slice a l.length c, .func (.func 17) #[] #[.pointer (some ⟨B, 0, none⟩)]] w fun e w' => e = .returned (.int .i64 (fdI l d)) ∧ Below w.heap.size w w' := by
 have E := Lib.hid (Ev.start (w := w) (F := fun V => SlR 33 pkAt l a c V ∧ V.cell? ⟨B, 0, none⟩ = some (.int .i64 d)) fun V hV => ⟨hs V hV, cell_fro hB hd V hV⟩)
 have HI : Hid (∀ j (hj : j < l.length), l[j].id = d → (∀ (i : Nat) (p : MPk), i < j → l[i]? = some p → p.id ≠ d) → fdI l d = (j : Int)) := Lib.hid fun j hj h1 h2 => by unfold fdI; rw [fdN_hit hj h1 h2, if_pos hj]
 have HN : Hid ((∀ (i : Nat) (p : MPk), i < l.length → l[i]? = some p → p.id ≠ d) → fdI l d = -1) := Lib.hid fun h => by unfold fdI; rw [fdN_none fun i p hp => h i p (List.getElem?_eq_some_iff.1 hp).1 hp, if_neg (Nat.lt_irrefl _)]
 have HK := Lib.hid hk
 have hBs := hB
 clear hs hd hk
 generalize fdI l d = r at *
 obtain ⟨m, hm⟩ : ∃ m, m = l.length := ⟨_, rfl⟩
 rw [← hm]
 rw [← hm] at hmany
 have HM := Lib.hid hm
 clear hB
 go_enter Tryd.func16, Tryd.ntmps16
 go_upto_region 0 with fail; refine wp_region_lit ?_
 refine qaa (qaf (v := .int .i64 0) rfl rfl) rfl ?_; (try simp only [Act.put, lyy])
 refine qab ?_
 go_upto_region 1 with fail; refine wp_region_lit ?_
 refine qaa (qae (v := .slice a m c) rfl rfl) rfl ?_; (try simp only [Act.put, lyy])
 refine qaa (qbe rfl Tryd.underlying25 rfl) rfl ?_; (try simp only [Act.put, lyy])
 refine qaa (qae (v := .int .i64 0) rfl rfl) rfl ?_; (try simp only [Act.put, lyy])
 refine qab ?_
 go_wp2_with fail
 go_loopw [5, 8] (fun s5 s8 u => ∃ j : Nat, s8 = .int .i64 (j : Int) ∧ j ≤ m ∧ Hid (∀ (i : Nat) (p : MPk), i < j → l[i]? = some p → p.id ≠ d) ∧ Ev w [] [] (fun V => SlR 33 pkAt l a c V ∧ V.cell? ⟨B, 0, none⟩ = some (.int .i64 d)) (fun _ => True) u) (fun _ s8 _ => ((m : Int) - intOf s8).toNat)
 case atStart => exact ⟨0, rfl, Nat.zero_le _, Lib.hid fun i p hi => absurd hi (Nat.not_lt_zero _), E.out⟩
 case round =>
  obtain ⟨j, rfl, hj, HJ, hE⟩ := hrel
  replace E := Lib.hid hE
  clear hE
  by_cases hjm : j = m
  ·go_upto_region 2 with fail; refine wp_region_lit ?_
   refine qaa (qbr (c := false) rfl rfl rfl (decide_eq_false (by omega))) rfl ?_; (try simp only [Act.put, lyy])
   refine qab ?_
   go_upto_region 7 with fail; refine wp_region_lit ?_
   refine qaa (qaf (v := .int .i64 (-1)) rfl rfl) rfl ?_; (try simp only [Act.put, lyy])
   refine qab ?_
   go_wp2_with fail
   go_ret
   exact ⟨by rw [HN.out fun i p hi => HJ.out i p (by have := HM.out; omega)]; rfl, E.out.bl⟩
  ·have hjl : j < l.length := by have := HM.out; omega
   obtain ⟨g, fo, rfl, hg, hr⟩ := pk_at E.out.f.1 hjl
   have HR := Lib.hid hr
   clear hr
   have hkl := HK.out _ (List.getElem_mem hjl)
   have HD := Lib.hid (show ∀ p, l[j]? = some p → p = l[j] from fun p hp => by rw [List.getElem?_eq_getElem hjl] at hp; exact (Option.some.inj hp).symm)
   have HI2 := Lib.hid (HI.out j hjl)
   generalize l[j] = q at *
   go_upto_region 2 with fail; refine wp_region_lit ?_
   refine qaa (qbr (c := true) rfl rfl rfl (decide_eq_true (by omega))) rfl ?_; (try simp only [Act.put, lyy])
   refine qab ?_
   go_upto_region 3 with fail; refine wp_region_lit ?_
   refine qaa (qae (v := .int .i64 (j : Int)) rfl rfl) rfl ?_; (try simp only [Act.put, lyy])
   refine qaa (qaf (v := .int .i64 (j : Int)) rfl rfl) rfl ?_; (try simp only [Act.put, lyy])
   refine qab ?_
   go_upto_region 4 with fail; refine wp_region_lit ?_
   refine qaa (qae (v := .func (.func 17) #[] #[.pointer (some ⟨B, 0, none⟩)]) rfl rfl) rfl ?_; (try simp only [Act.put, lyy])
   refine qaa (qae (v := .slice (some ⟨g, fo, none⟩) m c) rfl rfl) rfl ?_; (try simp only [Act.put, lyy])
   refine qaa (qae (v := .int .i64 (j : Int)) rfl rfl) rfl ?_; (try simp only [Act.put, lyy])
   refine qaa (qcl (z := 33) rfl Tryd.underlying25 (by kernel_rfl) rfl rfl (by omega)) rfl ?_; (try simp only [Act.put, lyy])
   refine qaa (qaj (vs := pkC q) rfl Tryd.underlying34 rfl (szR (qa9 hkl) (by kernel_rfl)) rfl HR.out) rfl ?_; (try simp only [Act.put, lyy])
   refine qam (run_callc1 enters_fd1 rfl rfl rfl) rfl (fd1_any q B d _ hkl (Nat.lt_of_lt_of_le hBs E.out.bl.size) E.out.f.2) (fun b1 hb => ?_); (try simp only [Act.put, lyy])
   replace E := Lib.hid (E.out.below hb)
   clear hb HR
   refine qab ?_
   by_cases hq : q.id = d
   ·rw [decide_eq_true hq]
    go_upto_region 5 with fail; refine wp_region_lit ?_
    refine qaa (qae (v := .int .i64 (j : Int)) rfl rfl) rfl ?_; (try simp only [Act.put, lyy])
    refine qaa (qaf (v := .int .i64 (j : Int)) rfl rfl) rfl ?_; (try simp only [Act.put, lyy])
    refine qab ?_
    go_wp2_with fail
    go_ret
    exact ⟨by rw [HI2.out hq HJ.out]; rfl, E.out.bl⟩
   ·rw [decide_eq_false hq]
    go_upto_region 6 with fail; refine wp_region_lit ?_
    refine qaa (qb1 (a := j) (b := 1) rfl rfl rfl (by omega)) rfl ?_; (try simp only [Act.put, lyy])
    refine qaa (qae (v := .int .i64 ((j + 1 : Nat) : Int)) rfl rfl) rfl ?_; (try simp only [Act.put, lyy])
    refine qab ?_
    have NX : Hid (∀ (i : Nat) (p : MPk), i < j + 1 → l[i]? = some p → p.id ≠ d) := Lib.hid fun i p hi hp => by
     rcases Nat.lt_or_ge i j with h9 | h9
     ·exact HJ.out i p h9 hp
     ·obtain rfl : i = j := by omega
      rw [HD.out p hp]
      exact hq
    go_wp2_with fail
    exact ⟨⟨j + 1, rfl, by omega, NX, E.out⟩, by simp [intOf]; omega⟩
theorem enters_find : Enters 8 := qaq Tryd.func8 (by kernel_rfl) rfl
theorem k0_built : Tryd.prog.built 24 [] = some (k0.map b8).toArray := by kernel_rfl
set_option maxHeartbeats 8000000 in
theorem find_any (m : MLs) (X : List Value) (d : Int) (w : World) (hm : m.Ok) (hX : Fro 0 (lsAt m X) w) : Calls Tryd.prog 8 #[.agg X.toArray, .int .i64 d] w fun e w' => e = .returned (.tuple #[.agg ((fdK m.devs d).map b8).toArray, .bool (fdB m.devs d)]) ∧ Below w.heap.size w w' := by
 obtain ⟨a0, c0, rfl, HF⟩ := qcx hm hX
 have k1 := hm.ident
 have k2 := hm.sig
 have HDV := Lib.hid hm.devs
 have hmany := hm.many
 have E := Lib.hid (Ev.start (w := w) (F := SlR 33 pkAt m.devs a0 c0) HF)
 have CI : Hid (∀ (u : World) (B : Nat), Fro 0 (SlR 33 pkAt m.devs a0 c0) u → B < u.heap.size → u.cell? ⟨B, 0, none⟩ = some (.int .i64 d) → Calls Tryd.prog 16 #[.slice a0 m.devs.length c0, .func (.func 17) #[] #[.pointer (some ⟨B, 0, none⟩)]] u fun e w' => e = .returned (.int .i64 (fdI m.devs d)) ∧ Below u.heap.size u w') := Lib.hid fun u B h1 h2 h3 => idxf_any a0 c0 m.devs B d u h1 hm.devs hm.many h2 h3
 have KZ := Lib.hid k0_built
 have lz : k0.length = 32 := rfl
 clear hX HF hm
 by_cases hf : fdN m.devs d < m.devs.length
 ·have HI : Hid (fdI m.devs d = ((fdN m.devs d : Nat) : Int)) := Lib.hid (by unfold fdI; rw [if_pos hf])
  have HB : Hid (fdB m.devs d = true) := Lib.hid (decide_eq_true hf)
  have HQ : Hid (fdK m.devs d = (m.devs[fdN m.devs d]).key) := Lib.hid (by unfold fdK; rw [List.getD_eq_getElem?_getD, List.getElem?_eq_getElem hf]; rfl)
  have hkl := HDV.out _ (List.getElem_mem hf)
  have HA : Hid (∀ V, SlR 33 pkAt m.devs a0 c0 V → ∃ g f, a0 = some ⟨g, f, none⟩ ∧ g < V.heap.size ∧ V.rangeAt g (f + fdN m.devs d * 33) (pkC m.devs[fdN m.devs d])) := Lib.hid fun V hV => pk_at hV hf
  rw [HI.out] at CI
  generalize m.devs[fdN m.devs d] = q at *
  generalize hkk : fdN m.devs d = k at *
  clear hkk
  rw [HQ.out, HB.out]
  clear HI HB HQ
  go_enter Tryd.func8, Tryd.ntmps8
  go_upto_region 0 with fail; refine wp_region_lit ?_
  refine qaa (qau (vs := lsR (.int .i64 m.acc) (.int .i64 m.ver) (m.ident.map b8) (.slice a0 m.devs.length c0) (m.sig.map b8)) rfl rfl) rfl ?_; (try simp only [Act.put, lyy])
  replace E := Lib.hid (E.out.new (lsR (.int .i64 m.acc) (.int .i64 m.ver) (m.ident.map b8) (.slice a0 m.devs.length c0) (m.sig.map b8)) 29)
  generalize w.alloc (.cells (lsR (.int .i64 m.acc) (.int .i64 m.ver) (m.ident.map b8) (.slice a0 m.devs.length c0) (m.sig.map b8)).toArray 29) = a1 at *
  generalize w.heap.size = g2 at *
  refine qaa (run_box1 (v := .int .i64 d) rfl rfl rfl) rfl ?_; (try simp only [Act.put, lyy])
  replace E := Lib.hid (E.out.new ([.int .i64 d]) 3)
  generalize a1.alloc (.cells ([.int .i64 d]).toArray 3) = a3 at *
  generalize a1.heap.size = g4 at *
  refine qaa (qat (vs := z8 32) rfl (by kernel_rfl)) rfl ?_; (try simp only [Act.put, lyy])
  replace E := Lib.hid (E.out.new (z8 32) 24)
  generalize a3.alloc (.cells (z8 32).toArray 24) = a5 at *
  generalize a3.heap.size = g6 at *
  refine qaa (qaf (v := .bool false) rfl rfl) rfl ?_; (try simp only [Act.put, lyy])
  refine qab ?_
  go_upto_region 1 with fail; refine wp_region_lit ?_
  refine qaa (qan (s := 0) (k := 34) rfl Tryd.underlying29 rfl (by kernel_rfl) rfl rfl) rfl ?_; (try simp only [Act.put, lyy])
  refine qaa (qav rfl Tryd.underlying25 rfl rfl ((E.out.get (i := 2) rfl).c 34 _ (qal (by rw [List.length_map, k1])))) rfl ?_; (try simp only [Act.put, lyy])
  refine qaa (run_mkf1 rfl rfl) rfl ?_; (try simp only [Act.put, lyy])
  refine qam (qao enters_idxf rfl rfl rfl rfl) rfl (CI.out _ _ E.out.froF (E.out.get (i := 1) rfl).lt ((E.out.get (i := 1) rfl).c 0 _ rfl)) (fun a7 hb => ?_); (try simp only [Act.put, lyy])
  replace E := Lib.hid (E.out.below hb)
  clear hb
  refine qaa (qaf (v := .int .i64 (k : Int)) rfl rfl) rfl ?_; (try simp only [Act.put, lyy])
  refine qab ?_
  go_upto_region 2 with fail; refine wp_region_lit ?_
  refine qaa (qae (v := .int .i64 (k : Int)) rfl rfl) rfl ?_; (try simp only [Act.put, lyy])
  refine qaa (qbr (c := false) rfl rfl rfl (decide_eq_false (by omega))) rfl ?_; (try simp only [Act.put, lyy])
  refine qab ?_
  obtain ⟨g, fo, rfl, hg, hr⟩ := HA.out _ E.out.f
  rw [pkC_en] at hr
  have HR : Hid (a7.rangeAt g (fo + k * 33 + 1) (q.key.map b8)) := Lib.hid (by have h6 := qcc (k := 32) (qcd (k := 1) hr); rwa [enR_Key (by rw [List.length_map, hkl])] at h6)
  clear hr HA
  go_upto_region 4 with fail; refine wp_region_lit ?_
  refine qaa (qan (s := 0) (k := 34) rfl Tryd.underlying29 rfl (by kernel_rfl) rfl rfl) rfl ?_; (try simp only [Act.put, lyy])
  refine qaa (qav rfl Tryd.underlying25 rfl rfl ((E.out.get (i := 2) rfl).c 34 _ (qal (by rw [List.length_map, k1])))) rfl ?_; (try simp only [Act.put, lyy])
  refine qaa (qae (v := .int .i64 (k : Int)) rfl rfl) rfl ?_; (try simp only [Act.put, lyy])
  refine qaa (qcl (z := 33) rfl Tryd.underlying25 (by kernel_rfl) rfl rfl (by omega)) rfl ?_; (try simp only [Act.put, lyy])
  refine qaa (qan (s := 31) (k := 1) rfl Tryd.underlying34 rfl (by kernel_rfl) rfl rfl) rfl ?_; (try simp only [Act.put, lyy])
  refine qaa (qaj (vs := q.key.map b8) rfl Tryd.underlying24 rfl (szR (by rw [List.length_map, hkl]) (by kernel_rfl)) rfl HR.out) rfl ?_; (try simp only [Act.put, lyy])
  refine qag (qar (vs := q.key.map b8) rfl (szR (by rw [List.length_map, hkl]) (by kernel_rfl)) rfl rfl (One.all (One.b8 _)) ((E.out.get (i := 0) rfl).thereM (by have q1 : (q.key.map b8).length = 32 := (by rw [List.length_map, hkl]); have q2 : (z8 32).length = 32 := (qa7 32); omega))) rfl rfl ?_
  replace E := Lib.hid (E.out.put 0 rfl (m := q.key.map b8) ((show (q.key.map b8).length = 32 from (by rw [List.length_map, hkl])).trans (show (z8 32).length = 32 from (qa7 32)).symm))
  generalize a7.setCells g6 0 (q.key.map b8) = a8 at *
  replace E := Lib.hid (show Ev _ [(g6, q.key.map b8), (g4, [.int .i64 d]), (g2, lsR (.int .i64 m.acc) (.int .i64 m.ver) (m.ident.map b8) (.slice (some ⟨g, fo, none⟩) m.devs.length c0) (m.sig.map b8))] _ _ _ a8 from E.out)
  refine qaa (qaf (v := .bool true) rfl rfl) rfl ?_; (try simp only [Act.put, lyy])
  refine qab ?_
  go_wp2_with fail
  exact bodyPost_ret (v := .tuple #[.agg (q.key.map b8).toArray, .bool true]) (qbm Tryd.results8 rfl Tryd.underlying24 rfl (szR (by rw [List.length_map, hkl]) (by kernel_rfl)) (E.out.get (i := 0) rfl).range) rfl ⟨rfl, E.out.bl⟩
 ·have HI : Hid (fdI m.devs d = -1) := Lib.hid (by unfold fdI; rw [if_neg hf])
  have HB : Hid (fdB m.devs d = false) := Lib.hid (decide_eq_false hf)
  have HQ : Hid (fdK m.devs d = k0) := Lib.hid (by unfold fdK; rw [List.getD_eq_getElem?_getD, List.getElem?_eq_none (by omega)]; rfl)
  rw [HI.out] at CI
  rw [HQ.out, HB.out]
  clear HI HB HQ hf
  generalize k0 = z at *
  go_enter Tryd.func8, Tryd.ntmps8
  go_upto_region 0 with fail; refine wp_region_lit ?_
  refine qaa (qau (vs := lsR (.int .i64 m.acc) (.int .i64 m.ver) (m.ident.map b8) (.slice a0 m.devs.length c0) (m.sig.map b8)) rfl rfl) rfl ?_; (try simp only [Act.put, lyy])
  replace E := Lib.hid (E.out.new (lsR (.int .i64 m.acc) (.int .i64 m.ver) (m.ident.map b8) (.slice a0 m.devs.length c0) (m.sig.map b8)) 29)
  generalize w.alloc (.cells (lsR (.int .i64 m.acc) (.int .i64 m.ver) (m.ident.map b8) (.slice a0 m.devs.length c0) (m.sig.map b8)).toArray 29) = a1 at *
  generalize w.heap.size = g2 at *
  refine qaa (run_box1 (v := .int .i64 d) rfl rfl rfl) rfl ?_; (try simp only [Act.put, lyy])
  replace E := Lib.hid (E.out.new ([.int .i64 d]) 3)
  generalize a1.alloc (.cells ([.int .i64 d]).toArray 3) = a3 at *
  generalize a1.heap.size = g4 at *
  refine qaa (qat (vs := z8 32) rfl (by kernel_rfl)) rfl ?_; (try simp only [Act.put, lyy])
  replace E := Lib.hid (E.out.new (z8 32) 24)
  generalize a3.alloc (.cells (z8 32).toArray 24) = a5 at *
  generalize a3.heap.size = g6 at *
  refine qaa (qaf (v := .bool false) rfl rfl) rfl ?_; (try simp only [Act.put, lyy])
  refine qab ?_
  go_upto_region 1 with fail; refine wp_region_lit ?_
  refine qaa (qan (s := 0) (k := 34) rfl Tryd.underlying29 rfl (by kernel_rfl) rfl rfl) rfl ?_; (try simp only [Act.put, lyy])
  refine qaa (qav rfl Tryd.underlying25 rfl rfl ((E.out.get (i := 2) rfl).c 34 _ (qal (by rw [List.length_map, k1])))) rfl ?_; (try simp only [Act.put, lyy])
  refine qaa (run_mkf1 rfl rfl) rfl ?_; (try simp only [Act.put, lyy])
  refine qam (qao enters_idxf rfl rfl rfl rfl) rfl (CI.out _ _ E.out.froF (E.out.get (i := 1) rfl).lt ((E.out.get (i := 1) rfl).c 0 _ rfl)) (fun a7 hb => ?_); (try simp only [Act.put, lyy])
  replace E := Lib.hid (E.out.below hb)
  clear hb
  refine qaa (qaf (v := .int .i64 (-1)) rfl rfl) rfl ?_; (try simp only [Act.put, lyy])
  refine qab ?_
  go_upto_region 2 with fail; refine wp_region_lit ?_
  refine qaa (qae (v := .int .i64 (-1)) rfl rfl) rfl ?_; (try simp only [Act.put, lyy])
  refine qaa (qbr (c := true) rfl rfl rfl (decide_eq_true (by omega))) rfl ?_; (try simp only [Act.put, lyy])
  refine qab ?_
  go_upto_region 3 with fail; refine wp_region_lit ?_
  refine qaa (qcb (ps := []) rfl rfl KZ.out) rfl ?_; (try simp only [Act.put, lyy])
  refine qag (qar (vs := z.map b8) rfl (szR (by rw [List.length_map, lz]) (by kernel_rfl)) rfl rfl (One.all (One.b8 _)) ((E.out.get (i := 0) rfl).thereM (by have q1 : (z.map b8).length = 32 := (by rw [List.length_map, lz]); have q2 : (z8 32).length = 32 := (qa7 32); omega))) rfl rfl ?_
  replace E := Lib.hid (E.out.put 0 rfl (m := z.map b8) ((show (z.map b8).length = 32 from (by rw [List.length_map, lz])).trans (show (z8 32).length = 32 from (qa7 32)).symm))
  generalize a7.setCells g6 0 (z.map b8) = a8 at *
  replace E := Lib.hid (show Ev _ [(g6, z.map b8), (g4, [.int .i64 d]), (g2, lsR (.int .i64 m.acc) (.int .i64 m.ver) (m.ident.map b8) (.slice a0 m.devs.length c0) (m.sig.map b8))] _ _ _ a8 from E.out)
  refine qaa (qaf (v := .bool false) rfl rfl) rfl ?_; (try simp only [Act.put, lyy])
  refine qab ?_
  go_wp2_with fail
  exact bodyPost_ret (v := .tuple #[.agg (z.map b8).toArray, .bool false]) (qbm Tryd.results8 rfl Tryd.underlying24 rfl (szR (by rw [List.length_map, lz]) (by kernel_rfl)) (E.out.get (i := 0) rfl).range) rfl ⟨rfl, E.out.bl⟩
end Go.Proofs.YtcgbgmbnagmohaaDoor
