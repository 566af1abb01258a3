import Derived.Test.YtcgbgmbnagmohaaLy
import Derived.Test.YtcgbgmbnagmohaaPwA
namespace Go.Proofs.Ytcgbgmbnagmohaa
open Go.RowKit
set_option maxRecDepth 20000
attribute [local irreducible] wpList
theorem qaw : Enters 68 := qak Try.func68 (by kernel_rfl) rfl
set_option maxHeartbeats 4000000 in
theorem qbb (w : World) (p : Nat) (L : List (Nat × List Value)) (l : List (BitVec 8)) (n : Int) (u : World) (hb : l.length + (viB n).length ≤ 100000000000) (H : Ww w p L l u) : Calls Try.prog 68 #[.pointer (some ⟨p, 0, none⟩), .int .i64 n] u fun e u' => ∃ v', e = .returned v' ∧ Ww w p L (l ++ (viB n)) u' := by
  have EC : Hid (min (max n 0) 1099511627776 = ((clN n : Nat) : Int)) := Lib.hid (by unfold clN; omega)
  have EV : Hid (viB n = viF 5 (clN n)) := Lib.hid rfl
  have N0 := Lib.hid (NuI.start (clN_le n))
  have hvl := qbi n
  have HB := Lib.hid hb
  have E := Lib.hid H
  clear hb H
  generalize viB n = out at *
  generalize clN n = c at *
  go_enter Try.func68, Try.ntmps68
  go_upto_region 0 with fail; refine wp_region_lit ?_
  refine qaa (qad (v := .int .i64 n) rfl rfl) rfl ?_; (try simp only [Act.put, lyy])
  refine qaa (run_maxI _ rfl rfl rfl) rfl ?_; (try simp only [Act.put, lyy])
  refine qaa (run_minI _ rfl rfl rfl) rfl ?_; (try simp only [Act.put, lyy])
  rw [EC.out]
  refine qaa (qai (v := .int .i64 (c : Int)) rfl rfl) rfl ?_; (try simp only [Act.put, lyy])
  refine qab ?_
  go_wp2_with fail
  go_loopw [1] (fun s1 u => ∃ (m : Nat) (pre : List (BitVec 8)), s1 = .int .i64 (m : Int) ∧ NuI c pre m ∧ Ww w p L (l ++ pre) u) (fun s1 _ => (intOf s1).toNat)
  case atStart => exact ⟨c, [], rfl, N0.out, by rw [List.append_nil]; exact E.out⟩
  case round =>
    obtain ⟨m, pre, rfl, hN, hJ⟩ := hrel
    replace E := Lib.hid hJ
    have HN := Lib.hid hN
    have hpl := hN.len
    have hml := hN.le
    have HL : Hid (l.length + pre.length + 1 ≤ 100000000000) := Lib.hid (by have h1 := HB.out; have h2 := congrArg List.length EV.out; obtain ⟨k, h3, -, -⟩ := hN.ex; rw [h3, List.length_append] at h2; have h4 := viF_pos k m; omega)
    clear hJ hN
    by_cases hlt : 127 < m
    · have NX := Lib.hid (HN.out.step hlt)
      have EO := or128 m
      go_upto_region 1 with fail; refine wp_region_lit ?_
      refine qaa (qad (v := .int .i64 (m : Int)) rfl rfl) rfl ?_; (try simp only [Act.put, lyy])
      refine qaa (run_geqI (c := true) rfl rfl rfl (decide_eq_true (by omega))) rfl ?_; (try simp only [Act.put, lyy])
      refine qab ?_
      go_upto_region 3 with fail; refine wp_region_lit ?_
      obtain ⟨v, G⟩ := E.out.ex
      have GG := Lib.hid G
      clear G
      refine qaa (qad (v := .pointer (some ⟨p, 0, none⟩)) rfl rfl) rfl ?_; (try simp only [Act.put, lyy])
      refine qaa (qad (v := .pointer (some ⟨p, 0, none⟩)) rfl rfl) rfl ?_; (try simp only [Act.put, lyy])
      refine qaa (qb5 rfl rfl) rfl ?_; (try simp only [Act.put, lyy])
      refine qaa (qar (s := 0) (k := 0) rfl Try.underlying136 rfl (by kernel_rfl) rfl rfl) rfl ?_; (try simp only [Act.put, lyy])
      refine qaa (qav (v := v) rfl Try.underlying22 rfl rfl ((GG.out.get (i := L.length) (qcb _ _)).c 0 _ rfl)) rfl ?_; (try simp only [Act.put, lyy])
      clear E
      refine qaa (qad (v := .int .i64 (m : Int)) rfl rfl) rfl ?_; (try simp only [Act.put, lyy])
      refine qaa (run_cvi_8 (n := m) rfl rfl) rfl ?_; (try simp only [Act.put, lyy])
      refine qaa (run_or8 (b := 128#8) rfl rfl rfl) rfl ?_; (try simp only [Act.put, lyy])
      rw [EO]
      generalize BitVec.ofNat 8 (m % 128 + 128) = x at *
      refine qaa (run_bsl (cells := #[b8 x]) (z := .int .u8 0) rfl Try.underlying22 (by kernel_rfl) (by omega) (by omega) (by kernel_rfl)) rfl ?_; (try simp only [Act.put, lyy])
      have HX := Lib.hid (sl_one wr x)
      replace GG := Lib.hid (GG.out.below ((Below.refl wr.heap.size wr).alloc (Nat.le_refl _) (.cells #[b8 x] 5)))
      generalize wr.alloc (.cells #[b8 x] 5) = o5 at *
      generalize wr.heap.size = g5 at *
      refine wpList_growB rfl rfl rfl rfl HX.out (by rw [List.length_append]; exact HL.out) GG.out (fun v5 y5 hG => ?_); (try simp only [Act.put, lyy])
      replace GG := Lib.hid hG
      clear hG HX
      obtain ⟨xa, xn, xc, rfl⟩ := GG.out.isSlice
      refine qaa (qb5 rfl rfl) rfl ?_; (try simp only [Act.put, lyy])
      refine qaa (qar (s := 0) (k := 0) rfl Try.underlying136 rfl (by kernel_rfl) rfl rfl) rfl ?_; (try simp only [Act.put, lyy])
      refine qah (qb1 (v := .slice xa xn xc) rfl (by kernel_rfl) rfl rfl rfl rfl ((GG.out.get (i := L.length) (qcb _ _)).c 0 _ rfl) ((GG.out.get (i := L.length) (qcb _ _)).f 0)) rfl rfl ?_
      have E := Lib.hid (Gw.stored GG.out)
      clear GG
      generalize y5.setCell ⟨p, 0, none⟩ (.slice xa xn xc) = z5 at *
      refine qab ?_
      replace E := Lib.hid (E.out.cast (List.append_assoc _ _ _))
      go_upto_region 2 with fail; refine wp_region_lit ?_
      refine qaa (qad (v := .int .i64 (m : Int)) rfl rfl) rfl ?_; (try simp only [Act.put, lyy])
      refine qaa (run_shri (n := m) (k := 7) rfl rfl rfl (by omega)) rfl ?_; (try simp only [Act.put, lyy])
      refine qaa (qai (v := .int .i64 ((m / 128 : Nat) : Int)) rfl rfl) rfl ?_; (try simp only [Act.put, lyy])
      refine qab ?_
      go_wp2_with fail
      exact ⟨⟨m / 128, pre ++ [x], rfl, NX.out, E.out⟩, by simp [intOf]; omega⟩
    · have EO := Lib.hid (HN.out.done (by omega))
      go_upto_region 1 with fail; refine wp_region_lit ?_
      refine qaa (qad (v := .int .i64 (m : Int)) rfl rfl) rfl ?_; (try simp only [Act.put, lyy])
      refine qaa (run_geqI (c := false) rfl rfl rfl (decide_eq_false (by omega))) rfl ?_; (try simp only [Act.put, lyy])
      refine qab ?_
      go_upto_region 4 with fail; refine wp_region_lit ?_
      obtain ⟨v, G⟩ := E.out.ex
      have GG := Lib.hid G
      clear G
      refine qaa (qad (v := .pointer (some ⟨p, 0, none⟩)) rfl rfl) rfl ?_; (try simp only [Act.put, lyy])
      refine qaa (qad (v := .pointer (some ⟨p, 0, none⟩)) rfl rfl) rfl ?_; (try simp only [Act.put, lyy])
      refine qaa (qb5 rfl rfl) rfl ?_; (try simp only [Act.put, lyy])
      refine qaa (qar (s := 0) (k := 0) rfl Try.underlying136 rfl (by kernel_rfl) rfl rfl) rfl ?_; (try simp only [Act.put, lyy])
      refine qaa (qav (v := v) rfl Try.underlying22 rfl rfl ((GG.out.get (i := L.length) (qcb _ _)).c 0 _ rfl)) rfl ?_; (try simp only [Act.put, lyy])
      clear E
      refine qaa (qad (v := .int .i64 (m : Int)) rfl rfl) rfl ?_; (try simp only [Act.put, lyy])
      refine qaa (run_cvi_8 (n := m) rfl rfl) rfl ?_; (try simp only [Act.put, lyy])
      generalize BitVec.ofNat 8 m = x at *
      refine qaa (run_bsl (cells := #[b8 x]) (z := .int .u8 0) rfl Try.underlying22 (by kernel_rfl) (by omega) (by omega) (by kernel_rfl)) rfl ?_; (try simp only [Act.put, lyy])
      have HX := Lib.hid (sl_one wr x)
      replace GG := Lib.hid (GG.out.below ((Below.refl wr.heap.size wr).alloc (Nat.le_refl _) (.cells #[b8 x] 5)))
      generalize wr.alloc (.cells #[b8 x] 5) = o5 at *
      generalize wr.heap.size = g5 at *
      refine wpList_growB rfl rfl rfl rfl HX.out (by rw [List.length_append]; exact HL.out) GG.out (fun v5 y5 hG => ?_); (try simp only [Act.put, lyy])
      replace GG := Lib.hid hG
      clear hG HX
      obtain ⟨xa, xn, xc, rfl⟩ := GG.out.isSlice
      refine qaa (qb5 rfl rfl) rfl ?_; (try simp only [Act.put, lyy])
      refine qaa (qar (s := 0) (k := 0) rfl Try.underlying136 rfl (by kernel_rfl) rfl rfl) rfl ?_; (try simp only [Act.put, lyy])
      refine qah (qb1 (v := .slice xa xn xc) rfl (by kernel_rfl) rfl rfl rfl rfl ((GG.out.get (i := L.length) (qcb _ _)).c 0 _ rfl) ((GG.out.get (i := L.length) (qcb _ _)).f 0)) rfl rfl ?_
      have E := Lib.hid (Gw.stored GG.out)
      clear GG
      generalize y5.setCell ⟨p, 0, none⟩ (.slice xa xn xc) = z5 at *
      refine qab ?_
      replace E := Lib.hid (E.out.cast (show l ++ pre ++ [x] = l ++ out by rw [EV.out, EO.out, List.append_assoc]))
      go_wp2_with fail
      exact bodyPost_end (results_none Try.results68 _ _ _) rfl ⟨_, rfl, E.out⟩
theorem enters_wtru : Enters 98 := qak Try.func98 (by kernel_rfl) rfl
set_option maxHeartbeats 4000000 in
theorem wtru_any (w : World) (p : Nat) (L : List (Nat × List Value)) (l : List (BitVec 8)) (b : Bool) (u : World) (hb : l.length + (trB b).length ≤ 100000000000) (H : Ww w p L l u) : Calls Try.prog 98 #[.pointer (some ⟨p, 0, none⟩), .bool b] u fun e u' => ∃ v', e = .returned v' ∧ Ww w p L (l ++ (trB b)) u' := by
  have HB := Lib.hid (show l.length + 1 ≤ 100000000000 from hb)
  have E := Lib.hid H
  clear hb H
  go_enter Try.func98, Try.ntmps98
  go_upto_region 0 with fail; refine wp_region_lit ?_
  refine qaa (qad (v := .bool b) rfl rfl) rfl ?_; (try simp only [Act.put, lyy])
  refine qab ?_
  cases b
  · go_upto_region 2 with fail; refine wp_region_lit ?_
    obtain ⟨v, G⟩ := E.out.ex
    have GG := Lib.hid G
    clear G
    refine qaa (qad (v := .pointer (some ⟨p, 0, none⟩)) rfl rfl) rfl ?_; (try simp only [Act.put, lyy])
    refine qaa (qad (v := .pointer (some ⟨p, 0, none⟩)) rfl rfl) rfl ?_; (try simp only [Act.put, lyy])
    refine qaa (qb5 rfl rfl) rfl ?_; (try simp only [Act.put, lyy])
    refine qaa (qar (s := 0) (k := 0) rfl Try.underlying136 rfl (by kernel_rfl) rfl rfl) rfl ?_; (try simp only [Act.put, lyy])
    refine qaa (qav (v := v) rfl Try.underlying22 rfl rfl ((GG.out.get (i := L.length) (qcb _ _)).c 0 _ rfl)) rfl ?_; (try simp only [Act.put, lyy])
    clear E
    refine qaa (run_bsl (cells := #[b8 0]) (z := .int .u8 0) rfl Try.underlying22 (by kernel_rfl) (by omega) (by omega) (by kernel_rfl)) rfl ?_; (try simp only [Act.put, lyy])
    have HX := Lib.hid (sl_one u 0)
    replace GG := Lib.hid (GG.out.below ((Below.refl u.heap.size u).alloc (Nat.le_refl _) (.cells #[b8 0] 5)))
    generalize u.alloc (.cells #[b8 0] 5) = o5 at *
    generalize u.heap.size = g5 at *
    refine wpList_growB rfl rfl rfl rfl HX.out (HB.out) GG.out (fun v5 y5 hG => ?_); (try simp only [Act.put, lyy])
    replace GG := Lib.hid hG
    clear hG HX
    obtain ⟨xa, xn, xc, rfl⟩ := GG.out.isSlice
    refine qaa (qb5 rfl rfl) rfl ?_; (try simp only [Act.put, lyy])
    refine qaa (qar (s := 0) (k := 0) rfl Try.underlying136 rfl (by kernel_rfl) rfl rfl) rfl ?_; (try simp only [Act.put, lyy])
    refine qah (qb1 (v := .slice xa xn xc) rfl (by kernel_rfl) rfl rfl rfl rfl ((GG.out.get (i := L.length) (qcb _ _)).c 0 _ rfl) ((GG.out.get (i := L.length) (qcb _ _)).f 0)) rfl rfl ?_
    have E := Lib.hid (Gw.stored GG.out)
    clear GG
    generalize y5.setCell ⟨p, 0, none⟩ (.slice xa xn xc) = z5 at *
    refine qab ?_
    go_wp2_with fail
    exact bodyPost_end (results_none Try.results98 _ _ _) rfl ⟨_, rfl, E.out⟩
  · go_upto_region 1 with fail; refine wp_region_lit ?_
    obtain ⟨v, G⟩ := E.out.ex
    have GG := Lib.hid G
    clear G
    refine qaa (qad (v := .pointer (some ⟨p, 0, none⟩)) rfl rfl) rfl ?_; (try simp only [Act.put, lyy])
    refine qaa (qad (v := .pointer (some ⟨p, 0, none⟩)) rfl rfl) rfl ?_; (try simp only [Act.put, lyy])
    refine qaa (qb5 rfl rfl) rfl ?_; (try simp only [Act.put, lyy])
    refine qaa (qar (s := 0) (k := 0) rfl Try.underlying136 rfl (by kernel_rfl) rfl rfl) rfl ?_; (try simp only [Act.put, lyy])
    refine qaa (qav (v := v) rfl Try.underlying22 rfl rfl ((GG.out.get (i := L.length) (qcb _ _)).c 0 _ rfl)) rfl ?_; (try simp only [Act.put, lyy])
    clear E
    refine qaa (run_bsl (cells := #[b8 1]) (z := .int .u8 0) rfl Try.underlying22 (by kernel_rfl) (by omega) (by omega) (by kernel_rfl)) rfl ?_; (try simp only [Act.put, lyy])
    have HX := Lib.hid (sl_one u 1)
    replace GG := Lib.hid (GG.out.below ((Below.refl u.heap.size u).alloc (Nat.le_refl _) (.cells #[b8 1] 5)))
    generalize u.alloc (.cells #[b8 1] 5) = o5 at *
    generalize u.heap.size = g5 at *
    refine wpList_growB rfl rfl rfl rfl HX.out (HB.out) GG.out (fun v5 y5 hG => ?_); (try simp only [Act.put, lyy])
    replace GG := Lib.hid hG
    clear hG HX
    obtain ⟨xa, xn, xc, rfl⟩ := GG.out.isSlice
    refine qaa (qb5 rfl rfl) rfl ?_; (try simp only [Act.put, lyy])
    refine qaa (qar (s := 0) (k := 0) rfl Try.underlying136 rfl (by kernel_rfl) rfl rfl) rfl ?_; (try simp only [Act.put, lyy])
    refine qah (qb1 (v := .slice xa xn xc) rfl (by kernel_rfl) rfl rfl rfl rfl ((GG.out.get (i := L.length) (qcb _ _)).c 0 _ rfl) ((GG.out.get (i := L.length) (qcb _ _)).f 0)) rfl rfl ?_
    have E := Lib.hid (Gw.stored GG.out)
    clear GG
    generalize y5.setCell ⟨p, 0, none⟩ (.slice xa xn xc) = z5 at *
    refine qab ?_
    go_wp2_with fail
    exact bodyPost_end (results_none Try.results98 _ _ _) rfl ⟨_, rfl, E.out⟩
theorem enters_wtxt : Enters 69 := qak Try.func69 (by kernel_rfl) rfl
set_option maxHeartbeats 4000000 in
theorem wtxt_any (w : World) (p : Nat) (L : List (Nat × List Value)) (l : List (BitVec 8)) (s : List (BitVec 8)) (u : World) (hb : l.length + (txB s).length ≤ 100000000000) (H : Ww w p L l u) : Calls Try.prog 69 #[.pointer (some ⟨p, 0, none⟩), .string (strOf s)] u fun e u' => ∃ v', e = .returned v' ∧ Ww w p L (l ++ (txB s)) u' := by
  have hvl := qbi (s.length : Int)
  have HB1 : Hid (l.length + (viB (s.length : Int)).length ≤ 100000000000) := Lib.hid (by simp only [txB, List.length_append] at hb; omega)
  have HB2 : Hid ((l ++ viB (s.length : Int)).length + s.length ≤ 100000000000) := Lib.hid (by simp only [txB, List.length_append] at hb ⊢; omega)
  have ES : Hid ((strOf s).size = s.length) := Lib.hid (by rw [← sbL_len, sbL_strOf])
  have EB : Hid (sbL (strOf s) = s) := Lib.hid (sbL_strOf s)
  have EO : Hid (l ++ viB (s.length : Int) ++ s = l ++ txB s) := Lib.hid (by simp only [txB, List.append_assoc])
  generalize strOf s = b at *
  generalize txB s = out at *
  have E := Lib.hid H
  clear hb H
  generalize hsl : s.length = n at *
  have HSL := Lib.hid hsl
  clear hsl
  have ES2 := ES.out
  clear ES
  go_enter Try.func69, Try.ntmps69
  go_upto_region 0 with fail; refine wp_region_lit ?_
  refine qaa (qad (v := .pointer (some ⟨p, 0, none⟩)) rfl rfl) rfl ?_; (try simp only [Act.put, lyy])
  refine qaa (qad (v := .string b) rfl rfl) rfl ?_; (try simp only [Act.put, lyy])
  refine qaa (run_lens rfl rfl) rfl ?_; (try simp only [Act.put, lyy])
  rw [ES2]
  refine qaf (qae qaw rfl rfl rfl rfl) rfl (qbb w p L l (n : Int) u HB1.out E.out) (fun v1 a1 hR => ?_); (try simp only [Act.put, lyy])
  replace E := Lib.hid hR
  clear hR
  refine qab ?_
  go_upto_region 1 with fail; refine wp_region_lit ?_
  obtain ⟨v, G⟩ := E.out.ex
  have GG := Lib.hid G
  clear G
  refine qaa (qad (v := .pointer (some ⟨p, 0, none⟩)) rfl rfl) rfl ?_; (try simp only [Act.put, lyy])
  refine qaa (qad (v := .pointer (some ⟨p, 0, none⟩)) rfl rfl) rfl ?_; (try simp only [Act.put, lyy])
  refine qaa (qb5 rfl rfl) rfl ?_; (try simp only [Act.put, lyy])
  refine qaa (qar (s := 0) (k := 0) rfl Try.underlying136 rfl (by kernel_rfl) rfl rfl) rfl ?_; (try simp only [Act.put, lyy])
  refine qaa (qav (v := v) rfl Try.underlying22 rfl rfl ((GG.out.get (i := L.length) (qcb _ _)).c 0 _ rfl)) rfl ?_; (try simp only [Act.put, lyy])
  have EE := E
  clear E
  refine qaa (qad (v := .string b) rfl rfl) rfl ?_; (try simp only [Act.put, lyy])
  refine wpList_growT rfl rfl rfl rfl (by rw [ES2]; exact HB2.out) GG.out (fun v5 y5 hG => ?_); (try simp only [Act.put, lyy])
  rw [EB.out] at hG
  replace GG := Lib.hid hG
  clear hG EE
  obtain ⟨xa, xn, xc, rfl⟩ := GG.out.isSlice
  refine qaa (qb5 rfl rfl) rfl ?_; (try simp only [Act.put, lyy])
  refine qaa (qar (s := 0) (k := 0) rfl Try.underlying136 rfl (by kernel_rfl) rfl rfl) rfl ?_; (try simp only [Act.put, lyy])
  refine qah (qb1 (v := .slice xa xn xc) rfl (by kernel_rfl) rfl rfl rfl rfl ((GG.out.get (i := L.length) (qcb _ _)).c 0 _ rfl) ((GG.out.get (i := L.length) (qcb _ _)).f 0)) rfl rfl ?_
  have E := Lib.hid (Gw.stored GG.out)
  clear GG
  generalize y5.setCell ⟨p, 0, none⟩ (.slice xa xn xc) = z5 at *
  refine qab ?_
  replace E := Lib.hid (E.out.cast EO.out)
  go_wp2_with fail
  exact bodyPost_end (results_none Try.results69 _ _ _) rfl ⟨_, rfl, E.out⟩
theorem enters_wbyt : Enters 100 := qak Try.func100 (by kernel_rfl) rfl
set_option maxHeartbeats 4000000 in
theorem wbyt_any (w : World) (p : Nat) (L : List (Nat × List Value)) (l : List (BitVec 8)) (s : List (BitVec 8)) (a0 : Option Addr) (c0 : Nat) (u : World) (hs : Fro 0 (Sl (.slice a0 s.length c0) s) w) (hb : l.length + (viB (s.length : Int) ++ s).length ≤ 100000000000) (H : Ww w p L l u) : Calls Try.prog 100 #[.pointer (some ⟨p, 0, none⟩), .slice a0 s.length c0] u fun e u' => ∃ v', e = .returned v' ∧ Ww w p L (l ++ (viB (s.length : Int) ++ s)) u' := by
  have hvl := qbi (s.length : Int)
  have HB1 : Hid (l.length + (viB (s.length : Int)).length ≤ 100000000000) := Lib.hid (by simp only [List.length_append] at hb; omega)
  have HB2 : Hid ((l ++ viB (s.length : Int)).length + s.length ≤ 100000000000) := Lib.hid (by simp only [List.length_append] at hb ⊢; omega)
  have HS := Lib.hid hs
  clear hs
  have EO : Hid (l ++ viB (s.length : Int) ++ s = l ++ (viB (s.length : Int) ++ s)) := Lib.hid (List.append_assoc _ _ _)
  generalize viB (s.length : Int) ++ s = out at *
  have E := Lib.hid H
  clear hb H
  generalize hsl : s.length = n at *
  have HSL := Lib.hid hsl
  clear hsl
  go_enter Try.func100, Try.ntmps100
  go_upto_region 0 with fail; refine wp_region_lit ?_
  refine qaa (qad (v := .pointer (some ⟨p, 0, none⟩)) rfl rfl) rfl ?_; (try simp only [Act.put, lyy])
  refine qaa (qad (v := .slice a0 n c0) rfl rfl) rfl ?_; (try simp only [Act.put, lyy])
  refine qaa (qba rfl Try.underlying22 rfl) rfl ?_; (try simp only [Act.put, lyy])
  refine qaf (qae qaw rfl rfl rfl rfl) rfl (qbb w p L l (n : Int) u HB1.out E.out) (fun v1 a1 hR => ?_); (try simp only [Act.put, lyy])
  replace E := Lib.hid hR
  clear hR
  refine qab ?_
  go_upto_region 1 with fail; refine wp_region_lit ?_
  obtain ⟨v, G⟩ := E.out.ex
  have GG := Lib.hid G
  clear G
  refine qaa (qad (v := .pointer (some ⟨p, 0, none⟩)) rfl rfl) rfl ?_; (try simp only [Act.put, lyy])
  refine qaa (qad (v := .pointer (some ⟨p, 0, none⟩)) rfl rfl) rfl ?_; (try simp only [Act.put, lyy])
  refine qaa (qb5 rfl rfl) rfl ?_; (try simp only [Act.put, lyy])
  refine qaa (qar (s := 0) (k := 0) rfl Try.underlying136 rfl (by kernel_rfl) rfl rfl) rfl ?_; (try simp only [Act.put, lyy])
  refine qaa (qav (v := v) rfl Try.underlying22 rfl rfl ((GG.out.get (i := L.length) (qcb _ _)).c 0 _ rfl)) rfl ?_; (try simp only [Act.put, lyy])
  have EE := E
  clear E
  refine qaa (qad (v := .slice a0 n c0) rfl rfl) rfl ?_; (try simp only [Act.put, lyy])
  refine wpList_growB (m := s) rfl rfl rfl rfl (HS.out.below EE.out.bl).now (by rw [HSL.out]; exact HB2.out) GG.out (fun v5 y5 hG => ?_); (try simp only [Act.put, lyy])
  replace GG := Lib.hid hG
  clear hG EE
  obtain ⟨xa, xn, xc, rfl⟩ := GG.out.isSlice
  refine qaa (qb5 rfl rfl) rfl ?_; (try simp only [Act.put, lyy])
  refine qaa (qar (s := 0) (k := 0) rfl Try.underlying136 rfl (by kernel_rfl) rfl rfl) rfl ?_; (try simp only [Act.put, lyy])
  refine qah (qb1 (v := .slice xa xn xc) rfl (by kernel_rfl) rfl rfl rfl rfl ((GG.out.get (i := L.length) (qcb _ _)).c 0 _ rfl) ((GG.out.get (i := L.length) (qcb _ _)).f 0)) rfl rfl ?_
  have E := Lib.hid (Gw.stored GG.out)
  clear GG
  generalize y5.setCell ⟨p, 0, none⟩ (.slice xa xn xc) = z5 at *
  refine qab ?_
  replace E := Lib.hid (E.out.cast EO.out)
  go_wp2_with fail
  exact bodyPost_end (results_none Try.results100 _ _ _) rfl ⟨_, rfl, E.out⟩
theorem enters_wnon : Enters 99 := qak Try.func99 (by kernel_rfl) rfl
set_option maxHeartbeats 4000000 in
theorem wnon_any (w : World) (p : Nat) (L : List (Nat × List Value)) (l : List (BitVec 8)) (n : Int) (u : World) (h0 : -9223372036854775808 ≤ n) (hb : l.length + (viB (oneN n)).length ≤ 100000000000) (H : Ww w p L l u) : Calls Try.prog 99 #[.pointer (some ⟨p, 0, none⟩), .int .i64 n] u fun e u' => ∃ v', e = .returned v' ∧ Ww w p L (l ++ (viB (oneN n))) u' := by
  have EO : Hid (viB (oneN n) = viB (min n 1099511627776 + 1)) := Lib.hid (by unfold viB; congr 1; unfold oneN clN; split <;> omega)
  rw [EO.out] at hb ⊢
  have HB := Lib.hid hb
  have E := Lib.hid H
  clear hb H EO
  go_enter Try.func99, Try.ntmps99
  go_upto_region 0 with fail; refine wp_region_lit ?_
  refine qaa (qad (v := .pointer (some ⟨p, 0, none⟩)) rfl rfl) rfl ?_; (try simp only [Act.put, lyy])
  refine qaa (qad (v := .int .i64 n) rfl rfl) rfl ?_; (try simp only [Act.put, lyy])
  refine qaa (run_minI _ rfl rfl rfl) rfl ?_; (try simp only [Act.put, lyy])
  refine qaa (run_add rfl rfl rfl (by omega) (by omega)) rfl ?_; (try simp only [Act.put, lyy])
  refine qaf (qae qaw rfl rfl rfl rfl) rfl (qbb w p L l _ u HB.out E.out) (fun v1 a1 hR => ?_); (try simp only [Act.put, lyy])
  replace E := Lib.hid hR
  clear hR
  refine qab ?_
  go_wp2_with fail
  exact bodyPost_end (results_none Try.results99 _ _ _) rfl ⟨_, rfl, E.out⟩
end Go.Proofs.Ytcgbgmbnagmohaa
