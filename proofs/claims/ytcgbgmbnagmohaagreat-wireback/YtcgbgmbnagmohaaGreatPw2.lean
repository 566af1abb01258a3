import Derived.Test.YtcgbgmbnagmohaaGreatLy
import Derived.Test.YtcgbgmbnagmohaaGreatPwA
namespace Go.Proofs.YtcgbgmbnagmohaaGreat
open Go.RowKit
set_option maxRecDepth 20000
attribute [local irreducible] wpList
theorem qa5 : Enters 108 := qan Tryz.func108 (by kernel_rfl) rfl
set_option maxHeartbeats 4000000 in
theorem qbn (w : World) (p : Nat) (L : List (Nat × List Value)) (l : List (BitVec 8)) (n : Int) (u : World) (hb : l.length + (viB n).length ≤ 100000000000) (H : Ww w p L l u) : Calls Tryz.prog 108 #[.pointer (some ⟨p, 0, none⟩), .int .i64 n] u fun e u' => ∃ v', e = .returned v' ∧ Ww w p L (l ++ (viB n)) u' := by
  have EC : Hid (min (max n 0) 1099511627776 = ((clN n : Nat) : Int)) := Lib.hid (by unfold clN; omega)
  have EV : Hid (viB n = viF 5 (clN n)) := Lib.hid rfl
  have N0 := Lib.hid (NuI.start (clN_le n))
  have hvl := qbv n
  have HB := Lib.hid hb
  have E := Lib.hid H
  clear hb H
  generalize viB n = out at *
  generalize clN n = c at *
  go_enter Tryz.func108, Tryz.ntmps108
  go_upto_region 0 with fail; refine wp_region_lit ?_
  refine qaa (qad (v := .int .i64 n) rfl rfl) rfl ?_; (try simp only [Act.put, lyy])
  refine qaa (run_maxI _ rfl rfl rfl) rfl ?_; (try simp only [Act.put, lyy])
  refine qaa (run_minI _ rfl rfl rfl) rfl ?_; (try simp only [Act.put, lyy])
  rw [EC.out]
  refine qaa (qak (v := .int .i64 (c : Int)) rfl rfl) rfl ?_; (try simp only [Act.put, lyy])
  refine qab ?_
  go_wp2_with fail
  go_loopw [1] (fun s1 u => ∃ (m : Nat) (pre : List (BitVec 8)), s1 = .int .i64 (m : Int) ∧ NuI c pre m ∧ Ww w p L (l ++ pre) u) (fun s1 _ => (intOf s1).toNat)
  case atStart => exact ⟨c, [], rfl, N0.out, by rw [List.append_nil]; exact E.out⟩
  case round =>
    obtain ⟨m, pre, rfl, hN, hJ⟩ := hrel
    replace E := Lib.hid hJ
    have HN := Lib.hid hN
    have hpl := hN.len
    have hml := hN.le
    have HL : Hid (l.length + pre.length + 1 ≤ 100000000000) := Lib.hid (by have h1 := HB.out; have h2 := congrArg List.length EV.out; obtain ⟨k, h3, -, -⟩ := hN.ex; rw [h3, List.length_append] at h2; have h4 := viF_pos k m; omega)
    clear hJ hN
    by_cases hlt : 127 < m
    · have NX := Lib.hid (HN.out.step hlt)
      have EO := or128 m
      go_upto_region 1 with fail; refine wp_region_lit ?_
      refine qaa (qad (v := .int .i64 (m : Int)) rfl rfl) rfl ?_; (try simp only [Act.put, lyy])
      refine qaa (run_geqI (c := true) rfl rfl rfl (decide_eq_true (by omega))) rfl ?_; (try simp only [Act.put, lyy])
      refine qab ?_
      go_upto_region 3 with fail; refine wp_region_lit ?_
      obtain ⟨v, G⟩ := E.out.ex
      have GG := Lib.hid G
      clear G
      refine qaa (qad (v := .pointer (some ⟨p, 0, none⟩)) rfl rfl) rfl ?_; (try simp only [Act.put, lyy])
      refine qaa (qad (v := .pointer (some ⟨p, 0, none⟩)) rfl rfl) rfl ?_; (try simp only [Act.put, lyy])
      refine qaa (qcl rfl rfl) rfl ?_; (try simp only [Act.put, lyy])
      refine qaa (qai (s := 0) (k := 0) rfl Tryz.underlying208 rfl (by kernel_rfl) rfl rfl) rfl ?_; (try simp only [Act.put, lyy])
      refine qaa (qam (v := v) rfl Tryz.underlying22 rfl rfl ((GG.out.get (i := L.length) (qct _ _)).c 0 _ rfl)) rfl ?_; (try simp only [Act.put, lyy])
      clear E
      refine qaa (qad (v := .int .i64 (m : Int)) rfl rfl) rfl ?_; (try simp only [Act.put, lyy])
      refine qaa (run_cvi_8 (n := m) rfl rfl) rfl ?_; (try simp only [Act.put, lyy])
      refine qaa (run_or8 (b := 128#8) rfl rfl rfl) rfl ?_; (try simp only [Act.put, lyy])
      rw [EO]
      generalize BitVec.ofNat 8 (m % 128 + 128) = x at *
      refine qaa (run_bsl (cells := #[b8 x]) (z := .int .u8 0) rfl Tryz.underlying22 (by kernel_rfl) (by omega) (by omega) (by kernel_rfl)) rfl ?_; (try simp only [Act.put, lyy])
      have HX := Lib.hid (sl_one wr x)
      replace GG := Lib.hid (GG.out.below ((Below.refl wr.heap.size wr).alloc (Nat.le_refl _) (.cells #[b8 x] 5)))
      generalize wr.alloc (.cells #[b8 x] 5) = o5 at *
      generalize wr.heap.size = g5 at *
      refine wpList_growB rfl rfl rfl rfl HX.out (by rw [List.length_append]; exact HL.out) GG.out (fun v5 y5 hG => ?_); (try simp only [Act.put, lyy])
      replace GG := Lib.hid hG
      clear hG HX
      obtain ⟨xa, xn, xc, rfl⟩ := GG.out.isSlice
      refine qaa (qcl rfl rfl) rfl ?_; (try simp only [Act.put, lyy])
      refine qaa (qai (s := 0) (k := 0) rfl Tryz.underlying208 rfl (by kernel_rfl) rfl rfl) rfl ?_; (try simp only [Act.put, lyy])
      refine qal (qb5 (v := .slice xa xn xc) rfl (by kernel_rfl) rfl rfl rfl rfl ((GG.out.get (i := L.length) (qct _ _)).c 0 _ rfl) ((GG.out.get (i := L.length) (qct _ _)).f 0)) rfl rfl ?_
      have E := Lib.hid (Gw.stored GG.out)
      clear GG
      generalize y5.setCell ⟨p, 0, none⟩ (.slice xa xn xc) = z5 at *
      refine qab ?_
      replace E := Lib.hid (E.out.cast (List.append_assoc _ _ _))
      go_upto_region 2 with fail; refine wp_region_lit ?_
      refine qaa (qad (v := .int .i64 (m : Int)) rfl rfl) rfl ?_; (try simp only [Act.put, lyy])
      refine qaa (run_shri (n := m) (k := 7) rfl rfl rfl (by omega)) rfl ?_; (try simp only [Act.put, lyy])
      refine qaa (qak (v := .int .i64 ((m / 128 : Nat) : Int)) rfl rfl) rfl ?_; (try simp only [Act.put, lyy])
      refine qab ?_
      go_wp2_with fail
      exact ⟨⟨m / 128, pre ++ [x], rfl, NX.out, E.out⟩, by simp [intOf]; omega⟩
    · have EO := Lib.hid (HN.out.done (by omega))
      go_upto_region 1 with fail; refine wp_region_lit ?_
      refine qaa (qad (v := .int .i64 (m : Int)) rfl rfl) rfl ?_; (try simp only [Act.put, lyy])
      refine qaa (run_geqI (c := false) rfl rfl rfl (decide_eq_false (by omega))) rfl ?_; (try simp only [Act.put, lyy])
      refine qab ?_
      go_upto_region 4 with fail; refine wp_region_lit ?_
      obtain ⟨v, G⟩ := E.out.ex
      have GG := Lib.hid G
      clear G
      refine qaa (qad (v := .pointer (some ⟨p, 0, none⟩)) rfl rfl) rfl ?_; (try simp only [Act.put, lyy])
      refine qaa (qad (v := .pointer (some ⟨p, 0, none⟩)) rfl rfl) rfl ?_; (try simp only [Act.put, lyy])
      refine qaa (qcl rfl rfl) rfl ?_; (try simp only [Act.put, lyy])
      refine qaa (qai (s := 0) (k := 0) rfl Tryz.underlying208 rfl (by kernel_rfl) rfl rfl) rfl ?_; (try simp only [Act.put, lyy])
      refine qaa (qam (v := v) rfl Tryz.underlying22 rfl rfl ((GG.out.get (i := L.length) (qct _ _)).c 0 _ rfl)) rfl ?_; (try simp only [Act.put, lyy])
      clear E
      refine qaa (qad (v := .int .i64 (m : Int)) rfl rfl) rfl ?_; (try simp only [Act.put, lyy])
      refine qaa (run_cvi_8 (n := m) rfl rfl) rfl ?_; (try simp only [Act.put, lyy])
      generalize BitVec.ofNat 8 m = x at *
      refine qaa (run_bsl (cells := #[b8 x]) (z := .int .u8 0) rfl Tryz.underlying22 (by kernel_rfl) (by omega) (by omega) (by kernel_rfl)) rfl ?_; (try simp only [Act.put, lyy])
      have HX := Lib.hid (sl_one wr x)
      replace GG := Lib.hid (GG.out.below ((Below.refl wr.heap.size wr).alloc (Nat.le_refl _) (.cells #[b8 x] 5)))
      generalize wr.alloc (.cells #[b8 x] 5) = o5 at *
      generalize wr.heap.size = g5 at *
      refine wpList_growB rfl rfl rfl rfl HX.out (by rw [List.length_append]; exact HL.out) GG.out (fun v5 y5 hG => ?_); (try simp only [Act.put, lyy])
      replace GG := Lib.hid hG
      clear hG HX
      obtain ⟨xa, xn, xc, rfl⟩ := GG.out.isSlice
      refine qaa (qcl rfl rfl) rfl ?_; (try simp only [Act.put, lyy])
      refine qaa (qai (s := 0) (k := 0) rfl Tryz.underlying208 rfl (by kernel_rfl) rfl rfl) rfl ?_; (try simp only [Act.put, lyy])
      refine qal (qb5 (v := .slice xa xn xc) rfl (by kernel_rfl) rfl rfl rfl rfl ((GG.out.get (i := L.length) (qct _ _)).c 0 _ rfl) ((GG.out.get (i := L.length) (qct _ _)).f 0)) rfl rfl ?_
      have E := Lib.hid (Gw.stored GG.out)
      clear GG
      generalize y5.setCell ⟨p, 0, none⟩ (.slice xa xn xc) = z5 at *
      refine qab ?_
      replace E := Lib.hid (E.out.cast (show l ++ pre ++ [x] = l ++ out by rw [EV.out, EO.out, List.append_assoc]))
      go_wp2_with fail
      exact bodyPost_end (results_none Tryz.results108 _ _ _) rfl ⟨_, rfl, E.out⟩
theorem enters_wtru : Enters 117 := qan Tryz.func117 (by kernel_rfl) rfl
set_option maxHeartbeats 4000000 in
theorem wtru_any (w : World) (p : Nat) (L : List (Nat × List Value)) (l : List (BitVec 8)) (b : Bool) (u : World) (hb : l.length + (trB b).length ≤ 100000000000) (H : Ww w p L l u) : Calls Tryz.prog 117 #[.pointer (some ⟨p, 0, none⟩), .bool b] u fun e u' => ∃ v', e = .returned v' ∧ Ww w p L (l ++ (trB b)) u' := by
  have HB := Lib.hid (show l.length + 1 ≤ 100000000000 from hb)
  have E := Lib.hid H
  clear hb H
  go_enter Tryz.func117, Tryz.ntmps117
  go_upto_region 0 with fail; refine wp_region_lit ?_
  refine qaa (qad (v := .bool b) rfl rfl) rfl ?_; (try simp only [Act.put, lyy])
  refine qab ?_
  cases b
  · go_upto_region 2 with fail; refine wp_region_lit ?_
    obtain ⟨v, G⟩ := E.out.ex
    have GG := Lib.hid G
    clear G
    refine qaa (qad (v := .pointer (some ⟨p, 0, none⟩)) rfl rfl) rfl ?_; (try simp only [Act.put, lyy])
    refine qaa (qad (v := .pointer (some ⟨p, 0, none⟩)) rfl rfl) rfl ?_; (try simp only [Act.put, lyy])
    refine qaa (qcl rfl rfl) rfl ?_; (try simp only [Act.put, lyy])
    refine qaa (qai (s := 0) (k := 0) rfl Tryz.underlying208 rfl (by kernel_rfl) rfl rfl) rfl ?_; (try simp only [Act.put, lyy])
    refine qaa (qam (v := v) rfl Tryz.underlying22 rfl rfl ((GG.out.get (i := L.length) (qct _ _)).c 0 _ rfl)) rfl ?_; (try simp only [Act.put, lyy])
    clear E
    refine qaa (run_bsl (cells := #[b8 0]) (z := .int .u8 0) rfl Tryz.underlying22 (by kernel_rfl) (by omega) (by omega) (by kernel_rfl)) rfl ?_; (try simp only [Act.put, lyy])
    have HX := Lib.hid (sl_one u 0)
    replace GG := Lib.hid (GG.out.below ((Below.refl u.heap.size u).alloc (Nat.le_refl _) (.cells #[b8 0] 5)))
    generalize u.alloc (.cells #[b8 0] 5) = o5 at *
    generalize u.heap.size = g5 at *
    refine wpList_growB rfl rfl rfl rfl HX.out (HB.out) GG.out (fun v5 y5 hG => ?_); (try simp only [Act.put, lyy])
    replace GG := Lib.hid hG
    clear hG HX
    obtain ⟨xa, xn, xc, rfl⟩ := GG.out.isSlice
    refine qaa (qcl rfl rfl) rfl ?_; (try simp only [Act.put, lyy])
    refine qaa (qai (s := 0) (k := 0) rfl Tryz.underlying208 rfl (by kernel_rfl) rfl rfl) rfl ?_; (try simp only [Act.put, lyy])
    refine qal (qb5 (v := .slice xa xn xc) rfl (by kernel_rfl) rfl rfl rfl rfl ((GG.out.get (i := L.length) (qct _ _)).c 0 _ rfl) ((GG.out.get (i := L.length) (qct _ _)).f 0)) rfl rfl ?_
    have E := Lib.hid (Gw.stored GG.out)
    clear GG
    generalize y5.setCell ⟨p, 0, none⟩ (.slice xa xn xc) = z5 at *
    refine qab ?_
    go_wp2_with fail
    exact bodyPost_end (results_none Tryz.results117 _ _ _) rfl ⟨_, rfl, E.out⟩
  · go_upto_region 1 with fail; refine wp_region_lit ?_
    obtain ⟨v, G⟩ := E.out.ex
    have GG := Lib.hid G
    clear G
    refine qaa (qad (v := .pointer (some ⟨p, 0, none⟩)) rfl rfl) rfl ?_; (try simp only [Act.put, lyy])
    refine qaa (qad (v := .pointer (some ⟨p, 0, none⟩)) rfl rfl) rfl ?_; (try simp only [Act.put, lyy])
    refine qaa (qcl rfl rfl) rfl ?_; (try simp only [Act.put, lyy])
    refine qaa (qai (s := 0) (k := 0) rfl Tryz.underlying208 rfl (by kernel_rfl) rfl rfl) rfl ?_; (try simp only [Act.put, lyy])
    refine qaa (qam (v := v) rfl Tryz.underlying22 rfl rfl ((GG.out.get (i := L.length) (qct _ _)).c 0 _ rfl)) rfl ?_; (try simp only [Act.put, lyy])
    clear E
    refine qaa (run_bsl (cells := #[b8 1]) (z := .int .u8 0) rfl Tryz.underlying22 (by kernel_rfl) (by omega) (by omega) (by kernel_rfl)) rfl ?_; (try simp only [Act.put, lyy])
    have HX := Lib.hid (sl_one u 1)
    replace GG := Lib.hid (GG.out.below ((Below.refl u.heap.size u).alloc (Nat.le_refl _) (.cells #[b8 1] 5)))
    generalize u.alloc (.cells #[b8 1] 5) = o5 at *
    generalize u.heap.size = g5 at *
    refine wpList_growB rfl rfl rfl rfl HX.out (HB.out) GG.out (fun v5 y5 hG => ?_); (try simp only [Act.put, lyy])
    replace GG := Lib.hid hG
    clear hG HX
    obtain ⟨xa, xn, xc, rfl⟩ := GG.out.isSlice
    refine qaa (qcl rfl rfl) rfl ?_; (try simp only [Act.put, lyy])
    refine qaa (qai (s := 0) (k := 0) rfl Tryz.underlying208 rfl (by kernel_rfl) rfl rfl) rfl ?_; (try simp only [Act.put, lyy])
    refine qal (qb5 (v := .slice xa xn xc) rfl (by kernel_rfl) rfl rfl rfl rfl ((GG.out.get (i := L.length) (qct _ _)).c 0 _ rfl) ((GG.out.get (i := L.length) (qct _ _)).f 0)) rfl rfl ?_
    have E := Lib.hid (Gw.stored GG.out)
    clear GG
    generalize y5.setCell ⟨p, 0, none⟩ (.slice xa xn xc) = z5 at *
    refine qab ?_
    go_wp2_with fail
    exact bodyPost_end (results_none Tryz.results117 _ _ _) rfl ⟨_, rfl, E.out⟩
theorem enters_wtxt : Enters 128 := qan Tryz.func128 (by kernel_rfl) rfl
set_option maxHeartbeats 4000000 in
theorem wtxt_any (w : World) (p : Nat) (L : List (Nat × List Value)) (l : List (BitVec 8)) (s : List (BitVec 8)) (u : World) (hb : l.length + (txB s).length ≤ 100000000000) (H : Ww w p L l u) : Calls Tryz.prog 128 #[.pointer (some ⟨p, 0, none⟩), .string (strOf s)] u fun e u' => ∃ v', e = .returned v' ∧ Ww w p L (l ++ (txB s)) u' := by
  have hvl := qbv (s.length : Int)
  have HB1 : Hid (l.length + (viB (s.length : Int)).length ≤ 100000000000) := Lib.hid (by simp only [txB, List.length_append] at hb; omega)
  have HB2 : Hid ((l ++ viB (s.length : Int)).length + s.length ≤ 100000000000) := Lib.hid (by simp only [txB, List.length_append] at hb ⊢; omega)
  have ES : Hid ((strOf s).size = s.length) := Lib.hid (by rw [← sbL_len, sbL_strOf])
  have EB : Hid (sbL (strOf s) = s) := Lib.hid (sbL_strOf s)
  have EO : Hid (l ++ viB (s.length : Int) ++ s = l ++ txB s) := Lib.hid (by simp only [txB, List.append_assoc])
  generalize strOf s = b at *
  generalize txB s = out at *
  have E := Lib.hid H
  clear hb H
  generalize hsl : s.length = n at *
  have HSL := Lib.hid hsl
  clear hsl
  have ES2 := ES.out
  clear ES
  go_enter Tryz.func128, Tryz.ntmps128
  go_upto_region 0 with fail; refine wp_region_lit ?_
  refine qaa (qad (v := .pointer (some ⟨p, 0, none⟩)) rfl rfl) rfl ?_; (try simp only [Act.put, lyy])
  refine qaa (qad (v := .string b) rfl rfl) rfl ?_; (try simp only [Act.put, lyy])
  refine qaa (run_lens rfl rfl) rfl ?_; (try simp only [Act.put, lyy])
  rw [ES2]
  refine qag (qaf qa5 rfl rfl rfl rfl) rfl (qbn w p L l (n : Int) u HB1.out E.out) (fun v1 a1 hR => ?_); (try simp only [Act.put, lyy])
  replace E := Lib.hid hR
  clear hR
  refine qab ?_
  go_upto_region 1 with fail; refine wp_region_lit ?_
  obtain ⟨v, G⟩ := E.out.ex
  have GG := Lib.hid G
  clear G
  refine qaa (qad (v := .pointer (some ⟨p, 0, none⟩)) rfl rfl) rfl ?_; (try simp only [Act.put, lyy])
  refine qaa (qad (v := .pointer (some ⟨p, 0, none⟩)) rfl rfl) rfl ?_; (try simp only [Act.put, lyy])
  refine qaa (qcl rfl rfl) rfl ?_; (try simp only [Act.put, lyy])
  refine qaa (qai (s := 0) (k := 0) rfl Tryz.underlying208 rfl (by kernel_rfl) rfl rfl) rfl ?_; (try simp only [Act.put, lyy])
  refine qaa (qam (v := v) rfl Tryz.underlying22 rfl rfl ((GG.out.get (i := L.length) (qct _ _)).c 0 _ rfl)) rfl ?_; (try simp only [Act.put, lyy])
  have EE := E
  clear E
  refine qaa (qad (v := .string b) rfl rfl) rfl ?_; (try simp only [Act.put, lyy])
  refine wpList_growT rfl rfl rfl rfl (by rw [ES2]; exact HB2.out) GG.out (fun v5 y5 hG => ?_); (try simp only [Act.put, lyy])
  rw [EB.out] at hG
  replace GG := Lib.hid hG
  clear hG EE
  obtain ⟨xa, xn, xc, rfl⟩ := GG.out.isSlice
  refine qaa (qcl rfl rfl) rfl ?_; (try simp only [Act.put, lyy])
  refine qaa (qai (s := 0) (k := 0) rfl Tryz.underlying208 rfl (by kernel_rfl) rfl rfl) rfl ?_; (try simp only [Act.put, lyy])
  refine qal (qb5 (v := .slice xa xn xc) rfl (by kernel_rfl) rfl rfl rfl rfl ((GG.out.get (i := L.length) (qct _ _)).c 0 _ rfl) ((GG.out.get (i := L.length) (qct _ _)).f 0)) rfl rfl ?_
  have E := Lib.hid (Gw.stored GG.out)
  clear GG
  generalize y5.setCell ⟨p, 0, none⟩ (.slice xa xn xc) = z5 at *
  refine qab ?_
  replace E := Lib.hid (E.out.cast EO.out)
  go_wp2_with fail
  exact bodyPost_end (results_none Tryz.results128 _ _ _) rfl ⟨_, rfl, E.out⟩
theorem enters_wbyt : Enters 120 := qan Tryz.func120 (by kernel_rfl) rfl
set_option maxHeartbeats 4000000 in
theorem wbyt_any (w : World) (p : Nat) (L : List (Nat × List Value)) (l : List (BitVec 8)) (s : List (BitVec 8)) (a0 : Option Addr) (c0 : Nat) (u : World) (hs : Fro 0 (Sl (.slice a0 s.length c0) s) w) (hb : l.length + (viB (s.length : Int) ++ s).length ≤ 100000000000) (H : Ww w p L l u) : Calls Tryz.prog 120 #[.pointer (some ⟨p, 0, none⟩), .slice a0 s.length c0] u fun e u' => ∃ v', e = .returned v' ∧ Ww w p L (l ++ (viB (s.length : Int) ++ s)) u' := by
  have hvl := qbv (s.length : Int)
  have HB1 : Hid (l.length + (viB (s.length : Int)).length ≤ 100000000000) := Lib.hid (by simp only [List.length_append] at hb; omega)
  have HB2 : Hid ((l ++ viB (s.length : Int)).length + s.length ≤ 100000000000) := Lib.hid (by simp only [List.length_append] at hb ⊢; omega)
  have HS := Lib.hid hs
  clear hs
  have EO : Hid (l ++ viB (s.length : Int) ++ s = l ++ (viB (s.length : Int) ++ s)) := Lib.hid (List.append_assoc _ _ _)
  generalize viB (s.length : Int) ++ s = out at *
  have E := Lib.hid H
  clear hb H
  generalize hsl : s.length = n at *
  have HSL := Lib.hid hsl
  clear hsl
  go_enter Tryz.func120, Tryz.ntmps120
  go_upto_region 0 with fail; refine wp_region_lit ?_
  refine qaa (qad (v := .pointer (some ⟨p, 0, none⟩)) rfl rfl) rfl ?_; (try simp only [Act.put, lyy])
  refine qaa (qad (v := .slice a0 n c0) rfl rfl) rfl ?_; (try simp only [Act.put, lyy])
  refine qaa (qa4 rfl Tryz.underlying22 rfl) rfl ?_; (try simp only [Act.put, lyy])
  refine qag (qaf qa5 rfl rfl rfl rfl) rfl (qbn w p L l (n : Int) u HB1.out E.out) (fun v1 a1 hR => ?_); (try simp only [Act.put, lyy])
  replace E := Lib.hid hR
  clear hR
  refine qab ?_
  go_upto_region 1 with fail; refine wp_region_lit ?_
  obtain ⟨v, G⟩ := E.out.ex
  have GG := Lib.hid G
  clear G
  refine qaa (qad (v := .pointer (some ⟨p, 0, none⟩)) rfl rfl) rfl ?_; (try simp only [Act.put, lyy])
  refine qaa (qad (v := .pointer (some ⟨p, 0, none⟩)) rfl rfl) rfl ?_; (try simp only [Act.put, lyy])
  refine qaa (qcl rfl rfl) rfl ?_; (try simp only [Act.put, lyy])
  refine qaa (qai (s := 0) (k := 0) rfl Tryz.underlying208 rfl (by kernel_rfl) rfl rfl) rfl ?_; (try simp only [Act.put, lyy])
  refine qaa (qam (v := v) rfl Tryz.underlying22 rfl rfl ((GG.out.get (i := L.length) (qct _ _)).c 0 _ rfl)) rfl ?_; (try simp only [Act.put, lyy])
  have EE := E
  clear E
  refine qaa (qad (v := .slice a0 n c0) rfl rfl) rfl ?_; (try simp only [Act.put, lyy])
  refine wpList_growB (m := s) rfl rfl rfl rfl (HS.out.below EE.out.bl).now (by rw [HSL.out]; exact HB2.out) GG.out (fun v5 y5 hG => ?_); (try simp only [Act.put, lyy])
  replace GG := Lib.hid hG
  clear hG EE
  obtain ⟨xa, xn, xc, rfl⟩ := GG.out.isSlice
  refine qaa (qcl rfl rfl) rfl ?_; (try simp only [Act.put, lyy])
  refine qaa (qai (s := 0) (k := 0) rfl Tryz.underlying208 rfl (by kernel_rfl) rfl rfl) rfl ?_; (try simp only [Act.put, lyy])
  refine qal (qb5 (v := .slice xa xn xc) rfl (by kernel_rfl) rfl rfl rfl rfl ((GG.out.get (i := L.length) (qct _ _)).c 0 _ rfl) ((GG.out.get (i := L.length) (qct _ _)).f 0)) rfl rfl ?_
  have E := Lib.hid (Gw.stored GG.out)
  clear GG
  generalize y5.setCell ⟨p, 0, none⟩ (.slice xa xn xc) = z5 at *
  refine qab ?_
  replace E := Lib.hid (E.out.cast EO.out)
  go_wp2_with fail
  exact bodyPost_end (results_none Tryz.results120 _ _ _) rfl ⟨_, rfl, E.out⟩
theorem enters_wnon : Enters 118 := qan Tryz.func118 (by kernel_rfl) rfl
set_option maxHeartbeats 4000000 in
theorem wnon_any (w : World) (p : Nat) (L : List (Nat × List Value)) (l : List (BitVec 8)) (n : Int) (u : World) (h0 : -9223372036854775808 ≤ n) (hb : l.length + (viB (oneN n)).length ≤ 100000000000) (H : Ww w p L l u) : Calls Tryz.prog 118 #[.pointer (some ⟨p, 0, none⟩), .int .i64 n] u fun e u' => ∃ v', e = .returned v' ∧ Ww w p L (l ++ (viB (oneN n))) u' := by
  have EO : Hid (viB (oneN n) = viB (min n 1099511627776 + 1)) := Lib.hid (by unfold viB; congr 1; unfold oneN clN; split <;> omega)
  rw [EO.out] at hb ⊢
  have HB := Lib.hid hb
  have E := Lib.hid H
  clear hb H EO
  go_enter Tryz.func118, Tryz.ntmps118
  go_upto_region 0 with fail; refine wp_region_lit ?_
  refine qaa (qad (v := .pointer (some ⟨p, 0, none⟩)) rfl rfl) rfl ?_; (try simp only [Act.put, lyy])
  refine qaa (qad (v := .int .i64 n) rfl rfl) rfl ?_; (try simp only [Act.put, lyy])
  refine qaa (run_minI _ rfl rfl rfl) rfl ?_; (try simp only [Act.put, lyy])
  refine qaa (run_add rfl rfl rfl (by omega) (by omega)) rfl ?_; (try simp only [Act.put, lyy])
  refine qag (qaf qa5 rfl rfl rfl rfl) rfl (qbn w p L l _ u HB.out E.out) (fun v1 a1 hR => ?_); (try simp only [Act.put, lyy])
  replace E := Lib.hid hR
  clear hR
  refine qab ?_
  go_wp2_with fail
  exact bodyPost_end (results_none Tryz.results118 _ _ _) rfl ⟨_, rfl, E.out⟩
end Go.Proofs.YtcgbgmbnagmohaaGreat
namespace Go.Proofs.YtcgbgmbnagmohaaGreat
open Go.RowKit
set_option maxRecDepth 20000
attribute [local irreducible] wpList
theorem z8_len' (n : Nat) : (z8 n).length = n := by simp [z8]
def alF {α : Type} (enc : α → List (BitVec 8)) (ms : List α) (i : Nat) : List (BitVec 8) := viB (ms.length : Int) ++ (ms.take i).flatMap enc
def alB {α : Type} (enc : α → List (BitVec 8)) (ms : List α) : List (BitVec 8) := viB (ms.length : Int) ++ ms.flatMap enc
theorem alF_zero {α : Type} (enc : α → List (BitVec 8)) (ms : List α) : viB (ms.length : Int) = alF enc ms 0 := by simp [alF]
theorem alF_all {α : Type} (enc : α → List (BitVec 8)) (ms : List α) : alF enc ms ms.length = alB enc ms := by simp [alF, alB]
theorem alF_succ {α : Type} {enc : α → List (BitVec 8)} {ms : List α} {i : Nat} (h : i < ms.length) : alF enc ms (i + 1) = alF enc ms i ++ enc ms[i] := by
  unfold alF
  rw [List.take_succ_eq_append_getElem h, List.flatMap_append]
  simp
theorem alF_head {α : Type} (enc : α → List (BitVec 8)) (ms : List α) : (viB (ms.length : Int)).length ≤ (alB enc ms).length := by unfold alB; rw [List.length_append]; omega
theorem alF_le {α : Type} (enc : α → List (BitVec 8)) (ms : List α) {i : Nat} (h : i < ms.length) : (alF enc ms i).length + (enc ms[i]).length ≤ (alB enc ms).length := by
  have e : ms = ms.take i ++ ms[i] :: ms.drop (i + 1) := by simp
  have h2 : (ms.flatMap enc).length = ((ms.take i).flatMap enc).length + ((enc ms[i]).length + ((ms.drop (i + 1)).flatMap enc).length) := by
    conv => lhs; rw [e, List.flatMap_append, List.flatMap_cons, List.length_append, List.length_append]
  unfold alF alB
  rw [List.length_append, List.length_append, h2]
  omega
theorem at_last2 {α : Type} (y : α) (L : List α) (x : α) : (y :: L ++ [x])[L.length + 1]? = some x := by simp
theorem sl_arr {u : World} {g n : Nat} (K : List (BitVec 8)) (hK : K.length = n) (hn : 0 < n) (h : Arr g (K.map b8) u) : Sl (.slice (some ⟨g, 0, none⟩) n n) K u := by
  subst hK
  exact ⟨_, _, rfl, Nat.le_refl _, fun _ => ⟨g, 0, rfl, h.lt, h.range⟩⟩
section
variable {w u : World} {ops : Array Oper} {Q : Exit → Act → World → Prop} {o : Oper} {a : Act} {S : World → Prop} {L : List (Nat × List Value)} {v : Value} {l m : List (BitVec 8)} {F H : World → Prop}
theorem wpAnyD_growB {fuel : Nat} {listed : Array Bool} {s x : Operand} (i : Nat) {d : Tmp} (hr : Region.ready .any ops listed = [i]) (hoo : ops[i]? = some o) (hd : o.dst = some d) (hw : Region.wanted o (yielded ops a.tmps) = true) (hl : (listed.setIfInBounds i true).getD i false = true)
    (ho : o.op = .call { callee := .builtin .append, args := #[s, x], argTypes := #[22, 22] }) (hs : a.eval s = v) {vx : Value} (hx : a.eval x = vx) (hv : Sl vx m u) (hn : l.length + m.length ≤ 100000000000) (G : Gw w L 5 1 v l.length (l.map b8) F H u)
    (h : ∀ v' u', Gw w L 5 1 v' (l ++ m).length ((l ++ m).map b8) F H u' → qb7 Tryz.prog ops Q (Till i S) fuel (listed.setIfInBounds i true) (a.put (some d) v') u') : qb7 Tryz.prog ops Q (Till i S) (fuel + 1) listed a u := by
  simp only [← hd] at h
  obtain ⟨v', w', hrun, h1⟩ := run_growB ho hs hx hv hn G
  refine ⟨fun e => (by rw [hr] at e; cases e), fun j hj => ?_⟩
  rw [hr] at hj
  obtain rfl : j = i := by simpa using hj
  simp only [wpOp, hoo, hw, if_true]
  refine .inl ?_
  unfold Oper.wp
  rw [hrun]
  exact ⟨.inl hl, h v' w' h1⟩
end
theorem qcp : Enters 109 := qan Tryz.func109 (by kernel_rfl) rfl
set_option maxHeartbeats 4000000 in
theorem wkey_any (w : World) (p : Nat) (L : List (Nat × List Value)) (l : List (BitVec 8)) (K : List (BitVec 8)) (u : World) (hK : K.length = 32) (hb : l.length + K.length ≤ 100000000000) (H : Ww w p L l u) : Calls Tryz.prog 109 #[.pointer (some ⟨p, 0, none⟩), .agg (K.map b8).toArray] u fun e u' => ∃ v', e = .returned v' ∧ Ww w p L (l ++ K) u' := by
  have E := Lib.hid H
  have HB := Lib.hid hb
  clear hb H
  go_enter Tryz.func109, Tryz.ntmps109
  go_upto_region 0 with fail; refine wp_region_lit ?_
  refine qaa (qa8 (vs := K.map b8) rfl rfl) rfl ?_; (try simp only [Act.put, lyy])
  replace E := Lib.hid (E.out.new (K.map b8) 27)
  generalize u.alloc (.cells (K.map b8).toArray 27) = a1 at *
  generalize u.heap.size = g1 at *
  refine qab ?_
  go_upto_region 1 with fail
  obtain ⟨v, G⟩ := E.out.ex
  have GG := Lib.hid G
  have EE := E
  clear G E
  refine wp_region_noPanic ?_; refine qbd (S := Till 6 (fun V => Below a1.heap.size a1 V)) (by kernel_rfl) (.inr (Below.refl _ _).drew) (fun _ => ?_); have hS : Below a1.heap.size a1 a1.drew := (Below.refl _ _).drew
  refine wpAnyD_free 0 rfl rfl (by kernel_rfl) (by kernel_rfl) (by kernel_rfl) (by kernel_rfl) (fun _ _ _ h => h) rfl (fun V => qad (v := .pointer (some ⟨p, 0, none⟩)) rfl rfl) hS ?_; (try simp only [Act.put, lyy])
  refine qao 1 rfl rfl (by kernel_rfl) (by kernel_rfl) (by kernel_rfl) (by kernel_rfl) (by kernel_rfl) (fun _ _ _ h => h) rfl (fun V hV => qad (v := .pointer (some ⟨p, 0, none⟩)) rfl rfl) hS ?_; (try simp only [Act.put, lyy])
  refine qao 2 rfl rfl (by kernel_rfl) (by kernel_rfl) (by kernel_rfl) (by kernel_rfl) (by kernel_rfl) (fun _ _ _ h => h) rfl (fun V hV => qcl rfl rfl) hS ?_; (try simp only [Act.put, lyy])
  refine qao 3 rfl rfl (by kernel_rfl) (by kernel_rfl) (by kernel_rfl) (by kernel_rfl) (by kernel_rfl) (fun _ _ _ h => h) rfl (fun V hV => qai (s := 0) (k := 0) rfl Tryz.underlying208 rfl (by kernel_rfl) rfl rfl) hS ?_; (try simp only [Act.put, lyy])
  refine qao 4 rfl rfl (by kernel_rfl) (by kernel_rfl) (by kernel_rfl) (by kernel_rfl) (by kernel_rfl) (fun _ _ _ h => h) rfl (fun V hV => qam rfl Tryz.underlying22 rfl rfl (((GG.out.below hV).get (i := L.length + 1) (at_last2 _ _ _)).c 0 _ rfl)) hS ?_; (try simp only [Act.put, lyy])
  refine qao 5 rfl rfl (by kernel_rfl) (by kernel_rfl) (by kernel_rfl) (by kernel_rfl) (by kernel_rfl) (fun _ _ _ h => h) rfl (fun V hV => run_slA rfl Tryz.underlying27 (by kernel_rfl) rfl) hS ?_; (try simp only [Act.put, lyy])
  have HS := Lib.hid (sl_arr K hK (by omega) ((EE.out.get (i := 0) rfl)))
  replace GG := Lib.hid (GG.out.below hS)
  have HS2 := Lib.hid (HS.out.below hS)
  generalize a1.drew = a2 at *
  clear HS EE
  refine wpAnyD_growB 6 (by kernel_rfl) rfl rfl rfl rfl rfl rfl rfl HS2.out HB.out GG.out (fun v5 y5 hG => ?_); (try simp only [Act.put, lyy])
  replace GG := Lib.hid hG
  clear hG HS2
  obtain ⟨xa, xn, xc, rfl⟩ := GG.out.isSlice
  refine qbm 7 (by kernel_rfl) rfl rfl rfl (qcl rfl rfl) (.inl rfl) ?_; (try simp only [Act.put, lyy])
  refine qbm 8 (by kernel_rfl) rfl rfl rfl (qai (s := 0) (k := 0) rfl Tryz.underlying208 rfl (by kernel_rfl) rfl rfl) (.inl rfl) ?_; (try simp only [Act.put, lyy])
  refine qb1 9 (by kernel_rfl) rfl rfl rfl (qb5 (v := .slice xa xn xc) rfl (by kernel_rfl) rfl rfl rfl rfl ((GG.out.get (i := L.length + 1) (at_last2 _ _ _)).c 0 _ rfl) ((GG.out.get (i := L.length + 1) (at_last2 _ _ _)).f 0)) (.inl rfl) ?_
  have E2 := Lib.hid (Ww.drop (Gw.stored (L := (g1, K.map b8) :: L) GG.out))
  generalize y5.setCell ⟨p, 0, none⟩ (.slice xa xn xc) = z5 at *
  refine qba (by kernel_rfl) ?_ _; refine NoPanic.normal ?_
  go_wp2_with fail
  exact bodyPost_end (results_none Tryz.results109 _ _ _) rfl ⟨⟨_, rfl⟩, E2.out⟩
theorem enters_wsig : Enters 112 := qan Tryz.func112 (by kernel_rfl) rfl
set_option maxHeartbeats 4000000 in
theorem wsig_any (w : World) (p : Nat) (L : List (Nat × List Value)) (l : List (BitVec 8)) (K : List (BitVec 8)) (u : World) (hK : K.length = 64) (hb : l.length + K.length ≤ 100000000000) (H : Ww w p L l u) : Calls Tryz.prog 112 #[.pointer (some ⟨p, 0, none⟩), .agg (K.map b8).toArray] u fun e u' => ∃ v', e = .returned v' ∧ Ww w p L (l ++ K) u' := by
  have E := Lib.hid H
  have HB := Lib.hid hb
  clear hb H
  go_enter Tryz.func112, Tryz.ntmps112
  go_upto_region 0 with fail; refine wp_region_lit ?_
  refine qaa (qa8 (vs := K.map b8) rfl rfl) rfl ?_; (try simp only [Act.put, lyy])
  replace E := Lib.hid (E.out.new (K.map b8) 30)
  generalize u.alloc (.cells (K.map b8).toArray 30) = a1 at *
  generalize u.heap.size = g1 at *
  refine qab ?_
  go_upto_region 1 with fail
  obtain ⟨v, G⟩ := E.out.ex
  have GG := Lib.hid G
  have EE := E
  clear G E
  refine wp_region_noPanic ?_; refine qbd (S := Till 6 (fun V => Below a1.heap.size a1 V)) (by kernel_rfl) (.inr (Below.refl _ _).drew) (fun _ => ?_); have hS : Below a1.heap.size a1 a1.drew := (Below.refl _ _).drew
  refine wpAnyD_free 0 rfl rfl (by kernel_rfl) (by kernel_rfl) (by kernel_rfl) (by kernel_rfl) (fun _ _ _ h => h) rfl (fun V => qad (v := .pointer (some ⟨p, 0, none⟩)) rfl rfl) hS ?_; (try simp only [Act.put, lyy])
  refine qao 1 rfl rfl (by kernel_rfl) (by kernel_rfl) (by kernel_rfl) (by kernel_rfl) (by kernel_rfl) (fun _ _ _ h => h) rfl (fun V hV => qad (v := .pointer (some ⟨p, 0, none⟩)) rfl rfl) hS ?_; (try simp only [Act.put, lyy])
  refine qao 2 rfl rfl (by kernel_rfl) (by kernel_rfl) (by kernel_rfl) (by kernel_rfl) (by kernel_rfl) (fun _ _ _ h => h) rfl (fun V hV => qcl rfl rfl) hS ?_; (try simp only [Act.put, lyy])
  refine qao 3 rfl rfl (by kernel_rfl) (by kernel_rfl) (by kernel_rfl) (by kernel_rfl) (by kernel_rfl) (fun _ _ _ h => h) rfl (fun V hV => qai (s := 0) (k := 0) rfl Tryz.underlying208 rfl (by kernel_rfl) rfl rfl) hS ?_; (try simp only [Act.put, lyy])
  refine qao 4 rfl rfl (by kernel_rfl) (by kernel_rfl) (by kernel_rfl) (by kernel_rfl) (by kernel_rfl) (fun _ _ _ h => h) rfl (fun V hV => qam rfl Tryz.underlying22 rfl rfl (((GG.out.below hV).get (i := L.length + 1) (at_last2 _ _ _)).c 0 _ rfl)) hS ?_; (try simp only [Act.put, lyy])
  refine qao 5 rfl rfl (by kernel_rfl) (by kernel_rfl) (by kernel_rfl) (by kernel_rfl) (by kernel_rfl) (fun _ _ _ h => h) rfl (fun V hV => run_slA rfl Tryz.underlying30 (by kernel_rfl) rfl) hS ?_; (try simp only [Act.put, lyy])
  have HS := Lib.hid (sl_arr K hK (by omega) ((EE.out.get (i := 0) rfl)))
  replace GG := Lib.hid (GG.out.below hS)
  have HS2 := Lib.hid (HS.out.below hS)
  generalize a1.drew = a2 at *
  clear HS EE
  refine wpAnyD_growB 6 (by kernel_rfl) rfl rfl rfl rfl rfl rfl rfl HS2.out HB.out GG.out (fun v5 y5 hG => ?_); (try simp only [Act.put, lyy])
  replace GG := Lib.hid hG
  clear hG HS2
  obtain ⟨xa, xn, xc, rfl⟩ := GG.out.isSlice
  refine qbm 7 (by kernel_rfl) rfl rfl rfl (qcl rfl rfl) (.inl rfl) ?_; (try simp only [Act.put, lyy])
  refine qbm 8 (by kernel_rfl) rfl rfl rfl (qai (s := 0) (k := 0) rfl Tryz.underlying208 rfl (by kernel_rfl) rfl rfl) (.inl rfl) ?_; (try simp only [Act.put, lyy])
  refine qb1 9 (by kernel_rfl) rfl rfl rfl (qb5 (v := .slice xa xn xc) rfl (by kernel_rfl) rfl rfl rfl rfl ((GG.out.get (i := L.length + 1) (at_last2 _ _ _)).c 0 _ rfl) ((GG.out.get (i := L.length + 1) (at_last2 _ _ _)).f 0)) (.inl rfl) ?_
  have E2 := Lib.hid (Ww.drop (Gw.stored (L := (g1, K.map b8) :: L) GG.out))
  generalize y5.setCell ⟨p, 0, none⟩ (.slice xa xn xc) = z5 at *
  refine qba (by kernel_rfl) ?_ _; refine NoPanic.normal ?_
  go_wp2_with fail
  exact bodyPost_end (results_none Tryz.results112 _ _ _) rfl ⟨⟨_, rfl⟩, E2.out⟩
theorem enters_wpre : Enters 129 := qan Tryz.func129 (by kernel_rfl) rfl
set_option maxHeartbeats 4000000 in
theorem wpre_any (w : World) (p : Nat) (L : List (Nat × List Value)) (l : List (BitVec 8)) (m : MPk) (u : World) (hm : m.key.length = 32) (hb : l.length + (pkB m).length ≤ 100000000000) (H : Ww w p L l u) : Calls Tryz.prog 129 #[.pointer (some ⟨p, 0, none⟩), .agg (pkC m).toArray] u fun e u' => ∃ v', e = .returned v' ∧ Ww w p L (l ++ (pkB m)) u' := by
  rw [pkC_row]
  have EB : Hid (l ++ viB m.id ++ m.key = l ++ (pkB m)) := Lib.hid (by unfold pkB; simp only [List.append_assoc])
  have HB : Hid ((l ++ viB m.id ++ m.key).length ≤ 100000000000) := Lib.hid (by rw [EB.out, List.length_append]; exact hb)
  have E := Lib.hid H
  clear hb H
  go_enter Tryz.func129, Tryz.ntmps129
  go_upto_region 0 with fail; refine wp_region_lit ?_
  refine qaa (qa8 (vs := pkR (.int .i64 m.id) (m.key.map b8)) rfl rfl) rfl ?_; (try simp only [Act.put, lyy])
  replace E := Lib.hid (E.out.new (pkR (.int .i64 m.id) (m.key.map b8)) 42)
  generalize u.alloc (.cells (pkR (.int .i64 m.id) (m.key.map b8)).toArray 42) = a1 at *
  generalize u.heap.size = g2 at *
  refine qab ?_
  go_upto_region 1 with fail; refine wp_region_lit ?_
  refine qaa (qad (v := .pointer (some ⟨p, 0, none⟩)) rfl rfl) rfl ?_; (try simp only [Act.put, lyy])
  refine qaa (qai (s := 0) (k := 0) rfl Tryz.underlying42 rfl (by kernel_rfl) rfl rfl) rfl ?_; (try simp only [Act.put, lyy])
  refine qaa (qam rfl Tryz.underlying3 rfl rfl ((E.out.get (i := 0) rfl).c 0 _ (pkR_ID ))) rfl ?_; (try simp only [Act.put, lyy])
  refine qag (qaf qa5 rfl rfl rfl rfl) rfl (qbn w p _ _ (m.id) _ (by have h := HB.out; simp only [List.length_append] at h ⊢; omega) E.out) (fun v4 a3 hR => ?_); (try simp only [Act.put, lyy])
  replace E := Lib.hid hR
  clear hR
  refine qab ?_
  go_upto_region 2 with fail; refine wp_region_lit ?_
  refine qaa (qad (v := .pointer (some ⟨p, 0, none⟩)) rfl rfl) rfl ?_; (try simp only [Act.put, lyy])
  refine qaa (qai (s := 31) (k := 1) rfl Tryz.underlying42 rfl (by kernel_rfl) rfl rfl) rfl ?_; (try simp only [Act.put, lyy])
  refine qaa (qat (vs := m.key.map b8) rfl Tryz.underlying27 rfl (szR (by rw [List.length_map, hm]) (by kernel_rfl)) rfl ((E.out.get (i := 0) rfl).seg (pkR_Key (by rw [List.length_map, hm])))) rfl ?_; (try simp only [Act.put, lyy])
  refine qag (qaf qcp rfl rfl rfl rfl) rfl (wkey_any w p _ _ m.key _ hm (by have h := HB.out; simp only [List.length_append] at h ⊢; omega) E.out) (fun v6 a5 hR => ?_); (try simp only [Act.put, lyy])
  replace E := Lib.hid hR
  clear hR
  refine qab ?_
  have E2 := Lib.hid (E.out.drop.cast EB.out)
  go_wp2_with fail
  exact bodyPost_end (results_none Tryz.results129 _ _ _) rfl ⟨_, rfl, E2.out⟩
theorem enters_went : Enters 111 := qan Tryz.func111 (by kernel_rfl) rfl
set_option maxHeartbeats 4000000 in
theorem went_any (w : World) (p : Nat) (L : List (Nat × List Value)) (l : List (BitVec 8)) (m : MPk) (u : World) (hm : m.key.length = 32) (hb : l.length + (pkB m).length ≤ 100000000000) (H : Ww w p L l u) : Calls Tryz.prog 111 #[.pointer (some ⟨p, 0, none⟩), .agg (pkC m).toArray] u fun e u' => ∃ v', e = .returned v' ∧ Ww w p L (l ++ (pkB m)) u' := by
  rw [pkC_en]
  have EB : Hid (l ++ viB m.id ++ m.key = l ++ (pkB m)) := Lib.hid (by unfold pkB; simp only [List.append_assoc])
  have HB : Hid ((l ++ viB m.id ++ m.key).length ≤ 100000000000) := Lib.hid (by rw [EB.out, List.length_append]; exact hb)
  have E := Lib.hid H
  clear hb H
  go_enter Tryz.func111, Tryz.ntmps111
  go_upto_region 0 with fail; refine wp_region_lit ?_
  refine qaa (qa8 (vs := enR (.int .i64 m.id) (m.key.map b8)) rfl rfl) rfl ?_; (try simp only [Act.put, lyy])
  replace E := Lib.hid (E.out.new (enR (.int .i64 m.id) (m.key.map b8)) 92)
  generalize u.alloc (.cells (enR (.int .i64 m.id) (m.key.map b8)).toArray 92) = a1 at *
  generalize u.heap.size = g2 at *
  refine qab ?_
  go_upto_region 1 with fail; refine wp_region_lit ?_
  refine qaa (qad (v := .pointer (some ⟨p, 0, none⟩)) rfl rfl) rfl ?_; (try simp only [Act.put, lyy])
  refine qaa (qai (s := 0) (k := 0) rfl Tryz.underlying92 rfl (by kernel_rfl) rfl rfl) rfl ?_; (try simp only [Act.put, lyy])
  refine qaa (qam rfl Tryz.underlying3 rfl rfl ((E.out.get (i := 0) rfl).c 0 _ (enR_ID ))) rfl ?_; (try simp only [Act.put, lyy])
  refine qag (qaf qa5 rfl rfl rfl rfl) rfl (qbn w p _ _ (m.id) _ (by have h := HB.out; simp only [List.length_append] at h ⊢; omega) E.out) (fun v4 a3 hR => ?_); (try simp only [Act.put, lyy])
  replace E := Lib.hid hR
  clear hR
  refine qab ?_
  go_upto_region 2 with fail; refine wp_region_lit ?_
  refine qaa (qad (v := .pointer (some ⟨p, 0, none⟩)) rfl rfl) rfl ?_; (try simp only [Act.put, lyy])
  refine qaa (qai (s := 31) (k := 1) rfl Tryz.underlying92 rfl (by kernel_rfl) rfl rfl) rfl ?_; (try simp only [Act.put, lyy])
  refine qaa (qat (vs := m.key.map b8) rfl Tryz.underlying27 rfl (szR (by rw [List.length_map, hm]) (by kernel_rfl)) rfl ((E.out.get (i := 0) rfl).seg (enR_Key (by rw [List.length_map, hm])))) rfl ?_; (try simp only [Act.put, lyy])
  refine qag (qaf qcp rfl rfl rfl rfl) rfl (wkey_any w p _ _ m.key _ hm (by have h := HB.out; simp only [List.length_append] at h ⊢; omega) E.out) (fun v6 a5 hR => ?_); (try simp only [Act.put, lyy])
  replace E := Lib.hid hR
  clear hR
  refine qab ?_
  have E2 := Lib.hid (E.out.drop.cast EB.out)
  go_wp2_with fail
  exact bodyPost_end (results_none Tryz.results111 _ _ _) rfl ⟨_, rfl, E2.out⟩
theorem enters_whdr : Enters 119 := qan Tryz.func119 (by kernel_rfl) rfl
set_option maxHeartbeats 4000000 in
theorem whdr_any (w : World) (p : Nat) (L : List (Nat × List Value)) (l : List (BitVec 8)) (m : MHd) (u : World) (hm : m.r.length = 32) (hb : l.length + (hdB m).length ≤ 100000000000) (H : Ww w p L l u) : Calls Tryz.prog 119 #[.pointer (some ⟨p, 0, none⟩), .agg (hdC m).toArray] u fun e u' => ∃ v', e = .returned v' ∧ Ww w p L (l ++ (hdB m)) u' := by
  rw [hdC_row]
  have EB : Hid (l ++ m.r ++ viB m.prev ++ viB m.n = l ++ (hdB m)) := Lib.hid (by unfold hdB; simp only [List.append_assoc])
  have HB : Hid ((l ++ m.r ++ viB m.prev ++ viB m.n).length ≤ 100000000000) := Lib.hid (by rw [EB.out, List.length_append]; exact hb)
  have E := Lib.hid H
  clear hb H
  go_enter Tryz.func119, Tryz.ntmps119
  go_upto_region 0 with fail; refine wp_region_lit ?_
  refine qaa (qa8 (vs := hdR (m.r.map b8) (.int .i64 m.prev) (.int .i64 m.n)) rfl rfl) rfl ?_; (try simp only [Act.put, lyy])
  replace E := Lib.hid (E.out.new (hdR (m.r.map b8) (.int .i64 m.prev) (.int .i64 m.n)) 36)
  generalize u.alloc (.cells (hdR (m.r.map b8) (.int .i64 m.prev) (.int .i64 m.n)).toArray 36) = a1 at *
  generalize u.heap.size = g2 at *
  refine qab ?_
  go_upto_region 1 with fail; refine wp_region_lit ?_
  refine qaa (qad (v := .pointer (some ⟨p, 0, none⟩)) rfl rfl) rfl ?_; (try simp only [Act.put, lyy])
  refine qaa (qai (s := 31) (k := 0) rfl Tryz.underlying36 rfl (by kernel_rfl) rfl rfl) rfl ?_; (try simp only [Act.put, lyy])
  refine qaa (qat (vs := m.r.map b8) rfl Tryz.underlying27 rfl (szR (by rw [List.length_map, hm]) (by kernel_rfl)) rfl ((E.out.get (i := 0) rfl).seg (hdR_Ratchet (by rw [List.length_map, hm])))) rfl ?_; (try simp only [Act.put, lyy])
  refine qag (qaf qcp rfl rfl rfl rfl) rfl (wkey_any w p _ _ m.r _ hm (by have h := HB.out; simp only [List.length_append] at h ⊢; omega) E.out) (fun v4 a3 hR => ?_); (try simp only [Act.put, lyy])
  replace E := Lib.hid hR
  clear hR
  refine qab ?_
  go_upto_region 2 with fail; refine wp_region_lit ?_
  refine qaa (qad (v := .pointer (some ⟨p, 0, none⟩)) rfl rfl) rfl ?_; (try simp only [Act.put, lyy])
  refine qaa (qai (s := 0) (k := 32) rfl Tryz.underlying36 rfl (by kernel_rfl) rfl rfl) rfl ?_; (try simp only [Act.put, lyy])
  refine qaa (qam rfl Tryz.underlying3 rfl rfl ((E.out.get (i := 0) rfl).c 32 _ (hdR_Prev (by rw [List.length_map, hm])))) rfl ?_; (try simp only [Act.put, lyy])
  refine qag (qaf qa5 rfl rfl rfl rfl) rfl (qbn w p _ _ (m.prev) _ (by have h := HB.out; simp only [List.length_append] at h ⊢; omega) E.out) (fun v6 a5 hR => ?_); (try simp only [Act.put, lyy])
  replace E := Lib.hid hR
  clear hR
  refine qab ?_
  go_upto_region 3 with fail; refine wp_region_lit ?_
  refine qaa (qad (v := .pointer (some ⟨p, 0, none⟩)) rfl rfl) rfl ?_; (try simp only [Act.put, lyy])
  refine qaa (qai (s := 0) (k := 33) rfl Tryz.underlying36 rfl (by kernel_rfl) rfl rfl) rfl ?_; (try simp only [Act.put, lyy])
  refine qaa (qam rfl Tryz.underlying3 rfl rfl ((E.out.get (i := 0) rfl).c 33 _ (hdR_N (by rw [List.length_map, hm])))) rfl ?_; (try simp only [Act.put, lyy])
  refine qag (qaf qa5 rfl rfl rfl rfl) rfl (qbn w p _ _ (m.n) _ (by have h := HB.out; simp only [List.length_append] at h ⊢; omega) E.out) (fun v8 a7 hR => ?_); (try simp only [Act.put, lyy])
  replace E := Lib.hid hR
  clear hR
  refine qab ?_
  have E2 := Lib.hid (E.out.drop.cast EB.out)
  go_wp2_with fail
  exact bodyPost_end (results_none Tryz.results119 _ _ _) rfl ⟨_, rfl, E2.out⟩
theorem enters_walE : Enters 110 := qan Tryz.func110 (by kernel_rfl) rfl
set_option maxHeartbeats 4000000 in
theorem walE_any (w : World) (p : Nat) (L : List (Nat × List Value)) (l : List (BitVec 8)) (ms : List MPk) (a : Option Addr) (c : Nat) (u : World) (hn : ms.length ≤ 100000000000) (hp : ∀ p ∈ ms, p.key.length = 32) (hX : Fro 0 (SlR 33 pkAt ms a c) w) (hb : l.length + (alB pkB ms).length ≤ 100000000000) (H : Ww w p L l u) : Calls Tryz.prog 110 #[.pointer (some ⟨p, 0, none⟩), .slice a ms.length c, .func (.func 111) #[] #[]] u fun e u' => ∃ v', e = .returned v' ∧ Ww w p L (l ++ (alB pkB ms)) u' := by
  have HE : Hid (∀ i, i < ms.length → ∃ g f cs x, a = some ⟨g, f, none⟩ ∧ alF pkB ms (i + 1) = alF pkB ms i ++ x ∧ (cs : List Value).length = 33 ∧ One cs ∧ (∀ u, Below w.heap.size w u → u.rangeAt g (f + i * 33) cs) ∧ (∀ (u : World) (L : List (Nat × List Value)) (y : List (BitVec 8)), y = l ++ alF pkB ms i → Ww w p L y u → Calls Tryz.prog 111 #[.pointer (some ⟨p, 0, none⟩), .agg cs.toArray] u fun e u' => ∃ v', e = .returned v' ∧ Ww w p L (y ++ x) u')) := Lib.hid fun i hi => by
    obtain ⟨g, f, cs, h1, h2, h3, h4, h5⟩ := slR_get hX hi
    have hk := hp _ (List.getElem_mem hi)
    have hle := alF_le pkB ms hi
    have e : cs = pkC ms[i] := h5.now
    have hone : One cs := by rw [e]; exact pkC_one hk
    exact ⟨g, f, cs, pkB ms[i], h1, alF_succ hi, h3, hone, fun u hu => qbw h4 h2 hu, fun u L y hy H => by rw [e]; exact went_any w p L y ms[i] u hk (by rw [hy, List.length_append]; omega) H⟩
  have E0 : Hid (viB (ms.length : Int) = alF pkB ms 0) := Lib.hid (alF_zero _ _)
  have EO : Hid (alF pkB ms ms.length = alB pkB ms) := Lib.hid (alF_all _ _)
  have HB : Hid (l.length + (viB (ms.length : Int)).length ≤ 100000000000) := Lib.hid (by have h := alF_head pkB ms; omega)
  have E := Lib.hid H
  clear hb H hX hp
  obtain ⟨Gf, hGf⟩ : ∃ Gf, Gf = alF pkB ms := ⟨_, rfl⟩
  rw [← hGf] at HE E0 EO
  clear hGf
  generalize alB pkB ms = out at *
  generalize ms.length = n at *
  go_enter Tryz.func110, Tryz.ntmps110
  go_upto_region 0 with fail; refine wp_region_lit ?_
  refine qaa (qad (v := .pointer (some ⟨p, 0, none⟩)) rfl rfl) rfl ?_; (try simp only [Act.put, lyy])
  refine qaa (qad (v := .slice a n c) rfl rfl) rfl ?_; (try simp only [Act.put, lyy])
  refine qaa (qa4 rfl Tryz.underlying28 rfl) rfl ?_; (try simp only [Act.put, lyy])
  refine qag (qaf qa5 rfl rfl rfl rfl) rfl (qbn w p L l (n : Int) u HB.out E.out) (fun v1 a1 hR => ?_); (try simp only [Act.put, lyy])
  replace E := Lib.hid hR
  clear hR
  rw [E0.out] at E
  refine qab ?_
  go_upto_region 1 with fail; refine wp_region_lit ?_
  refine qaa (qad (v := .slice a n c) rfl rfl) rfl ?_; (try simp only [Act.put, lyy])
  refine qaa (qa4 rfl Tryz.underlying28 rfl) rfl ?_; (try simp only [Act.put, lyy])
  refine qaa (qad (v := .int .i64 0) rfl rfl) rfl ?_; (try simp only [Act.put, lyy])
  refine qab ?_
  go_wp2_with fail
  go_loopw [14] (fun s14 u => ∃ i : Nat, i ≤ n ∧ s14 = .int .i64 (i : Int) ∧ Ww w p L (l ++ Gf i) u) (fun s14 _ => ((n : Int) - intOf s14).toNat)
  case atStart => exact ⟨0, by omega, rfl, E.out⟩
  case round =>
    obtain ⟨i, hi, rfl, hJ⟩ := hrel
    replace E := Lib.hid hJ
    clear hJ
    by_cases hik : i = n
    · subst hik
      replace E := Lib.hid (E.out.cast (show _ = l ++ out by rw [EO.out]))
      go_upto_region 2 with fail; refine wp_region_lit ?_
      refine qaa (qay (c := false) rfl rfl rfl (decide_eq_false (by omega))) rfl ?_; (try simp only [Act.put, lyy])
      refine qab ?_
      go_wp2_with fail
      exact bodyPost_end (results_none Tryz.results110 _ _ _) rfl ⟨_, rfl, E.out⟩
    · obtain ⟨g, f, cs, x, rfl, hx, hz, hone, hr, hc⟩ := HE.out i (by omega)
      have HX := Lib.hid hx
      have HR1 := Lib.hid hr
      have HC1 := Lib.hid hc
      have HO1 := Lib.hid hone
      clear hx hr hc hone
      go_upto_region 2 with fail; refine wp_region_lit ?_
      refine qaa (qay (c := true) rfl rfl rfl (decide_eq_true (by omega))) rfl ?_; (try simp only [Act.put, lyy])
      refine qab ?_
      go_upto_region 3 with fail; refine wp_region_lit ?_
      refine qaa (qca (z := 33) (i := i) rfl Tryz.underlying28 (by kernel_rfl) rfl rfl (by omega)) rfl ?_; (try simp only [Act.put, lyy])
      refine qaa (qat (vs := cs) rfl Tryz.underlying92 rfl (szR hz (by kernel_rfl)) rfl (HR1.out _ E.out.bl)) rfl ?_; (try simp only [Act.put, lyy])
      refine qaa (qa3 (vs := enR ((.int .i64 0)) (z8 32)) rfl (by kernel_rfl)) rfl ?_; (try simp only [Act.put, lyy])
      replace E := Lib.hid (E.out.new (enR ((.int .i64 0)) (z8 32)) 92)
      generalize wr.alloc (.cells (enR ((.int .i64 0)) (z8 32)).toArray 92) = a1 at *
      generalize wr.heap.size = g1 at *
      refine qal (qa0 (vs := cs) rfl (szR hz (by kernel_rfl)) rfl rfl (One.all HO1.out) ((E.out.get (i := 0) rfl).thereM (by have q2 : (enR ((.int .i64 0)) (z8 32)).length = 33 := (enR_len (z8_len' 32)); omega))) rfl rfl ?_
      replace E := Lib.hid (E.out.put 0 rfl (m' := cs) (hz.trans (show (enR ((.int .i64 0)) (z8 32)).length = 33 from (enR_len (z8_len' 32))).symm))
      replace E := Lib.hid (show Ww w p ((g1, cs) :: L) _ _ from E.out)
      generalize a1.setCells g1 0 cs = a2 at *
      refine qab ?_
      go_upto_region 4 with fail; refine wp_region_lit ?_
      refine qaa (qad (v := .func (.func 111) #[] #[]) rfl rfl) rfl ?_; (try simp only [Act.put, lyy])
      refine qaa (qad (v := .pointer (some ⟨p, 0, none⟩)) rfl rfl) rfl ?_; (try simp only [Act.put, lyy])
      refine qaa (qat (vs := cs) rfl Tryz.underlying92 rfl (szR hz (by kernel_rfl)) rfl (E.out.get (i := 0) rfl).range) rfl ?_; (try simp only [Act.put, lyy])
      refine qag (qcb enters_went rfl rfl rfl rfl) rfl (HC1.out _ _ _ rfl E.out) (fun v3 a3 hR => ?_); (try simp only [Act.put, lyy])
      replace E := Lib.hid (hR.drop.cast (show _ = l ++ Gf (i + 1) by rw [HX.out, List.append_assoc]))
      clear hR
      refine qab ?_
      go_upto_region 5 with fail; refine wp_region_lit ?_
      refine qaa (qa6 (a := i) (b := 1) rfl rfl rfl (by omega)) rfl ?_; (try simp only [Act.put, lyy])
      refine qaa (qad (v := .int .i64 ((i + 1 : Nat) : Int)) rfl rfl) rfl ?_; (try simp only [Act.put, lyy])
      refine qab ?_
      go_wp2_with fail
      exact ⟨⟨i + 1, by omega, rfl, E.out⟩, by simp [intOf]; omega⟩
theorem enters_walP : Enters 130 := qan Tryz.func130 (by kernel_rfl) rfl
set_option maxHeartbeats 4000000 in
theorem walP_any (w : World) (p : Nat) (L : List (Nat × List Value)) (l : List (BitVec 8)) (ms : List MPk) (a : Option Addr) (c : Nat) (u : World) (hn : ms.length ≤ 100000000000) (hp : ∀ p ∈ ms, p.key.length = 32) (hX : Fro 0 (SlR 33 pkAt ms a c) w) (hb : l.length + (alB pkB ms).length ≤ 100000000000) (H : Ww w p L l u) : Calls Tryz.prog 130 #[.pointer (some ⟨p, 0, none⟩), .slice a ms.length c, .func (.func 129) #[] #[]] u fun e u' => ∃ v', e = .returned v' ∧ Ww w p L (l ++ (alB pkB ms)) u' := by
  have HE : Hid (∀ i, i < ms.length → ∃ g f cs x, a = some ⟨g, f, none⟩ ∧ alF pkB ms (i + 1) = alF pkB ms i ++ x ∧ (cs : List Value).length = 33 ∧ One cs ∧ (∀ u, Below w.heap.size w u → u.rangeAt g (f + i * 33) cs) ∧ (∀ (u : World) (L : List (Nat × List Value)) (y : List (BitVec 8)), y = l ++ alF pkB ms i → Ww w p L y u → Calls Tryz.prog 129 #[.pointer (some ⟨p, 0, none⟩), .agg cs.toArray] u fun e u' => ∃ v', e = .returned v' ∧ Ww w p L (y ++ x) u')) := Lib.hid fun i hi => by
    obtain ⟨g, f, cs, h1, h2, h3, h4, h5⟩ := slR_get hX hi
    have hk := hp _ (List.getElem_mem hi)
    have hle := alF_le pkB ms hi
    have e : cs = pkC ms[i] := h5.now
    have hone : One cs := by rw [e]; exact pkC_one hk
    exact ⟨g, f, cs, pkB ms[i], h1, alF_succ hi, h3, hone, fun u hu => qbw h4 h2 hu, fun u L y hy H => by rw [e]; exact wpre_any w p L y ms[i] u hk (by rw [hy, List.length_append]; omega) H⟩
  have E0 : Hid (viB (ms.length : Int) = alF pkB ms 0) := Lib.hid (alF_zero _ _)
  have EO : Hid (alF pkB ms ms.length = alB pkB ms) := Lib.hid (alF_all _ _)
  have HB : Hid (l.length + (viB (ms.length : Int)).length ≤ 100000000000) := Lib.hid (by have h := alF_head pkB ms; omega)
  have E := Lib.hid H
  clear hb H hX hp
  obtain ⟨Gf, hGf⟩ : ∃ Gf, Gf = alF pkB ms := ⟨_, rfl⟩
  rw [← hGf] at HE E0 EO
  clear hGf
  generalize alB pkB ms = out at *
  generalize ms.length = n at *
  go_enter Tryz.func130, Tryz.ntmps130
  go_upto_region 0 with fail; refine wp_region_lit ?_
  refine qaa (qad (v := .pointer (some ⟨p, 0, none⟩)) rfl rfl) rfl ?_; (try simp only [Act.put, lyy])
  refine qaa (qad (v := .slice a n c) rfl rfl) rfl ?_; (try simp only [Act.put, lyy])
  refine qaa (qa4 rfl Tryz.underlying43 rfl) rfl ?_; (try simp only [Act.put, lyy])
  refine qag (qaf qa5 rfl rfl rfl rfl) rfl (qbn w p L l (n : Int) u HB.out E.out) (fun v1 a1 hR => ?_); (try simp only [Act.put, lyy])
  replace E := Lib.hid hR
  clear hR
  rw [E0.out] at E
  refine qab ?_
  go_upto_region 1 with fail; refine wp_region_lit ?_
  refine qaa (qad (v := .slice a n c) rfl rfl) rfl ?_; (try simp only [Act.put, lyy])
  refine qaa (qa4 rfl Tryz.underlying43 rfl) rfl ?_; (try simp only [Act.put, lyy])
  refine qaa (qad (v := .int .i64 0) rfl rfl) rfl ?_; (try simp only [Act.put, lyy])
  refine qab ?_
  go_wp2_with fail
  go_loopw [14] (fun s14 u => ∃ i : Nat, i ≤ n ∧ s14 = .int .i64 (i : Int) ∧ Ww w p L (l ++ Gf i) u) (fun s14 _ => ((n : Int) - intOf s14).toNat)
  case atStart => exact ⟨0, by omega, rfl, E.out⟩
  case round =>
    obtain ⟨i, hi, rfl, hJ⟩ := hrel
    replace E := Lib.hid hJ
    clear hJ
    by_cases hik : i = n
    · subst hik
      replace E := Lib.hid (E.out.cast (show _ = l ++ out by rw [EO.out]))
      go_upto_region 2 with fail; refine wp_region_lit ?_
      refine qaa (qay (c := false) rfl rfl rfl (decide_eq_false (by omega))) rfl ?_; (try simp only [Act.put, lyy])
      refine qab ?_
      go_wp2_with fail
      exact bodyPost_end (results_none Tryz.results130 _ _ _) rfl ⟨_, rfl, E.out⟩
    · obtain ⟨g, f, cs, x, rfl, hx, hz, hone, hr, hc⟩ := HE.out i (by omega)
      have HX := Lib.hid hx
      have HR1 := Lib.hid hr
      have HC1 := Lib.hid hc
      have HO1 := Lib.hid hone
      clear hx hr hc hone
      go_upto_region 2 with fail; refine wp_region_lit ?_
      refine qaa (qay (c := true) rfl rfl rfl (decide_eq_true (by omega))) rfl ?_; (try simp only [Act.put, lyy])
      refine qab ?_
      go_upto_region 3 with fail; refine wp_region_lit ?_
      refine qaa (qca (z := 33) (i := i) rfl Tryz.underlying43 (by kernel_rfl) rfl rfl (by omega)) rfl ?_; (try simp only [Act.put, lyy])
      refine qaa (qat (vs := cs) rfl Tryz.underlying42 rfl (szR hz (by kernel_rfl)) rfl (HR1.out _ E.out.bl)) rfl ?_; (try simp only [Act.put, lyy])
      refine qaa (qa3 (vs := pkR ((.int .i64 0)) (z8 32)) rfl (by kernel_rfl)) rfl ?_; (try simp only [Act.put, lyy])
      replace E := Lib.hid (E.out.new (pkR ((.int .i64 0)) (z8 32)) 42)
      generalize wr.alloc (.cells (pkR ((.int .i64 0)) (z8 32)).toArray 42) = a1 at *
      generalize wr.heap.size = g1 at *
      refine qal (qa0 (vs := cs) rfl (szR hz (by kernel_rfl)) rfl rfl (One.all HO1.out) ((E.out.get (i := 0) rfl).thereM (by have q2 : (pkR ((.int .i64 0)) (z8 32)).length = 33 := (qar (z8_len' 32)); omega))) rfl rfl ?_
      replace E := Lib.hid (E.out.put 0 rfl (m' := cs) (hz.trans (show (pkR ((.int .i64 0)) (z8 32)).length = 33 from (qar (z8_len' 32))).symm))
      replace E := Lib.hid (show Ww w p ((g1, cs) :: L) _ _ from E.out)
      generalize a1.setCells g1 0 cs = a2 at *
      refine qab ?_
      go_upto_region 4 with fail; refine wp_region_lit ?_
      refine qaa (qad (v := .func (.func 129) #[] #[]) rfl rfl) rfl ?_; (try simp only [Act.put, lyy])
      refine qaa (qad (v := .pointer (some ⟨p, 0, none⟩)) rfl rfl) rfl ?_; (try simp only [Act.put, lyy])
      refine qaa (qat (vs := cs) rfl Tryz.underlying42 rfl (szR hz (by kernel_rfl)) rfl (E.out.get (i := 0) rfl).range) rfl ?_; (try simp only [Act.put, lyy])
      refine qag (qcb enters_wpre rfl rfl rfl rfl) rfl (HC1.out _ _ _ rfl E.out) (fun v3 a3 hR => ?_); (try simp only [Act.put, lyy])
      replace E := Lib.hid (hR.drop.cast (show _ = l ++ Gf (i + 1) by rw [HX.out, List.append_assoc]))
      clear hR
      refine qab ?_
      go_upto_region 5 with fail; refine wp_region_lit ?_
      refine qaa (qa6 (a := i) (b := 1) rfl rfl rfl (by omega)) rfl ?_; (try simp only [Act.put, lyy])
      refine qaa (qad (v := .int .i64 ((i + 1 : Nat) : Int)) rfl rfl) rfl ?_; (try simp only [Act.put, lyy])
      refine qab ?_
      go_wp2_with fail
      exact ⟨⟨i + 1, by omega, rfl, E.out⟩, by simp [intOf]; omega⟩
end Go.Proofs.YtcgbgmbnagmohaaGreat
