/- What wire's writers of lists, bundles and envelopes append. -/
import Derived.Test.YtgioojahadlmhaaPwA
namespace Go.Proofs.Ytgioojahadlmhaa
open Go.RowKit
set_option maxRecDepth 20000
attribute [local irreducible] wpList

theorem enters_wnum : Enters 77 := enters_of Try.func77 (by kernel_rfl) rfl
set_option maxHeartbeats 4000000 in
theorem wnum_any (w : World) (p : Nat) (L : List (Nat × List Value)) (l : List (BitVec 8)) (n : Int) (u : World) (hb : l.length + (viB n).length ≤ 100000000000) (H : Ww w p L l u) : Calls Try.prog 77 #[.pointer (some ⟨p, 0, none⟩), .int .i64 n] u fun e u' => ∃ v', e = .returned v' ∧ Ww w p L (l ++ (viB n)) u' := by
  have EC : Hid (min (max n 0) 1099511627776 = ((clN n : Nat) : Int)) := Lib.hid (by unfold clN; omega)
  have EV : Hid (viB n = viF 5 (clN n)) := Lib.hid rfl
  have N0 := Lib.hid (NuI.start (clN_le n))
  have hvl := viB_len n
  have HB := Lib.hid hb
  have E := Lib.hid H
  clear hb H
  generalize viB n = out at *
  generalize clN n = c at *
  go_enter Try.func77, Try.ntmps77
  go_upto_region 0 with fail; refine wp_region_lit ?_
  refine wpList_val (run_mv (v := .int .i64 n) rfl rfl) rfl ?_; (try simp only [Act.put, List.setIfInBounds_toArray, List.set_cons_zero, List.set_cons_succ])
  refine wpList_val (run_maxI _ rfl rfl rfl) rfl ?_; (try simp only [Act.put, List.setIfInBounds_toArray, List.set_cons_zero, List.set_cons_succ])
  refine wpList_val (run_minI _ rfl rfl rfl) rfl ?_; (try simp only [Act.put, List.setIfInBounds_toArray, List.set_cons_zero, List.set_cons_succ])
  rw [EC.out]
  refine wpList_val (run_asg (v := .int .i64 (c : Int)) rfl rfl) rfl ?_; (try simp only [Act.put, List.setIfInBounds_toArray, List.set_cons_zero, List.set_cons_succ])
  refine wpList_end ?_
  go_wp2_with fail
  go_loopw [1] (fun s1 u => ∃ (m : Nat) (pre : List (BitVec 8)), s1 = .int .i64 (m : Int) ∧ NuI c pre m ∧ Ww w p L (l ++ pre) u) (fun s1 _ => (intOf s1).toNat)
  case atStart => exact ⟨c, [], rfl, N0.out, by rw [List.append_nil]; exact E.out⟩
  case round =>
    obtain ⟨m, pre, rfl, hN, hJ⟩ := hrel
    replace E := Lib.hid hJ
    have HN := Lib.hid hN
    have hpl := hN.len
    have hml := hN.le
    have HL : Hid (l.length + pre.length + 1 ≤ 100000000000) := Lib.hid (by have h1 := HB.out; have h2 := congrArg List.length EV.out; obtain ⟨k, h3, -, -⟩ := hN.ex; rw [h3, List.length_append] at h2; have h4 := viF_pos k m; omega)
    clear hJ hN
    by_cases hlt : 127 < m
    · have NX := Lib.hid (HN.out.step hlt)
      have EO := or128 m
      go_upto_region 1 with fail; refine wp_region_lit ?_
      refine wpList_val (run_mv (v := .int .i64 (m : Int)) rfl rfl) rfl ?_; (try simp only [Act.put, List.setIfInBounds_toArray, List.set_cons_zero, List.set_cons_succ])
      refine wpList_val (run_geqI (c := true) rfl rfl rfl (decide_eq_true (by omega))) rfl ?_; (try simp only [Act.put, List.setIfInBounds_toArray, List.set_cons_zero, List.set_cons_succ])
      refine wpList_end ?_
      go_upto_region 3 with fail; refine wp_region_lit ?_
      obtain ⟨v, G⟩ := E.out.ex
      have GG := Lib.hid G
      clear G
      refine wpList_val (run_mv (v := .pointer (some ⟨p, 0, none⟩)) rfl rfl) rfl ?_; (try simp only [Act.put, List.setIfInBounds_toArray, List.set_cons_zero, List.set_cons_succ])
      refine wpList_val (run_mv (v := .pointer (some ⟨p, 0, none⟩)) rfl rfl) rfl ?_; (try simp only [Act.put, List.setIfInBounds_toArray, List.set_cons_zero, List.set_cons_succ])
      refine wpList_val (run_nck rfl rfl) rfl ?_; (try simp only [Act.put, List.setIfInBounds_toArray, List.set_cons_zero, List.set_cons_succ])
      refine wpList_val (run_fad (s := 0) (k := 0) rfl Try.underlying140 rfl (by kernel_rfl) rfl rfl) rfl ?_; (try simp only [Act.put, List.setIfInBounds_toArray, List.set_cons_zero, List.set_cons_succ])
      refine wpList_val (run_ldc (v := v) rfl Try.underlying22 rfl rfl ((GG.out.get (i := L.length) (at_last _ _)).c 0 _ rfl)) rfl ?_; (try simp only [Act.put, List.setIfInBounds_toArray, List.set_cons_zero, List.set_cons_succ])
      clear E
      refine wpList_val (run_mv (v := .int .i64 (m : Int)) rfl rfl) rfl ?_; (try simp only [Act.put, List.setIfInBounds_toArray, List.set_cons_zero, List.set_cons_succ])
      refine wpList_val (run_cvi_8 (n := m) rfl rfl) rfl ?_; (try simp only [Act.put, List.setIfInBounds_toArray, List.set_cons_zero, List.set_cons_succ])
      refine wpList_val (run_or8 (b := 128#8) rfl rfl rfl) rfl ?_; (try simp only [Act.put, List.setIfInBounds_toArray, List.set_cons_zero, List.set_cons_succ])
      rw [EO]
      generalize BitVec.ofNat 8 (m % 128 + 128) = x at *
      refine wpList_val (run_bsl (cells := #[b8 x]) (z := .int .u8 0) rfl Try.underlying22 (by kernel_rfl) (by omega) (by omega) (by kernel_rfl)) rfl ?_; (try simp only [Act.put, List.setIfInBounds_toArray, List.set_cons_zero, List.set_cons_succ])
      have HX := Lib.hid (sl_one wr x)
      replace GG := Lib.hid (GG.out.below ((Below.refl wr.heap.size wr).alloc (Nat.le_refl _) (.cells #[b8 x] 5)))
      generalize wr.alloc (.cells #[b8 x] 5) = o5 at *
      generalize wr.heap.size = g5 at *
      refine wpList_growB rfl rfl rfl rfl HX.out (by rw [List.length_append]; exact HL.out) GG.out (fun v5 y5 hG => ?_); (try simp only [Act.put, List.setIfInBounds_toArray, List.set_cons_zero, List.set_cons_succ])
      replace GG := Lib.hid hG
      clear hG HX
      obtain ⟨xa, xn, xc, rfl⟩ := GG.out.isSlice
      refine wpList_val (run_nck rfl rfl) rfl ?_; (try simp only [Act.put, List.setIfInBounds_toArray, List.set_cons_zero, List.set_cons_succ])
      refine wpList_val (run_fad (s := 0) (k := 0) rfl Try.underlying140 rfl (by kernel_rfl) rfl rfl) rfl ?_; (try simp only [Act.put, List.setIfInBounds_toArray, List.set_cons_zero, List.set_cons_succ])
      refine wpList_skip (run_stc (v := .slice xa xn xc) rfl (by kernel_rfl) rfl rfl rfl rfl ((GG.out.get (i := L.length) (at_last _ _)).c 0 _ rfl) ((GG.out.get (i := L.length) (at_last _ _)).f 0)) rfl rfl ?_
      have E := Lib.hid (Gw.stored GG.out)
      clear GG
      generalize y5.setCell ⟨p, 0, none⟩ (.slice xa xn xc) = z5 at *
      refine wpList_end ?_
      replace E := Lib.hid (E.out.cast (List.append_assoc _ _ _))
      go_upto_region 2 with fail; refine wp_region_lit ?_
      refine wpList_val (run_mv (v := .int .i64 (m : Int)) rfl rfl) rfl ?_; (try simp only [Act.put, List.setIfInBounds_toArray, List.set_cons_zero, List.set_cons_succ])
      refine wpList_val (run_shri (n := m) (k := 7) rfl rfl rfl (by omega)) rfl ?_; (try simp only [Act.put, List.setIfInBounds_toArray, List.set_cons_zero, List.set_cons_succ])
      refine wpList_val (run_asg (v := .int .i64 ((m / 128 : Nat) : Int)) rfl rfl) rfl ?_; (try simp only [Act.put, List.setIfInBounds_toArray, List.set_cons_zero, List.set_cons_succ])
      refine wpList_end ?_
      go_wp2_with fail
      exact ⟨⟨m / 128, pre ++ [x], rfl, NX.out, E.out⟩, by simp [intOf]; omega⟩
    · have EO := Lib.hid (HN.out.done (by omega))
      go_upto_region 1 with fail; refine wp_region_lit ?_
      refine wpList_val (run_mv (v := .int .i64 (m : Int)) rfl rfl) rfl ?_; (try simp only [Act.put, List.setIfInBounds_toArray, List.set_cons_zero, List.set_cons_succ])
      refine wpList_val (run_geqI (c := false) rfl rfl rfl (decide_eq_false (by omega))) rfl ?_; (try simp only [Act.put, List.setIfInBounds_toArray, List.set_cons_zero, List.set_cons_succ])
      refine wpList_end ?_
      go_upto_region 4 with fail; refine wp_region_lit ?_
      obtain ⟨v, G⟩ := E.out.ex
      have GG := Lib.hid G
      clear G
      refine wpList_val (run_mv (v := .pointer (some ⟨p, 0, none⟩)) rfl rfl) rfl ?_; (try simp only [Act.put, List.setIfInBounds_toArray, List.set_cons_zero, List.set_cons_succ])
      refine wpList_val (run_mv (v := .pointer (some ⟨p, 0, none⟩)) rfl rfl) rfl ?_; (try simp only [Act.put, List.setIfInBounds_toArray, List.set_cons_zero, List.set_cons_succ])
      refine wpList_val (run_nck rfl rfl) rfl ?_; (try simp only [Act.put, List.setIfInBounds_toArray, List.set_cons_zero, List.set_cons_succ])
      refine wpList_val (run_fad (s := 0) (k := 0) rfl Try.underlying140 rfl (by kernel_rfl) rfl rfl) rfl ?_; (try simp only [Act.put, List.setIfInBounds_toArray, List.set_cons_zero, List.set_cons_succ])
      refine wpList_val (run_ldc (v := v) rfl Try.underlying22 rfl rfl ((GG.out.get (i := L.length) (at_last _ _)).c 0 _ rfl)) rfl ?_; (try simp only [Act.put, List.setIfInBounds_toArray, List.set_cons_zero, List.set_cons_succ])
      clear E
      refine wpList_val (run_mv (v := .int .i64 (m : Int)) rfl rfl) rfl ?_; (try simp only [Act.put, List.setIfInBounds_toArray, List.set_cons_zero, List.set_cons_succ])
      refine wpList_val (run_cvi_8 (n := m) rfl rfl) rfl ?_; (try simp only [Act.put, List.setIfInBounds_toArray, List.set_cons_zero, List.set_cons_succ])
      generalize BitVec.ofNat 8 m = x at *
      refine wpList_val (run_bsl (cells := #[b8 x]) (z := .int .u8 0) rfl Try.underlying22 (by kernel_rfl) (by omega) (by omega) (by kernel_rfl)) rfl ?_; (try simp only [Act.put, List.setIfInBounds_toArray, List.set_cons_zero, List.set_cons_succ])
      have HX := Lib.hid (sl_one wr x)
      replace GG := Lib.hid (GG.out.below ((Below.refl wr.heap.size wr).alloc (Nat.le_refl _) (.cells #[b8 x] 5)))
      generalize wr.alloc (.cells #[b8 x] 5) = o5 at *
      generalize wr.heap.size = g5 at *
      refine wpList_growB rfl rfl rfl rfl HX.out (by rw [List.length_append]; exact HL.out) GG.out (fun v5 y5 hG => ?_); (try simp only [Act.put, List.setIfInBounds_toArray, List.set_cons_zero, List.set_cons_succ])
      replace GG := Lib.hid hG
      clear hG HX
      obtain ⟨xa, xn, xc, rfl⟩ := GG.out.isSlice
      refine wpList_val (run_nck rfl rfl) rfl ?_; (try simp only [Act.put, List.setIfInBounds_toArray, List.set_cons_zero, List.set_cons_succ])
      refine wpList_val (run_fad (s := 0) (k := 0) rfl Try.underlying140 rfl (by kernel_rfl) rfl rfl) rfl ?_; (try simp only [Act.put, List.setIfInBounds_toArray, List.set_cons_zero, List.set_cons_succ])
      refine wpList_skip (run_stc (v := .slice xa xn xc) rfl (by kernel_rfl) rfl rfl rfl rfl ((GG.out.get (i := L.length) (at_last _ _)).c 0 _ rfl) ((GG.out.get (i := L.length) (at_last _ _)).f 0)) rfl rfl ?_
      have E := Lib.hid (Gw.stored GG.out)
      clear GG
      generalize y5.setCell ⟨p, 0, none⟩ (.slice xa xn xc) = z5 at *
      refine wpList_end ?_
      replace E := Lib.hid (E.out.cast (show l ++ pre ++ [x] = l ++ out by rw [EV.out, EO.out, List.append_assoc]))
      go_wp2_with fail
      exact bodyPost_end (results_none Try.results77 _ _ _) rfl ⟨_, rfl, E.out⟩
theorem enters_wtru : Enters 105 := enters_of Try.func105 (by kernel_rfl) rfl
set_option maxHeartbeats 4000000 in
theorem wtru_any (w : World) (p : Nat) (L : List (Nat × List Value)) (l : List (BitVec 8)) (b : Bool) (u : World) (hb : l.length + (trB b).length ≤ 100000000000) (H : Ww w p L l u) : Calls Try.prog 105 #[.pointer (some ⟨p, 0, none⟩), .bool b] u fun e u' => ∃ v', e = .returned v' ∧ Ww w p L (l ++ (trB b)) u' := by
  have HB := Lib.hid (show l.length + 1 ≤ 100000000000 from hb)
  have E := Lib.hid H
  clear hb H
  go_enter Try.func105, Try.ntmps105
  go_upto_region 0 with fail; refine wp_region_lit ?_
  refine wpList_val (run_mv (v := .bool b) rfl rfl) rfl ?_; (try simp only [Act.put, List.setIfInBounds_toArray, List.set_cons_zero, List.set_cons_succ])
  refine wpList_end ?_
  cases b
  · go_upto_region 2 with fail; refine wp_region_lit ?_
    obtain ⟨v, G⟩ := E.out.ex
    have GG := Lib.hid G
    clear G
    refine wpList_val (run_mv (v := .pointer (some ⟨p, 0, none⟩)) rfl rfl) rfl ?_; (try simp only [Act.put, List.setIfInBounds_toArray, List.set_cons_zero, List.set_cons_succ])
    refine wpList_val (run_mv (v := .pointer (some ⟨p, 0, none⟩)) rfl rfl) rfl ?_; (try simp only [Act.put, List.setIfInBounds_toArray, List.set_cons_zero, List.set_cons_succ])
    refine wpList_val (run_nck rfl rfl) rfl ?_; (try simp only [Act.put, List.setIfInBounds_toArray, List.set_cons_zero, List.set_cons_succ])
    refine wpList_val (run_fad (s := 0) (k := 0) rfl Try.underlying140 rfl (by kernel_rfl) rfl rfl) rfl ?_; (try simp only [Act.put, List.setIfInBounds_toArray, List.set_cons_zero, List.set_cons_succ])
    refine wpList_val (run_ldc (v := v) rfl Try.underlying22 rfl rfl ((GG.out.get (i := L.length) (at_last _ _)).c 0 _ rfl)) rfl ?_; (try simp only [Act.put, List.setIfInBounds_toArray, List.set_cons_zero, List.set_cons_succ])
    clear E
    refine wpList_val (run_bsl (cells := #[b8 0]) (z := .int .u8 0) rfl Try.underlying22 (by kernel_rfl) (by omega) (by omega) (by kernel_rfl)) rfl ?_; (try simp only [Act.put, List.setIfInBounds_toArray, List.set_cons_zero, List.set_cons_succ])
    have HX := Lib.hid (sl_one u 0)
    replace GG := Lib.hid (GG.out.below ((Below.refl u.heap.size u).alloc (Nat.le_refl _) (.cells #[b8 0] 5)))
    generalize u.alloc (.cells #[b8 0] 5) = o5 at *
    generalize u.heap.size = g5 at *
    refine wpList_growB rfl rfl rfl rfl HX.out (HB.out) GG.out (fun v5 y5 hG => ?_); (try simp only [Act.put, List.setIfInBounds_toArray, List.set_cons_zero, List.set_cons_succ])
    replace GG := Lib.hid hG
    clear hG HX
    obtain ⟨xa, xn, xc, rfl⟩ := GG.out.isSlice
    refine wpList_val (run_nck rfl rfl) rfl ?_; (try simp only [Act.put, List.setIfInBounds_toArray, List.set_cons_zero, List.set_cons_succ])
    refine wpList_val (run_fad (s := 0) (k := 0) rfl Try.underlying140 rfl (by kernel_rfl) rfl rfl) rfl ?_; (try simp only [Act.put, List.setIfInBounds_toArray, List.set_cons_zero, List.set_cons_succ])
    refine wpList_skip (run_stc (v := .slice xa xn xc) rfl (by kernel_rfl) rfl rfl rfl rfl ((GG.out.get (i := L.length) (at_last _ _)).c 0 _ rfl) ((GG.out.get (i := L.length) (at_last _ _)).f 0)) rfl rfl ?_
    have E := Lib.hid (Gw.stored GG.out)
    clear GG
    generalize y5.setCell ⟨p, 0, none⟩ (.slice xa xn xc) = z5 at *
    refine wpList_end ?_
    go_wp2_with fail
    exact bodyPost_end (results_none Try.results105 _ _ _) rfl ⟨_, rfl, E.out⟩
  · go_upto_region 1 with fail; refine wp_region_lit ?_
    obtain ⟨v, G⟩ := E.out.ex
    have GG := Lib.hid G
    clear G
    refine wpList_val (run_mv (v := .pointer (some ⟨p, 0, none⟩)) rfl rfl) rfl ?_; (try simp only [Act.put, List.setIfInBounds_toArray, List.set_cons_zero, List.set_cons_succ])
    refine wpList_val (run_mv (v := .pointer (some ⟨p, 0, none⟩)) rfl rfl) rfl ?_; (try simp only [Act.put, List.setIfInBounds_toArray, List.set_cons_zero, List.set_cons_succ])
    refine wpList_val (run_nck rfl rfl) rfl ?_; (try simp only [Act.put, List.setIfInBounds_toArray, List.set_cons_zero, List.set_cons_succ])
    refine wpList_val (run_fad (s := 0) (k := 0) rfl Try.underlying140 rfl (by kernel_rfl) rfl rfl) rfl ?_; (try simp only [Act.put, List.setIfInBounds_toArray, List.set_cons_zero, List.set_cons_succ])
    refine wpList_val (run_ldc (v := v) rfl Try.underlying22 rfl rfl ((GG.out.get (i := L.length) (at_last _ _)).c 0 _ rfl)) rfl ?_; (try simp only [Act.put, List.setIfInBounds_toArray, List.set_cons_zero, List.set_cons_succ])
    clear E
    refine wpList_val (run_bsl (cells := #[b8 1]) (z := .int .u8 0) rfl Try.underlying22 (by kernel_rfl) (by omega) (by omega) (by kernel_rfl)) rfl ?_; (try simp only [Act.put, List.setIfInBounds_toArray, List.set_cons_zero, List.set_cons_succ])
    have HX := Lib.hid (sl_one u 1)
    replace GG := Lib.hid (GG.out.below ((Below.refl u.heap.size u).alloc (Nat.le_refl _) (.cells #[b8 1] 5)))
    generalize u.alloc (.cells #[b8 1] 5) = o5 at *
    generalize u.heap.size = g5 at *
    refine wpList_growB rfl rfl rfl rfl HX.out (HB.out) GG.out (fun v5 y5 hG => ?_); (try simp only [Act.put, List.setIfInBounds_toArray, List.set_cons_zero, List.set_cons_succ])
    replace GG := Lib.hid hG
    clear hG HX
    obtain ⟨xa, xn, xc, rfl⟩ := GG.out.isSlice
    refine wpList_val (run_nck rfl rfl) rfl ?_; (try simp only [Act.put, List.setIfInBounds_toArray, List.set_cons_zero, List.set_cons_succ])
    refine wpList_val (run_fad (s := 0) (k := 0) rfl Try.underlying140 rfl (by kernel_rfl) rfl rfl) rfl ?_; (try simp only [Act.put, List.setIfInBounds_toArray, List.set_cons_zero, List.set_cons_succ])
    refine wpList_skip (run_stc (v := .slice xa xn xc) rfl (by kernel_rfl) rfl rfl rfl rfl ((GG.out.get (i := L.length) (at_last _ _)).c 0 _ rfl) ((GG.out.get (i := L.length) (at_last _ _)).f 0)) rfl rfl ?_
    have E := Lib.hid (Gw.stored GG.out)
    clear GG
    generalize y5.setCell ⟨p, 0, none⟩ (.slice xa xn xc) = z5 at *
    refine wpList_end ?_
    go_wp2_with fail
    exact bodyPost_end (results_none Try.results105 _ _ _) rfl ⟨_, rfl, E.out⟩
theorem enters_wtxt : Enters 78 := enters_of Try.func78 (by kernel_rfl) rfl
set_option maxHeartbeats 4000000 in
theorem wtxt_any (w : World) (p : Nat) (L : List (Nat × List Value)) (l : List (BitVec 8)) (s : List (BitVec 8)) (u : World) (hb : l.length + (txB s).length ≤ 100000000000) (H : Ww w p L l u) : Calls Try.prog 78 #[.pointer (some ⟨p, 0, none⟩), .string (strOf s)] u fun e u' => ∃ v', e = .returned v' ∧ Ww w p L (l ++ (txB s)) u' := by
  have hvl := viB_len (s.length : Int)
  have HB1 : Hid (l.length + (viB (s.length : Int)).length ≤ 100000000000) := Lib.hid (by simp only [txB, List.length_append] at hb; omega)
  have HB2 : Hid ((l ++ viB (s.length : Int)).length + s.length ≤ 100000000000) := Lib.hid (by simp only [txB, List.length_append] at hb ⊢; omega)
  have ES : Hid ((strOf s).size = s.length) := Lib.hid (by rw [← sbL_len, sbL_strOf])
  have EB : Hid (sbL (strOf s) = s) := Lib.hid (sbL_strOf s)
  have EO : Hid (l ++ viB (s.length : Int) ++ s = l ++ txB s) := Lib.hid (by simp only [txB, List.append_assoc])
  generalize strOf s = b at *
  generalize txB s = out at *
  have E := Lib.hid H
  clear hb H
  generalize hsl : s.length = n at *
  have HSL := Lib.hid hsl
  clear hsl
  have ES2 := ES.out
  clear ES
  go_enter Try.func78, Try.ntmps78
  go_upto_region 0 with fail; refine wp_region_lit ?_
  refine wpList_val (run_mv (v := .pointer (some ⟨p, 0, none⟩)) rfl rfl) rfl ?_; (try simp only [Act.put, List.setIfInBounds_toArray, List.set_cons_zero, List.set_cons_succ])
  refine wpList_val (run_mv (v := .string b) rfl rfl) rfl ?_; (try simp only [Act.put, List.setIfInBounds_toArray, List.set_cons_zero, List.set_cons_succ])
  refine wpList_val (run_lens rfl rfl) rfl ?_; (try simp only [Act.put, List.setIfInBounds_toArray, List.set_cons_zero, List.set_cons_succ])
  rw [ES2]
  refine wpList_callR (run_call2 enters_wnum rfl rfl rfl rfl) rfl (wnum_any w p L l (n : Int) u HB1.out E.out) (fun v1 a1 hR => ?_); (try simp only [Act.put, List.setIfInBounds_toArray, List.set_cons_zero, List.set_cons_succ])
  replace E := Lib.hid hR
  clear hR
  refine wpList_end ?_
  go_upto_region 1 with fail; refine wp_region_lit ?_
  obtain ⟨v, G⟩ := E.out.ex
  have GG := Lib.hid G
  clear G
  refine wpList_val (run_mv (v := .pointer (some ⟨p, 0, none⟩)) rfl rfl) rfl ?_; (try simp only [Act.put, List.setIfInBounds_toArray, List.set_cons_zero, List.set_cons_succ])
  refine wpList_val (run_mv (v := .pointer (some ⟨p, 0, none⟩)) rfl rfl) rfl ?_; (try simp only [Act.put, List.setIfInBounds_toArray, List.set_cons_zero, List.set_cons_succ])
  refine wpList_val (run_nck rfl rfl) rfl ?_; (try simp only [Act.put, List.setIfInBounds_toArray, List.set_cons_zero, List.set_cons_succ])
  refine wpList_val (run_fad (s := 0) (k := 0) rfl Try.underlying140 rfl (by kernel_rfl) rfl rfl) rfl ?_; (try simp only [Act.put, List.setIfInBounds_toArray, List.set_cons_zero, List.set_cons_succ])
  refine wpList_val (run_ldc (v := v) rfl Try.underlying22 rfl rfl ((GG.out.get (i := L.length) (at_last _ _)).c 0 _ rfl)) rfl ?_; (try simp only [Act.put, List.setIfInBounds_toArray, List.set_cons_zero, List.set_cons_succ])
  have EE := E
  clear E
  refine wpList_val (run_mv (v := .string b) rfl rfl) rfl ?_; (try simp only [Act.put, List.setIfInBounds_toArray, List.set_cons_zero, List.set_cons_succ])
  refine wpList_growT rfl rfl rfl rfl (by rw [ES2]; exact HB2.out) GG.out (fun v5 y5 hG => ?_); (try simp only [Act.put, List.setIfInBounds_toArray, List.set_cons_zero, List.set_cons_succ])
  rw [EB.out] at hG
  replace GG := Lib.hid hG
  clear hG EE
  obtain ⟨xa, xn, xc, rfl⟩ := GG.out.isSlice
  refine wpList_val (run_nck rfl rfl) rfl ?_; (try simp only [Act.put, List.setIfInBounds_toArray, List.set_cons_zero, List.set_cons_succ])
  refine wpList_val (run_fad (s := 0) (k := 0) rfl Try.underlying140 rfl (by kernel_rfl) rfl rfl) rfl ?_; (try simp only [Act.put, List.setIfInBounds_toArray, List.set_cons_zero, List.set_cons_succ])
  refine wpList_skip (run_stc (v := .slice xa xn xc) rfl (by kernel_rfl) rfl rfl rfl rfl ((GG.out.get (i := L.length) (at_last _ _)).c 0 _ rfl) ((GG.out.get (i := L.length) (at_last _ _)).f 0)) rfl rfl ?_
  have E := Lib.hid (Gw.stored GG.out)
  clear GG
  generalize y5.setCell ⟨p, 0, none⟩ (.slice xa xn xc) = z5 at *
  refine wpList_end ?_
  replace E := Lib.hid (E.out.cast EO.out)
  go_wp2_with fail
  exact bodyPost_end (results_none Try.results78 _ _ _) rfl ⟨_, rfl, E.out⟩
theorem enters_wbyt : Enters 107 := enters_of Try.func107 (by kernel_rfl) rfl
set_option maxHeartbeats 4000000 in
theorem wbyt_any (w : World) (p : Nat) (L : List (Nat × List Value)) (l : List (BitVec 8)) (s : List (BitVec 8)) (a0 : Option Addr) (c0 : Nat) (u : World) (hs : Fro 0 (Sl (.slice a0 s.length c0) s) w) (hb : l.length + (viB (s.length : Int) ++ s).length ≤ 100000000000) (H : Ww w p L l u) : Calls Try.prog 107 #[.pointer (some ⟨p, 0, none⟩), .slice a0 s.length c0] u fun e u' => ∃ v', e = .returned v' ∧ Ww w p L (l ++ (viB (s.length : Int) ++ s)) u' := by
  have hvl := viB_len (s.length : Int)
  have HB1 : Hid (l.length + (viB (s.length : Int)).length ≤ 100000000000) := Lib.hid (by simp only [List.length_append] at hb; omega)
  have HB2 : Hid ((l ++ viB (s.length : Int)).length + s.length ≤ 100000000000) := Lib.hid (by simp only [List.length_append] at hb ⊢; omega)
  have HS := Lib.hid hs
  clear hs
  have EO : Hid (l ++ viB (s.length : Int) ++ s = l ++ (viB (s.length : Int) ++ s)) := Lib.hid (List.append_assoc _ _ _)
  generalize viB (s.length : Int) ++ s = out at *
  have E := Lib.hid H
  clear hb H
  generalize hsl : s.length = n at *
  have HSL := Lib.hid hsl
  clear hsl
  go_enter Try.func107, Try.ntmps107
  go_upto_region 0 with fail; refine wp_region_lit ?_
  refine wpList_val (run_mv (v := .pointer (some ⟨p, 0, none⟩)) rfl rfl) rfl ?_; (try simp only [Act.put, List.setIfInBounds_toArray, List.set_cons_zero, List.set_cons_succ])
  refine wpList_val (run_mv (v := .slice a0 n c0) rfl rfl) rfl ?_; (try simp only [Act.put, List.setIfInBounds_toArray, List.set_cons_zero, List.set_cons_succ])
  refine wpList_val (run_len rfl Try.underlying22 rfl) rfl ?_; (try simp only [Act.put, List.setIfInBounds_toArray, List.set_cons_zero, List.set_cons_succ])
  refine wpList_callR (run_call2 enters_wnum rfl rfl rfl rfl) rfl (wnum_any w p L l (n : Int) u HB1.out E.out) (fun v1 a1 hR => ?_); (try simp only [Act.put, List.setIfInBounds_toArray, List.set_cons_zero, List.set_cons_succ])
  replace E := Lib.hid hR
  clear hR
  refine wpList_end ?_
  go_upto_region 1 with fail; refine wp_region_lit ?_
  obtain ⟨v, G⟩ := E.out.ex
  have GG := Lib.hid G
  clear G
  refine wpList_val (run_mv (v := .pointer (some ⟨p, 0, none⟩)) rfl rfl) rfl ?_; (try simp only [Act.put, List.setIfInBounds_toArray, List.set_cons_zero, List.set_cons_succ])
  refine wpList_val (run_mv (v := .pointer (some ⟨p, 0, none⟩)) rfl rfl) rfl ?_; (try simp only [Act.put, List.setIfInBounds_toArray, List.set_cons_zero, List.set_cons_succ])
  refine wpList_val (run_nck rfl rfl) rfl ?_; (try simp only [Act.put, List.setIfInBounds_toArray, List.set_cons_zero, List.set_cons_succ])
  refine wpList_val (run_fad (s := 0) (k := 0) rfl Try.underlying140 rfl (by kernel_rfl) rfl rfl) rfl ?_; (try simp only [Act.put, List.setIfInBounds_toArray, List.set_cons_zero, List.set_cons_succ])
  refine wpList_val (run_ldc (v := v) rfl Try.underlying22 rfl rfl ((GG.out.get (i := L.length) (at_last _ _)).c 0 _ rfl)) rfl ?_; (try simp only [Act.put, List.setIfInBounds_toArray, List.set_cons_zero, List.set_cons_succ])
  have EE := E
  clear E
  refine wpList_val (run_mv (v := .slice a0 n c0) rfl rfl) rfl ?_; (try simp only [Act.put, List.setIfInBounds_toArray, List.set_cons_zero, List.set_cons_succ])
  refine wpList_growB (m := s) rfl rfl rfl rfl (HS.out.below EE.out.bl).now (by rw [HSL.out]; exact HB2.out) GG.out (fun v5 y5 hG => ?_); (try simp only [Act.put, List.setIfInBounds_toArray, List.set_cons_zero, List.set_cons_succ])
  replace GG := Lib.hid hG
  clear hG EE
  obtain ⟨xa, xn, xc, rfl⟩ := GG.out.isSlice
  refine wpList_val (run_nck rfl rfl) rfl ?_; (try simp only [Act.put, List.setIfInBounds_toArray, List.set_cons_zero, List.set_cons_succ])
  refine wpList_val (run_fad (s := 0) (k := 0) rfl Try.underlying140 rfl (by kernel_rfl) rfl rfl) rfl ?_; (try simp only [Act.put, List.setIfInBounds_toArray, List.set_cons_zero, List.set_cons_succ])
  refine wpList_skip (run_stc (v := .slice xa xn xc) rfl (by kernel_rfl) rfl rfl rfl rfl ((GG.out.get (i := L.length) (at_last _ _)).c 0 _ rfl) ((GG.out.get (i := L.length) (at_last _ _)).f 0)) rfl rfl ?_
  have E := Lib.hid (Gw.stored GG.out)
  clear GG
  generalize y5.setCell ⟨p, 0, none⟩ (.slice xa xn xc) = z5 at *
  refine wpList_end ?_
  replace E := Lib.hid (E.out.cast EO.out)
  go_wp2_with fail
  exact bodyPost_end (results_none Try.results107 _ _ _) rfl ⟨_, rfl, E.out⟩
theorem enters_wnon : Enters 106 := enters_of Try.func106 (by kernel_rfl) rfl
set_option maxHeartbeats 4000000 in
theorem wnon_any (w : World) (p : Nat) (L : List (Nat × List Value)) (l : List (BitVec 8)) (n : Int) (u : World) (h0 : -9223372036854775808 ≤ n) (hb : l.length + (viB (oneN n)).length ≤ 100000000000) (H : Ww w p L l u) : Calls Try.prog 106 #[.pointer (some ⟨p, 0, none⟩), .int .i64 n] u fun e u' => ∃ v', e = .returned v' ∧ Ww w p L (l ++ (viB (oneN n))) u' := by
  have EO : Hid (viB (oneN n) = viB (min n 1099511627776 + 1)) := Lib.hid (by unfold viB; congr 1; unfold oneN clN; split <;> omega)
  rw [EO.out] at hb ⊢
  have HB := Lib.hid hb
  have E := Lib.hid H
  clear hb H EO
  go_enter Try.func106, Try.ntmps106
  go_upto_region 0 with fail; refine wp_region_lit ?_
  refine wpList_val (run_mv (v := .pointer (some ⟨p, 0, none⟩)) rfl rfl) rfl ?_; (try simp only [Act.put, List.setIfInBounds_toArray, List.set_cons_zero, List.set_cons_succ])
  refine wpList_val (run_mv (v := .int .i64 n) rfl rfl) rfl ?_; (try simp only [Act.put, List.setIfInBounds_toArray, List.set_cons_zero, List.set_cons_succ])
  refine wpList_val (run_minI _ rfl rfl rfl) rfl ?_; (try simp only [Act.put, List.setIfInBounds_toArray, List.set_cons_zero, List.set_cons_succ])
  refine wpList_val (run_add rfl rfl rfl (by omega) (by omega)) rfl ?_; (try simp only [Act.put, List.setIfInBounds_toArray, List.set_cons_zero, List.set_cons_succ])
  refine wpList_callR (run_call2 enters_wnum rfl rfl rfl rfl) rfl (wnum_any w p L l _ u HB.out E.out) (fun v1 a1 hR => ?_); (try simp only [Act.put, List.setIfInBounds_toArray, List.set_cons_zero, List.set_cons_succ])
  replace E := Lib.hid hR
  clear hR
  refine wpList_end ?_
  go_wp2_with fail
  exact bodyPost_end (results_none Try.results106 _ _ _) rfl ⟨_, rfl, E.out⟩
end Go.Proofs.Ytgioojahadlmhaa
namespace Go.Proofs.Ytgioojahadlmhaa
open Go.RowKit
set_option maxRecDepth 20000
attribute [local irreducible] wpList

theorem z8_len' (n : Nat) : (z8 n).length = n := by simp [z8]
/-- Things one behind the other, their number ahead. -/
def alF {α : Type} (enc : α → List (BitVec 8)) (ms : List α) (i : Nat) : List (BitVec 8) := viB (ms.length : Int) ++ (ms.take i).flatMap enc
def alB {α : Type} (enc : α → List (BitVec 8)) (ms : List α) : List (BitVec 8) := viB (ms.length : Int) ++ ms.flatMap enc
theorem alF_zero {α : Type} (enc : α → List (BitVec 8)) (ms : List α) : viB (ms.length : Int) = alF enc ms 0 := by simp [alF]
theorem alF_all {α : Type} (enc : α → List (BitVec 8)) (ms : List α) : alF enc ms ms.length = alB enc ms := by simp [alF, alB]
theorem alF_succ {α : Type} {enc : α → List (BitVec 8)} {ms : List α} {i : Nat} (h : i < ms.length) : alF enc ms (i + 1) = alF enc ms i ++ enc ms[i] := by
  unfold alF
  rw [List.take_succ_eq_append_getElem h, List.flatMap_append]
  simp
theorem alF_head {α : Type} (enc : α → List (BitVec 8)) (ms : List α) : (viB (ms.length : Int)).length ≤ (alB enc ms).length := by unfold alB; rw [List.length_append]; omega
theorem alF_le {α : Type} (enc : α → List (BitVec 8)) (ms : List α) {i : Nat} (h : i < ms.length) : (alF enc ms i).length + (enc ms[i]).length ≤ (alB enc ms).length := by
  have e : ms = ms.take i ++ ms[i] :: ms.drop (i + 1) := by simp
  have h2 : (ms.flatMap enc).length = ((ms.take i).flatMap enc).length + ((enc ms[i]).length + ((ms.drop (i + 1)).flatMap enc).length) := by
    conv => lhs; rw [e, List.flatMap_append, List.flatMap_cons, List.length_append, List.length_append]
  unfold alF alB
  rw [List.length_append, List.length_append, h2]
  omega
theorem at_last2 {α : Type} (y : α) (L : List α) (x : α) : (y :: L ++ [x])[L.length + 1]? = some x := by simp
theorem sl_arr {u : World} {g n : Nat} (K : List (BitVec 8)) (hK : K.length = n) (hn : 0 < n) (h : Arr g (K.map b8) u) : Sl (.slice (some ⟨g, 0, none⟩) n n) K u := by
  subst hK
  exact ⟨_, _, rfl, Nat.le_refl _, fun _ => ⟨g, 0, rfl, h.lt, h.range⟩⟩
section
variable {w u : World} {ops : Array Oper} {Q : Exit → Act → World → Prop} {o : Oper} {a : Act} {S : World → Prop} {L : List (Nat × List Value)} {v : Value} {l m : List (BitVec 8)} {F H : World → Prop}
theorem wpAnyD_growB {fuel : Nat} {listed : Array Bool} {s x : Operand} (i : Nat) {d : Tmp} (hr : Region.ready .any ops listed = [i]) (hoo : ops[i]? = some o) (hd : o.dst = some d) (hw : Region.wanted o (yielded ops a.tmps) = true) (hl : (listed.setIfInBounds i true).getD i false = true)
    (ho : o.op = .call { callee := .builtin .append, args := #[s, x], argTypes := #[22, 22] }) (hs : a.eval s = v) {vx : Value} (hx : a.eval x = vx) (hv : Sl vx m u) (hn : l.length + m.length ≤ 100000000000) (G : Gw w L 5 1 v l.length (l.map b8) F H u)
    (h : ∀ v' u', Gw w L 5 1 v' (l ++ m).length ((l ++ m).map b8) F H u' → wpAnyL Try.prog ops Q (Till i S) fuel (listed.setIfInBounds i true) (a.put (some d) v') u') : wpAnyL Try.prog ops Q (Till i S) (fuel + 1) listed a u := by
  simp only [← hd] at h
  obtain ⟨v', w', hrun, h1⟩ := run_growB ho hs hx hv hn G
  refine ⟨fun e => (by rw [hr] at e; cases e), fun j hj => ?_⟩
  rw [hr] at hj
  obtain rfl : j = i := by simpa using hj
  simp only [wpOp, hoo, hw, if_true]
  refine .inl ?_
  unfold Oper.wp
  rw [hrun]
  exact ⟨.inl hl, h v' w' h1⟩
end
theorem enters_wkey : Enters 79 := enters_of Try.func79 (by kernel_rfl) rfl
set_option maxHeartbeats 4000000 in
theorem wkey_any (w : World) (p : Nat) (L : List (Nat × List Value)) (l : List (BitVec 8)) (K : List (BitVec 8)) (u : World) (hK : K.length = 32) (hb : l.length + K.length ≤ 100000000000) (H : Ww w p L l u) : Calls Try.prog 79 #[.pointer (some ⟨p, 0, none⟩), .agg (K.map b8).toArray] u fun e u' => ∃ v', e = .returned v' ∧ Ww w p L (l ++ K) u' := by
  have E := Lib.hid H
  have HB := Lib.hid hb
  clear hb H
  go_enter Try.func79, Try.ntmps79
  go_upto_region 0 with fail; refine wp_region_lit ?_
  refine wpList_val (run_boxL8 (vs := K.map b8) rfl rfl) rfl ?_; (try simp only [Act.put, List.setIfInBounds_toArray, List.set_cons_zero, List.set_cons_succ])
  replace E := Lib.hid (E.out.new (K.map b8) 35)
  generalize u.alloc (.cells (K.map b8).toArray 35) = a1 at *
  generalize u.heap.size = g1 at *
  refine wpList_end ?_
  go_upto_region 1 with fail
  obtain ⟨v, G⟩ := E.out.ex
  have GG := Lib.hid G
  have EE := E
  clear G E
  refine wp_region_noPanic ?_; refine wp_region_late (S := Till 6 (fun V => Below a1.heap.size a1 V)) (by kernel_rfl) (.inr (Below.refl _ _).drew) (fun _ => ?_); have hS : Below a1.heap.size a1 a1.drew := (Below.refl _ _).drew
  refine wpAnyD_free 0 rfl rfl (by kernel_rfl) (by kernel_rfl) (by kernel_rfl) (by kernel_rfl) (fun _ _ _ h => h) rfl (fun V => run_mv (v := .pointer (some ⟨p, 0, none⟩)) rfl rfl) hS ?_; (try simp only [Act.put, List.setIfInBounds_toArray, List.set_cons_zero, List.set_cons_succ])
  refine wpAnyD_take 1 rfl rfl (by kernel_rfl) (by kernel_rfl) (by kernel_rfl) (by kernel_rfl) (by kernel_rfl) (fun _ _ _ h => h) rfl (fun V hV => run_mv (v := .pointer (some ⟨p, 0, none⟩)) rfl rfl) hS ?_; (try simp only [Act.put, List.setIfInBounds_toArray, List.set_cons_zero, List.set_cons_succ])
  refine wpAnyD_take 2 rfl rfl (by kernel_rfl) (by kernel_rfl) (by kernel_rfl) (by kernel_rfl) (by kernel_rfl) (fun _ _ _ h => h) rfl (fun V hV => run_nck rfl rfl) hS ?_; (try simp only [Act.put, List.setIfInBounds_toArray, List.set_cons_zero, List.set_cons_succ])
  refine wpAnyD_take 3 rfl rfl (by kernel_rfl) (by kernel_rfl) (by kernel_rfl) (by kernel_rfl) (by kernel_rfl) (fun _ _ _ h => h) rfl (fun V hV => run_fad (s := 0) (k := 0) rfl Try.underlying140 rfl (by kernel_rfl) rfl rfl) hS ?_; (try simp only [Act.put, List.setIfInBounds_toArray, List.set_cons_zero, List.set_cons_succ])
  refine wpAnyD_take 4 rfl rfl (by kernel_rfl) (by kernel_rfl) (by kernel_rfl) (by kernel_rfl) (by kernel_rfl) (fun _ _ _ h => h) rfl (fun V hV => run_ldc rfl Try.underlying22 rfl rfl (((GG.out.below hV).get (i := L.length + 1) (at_last2 _ _ _)).c 0 _ rfl)) hS ?_; (try simp only [Act.put, List.setIfInBounds_toArray, List.set_cons_zero, List.set_cons_succ])
  refine wpAnyD_take 5 rfl rfl (by kernel_rfl) (by kernel_rfl) (by kernel_rfl) (by kernel_rfl) (by kernel_rfl) (fun _ _ _ h => h) rfl (fun V hV => run_slA rfl Try.underlying35 (by kernel_rfl) rfl) hS ?_; (try simp only [Act.put, List.setIfInBounds_toArray, List.set_cons_zero, List.set_cons_succ])
  have HS := Lib.hid (sl_arr K hK (by omega) ((EE.out.get (i := 0) rfl)))
  replace GG := Lib.hid (GG.out.below hS)
  have HS2 := Lib.hid (HS.out.below hS)
  generalize a1.drew = a2 at *
  clear HS EE
  refine wpAnyD_growB 6 (by kernel_rfl) rfl rfl rfl rfl rfl rfl rfl HS2.out HB.out GG.out (fun v5 y5 hG => ?_); (try simp only [Act.put, List.setIfInBounds_toArray, List.set_cons_zero, List.set_cons_succ])
  replace GG := Lib.hid hG
  clear hG HS2
  obtain ⟨xa, xn, xc, rfl⟩ := GG.out.isSlice
  refine wpAnyD_val 7 (by kernel_rfl) rfl rfl rfl (run_nck rfl rfl) (.inl rfl) ?_; (try simp only [Act.put, List.setIfInBounds_toArray, List.set_cons_zero, List.set_cons_succ])
  refine wpAnyD_val 8 (by kernel_rfl) rfl rfl rfl (run_fad (s := 0) (k := 0) rfl Try.underlying140 rfl (by kernel_rfl) rfl rfl) (.inl rfl) ?_; (try simp only [Act.put, List.setIfInBounds_toArray, List.set_cons_zero, List.set_cons_succ])
  refine wpAnyL_skip 9 (by kernel_rfl) rfl rfl rfl (run_stc (v := .slice xa xn xc) rfl (by kernel_rfl) rfl rfl rfl rfl ((GG.out.get (i := L.length + 1) (at_last2 _ _ _)).c 0 _ rfl) ((GG.out.get (i := L.length + 1) (at_last2 _ _ _)).f 0)) (.inl rfl) ?_
  have E2 := Lib.hid (Ww.drop (Gw.stored (L := (g1, K.map b8) :: L) GG.out))
  generalize y5.setCell ⟨p, 0, none⟩ (.slice xa xn xc) = z5 at *
  refine wpAnyL_done (by kernel_rfl) ?_ _; refine NoPanic.normal ?_
  go_wp2_with fail
  exact bodyPost_end (results_none Try.results79 _ _ _) rfl ⟨⟨_, rfl⟩, E2.out⟩
theorem enters_wsig : Enters 81 := enters_of Try.func81 (by kernel_rfl) rfl
set_option maxHeartbeats 4000000 in
theorem wsig_any (w : World) (p : Nat) (L : List (Nat × List Value)) (l : List (BitVec 8)) (K : List (BitVec 8)) (u : World) (hK : K.length = 64) (hb : l.length + K.length ≤ 100000000000) (H : Ww w p L l u) : Calls Try.prog 81 #[.pointer (some ⟨p, 0, none⟩), .agg (K.map b8).toArray] u fun e u' => ∃ v', e = .returned v' ∧ Ww w p L (l ++ K) u' := by
  have E := Lib.hid H
  have HB := Lib.hid hb
  clear hb H
  go_enter Try.func81, Try.ntmps81
  go_upto_region 0 with fail; refine wp_region_lit ?_
  refine wpList_val (run_boxL8 (vs := K.map b8) rfl rfl) rfl ?_; (try simp only [Act.put, List.setIfInBounds_toArray, List.set_cons_zero, List.set_cons_succ])
  replace E := Lib.hid (E.out.new (K.map b8) 38)
  generalize u.alloc (.cells (K.map b8).toArray 38) = a1 at *
  generalize u.heap.size = g1 at *
  refine wpList_end ?_
  go_upto_region 1 with fail
  obtain ⟨v, G⟩ := E.out.ex
  have GG := Lib.hid G
  have EE := E
  clear G E
  refine wp_region_noPanic ?_; refine wp_region_late (S := Till 6 (fun V => Below a1.heap.size a1 V)) (by kernel_rfl) (.inr (Below.refl _ _).drew) (fun _ => ?_); have hS : Below a1.heap.size a1 a1.drew := (Below.refl _ _).drew
  refine wpAnyD_free 0 rfl rfl (by kernel_rfl) (by kernel_rfl) (by kernel_rfl) (by kernel_rfl) (fun _ _ _ h => h) rfl (fun V => run_mv (v := .pointer (some ⟨p, 0, none⟩)) rfl rfl) hS ?_; (try simp only [Act.put, List.setIfInBounds_toArray, List.set_cons_zero, List.set_cons_succ])
  refine wpAnyD_take 1 rfl rfl (by kernel_rfl) (by kernel_rfl) (by kernel_rfl) (by kernel_rfl) (by kernel_rfl) (fun _ _ _ h => h) rfl (fun V hV => run_mv (v := .pointer (some ⟨p, 0, none⟩)) rfl rfl) hS ?_; (try simp only [Act.put, List.setIfInBounds_toArray, List.set_cons_zero, List.set_cons_succ])
  refine wpAnyD_take 2 rfl rfl (by kernel_rfl) (by kernel_rfl) (by kernel_rfl) (by kernel_rfl) (by kernel_rfl) (fun _ _ _ h => h) rfl (fun V hV => run_nck rfl rfl) hS ?_; (try simp only [Act.put, List.setIfInBounds_toArray, List.set_cons_zero, List.set_cons_succ])
  refine wpAnyD_take 3 rfl rfl (by kernel_rfl) (by kernel_rfl) (by kernel_rfl) (by kernel_rfl) (by kernel_rfl) (fun _ _ _ h => h) rfl (fun V hV => run_fad (s := 0) (k := 0) rfl Try.underlying140 rfl (by kernel_rfl) rfl rfl) hS ?_; (try simp only [Act.put, List.setIfInBounds_toArray, List.set_cons_zero, List.set_cons_succ])
  refine wpAnyD_take 4 rfl rfl (by kernel_rfl) (by kernel_rfl) (by kernel_rfl) (by kernel_rfl) (by kernel_rfl) (fun _ _ _ h => h) rfl (fun V hV => run_ldc rfl Try.underlying22 rfl rfl (((GG.out.below hV).get (i := L.length + 1) (at_last2 _ _ _)).c 0 _ rfl)) hS ?_; (try simp only [Act.put, List.setIfInBounds_toArray, List.set_cons_zero, List.set_cons_succ])
  refine wpAnyD_take 5 rfl rfl (by kernel_rfl) (by kernel_rfl) (by kernel_rfl) (by kernel_rfl) (by kernel_rfl) (fun _ _ _ h => h) rfl (fun V hV => run_slA rfl Try.underlying38 (by kernel_rfl) rfl) hS ?_; (try simp only [Act.put, List.setIfInBounds_toArray, List.set_cons_zero, List.set_cons_succ])
  have HS := Lib.hid (sl_arr K hK (by omega) ((EE.out.get (i := 0) rfl)))
  replace GG := Lib.hid (GG.out.below hS)
  have HS2 := Lib.hid (HS.out.below hS)
  generalize a1.drew = a2 at *
  clear HS EE
  refine wpAnyD_growB 6 (by kernel_rfl) rfl rfl rfl rfl rfl rfl rfl HS2.out HB.out GG.out (fun v5 y5 hG => ?_); (try simp only [Act.put, List.setIfInBounds_toArray, List.set_cons_zero, List.set_cons_succ])
  replace GG := Lib.hid hG
  clear hG HS2
  obtain ⟨xa, xn, xc, rfl⟩ := GG.out.isSlice
  refine wpAnyD_val 7 (by kernel_rfl) rfl rfl rfl (run_nck rfl rfl) (.inl rfl) ?_; (try simp only [Act.put, List.setIfInBounds_toArray, List.set_cons_zero, List.set_cons_succ])
  refine wpAnyD_val 8 (by kernel_rfl) rfl rfl rfl (run_fad (s := 0) (k := 0) rfl Try.underlying140 rfl (by kernel_rfl) rfl rfl) (.inl rfl) ?_; (try simp only [Act.put, List.setIfInBounds_toArray, List.set_cons_zero, List.set_cons_succ])
  refine wpAnyL_skip 9 (by kernel_rfl) rfl rfl rfl (run_stc (v := .slice xa xn xc) rfl (by kernel_rfl) rfl rfl rfl rfl ((GG.out.get (i := L.length + 1) (at_last2 _ _ _)).c 0 _ rfl) ((GG.out.get (i := L.length + 1) (at_last2 _ _ _)).f 0)) (.inl rfl) ?_
  have E2 := Lib.hid (Ww.drop (Gw.stored (L := (g1, K.map b8) :: L) GG.out))
  generalize y5.setCell ⟨p, 0, none⟩ (.slice xa xn xc) = z5 at *
  refine wpAnyL_done (by kernel_rfl) ?_ _; refine NoPanic.normal ?_
  go_wp2_with fail
  exact bodyPost_end (results_none Try.results81 _ _ _) rfl ⟨⟨_, rfl⟩, E2.out⟩
theorem enters_wpre : Enters 80 := enters_of Try.func80 (by kernel_rfl) rfl
set_option maxHeartbeats 4000000 in
theorem wpre_any (w : World) (p : Nat) (L : List (Nat × List Value)) (l : List (BitVec 8)) (m : MPk) (u : World) (hm : m.key.length = 32) (hb : l.length + (pkB m).length ≤ 100000000000) (H : Ww w p L l u) : Calls Try.prog 80 #[.pointer (some ⟨p, 0, none⟩), .agg (pkC m).toArray] u fun e u' => ∃ v', e = .returned v' ∧ Ww w p L (l ++ (pkB m)) u' := by
  rw [pkC_row]
  have EB : Hid (l ++ viB m.id ++ m.key = l ++ (pkB m)) := Lib.hid (by unfold pkB; simp only [List.append_assoc])
  have HB : Hid ((l ++ viB m.id ++ m.key).length ≤ 100000000000) := Lib.hid (by rw [EB.out, List.length_append]; exact hb)
  have E := Lib.hid H
  clear hb H
  go_enter Try.func80, Try.ntmps80
  go_upto_region 0 with fail; refine wp_region_lit ?_
  refine wpList_val (run_boxL8 (vs := pkR (.int .i64 m.id) (m.key.map b8)) rfl rfl) rfl ?_; (try simp only [Act.put, List.setIfInBounds_toArray, List.set_cons_zero, List.set_cons_succ])
  replace E := Lib.hid (E.out.new (pkR (.int .i64 m.id) (m.key.map b8)) 42)
  generalize u.alloc (.cells (pkR (.int .i64 m.id) (m.key.map b8)).toArray 42) = a1 at *
  generalize u.heap.size = g2 at *
  refine wpList_end ?_
  go_upto_region 1 with fail; refine wp_region_lit ?_
  refine wpList_val (run_mv (v := .pointer (some ⟨p, 0, none⟩)) rfl rfl) rfl ?_; (try simp only [Act.put, List.setIfInBounds_toArray, List.set_cons_zero, List.set_cons_succ])
  refine wpList_val (run_fad (s := 0) (k := 0) rfl Try.underlying42 rfl (by kernel_rfl) rfl rfl) rfl ?_; (try simp only [Act.put, List.setIfInBounds_toArray, List.set_cons_zero, List.set_cons_succ])
  refine wpList_val (run_ldc rfl Try.underlying3 rfl rfl ((E.out.get (i := 0) rfl).c 0 _ (pkR_ID ))) rfl ?_; (try simp only [Act.put, List.setIfInBounds_toArray, List.set_cons_zero, List.set_cons_succ])
  refine wpList_callR (run_call2 enters_wnum rfl rfl rfl rfl) rfl (wnum_any w p _ _ (m.id) _ (by have h := HB.out; simp only [List.length_append] at h ⊢; omega) E.out) (fun v4 a3 hR => ?_); (try simp only [Act.put, List.setIfInBounds_toArray, List.set_cons_zero, List.set_cons_succ])
  replace E := Lib.hid hR
  clear hR
  refine wpList_end ?_
  go_upto_region 2 with fail; refine wp_region_lit ?_
  refine wpList_val (run_mv (v := .pointer (some ⟨p, 0, none⟩)) rfl rfl) rfl ?_; (try simp only [Act.put, List.setIfInBounds_toArray, List.set_cons_zero, List.set_cons_succ])
  refine wpList_val (run_fad (s := 31) (k := 1) rfl Try.underlying42 rfl (by kernel_rfl) rfl rfl) rfl ?_; (try simp only [Act.put, List.setIfInBounds_toArray, List.set_cons_zero, List.set_cons_succ])
  refine wpList_val (run_ldM (vs := m.key.map b8) rfl Try.underlying35 rfl (szR (by rw [List.length_map, hm]) (by kernel_rfl)) rfl ((E.out.get (i := 0) rfl).seg (pkR_Key (by rw [List.length_map, hm])))) rfl ?_; (try simp only [Act.put, List.setIfInBounds_toArray, List.set_cons_zero, List.set_cons_succ])
  refine wpList_callR (run_call2 enters_wkey rfl rfl rfl rfl) rfl (wkey_any w p _ _ m.key _ hm (by have h := HB.out; simp only [List.length_append] at h ⊢; omega) E.out) (fun v6 a5 hR => ?_); (try simp only [Act.put, List.setIfInBounds_toArray, List.set_cons_zero, List.set_cons_succ])
  replace E := Lib.hid hR
  clear hR
  refine wpList_end ?_
  have E2 := Lib.hid (E.out.drop.cast EB.out)
  go_wp2_with fail
  exact bodyPost_end (results_none Try.results80 _ _ _) rfl ⟨_, rfl, E2.out⟩
theorem enters_went : Enters 109 := enters_of Try.func109 (by kernel_rfl) rfl
set_option maxHeartbeats 4000000 in
theorem went_any (w : World) (p : Nat) (L : List (Nat × List Value)) (l : List (BitVec 8)) (m : MPk) (u : World) (hm : m.key.length = 32) (hb : l.length + (pkB m).length ≤ 100000000000) (H : Ww w p L l u) : Calls Try.prog 109 #[.pointer (some ⟨p, 0, none⟩), .agg (pkC m).toArray] u fun e u' => ∃ v', e = .returned v' ∧ Ww w p L (l ++ (pkB m)) u' := by
  rw [pkC_en]
  have EB : Hid (l ++ viB m.id ++ m.key = l ++ (pkB m)) := Lib.hid (by unfold pkB; simp only [List.append_assoc])
  have HB : Hid ((l ++ viB m.id ++ m.key).length ≤ 100000000000) := Lib.hid (by rw [EB.out, List.length_append]; exact hb)
  have E := Lib.hid H
  clear hb H
  go_enter Try.func109, Try.ntmps109
  go_upto_region 0 with fail; refine wp_region_lit ?_
  refine wpList_val (run_boxL8 (vs := enR (.int .i64 m.id) (m.key.map b8)) rfl rfl) rfl ?_; (try simp only [Act.put, List.setIfInBounds_toArray, List.set_cons_zero, List.set_cons_succ])
  replace E := Lib.hid (E.out.new (enR (.int .i64 m.id) (m.key.map b8)) 123)
  generalize u.alloc (.cells (enR (.int .i64 m.id) (m.key.map b8)).toArray 123) = a1 at *
  generalize u.heap.size = g2 at *
  refine wpList_end ?_
  go_upto_region 1 with fail; refine wp_region_lit ?_
  refine wpList_val (run_mv (v := .pointer (some ⟨p, 0, none⟩)) rfl rfl) rfl ?_; (try simp only [Act.put, List.setIfInBounds_toArray, List.set_cons_zero, List.set_cons_succ])
  refine wpList_val (run_fad (s := 0) (k := 0) rfl Try.underlying123 rfl (by kernel_rfl) rfl rfl) rfl ?_; (try simp only [Act.put, List.setIfInBounds_toArray, List.set_cons_zero, List.set_cons_succ])
  refine wpList_val (run_ldc rfl Try.underlying3 rfl rfl ((E.out.get (i := 0) rfl).c 0 _ (enR_ID ))) rfl ?_; (try simp only [Act.put, List.setIfInBounds_toArray, List.set_cons_zero, List.set_cons_succ])
  refine wpList_callR (run_call2 enters_wnum rfl rfl rfl rfl) rfl (wnum_any w p _ _ (m.id) _ (by have h := HB.out; simp only [List.length_append] at h ⊢; omega) E.out) (fun v4 a3 hR => ?_); (try simp only [Act.put, List.setIfInBounds_toArray, List.set_cons_zero, List.set_cons_succ])
  replace E := Lib.hid hR
  clear hR
  refine wpList_end ?_
  go_upto_region 2 with fail; refine wp_region_lit ?_
  refine wpList_val (run_mv (v := .pointer (some ⟨p, 0, none⟩)) rfl rfl) rfl ?_; (try simp only [Act.put, List.setIfInBounds_toArray, List.set_cons_zero, List.set_cons_succ])
  refine wpList_val (run_fad (s := 31) (k := 1) rfl Try.underlying123 rfl (by kernel_rfl) rfl rfl) rfl ?_; (try simp only [Act.put, List.setIfInBounds_toArray, List.set_cons_zero, List.set_cons_succ])
  refine wpList_val (run_ldM (vs := m.key.map b8) rfl Try.underlying35 rfl (szR (by rw [List.length_map, hm]) (by kernel_rfl)) rfl ((E.out.get (i := 0) rfl).seg (enR_Key (by rw [List.length_map, hm])))) rfl ?_; (try simp only [Act.put, List.setIfInBounds_toArray, List.set_cons_zero, List.set_cons_succ])
  refine wpList_callR (run_call2 enters_wkey rfl rfl rfl rfl) rfl (wkey_any w p _ _ m.key _ hm (by have h := HB.out; simp only [List.length_append] at h ⊢; omega) E.out) (fun v6 a5 hR => ?_); (try simp only [Act.put, List.setIfInBounds_toArray, List.set_cons_zero, List.set_cons_succ])
  replace E := Lib.hid hR
  clear hR
  refine wpList_end ?_
  have E2 := Lib.hid (E.out.drop.cast EB.out)
  go_wp2_with fail
  exact bodyPost_end (results_none Try.results109 _ _ _) rfl ⟨_, rfl, E2.out⟩
theorem enters_whdr : Enters 66 := enters_of Try.func66 (by kernel_rfl) rfl
set_option maxHeartbeats 4000000 in
theorem whdr_any (w : World) (p : Nat) (L : List (Nat × List Value)) (l : List (BitVec 8)) (m : MHd) (u : World) (hm : m.r.length = 32) (hb : l.length + (hdB m).length ≤ 100000000000) (H : Ww w p L l u) : Calls Try.prog 66 #[.pointer (some ⟨p, 0, none⟩), .agg (hdC m).toArray] u fun e u' => ∃ v', e = .returned v' ∧ Ww w p L (l ++ (hdB m)) u' := by
  rw [hdC_row]
  have EB : Hid (l ++ m.r ++ viB m.prev ++ viB m.n = l ++ (hdB m)) := Lib.hid (by unfold hdB; simp only [List.append_assoc])
  have HB : Hid ((l ++ m.r ++ viB m.prev ++ viB m.n).length ≤ 100000000000) := Lib.hid (by rw [EB.out, List.length_append]; exact hb)
  have E := Lib.hid H
  clear hb H
  go_enter Try.func66, Try.ntmps66
  go_upto_region 0 with fail; refine wp_region_lit ?_
  refine wpList_val (run_boxL8 (vs := hdR (m.r.map b8) (.int .i64 m.prev) (.int .i64 m.n)) rfl rfl) rfl ?_; (try simp only [Act.put, List.setIfInBounds_toArray, List.set_cons_zero, List.set_cons_succ])
  replace E := Lib.hid (E.out.new (hdR (m.r.map b8) (.int .i64 m.prev) (.int .i64 m.n)) 62)
  generalize u.alloc (.cells (hdR (m.r.map b8) (.int .i64 m.prev) (.int .i64 m.n)).toArray 62) = a1 at *
  generalize u.heap.size = g2 at *
  refine wpList_end ?_
  go_upto_region 1 with fail; refine wp_region_lit ?_
  refine wpList_val (run_mv (v := .pointer (some ⟨p, 0, none⟩)) rfl rfl) rfl ?_; (try simp only [Act.put, List.setIfInBounds_toArray, List.set_cons_zero, List.set_cons_succ])
  refine wpList_val (run_fad (s := 31) (k := 0) rfl Try.underlying62 rfl (by kernel_rfl) rfl rfl) rfl ?_; (try simp only [Act.put, List.setIfInBounds_toArray, List.set_cons_zero, List.set_cons_succ])
  refine wpList_val (run_ldM (vs := m.r.map b8) rfl Try.underlying35 rfl (szR (by rw [List.length_map, hm]) (by kernel_rfl)) rfl ((E.out.get (i := 0) rfl).seg (hdR_Ratchet (by rw [List.length_map, hm])))) rfl ?_; (try simp only [Act.put, List.setIfInBounds_toArray, List.set_cons_zero, List.set_cons_succ])
  refine wpList_callR (run_call2 enters_wkey rfl rfl rfl rfl) rfl (wkey_any w p _ _ m.r _ hm (by have h := HB.out; simp only [List.length_append] at h ⊢; omega) E.out) (fun v4 a3 hR => ?_); (try simp only [Act.put, List.setIfInBounds_toArray, List.set_cons_zero, List.set_cons_succ])
  replace E := Lib.hid hR
  clear hR
  refine wpList_end ?_
  go_upto_region 2 with fail; refine wp_region_lit ?_
  refine wpList_val (run_mv (v := .pointer (some ⟨p, 0, none⟩)) rfl rfl) rfl ?_; (try simp only [Act.put, List.setIfInBounds_toArray, List.set_cons_zero, List.set_cons_succ])
  refine wpList_val (run_fad (s := 0) (k := 32) rfl Try.underlying62 rfl (by kernel_rfl) rfl rfl) rfl ?_; (try simp only [Act.put, List.setIfInBounds_toArray, List.set_cons_zero, List.set_cons_succ])
  refine wpList_val (run_ldc rfl Try.underlying3 rfl rfl ((E.out.get (i := 0) rfl).c 32 _ (hdR_Prev (by rw [List.length_map, hm])))) rfl ?_; (try simp only [Act.put, List.setIfInBounds_toArray, List.set_cons_zero, List.set_cons_succ])
  refine wpList_callR (run_call2 enters_wnum rfl rfl rfl rfl) rfl (wnum_any w p _ _ (m.prev) _ (by have h := HB.out; simp only [List.length_append] at h ⊢; omega) E.out) (fun v6 a5 hR => ?_); (try simp only [Act.put, List.setIfInBounds_toArray, List.set_cons_zero, List.set_cons_succ])
  replace E := Lib.hid hR
  clear hR
  refine wpList_end ?_
  go_upto_region 3 with fail; refine wp_region_lit ?_
  refine wpList_val (run_mv (v := .pointer (some ⟨p, 0, none⟩)) rfl rfl) rfl ?_; (try simp only [Act.put, List.setIfInBounds_toArray, List.set_cons_zero, List.set_cons_succ])
  refine wpList_val (run_fad (s := 0) (k := 33) rfl Try.underlying62 rfl (by kernel_rfl) rfl rfl) rfl ?_; (try simp only [Act.put, List.setIfInBounds_toArray, List.set_cons_zero, List.set_cons_succ])
  refine wpList_val (run_ldc rfl Try.underlying3 rfl rfl ((E.out.get (i := 0) rfl).c 33 _ (hdR_N (by rw [List.length_map, hm])))) rfl ?_; (try simp only [Act.put, List.setIfInBounds_toArray, List.set_cons_zero, List.set_cons_succ])
  refine wpList_callR (run_call2 enters_wnum rfl rfl rfl rfl) rfl (wnum_any w p _ _ (m.n) _ (by have h := HB.out; simp only [List.length_append] at h ⊢; omega) E.out) (fun v8 a7 hR => ?_); (try simp only [Act.put, List.setIfInBounds_toArray, List.set_cons_zero, List.set_cons_succ])
  replace E := Lib.hid hR
  clear hR
  refine wpList_end ?_
  have E2 := Lib.hid (E.out.drop.cast EB.out)
  go_wp2_with fail
  exact bodyPost_end (results_none Try.results66 _ _ _) rfl ⟨_, rfl, E2.out⟩
theorem enters_walE : Enters 108 := enters_of Try.func108 (by kernel_rfl) rfl
set_option maxHeartbeats 4000000 in
theorem walE_any (w : World) (p : Nat) (L : List (Nat × List Value)) (l : List (BitVec 8)) (ms : List MPk) (a : Option Addr) (c : Nat) (u : World) (hn : ms.length ≤ 100000000000) (hp : ∀ p ∈ ms, p.key.length = 32) (hX : Fro 0 (SlR 33 pkAt ms a c) w) (hb : l.length + (alB pkB ms).length ≤ 100000000000) (H : Ww w p L l u) : Calls Try.prog 108 #[.pointer (some ⟨p, 0, none⟩), .slice a ms.length c, .func (.func 109) #[] #[]] u fun e u' => ∃ v', e = .returned v' ∧ Ww w p L (l ++ (alB pkB ms)) u' := by
  have HE : Hid (∀ i, i < ms.length → ∃ g f cs x, a = some ⟨g, f, none⟩ ∧ alF pkB ms (i + 1) = alF pkB ms i ++ x ∧ (cs : List Value).length = 33 ∧ One cs ∧ (∀ u, Below w.heap.size w u → u.rangeAt g (f + i * 33) cs) ∧ (∀ (u : World) (L : List (Nat × List Value)) (y : List (BitVec 8)), y = l ++ alF pkB ms i → Ww w p L y u → Calls Try.prog 109 #[.pointer (some ⟨p, 0, none⟩), .agg cs.toArray] u fun e u' => ∃ v', e = .returned v' ∧ Ww w p L (y ++ x) u')) := Lib.hid fun i hi => by
    obtain ⟨g, f, cs, h1, h2, h3, h4, h5⟩ := slR_get hX hi
    have hk := hp _ (List.getElem_mem hi)
    have hle := alF_le pkB ms hi
    have e : cs = pkC ms[i] := h5.now
    have hone : One cs := by rw [e]; exact pkC_one hk
    exact ⟨g, f, cs, pkB ms[i], h1, alF_succ hi, h3, hone, fun u hu => rangeAt_below h4 h2 hu, fun u L y hy H => by rw [e]; exact went_any w p L y ms[i] u hk (by rw [hy, List.length_append]; omega) H⟩
  have E0 : Hid (viB (ms.length : Int) = alF pkB ms 0) := Lib.hid (alF_zero _ _)
  have EO : Hid (alF pkB ms ms.length = alB pkB ms) := Lib.hid (alF_all _ _)
  have HB : Hid (l.length + (viB (ms.length : Int)).length ≤ 100000000000) := Lib.hid (by have h := alF_head pkB ms; omega)
  have E := Lib.hid H
  clear hb H hX hp
  obtain ⟨Gf, hGf⟩ : ∃ Gf, Gf = alF pkB ms := ⟨_, rfl⟩
  rw [← hGf] at HE E0 EO
  clear hGf
  generalize alB pkB ms = out at *
  generalize ms.length = n at *
  go_enter Try.func108, Try.ntmps108
  go_upto_region 0 with fail; refine wp_region_lit ?_
  refine wpList_val (run_mv (v := .pointer (some ⟨p, 0, none⟩)) rfl rfl) rfl ?_; (try simp only [Act.put, List.setIfInBounds_toArray, List.set_cons_zero, List.set_cons_succ])
  refine wpList_val (run_mv (v := .slice a n c) rfl rfl) rfl ?_; (try simp only [Act.put, List.setIfInBounds_toArray, List.set_cons_zero, List.set_cons_succ])
  refine wpList_val (run_len rfl Try.underlying36 rfl) rfl ?_; (try simp only [Act.put, List.setIfInBounds_toArray, List.set_cons_zero, List.set_cons_succ])
  refine wpList_callR (run_call2 enters_wnum rfl rfl rfl rfl) rfl (wnum_any w p L l (n : Int) u HB.out E.out) (fun v1 a1 hR => ?_); (try simp only [Act.put, List.setIfInBounds_toArray, List.set_cons_zero, List.set_cons_succ])
  replace E := Lib.hid hR
  clear hR
  rw [E0.out] at E
  refine wpList_end ?_
  go_upto_region 1 with fail; refine wp_region_lit ?_
  refine wpList_val (run_mv (v := .slice a n c) rfl rfl) rfl ?_; (try simp only [Act.put, List.setIfInBounds_toArray, List.set_cons_zero, List.set_cons_succ])
  refine wpList_val (run_len rfl Try.underlying36 rfl) rfl ?_; (try simp only [Act.put, List.setIfInBounds_toArray, List.set_cons_zero, List.set_cons_succ])
  refine wpList_val (run_mv (v := .int .i64 0) rfl rfl) rfl ?_; (try simp only [Act.put, List.setIfInBounds_toArray, List.set_cons_zero, List.set_cons_succ])
  refine wpList_end ?_
  go_wp2_with fail
  go_loopw [14] (fun s14 u => ∃ i : Nat, i ≤ n ∧ s14 = .int .i64 (i : Int) ∧ Ww w p L (l ++ Gf i) u) (fun s14 _ => ((n : Int) - intOf s14).toNat)
  case atStart => exact ⟨0, by omega, rfl, E.out⟩
  case round =>
    obtain ⟨i, hi, rfl, hJ⟩ := hrel
    replace E := Lib.hid hJ
    clear hJ
    by_cases hik : i = n
    · subst hik
      replace E := Lib.hid (E.out.cast (show _ = l ++ out by rw [EO.out]))
      go_upto_region 2 with fail; refine wp_region_lit ?_
      refine wpList_val (run_lssb (c := false) rfl rfl rfl (decide_eq_false (by omega))) rfl ?_; (try simp only [Act.put, List.setIfInBounds_toArray, List.set_cons_zero, List.set_cons_succ])
      refine wpList_end ?_
      go_wp2_with fail
      exact bodyPost_end (results_none Try.results108 _ _ _) rfl ⟨_, rfl, E.out⟩
    · obtain ⟨g, f, cs, x, rfl, hx, hz, hone, hr, hc⟩ := HE.out i (by omega)
      have HX := Lib.hid hx
      have HR1 := Lib.hid hr
      have HC1 := Lib.hid hc
      have HO1 := Lib.hid hone
      clear hx hr hc hone
      go_upto_region 2 with fail; refine wp_region_lit ?_
      refine wpList_val (run_lssb (c := true) rfl rfl rfl (decide_eq_true (by omega))) rfl ?_; (try simp only [Act.put, List.setIfInBounds_toArray, List.set_cons_zero, List.set_cons_succ])
      refine wpList_end ?_
      go_upto_region 3 with fail; refine wp_region_lit ?_
      refine wpList_val (run_ixZ (z := 33) (i := i) rfl Try.underlying36 (by kernel_rfl) rfl rfl (by omega)) rfl ?_; (try simp only [Act.put, List.setIfInBounds_toArray, List.set_cons_zero, List.set_cons_succ])
      refine wpList_val (run_ldM (vs := cs) rfl Try.underlying123 rfl (szR hz (by kernel_rfl)) rfl (HR1.out _ E.out.bl)) rfl ?_; (try simp only [Act.put, List.setIfInBounds_toArray, List.set_cons_zero, List.set_cons_succ])
      refine wpList_val (run_alc (vs := enR ((.int .i64 0)) (z8 32)) rfl (by kernel_rfl)) rfl ?_; (try simp only [Act.put, List.setIfInBounds_toArray, List.set_cons_zero, List.set_cons_succ])
      replace E := Lib.hid (E.out.new (enR ((.int .i64 0)) (z8 32)) 123)
      generalize wr.alloc (.cells (enR ((.int .i64 0)) (z8 32)).toArray 123) = a1 at *
      generalize wr.heap.size = g1 at *
      refine wpList_skip (run_stM (vs := cs) rfl (szR hz (by kernel_rfl)) rfl rfl (One.all HO1.out) ((E.out.get (i := 0) rfl).thereM (by have q2 : (enR ((.int .i64 0)) (z8 32)).length = 33 := (enR_len (z8_len' 32)); omega))) rfl rfl ?_
      replace E := Lib.hid (E.out.put 0 rfl (m' := cs) (hz.trans (show (enR ((.int .i64 0)) (z8 32)).length = 33 from (enR_len (z8_len' 32))).symm))
      replace E := Lib.hid (show Ww w p ((g1, cs) :: L) _ _ from E.out)
      generalize a1.setCells g1 0 cs = a2 at *
      refine wpList_end ?_
      go_upto_region 4 with fail; refine wp_region_lit ?_
      refine wpList_val (run_mv (v := .func (.func 109) #[] #[]) rfl rfl) rfl ?_; (try simp only [Act.put, List.setIfInBounds_toArray, List.set_cons_zero, List.set_cons_succ])
      refine wpList_val (run_mv (v := .pointer (some ⟨p, 0, none⟩)) rfl rfl) rfl ?_; (try simp only [Act.put, List.setIfInBounds_toArray, List.set_cons_zero, List.set_cons_succ])
      refine wpList_val (run_ldM (vs := cs) rfl Try.underlying123 rfl (szR hz (by kernel_rfl)) rfl (E.out.get (i := 0) rfl).range) rfl ?_; (try simp only [Act.put, List.setIfInBounds_toArray, List.set_cons_zero, List.set_cons_succ])
      refine wpList_callR (run_callv2 enters_went rfl rfl rfl rfl) rfl (HC1.out _ _ _ rfl E.out) (fun v3 a3 hR => ?_); (try simp only [Act.put, List.setIfInBounds_toArray, List.set_cons_zero, List.set_cons_succ])
      replace E := Lib.hid (hR.drop.cast (show _ = l ++ Gf (i + 1) by rw [HX.out, List.append_assoc]))
      clear hR
      refine wpList_end ?_
      go_upto_region 5 with fail; refine wp_region_lit ?_
      refine wpList_val (run_addN (a := i) (b := 1) rfl rfl rfl (by omega)) rfl ?_; (try simp only [Act.put, List.setIfInBounds_toArray, List.set_cons_zero, List.set_cons_succ])
      refine wpList_val (run_mv (v := .int .i64 ((i + 1 : Nat) : Int)) rfl rfl) rfl ?_; (try simp only [Act.put, List.setIfInBounds_toArray, List.set_cons_zero, List.set_cons_succ])
      refine wpList_end ?_
      go_wp2_with fail
      exact ⟨⟨i + 1, by omega, rfl, E.out⟩, by simp [intOf]; omega⟩
theorem enters_walP : Enters 82 := enters_of Try.func82 (by kernel_rfl) rfl
set_option maxHeartbeats 4000000 in
theorem walP_any (w : World) (p : Nat) (L : List (Nat × List Value)) (l : List (BitVec 8)) (ms : List MPk) (a : Option Addr) (c : Nat) (u : World) (hn : ms.length ≤ 100000000000) (hp : ∀ p ∈ ms, p.key.length = 32) (hX : Fro 0 (SlR 33 pkAt ms a c) w) (hb : l.length + (alB pkB ms).length ≤ 100000000000) (H : Ww w p L l u) : Calls Try.prog 82 #[.pointer (some ⟨p, 0, none⟩), .slice a ms.length c, .func (.func 80) #[] #[]] u fun e u' => ∃ v', e = .returned v' ∧ Ww w p L (l ++ (alB pkB ms)) u' := by
  have HE : Hid (∀ i, i < ms.length → ∃ g f cs x, a = some ⟨g, f, none⟩ ∧ alF pkB ms (i + 1) = alF pkB ms i ++ x ∧ (cs : List Value).length = 33 ∧ One cs ∧ (∀ u, Below w.heap.size w u → u.rangeAt g (f + i * 33) cs) ∧ (∀ (u : World) (L : List (Nat × List Value)) (y : List (BitVec 8)), y = l ++ alF pkB ms i → Ww w p L y u → Calls Try.prog 80 #[.pointer (some ⟨p, 0, none⟩), .agg cs.toArray] u fun e u' => ∃ v', e = .returned v' ∧ Ww w p L (y ++ x) u')) := Lib.hid fun i hi => by
    obtain ⟨g, f, cs, h1, h2, h3, h4, h5⟩ := slR_get hX hi
    have hk := hp _ (List.getElem_mem hi)
    have hle := alF_le pkB ms hi
    have e : cs = pkC ms[i] := h5.now
    have hone : One cs := by rw [e]; exact pkC_one hk
    exact ⟨g, f, cs, pkB ms[i], h1, alF_succ hi, h3, hone, fun u hu => rangeAt_below h4 h2 hu, fun u L y hy H => by rw [e]; exact wpre_any w p L y ms[i] u hk (by rw [hy, List.length_append]; omega) H⟩
  have E0 : Hid (viB (ms.length : Int) = alF pkB ms 0) := Lib.hid (alF_zero _ _)
  have EO : Hid (alF pkB ms ms.length = alB pkB ms) := Lib.hid (alF_all _ _)
  have HB : Hid (l.length + (viB (ms.length : Int)).length ≤ 100000000000) := Lib.hid (by have h := alF_head pkB ms; omega)
  have E := Lib.hid H
  clear hb H hX hp
  obtain ⟨Gf, hGf⟩ : ∃ Gf, Gf = alF pkB ms := ⟨_, rfl⟩
  rw [← hGf] at HE E0 EO
  clear hGf
  generalize alB pkB ms = out at *
  generalize ms.length = n at *
  go_enter Try.func82, Try.ntmps82
  go_upto_region 0 with fail; refine wp_region_lit ?_
  refine wpList_val (run_mv (v := .pointer (some ⟨p, 0, none⟩)) rfl rfl) rfl ?_; (try simp only [Act.put, List.setIfInBounds_toArray, List.set_cons_zero, List.set_cons_succ])
  refine wpList_val (run_mv (v := .slice a n c) rfl rfl) rfl ?_; (try simp only [Act.put, List.setIfInBounds_toArray, List.set_cons_zero, List.set_cons_succ])
  refine wpList_val (run_len rfl Try.underlying43 rfl) rfl ?_; (try simp only [Act.put, List.setIfInBounds_toArray, List.set_cons_zero, List.set_cons_succ])
  refine wpList_callR (run_call2 enters_wnum rfl rfl rfl rfl) rfl (wnum_any w p L l (n : Int) u HB.out E.out) (fun v1 a1 hR => ?_); (try simp only [Act.put, List.setIfInBounds_toArray, List.set_cons_zero, List.set_cons_succ])
  replace E := Lib.hid hR
  clear hR
  rw [E0.out] at E
  refine wpList_end ?_
  go_upto_region 1 with fail; refine wp_region_lit ?_
  refine wpList_val (run_mv (v := .slice a n c) rfl rfl) rfl ?_; (try simp only [Act.put, List.setIfInBounds_toArray, List.set_cons_zero, List.set_cons_succ])
  refine wpList_val (run_len rfl Try.underlying43 rfl) rfl ?_; (try simp only [Act.put, List.setIfInBounds_toArray, List.set_cons_zero, List.set_cons_succ])
  refine wpList_val (run_mv (v := .int .i64 0) rfl rfl) rfl ?_; (try simp only [Act.put, List.setIfInBounds_toArray, List.set_cons_zero, List.set_cons_succ])
  refine wpList_end ?_
  go_wp2_with fail
  go_loopw [14] (fun s14 u => ∃ i : Nat, i ≤ n ∧ s14 = .int .i64 (i : Int) ∧ Ww w p L (l ++ Gf i) u) (fun s14 _ => ((n : Int) - intOf s14).toNat)
  case atStart => exact ⟨0, by omega, rfl, E.out⟩
  case round =>
    obtain ⟨i, hi, rfl, hJ⟩ := hrel
    replace E := Lib.hid hJ
    clear hJ
    by_cases hik : i = n
    · subst hik
      replace E := Lib.hid (E.out.cast (show _ = l ++ out by rw [EO.out]))
      go_upto_region 2 with fail; refine wp_region_lit ?_
      refine wpList_val (run_lssb (c := false) rfl rfl rfl (decide_eq_false (by omega))) rfl ?_; (try simp only [Act.put, List.setIfInBounds_toArray, List.set_cons_zero, List.set_cons_succ])
      refine wpList_end ?_
      go_wp2_with fail
      exact bodyPost_end (results_none Try.results82 _ _ _) rfl ⟨_, rfl, E.out⟩
    · obtain ⟨g, f, cs, x, rfl, hx, hz, hone, hr, hc⟩ := HE.out i (by omega)
      have HX := Lib.hid hx
      have HR1 := Lib.hid hr
      have HC1 := Lib.hid hc
      have HO1 := Lib.hid hone
      clear hx hr hc hone
      go_upto_region 2 with fail; refine wp_region_lit ?_
      refine wpList_val (run_lssb (c := true) rfl rfl rfl (decide_eq_true (by omega))) rfl ?_; (try simp only [Act.put, List.setIfInBounds_toArray, List.set_cons_zero, List.set_cons_succ])
      refine wpList_end ?_
      go_upto_region 3 with fail; refine wp_region_lit ?_
      refine wpList_val (run_ixZ (z := 33) (i := i) rfl Try.underlying43 (by kernel_rfl) rfl rfl (by omega)) rfl ?_; (try simp only [Act.put, List.setIfInBounds_toArray, List.set_cons_zero, List.set_cons_succ])
      refine wpList_val (run_ldM (vs := cs) rfl Try.underlying42 rfl (szR hz (by kernel_rfl)) rfl (HR1.out _ E.out.bl)) rfl ?_; (try simp only [Act.put, List.setIfInBounds_toArray, List.set_cons_zero, List.set_cons_succ])
      refine wpList_val (run_alc (vs := pkR ((.int .i64 0)) (z8 32)) rfl (by kernel_rfl)) rfl ?_; (try simp only [Act.put, List.setIfInBounds_toArray, List.set_cons_zero, List.set_cons_succ])
      replace E := Lib.hid (E.out.new (pkR ((.int .i64 0)) (z8 32)) 42)
      generalize wr.alloc (.cells (pkR ((.int .i64 0)) (z8 32)).toArray 42) = a1 at *
      generalize wr.heap.size = g1 at *
      refine wpList_skip (run_stM (vs := cs) rfl (szR hz (by kernel_rfl)) rfl rfl (One.all HO1.out) ((E.out.get (i := 0) rfl).thereM (by have q2 : (pkR ((.int .i64 0)) (z8 32)).length = 33 := (pkR_len (z8_len' 32)); omega))) rfl rfl ?_
      replace E := Lib.hid (E.out.put 0 rfl (m' := cs) (hz.trans (show (pkR ((.int .i64 0)) (z8 32)).length = 33 from (pkR_len (z8_len' 32))).symm))
      replace E := Lib.hid (show Ww w p ((g1, cs) :: L) _ _ from E.out)
      generalize a1.setCells g1 0 cs = a2 at *
      refine wpList_end ?_
      go_upto_region 4 with fail; refine wp_region_lit ?_
      refine wpList_val (run_mv (v := .func (.func 80) #[] #[]) rfl rfl) rfl ?_; (try simp only [Act.put, List.setIfInBounds_toArray, List.set_cons_zero, List.set_cons_succ])
      refine wpList_val (run_mv (v := .pointer (some ⟨p, 0, none⟩)) rfl rfl) rfl ?_; (try simp only [Act.put, List.setIfInBounds_toArray, List.set_cons_zero, List.set_cons_succ])
      refine wpList_val (run_ldM (vs := cs) rfl Try.underlying42 rfl (szR hz (by kernel_rfl)) rfl (E.out.get (i := 0) rfl).range) rfl ?_; (try simp only [Act.put, List.setIfInBounds_toArray, List.set_cons_zero, List.set_cons_succ])
      refine wpList_callR (run_callv2 enters_wpre rfl rfl rfl rfl) rfl (HC1.out _ _ _ rfl E.out) (fun v3 a3 hR => ?_); (try simp only [Act.put, List.setIfInBounds_toArray, List.set_cons_zero, List.set_cons_succ])
      replace E := Lib.hid (hR.drop.cast (show _ = l ++ Gf (i + 1) by rw [HX.out, List.append_assoc]))
      clear hR
      refine wpList_end ?_
      go_upto_region 5 with fail; refine wp_region_lit ?_
      refine wpList_val (run_addN (a := i) (b := 1) rfl rfl rfl (by omega)) rfl ?_; (try simp only [Act.put, List.setIfInBounds_toArray, List.set_cons_zero, List.set_cons_succ])
      refine wpList_val (run_mv (v := .int .i64 ((i + 1 : Nat) : Int)) rfl rfl) rfl ?_; (try simp only [Act.put, List.setIfInBounds_toArray, List.set_cons_zero, List.set_cons_succ])
      refine wpList_end ?_
      go_wp2_with fail
      exact ⟨⟨i + 1, by omega, rfl, E.out⟩, by simp [intOf]; omega⟩
end Go.Proofs.Ytgioojahadlmhaa
namespace Go.Proofs.Ytgioojahadlmhaa
open Go.RowKit
set_option maxRecDepth 20000
attribute [local irreducible] wpList

theorem lsB_al (m : MLs) : lsB m = viB m.acc ++ viB m.ver ++ m.ident ++ alB pkB m.devs ++ m.sig := by simp [lsB, lsF, alB, List.append_assoc]
theorem buB_al (m : MBu) : buB m = viB m.acc ++ viB m.dev ++ m.ident ++ m.key ++ pkB m.signed ++ m.sig ++ alB pkB m.ones := by simp [buB, psB, alB, List.append_assoc]
theorem evAt_fix {m : MEv} {X : List Value} {w : World} (hm : m.Ok) (h : Fro 0 (evAt m X) w) : ∃ a c, X = evC m (.slice a m.body.length c) ∧ Fro 0 (Sl (.slice a m.body.length c) m.body) w := by
  obtain ⟨a, c, hq, -⟩ := h.now
  refine ⟨a, c, hq, fun V hV => ?_⟩
  obtain ⟨a2, c2, h1, h2⟩ := h V hV
  rw [hq, evC_row, evC_row] at h1
  have h3 : (_ : List Value)[71]? = (_ : List Value)[71]? := congrArg (fun l : List Value => l[71]?) h1
  rw [evR_Body (by rw [List.length_map, hm.eph]) (hdC_len hm.head), evR_Body (by rw [List.length_map, hm.eph]) (hdC_len hm.head)] at h3
  simp only [Option.some.injEq, Value.slice.injEq] at h3
  obtain ⟨rfl, _, rfl⟩ := h3
  exact h2
theorem buAt_fix {m : MBu} {X : List Value} {w : World} (hm : m.Ok) (h : Fro 0 (buAt m X) w) : ∃ a c, X = buR (.int .i64 m.acc) (.int .i64 m.dev) (m.ident.map b8) (m.key.map b8) (pkC m.signed) (m.sig.map b8) (.slice a m.ones.length c) ∧ Fro 0 (SlR 33 pkAt m.ones a c) w := by
  obtain ⟨a, c, hq, -⟩ := h.now
  refine ⟨a, c, hq, fun V hV => ?_⟩
  obtain ⟨a2, c2, h1, h2⟩ := h V hV
  rw [hq] at h1
  have t1 : (m.ident.map b8).length = 32 := by rw [List.length_map, hm.ident]
  have t2 : (m.key.map b8).length = 32 := by rw [List.length_map, hm.key]
  have t3 : (m.sig.map b8).length = 64 := by rw [List.length_map, hm.sig]
  have h3 : (_ : List Value)[163]? = (_ : List Value)[163]? := congrArg (fun l : List Value => l[163]?) h1
  rw [buR_One t1 t2 (pkC_len' hm.signed) t3, buR_One t1 t2 (pkC_len' hm.signed) t3] at h3
  simp only [Option.some.injEq, Value.slice.injEq] at h3
  obtain ⟨rfl, _, rfl⟩ := h3
  exact h2
theorem enters_wlst : Enters 56 := enters_of Try.func56 (by kernel_rfl) rfl
set_option maxHeartbeats 4000000 in
theorem wlst_any (w : World) (p : Nat) (L : List (Nat × List Value)) (l : List (BitVec 8)) (m : MLs) (X : List Value) (u : World) (hm : m.Ok) (hX : Fro 0 (lsAt m X) w) (hb : l.length + (lsB m).length ≤ 100000000000) (H : Ww w p L l u) : Calls Try.prog 56 #[.pointer (some ⟨p, 0, none⟩), .agg (X).toArray] u fun e u' => ∃ v', e = .returned v' ∧ Ww w p L (l ++ (lsB m)) u' := by
  obtain ⟨a0, c0, rfl, HF⟩ := lsAt_fix hm hX
  clear hX
  obtain ⟨k1, k2, k3, k4⟩ := hm
  have HF2 := Lib.hid HF
  have K3 := Lib.hid k3
  clear HF k3
  have EB : Hid (l ++ viB m.acc ++ viB m.ver ++ m.ident ++ alB pkB m.devs ++ m.sig = l ++ (lsB m)) := Lib.hid (by rw [lsB_al]; simp only [List.append_assoc])
  have HB : Hid ((l ++ viB m.acc ++ viB m.ver ++ m.ident ++ alB pkB m.devs ++ m.sig).length ≤ 100000000000) := Lib.hid (by rw [EB.out, List.length_append]; exact hb)
  have E := Lib.hid H
  clear hb H
  go_enter Try.func56, Try.ntmps56
  go_upto_region 0 with fail; refine wp_region_lit ?_
  refine wpList_val (run_boxL8 (vs := lsR (.int .i64 m.acc) (.int .i64 m.ver) (m.ident.map b8) (.slice a0 m.devs.length c0) (m.sig.map b8)) rfl rfl) rfl ?_; (try simp only [Act.put, List.setIfInBounds_toArray, List.set_cons_zero, List.set_cons_succ])
  replace E := Lib.hid (E.out.new (lsR (.int .i64 m.acc) (.int .i64 m.ver) (m.ident.map b8) (.slice a0 m.devs.length c0) (m.sig.map b8)) 40)
  generalize u.alloc (.cells (lsR (.int .i64 m.acc) (.int .i64 m.ver) (m.ident.map b8) (.slice a0 m.devs.length c0) (m.sig.map b8)).toArray 40) = a1 at *
  generalize u.heap.size = g2 at *
  refine wpList_end ?_
  go_upto_region 1 with fail; refine wp_region_lit ?_
  refine wpList_val (run_mv (v := .pointer (some ⟨p, 0, none⟩)) rfl rfl) rfl ?_; (try simp only [Act.put, List.setIfInBounds_toArray, List.set_cons_zero, List.set_cons_succ])
  refine wpList_val (run_fad (s := 0) (k := 0) rfl Try.underlying40 rfl (by kernel_rfl) rfl rfl) rfl ?_; (try simp only [Act.put, List.setIfInBounds_toArray, List.set_cons_zero, List.set_cons_succ])
  refine wpList_val (run_ldc rfl Try.underlying3 rfl rfl ((E.out.get (i := 0) rfl).c 0 _ (lsR_Account ))) rfl ?_; (try simp only [Act.put, List.setIfInBounds_toArray, List.set_cons_zero, List.set_cons_succ])
  refine wpList_callR (run_call2 enters_wnum rfl rfl rfl rfl) rfl (wnum_any w p _ _ (m.acc) _ (by have h := HB.out; simp only [List.length_append] at h ⊢; omega) E.out) (fun v4 a3 hR => ?_); (try simp only [Act.put, List.setIfInBounds_toArray, List.set_cons_zero, List.set_cons_succ])
  replace E := Lib.hid hR
  clear hR
  refine wpList_end ?_
  go_upto_region 2 with fail; refine wp_region_lit ?_
  refine wpList_val (run_mv (v := .pointer (some ⟨p, 0, none⟩)) rfl rfl) rfl ?_; (try simp only [Act.put, List.setIfInBounds_toArray, List.set_cons_zero, List.set_cons_succ])
  refine wpList_val (run_fad (s := 0) (k := 1) rfl Try.underlying40 rfl (by kernel_rfl) rfl rfl) rfl ?_; (try simp only [Act.put, List.setIfInBounds_toArray, List.set_cons_zero, List.set_cons_succ])
  refine wpList_val (run_ldc rfl Try.underlying3 rfl rfl ((E.out.get (i := 0) rfl).c 1 _ (lsR_Version ))) rfl ?_; (try simp only [Act.put, List.setIfInBounds_toArray, List.set_cons_zero, List.set_cons_succ])
  refine wpList_callR (run_call2 enters_wnum rfl rfl rfl rfl) rfl (wnum_any w p _ _ (m.ver) _ (by have h := HB.out; simp only [List.length_append] at h ⊢; omega) E.out) (fun v6 a5 hR => ?_); (try simp only [Act.put, List.setIfInBounds_toArray, List.set_cons_zero, List.set_cons_succ])
  replace E := Lib.hid hR
  clear hR
  refine wpList_end ?_
  go_upto_region 3 with fail; refine wp_region_lit ?_
  refine wpList_val (run_mv (v := .pointer (some ⟨p, 0, none⟩)) rfl rfl) rfl ?_; (try simp only [Act.put, List.setIfInBounds_toArray, List.set_cons_zero, List.set_cons_succ])
  refine wpList_val (run_fad (s := 31) (k := 2) rfl Try.underlying40 rfl (by kernel_rfl) rfl rfl) rfl ?_; (try simp only [Act.put, List.setIfInBounds_toArray, List.set_cons_zero, List.set_cons_succ])
  refine wpList_val (run_ldM (vs := m.ident.map b8) rfl Try.underlying35 rfl (szR (by rw [List.length_map, k1]) (by kernel_rfl)) rfl ((E.out.get (i := 0) rfl).seg (lsR_Ident (by rw [List.length_map, k1])))) rfl ?_; (try simp only [Act.put, List.setIfInBounds_toArray, List.set_cons_zero, List.set_cons_succ])
  refine wpList_callR (run_call2 enters_wkey rfl rfl rfl rfl) rfl (wkey_any w p _ _ m.ident _ k1 (by have h := HB.out; simp only [List.length_append] at h ⊢; omega) E.out) (fun v8 a7 hR => ?_); (try simp only [Act.put, List.setIfInBounds_toArray, List.set_cons_zero, List.set_cons_succ])
  replace E := Lib.hid hR
  clear hR
  refine wpList_end ?_
  go_upto_region 4 with fail; refine wp_region_lit ?_
  refine wpList_val (run_mv (v := .pointer (some ⟨p, 0, none⟩)) rfl rfl) rfl ?_; (try simp only [Act.put, List.setIfInBounds_toArray, List.set_cons_zero, List.set_cons_succ])
  refine wpList_val (run_fad (s := 0) (k := 34) rfl Try.underlying40 rfl (by kernel_rfl) rfl rfl) rfl ?_; (try simp only [Act.put, List.setIfInBounds_toArray, List.set_cons_zero, List.set_cons_succ])
  refine wpList_val (run_ldc rfl Try.underlying36 rfl rfl ((E.out.get (i := 0) rfl).c 34 _ (lsR_Devices (by rw [List.length_map, k1])))) rfl ?_; (try simp only [Act.put, List.setIfInBounds_toArray, List.set_cons_zero, List.set_cons_succ])
  refine wpList_callR (run_call3 enters_walE rfl rfl rfl rfl rfl) rfl (walE_any w p _ _ m.devs a0 c0 _ (by omega) K3.out HF2.out (by have h := HB.out; simp only [List.length_append] at h ⊢; omega) E.out) (fun v10 a9 hR => ?_); (try simp only [Act.put, List.setIfInBounds_toArray, List.set_cons_zero, List.set_cons_succ])
  replace E := Lib.hid hR
  clear hR
  refine wpList_end ?_
  go_upto_region 5 with fail; refine wp_region_lit ?_
  refine wpList_val (run_mv (v := .pointer (some ⟨p, 0, none⟩)) rfl rfl) rfl ?_; (try simp only [Act.put, List.setIfInBounds_toArray, List.set_cons_zero, List.set_cons_succ])
  refine wpList_val (run_fad (s := 63) (k := 35) rfl Try.underlying40 rfl (by kernel_rfl) rfl rfl) rfl ?_; (try simp only [Act.put, List.setIfInBounds_toArray, List.set_cons_zero, List.set_cons_succ])
  refine wpList_val (run_ldM (vs := m.sig.map b8) rfl Try.underlying38 rfl (szR (by rw [List.length_map, k2]) (by kernel_rfl)) rfl ((E.out.get (i := 0) rfl).seg (lsR_Sig (by rw [List.length_map, k1]) (by rw [List.length_map, k2])))) rfl ?_; (try simp only [Act.put, List.setIfInBounds_toArray, List.set_cons_zero, List.set_cons_succ])
  refine wpList_callR (run_call2 enters_wsig rfl rfl rfl rfl) rfl (wsig_any w p _ _ m.sig _ k2 (by have h := HB.out; simp only [List.length_append] at h ⊢; omega) E.out) (fun v12 a11 hR => ?_); (try simp only [Act.put, List.setIfInBounds_toArray, List.set_cons_zero, List.set_cons_succ])
  replace E := Lib.hid hR
  clear hR
  refine wpList_end ?_
  have E2 := Lib.hid (E.out.drop.cast EB.out)
  go_wp2_with fail
  exact bodyPost_end (results_none Try.results56 _ _ _) rfl ⟨_, rfl, E2.out⟩
theorem enters_wbun : Enters 71 := enters_of Try.func71 (by kernel_rfl) rfl
set_option maxHeartbeats 4000000 in
theorem wbun_any (w : World) (p : Nat) (L : List (Nat × List Value)) (l : List (BitVec 8)) (m : MBu) (X : List Value) (u : World) (hm : m.Ok) (hX : Fro 0 (buAt m X) w) (hb : l.length + (buB m).length ≤ 100000000000) (H : Ww w p L l u) : Calls Try.prog 71 #[.pointer (some ⟨p, 0, none⟩), .agg (X).toArray] u fun e u' => ∃ v', e = .returned v' ∧ Ww w p L (l ++ (buB m)) u' := by
  obtain ⟨a0, c0, rfl, HF⟩ := buAt_fix hm hX
  clear hX
  obtain ⟨k1, k2, k3, k4, k5, k6⟩ := hm
  have HF2 := Lib.hid HF
  have K5 := Lib.hid k5
  clear HF k5
  have EB : Hid (l ++ viB m.acc ++ viB m.dev ++ m.ident ++ m.key ++ pkB m.signed ++ m.sig ++ alB pkB m.ones = l ++ (buB m)) := Lib.hid (by rw [buB_al]; simp only [List.append_assoc])
  have HB : Hid ((l ++ viB m.acc ++ viB m.dev ++ m.ident ++ m.key ++ pkB m.signed ++ m.sig ++ alB pkB m.ones).length ≤ 100000000000) := Lib.hid (by rw [EB.out, List.length_append]; exact hb)
  have E := Lib.hid H
  clear hb H
  go_enter Try.func71, Try.ntmps71
  go_upto_region 0 with fail; refine wp_region_lit ?_
  refine wpList_val (run_boxL8 (vs := buR (.int .i64 m.acc) (.int .i64 m.dev) (m.ident.map b8) (m.key.map b8) (pkC m.signed) (m.sig.map b8) (.slice a0 m.ones.length c0)) rfl rfl) rfl ?_; (try simp only [Act.put, List.setIfInBounds_toArray, List.set_cons_zero, List.set_cons_succ])
  replace E := Lib.hid (E.out.new (buR (.int .i64 m.acc) (.int .i64 m.dev) (m.ident.map b8) (m.key.map b8) (pkC m.signed) (m.sig.map b8) (.slice a0 m.ones.length c0)) 72)
  generalize u.alloc (.cells (buR (.int .i64 m.acc) (.int .i64 m.dev) (m.ident.map b8) (m.key.map b8) (pkC m.signed) (m.sig.map b8) (.slice a0 m.ones.length c0)).toArray 72) = a1 at *
  generalize u.heap.size = g2 at *
  refine wpList_end ?_
  go_upto_region 1 with fail; refine wp_region_lit ?_
  refine wpList_val (run_mv (v := .pointer (some ⟨p, 0, none⟩)) rfl rfl) rfl ?_; (try simp only [Act.put, List.setIfInBounds_toArray, List.set_cons_zero, List.set_cons_succ])
  refine wpList_val (run_fad (s := 0) (k := 0) rfl Try.underlying72 rfl (by kernel_rfl) rfl rfl) rfl ?_; (try simp only [Act.put, List.setIfInBounds_toArray, List.set_cons_zero, List.set_cons_succ])
  refine wpList_val (run_ldc rfl Try.underlying3 rfl rfl ((E.out.get (i := 0) rfl).c 0 _ (buR_Account ))) rfl ?_; (try simp only [Act.put, List.setIfInBounds_toArray, List.set_cons_zero, List.set_cons_succ])
  refine wpList_callR (run_call2 enters_wnum rfl rfl rfl rfl) rfl (wnum_any w p _ _ (m.acc) _ (by have h := HB.out; simp only [List.length_append] at h ⊢; omega) E.out) (fun v4 a3 hR => ?_); (try simp only [Act.put, List.setIfInBounds_toArray, List.set_cons_zero, List.set_cons_succ])
  replace E := Lib.hid hR
  clear hR
  refine wpList_end ?_
  go_upto_region 2 with fail; refine wp_region_lit ?_
  refine wpList_val (run_mv (v := .pointer (some ⟨p, 0, none⟩)) rfl rfl) rfl ?_; (try simp only [Act.put, List.setIfInBounds_toArray, List.set_cons_zero, List.set_cons_succ])
  refine wpList_val (run_fad (s := 0) (k := 1) rfl Try.underlying72 rfl (by kernel_rfl) rfl rfl) rfl ?_; (try simp only [Act.put, List.setIfInBounds_toArray, List.set_cons_zero, List.set_cons_succ])
  refine wpList_val (run_ldc rfl Try.underlying3 rfl rfl ((E.out.get (i := 0) rfl).c 1 _ (buR_Device ))) rfl ?_; (try simp only [Act.put, List.setIfInBounds_toArray, List.set_cons_zero, List.set_cons_succ])
  refine wpList_callR (run_call2 enters_wnum rfl rfl rfl rfl) rfl (wnum_any w p _ _ (m.dev) _ (by have h := HB.out; simp only [List.length_append] at h ⊢; omega) E.out) (fun v6 a5 hR => ?_); (try simp only [Act.put, List.setIfInBounds_toArray, List.set_cons_zero, List.set_cons_succ])
  replace E := Lib.hid hR
  clear hR
  refine wpList_end ?_
  go_upto_region 3 with fail; refine wp_region_lit ?_
  refine wpList_val (run_mv (v := .pointer (some ⟨p, 0, none⟩)) rfl rfl) rfl ?_; (try simp only [Act.put, List.setIfInBounds_toArray, List.set_cons_zero, List.set_cons_succ])
  refine wpList_val (run_fad (s := 31) (k := 2) rfl Try.underlying72 rfl (by kernel_rfl) rfl rfl) rfl ?_; (try simp only [Act.put, List.setIfInBounds_toArray, List.set_cons_zero, List.set_cons_succ])
  refine wpList_val (run_ldM (vs := m.ident.map b8) rfl Try.underlying35 rfl (szR (by rw [List.length_map, k1]) (by kernel_rfl)) rfl ((E.out.get (i := 0) rfl).seg (buR_Ident (by rw [List.length_map, k1])))) rfl ?_; (try simp only [Act.put, List.setIfInBounds_toArray, List.set_cons_zero, List.set_cons_succ])
  refine wpList_callR (run_call2 enters_wkey rfl rfl rfl rfl) rfl (wkey_any w p _ _ m.ident _ k1 (by have h := HB.out; simp only [List.length_append] at h ⊢; omega) E.out) (fun v8 a7 hR => ?_); (try simp only [Act.put, List.setIfInBounds_toArray, List.set_cons_zero, List.set_cons_succ])
  replace E := Lib.hid hR
  clear hR
  refine wpList_end ?_
  go_upto_region 4 with fail; refine wp_region_lit ?_
  refine wpList_val (run_mv (v := .pointer (some ⟨p, 0, none⟩)) rfl rfl) rfl ?_; (try simp only [Act.put, List.setIfInBounds_toArray, List.set_cons_zero, List.set_cons_succ])
  refine wpList_val (run_fad (s := 31) (k := 34) rfl Try.underlying72 rfl (by kernel_rfl) rfl rfl) rfl ?_; (try simp only [Act.put, List.setIfInBounds_toArray, List.set_cons_zero, List.set_cons_succ])
  refine wpList_val (run_ldM (vs := m.key.map b8) rfl Try.underlying35 rfl (szR (by rw [List.length_map, k2]) (by kernel_rfl)) rfl ((E.out.get (i := 0) rfl).seg (buR_Key (by rw [List.length_map, k1]) (by rw [List.length_map, k2])))) rfl ?_; (try simp only [Act.put, List.setIfInBounds_toArray, List.set_cons_zero, List.set_cons_succ])
  refine wpList_callR (run_call2 enters_wkey rfl rfl rfl rfl) rfl (wkey_any w p _ _ m.key _ k2 (by have h := HB.out; simp only [List.length_append] at h ⊢; omega) E.out) (fun v10 a9 hR => ?_); (try simp only [Act.put, List.setIfInBounds_toArray, List.set_cons_zero, List.set_cons_succ])
  replace E := Lib.hid hR
  clear hR
  refine wpList_end ?_
  go_upto_region 5 with fail; refine wp_region_lit ?_
  refine wpList_val (run_mv (v := .pointer (some ⟨p, 0, none⟩)) rfl rfl) rfl ?_; (try simp only [Act.put, List.setIfInBounds_toArray, List.set_cons_zero, List.set_cons_succ])
  refine wpList_val (run_fad (s := 32) (k := 66) rfl Try.underlying72 rfl (by kernel_rfl) rfl rfl) rfl ?_; (try simp only [Act.put, List.setIfInBounds_toArray, List.set_cons_zero, List.set_cons_succ])
  refine wpList_val (run_ldM (vs := pkC m.signed) rfl Try.underlying42 rfl (szR (pkC_len' k3) (by kernel_rfl)) rfl ((E.out.get (i := 0) rfl).seg (buR_Signed (by rw [List.length_map, k1]) (by rw [List.length_map, k2]) (pkC_len' k3)))) rfl ?_; (try simp only [Act.put, List.setIfInBounds_toArray, List.set_cons_zero, List.set_cons_succ])
  refine wpList_callR (run_call2 enters_wpre rfl rfl rfl rfl) rfl (wpre_any w p _ _ m.signed _ k3 (by have h := HB.out; simp only [List.length_append] at h ⊢; omega) E.out) (fun v12 a11 hR => ?_); (try simp only [Act.put, List.setIfInBounds_toArray, List.set_cons_zero, List.set_cons_succ])
  replace E := Lib.hid hR
  clear hR
  refine wpList_end ?_
  go_upto_region 6 with fail; refine wp_region_lit ?_
  refine wpList_val (run_mv (v := .pointer (some ⟨p, 0, none⟩)) rfl rfl) rfl ?_; (try simp only [Act.put, List.setIfInBounds_toArray, List.set_cons_zero, List.set_cons_succ])
  refine wpList_val (run_fad (s := 63) (k := 99) rfl Try.underlying72 rfl (by kernel_rfl) rfl rfl) rfl ?_; (try simp only [Act.put, List.setIfInBounds_toArray, List.set_cons_zero, List.set_cons_succ])
  refine wpList_val (run_ldM (vs := m.sig.map b8) rfl Try.underlying38 rfl (szR (by rw [List.length_map, k4]) (by kernel_rfl)) rfl ((E.out.get (i := 0) rfl).seg (buR_Sig (by rw [List.length_map, k1]) (by rw [List.length_map, k2]) (pkC_len' k3) (by rw [List.length_map, k4])))) rfl ?_; (try simp only [Act.put, List.setIfInBounds_toArray, List.set_cons_zero, List.set_cons_succ])
  refine wpList_callR (run_call2 enters_wsig rfl rfl rfl rfl) rfl (wsig_any w p _ _ m.sig _ k4 (by have h := HB.out; simp only [List.length_append] at h ⊢; omega) E.out) (fun v14 a13 hR => ?_); (try simp only [Act.put, List.setIfInBounds_toArray, List.set_cons_zero, List.set_cons_succ])
  replace E := Lib.hid hR
  clear hR
  refine wpList_end ?_
  go_upto_region 7 with fail; refine wp_region_lit ?_
  refine wpList_val (run_mv (v := .pointer (some ⟨p, 0, none⟩)) rfl rfl) rfl ?_; (try simp only [Act.put, List.setIfInBounds_toArray, List.set_cons_zero, List.set_cons_succ])
  refine wpList_val (run_fad (s := 0) (k := 163) rfl Try.underlying72 rfl (by kernel_rfl) rfl rfl) rfl ?_; (try simp only [Act.put, List.setIfInBounds_toArray, List.set_cons_zero, List.set_cons_succ])
  refine wpList_val (run_ldc rfl Try.underlying43 rfl rfl ((E.out.get (i := 0) rfl).c 163 _ (buR_One (by rw [List.length_map, k1]) (by rw [List.length_map, k2]) (pkC_len' k3) (by rw [List.length_map, k4])))) rfl ?_; (try simp only [Act.put, List.setIfInBounds_toArray, List.set_cons_zero, List.set_cons_succ])
  refine wpList_callR (run_call3 enters_walP rfl rfl rfl rfl rfl) rfl (walP_any w p _ _ m.ones a0 c0 _ (by omega) K5.out HF2.out (by have h := HB.out; simp only [List.length_append] at h ⊢; omega) E.out) (fun v16 a15 hR => ?_); (try simp only [Act.put, List.setIfInBounds_toArray, List.set_cons_zero, List.set_cons_succ])
  replace E := Lib.hid hR
  clear hR
  refine wpList_end ?_
  have E2 := Lib.hid (E.out.drop.cast EB.out)
  go_wp2_with fail
  exact bodyPost_end (results_none Try.results71 _ _ _) rfl ⟨_, rfl, E2.out⟩
theorem enters_wenv : Enters 54 := enters_of Try.func54 (by kernel_rfl) rfl
set_option maxHeartbeats 4000000 in
theorem wenv_any (w : World) (p : Nat) (L : List (Nat × List Value)) (l : List (BitVec 8)) (m : MEv) (X : List Value) (u : World) (hm : m.Ok) (ho : -9223372036854775808 ≤ m.one) (hX : Fro 0 (evAt m X) w) (hb : l.length + (evB m).length ≤ 100000000000) (H : Ww w p L l u) : Calls Try.prog 54 #[.pointer (some ⟨p, 0, none⟩), .agg (X).toArray] u fun e u' => ∃ v', e = .returned v' ∧ Ww w p L (l ++ (evB m)) u' := by
  obtain ⟨a0, c0, rfl, HF⟩ := evAt_fix hm hX
  clear hX
  obtain ⟨k1, k2, k3⟩ := hm
  have HF2 := Lib.hid HF
  clear HF
  rw [evC_row]
  have EB : Hid (l ++ viB m.fr ++ viB m.dev ++ trB m.first ++ m.eph ++ viB m.signed ++ viB (oneN m.one) ++ hdB m.head ++ (viB (m.body.length : Int) ++ m.body) = l ++ (evB m)) := Lib.hid (by unfold evB; simp only [List.append_assoc])
  have HB : Hid ((l ++ viB m.fr ++ viB m.dev ++ trB m.first ++ m.eph ++ viB m.signed ++ viB (oneN m.one) ++ hdB m.head ++ (viB (m.body.length : Int) ++ m.body)).length ≤ 100000000000) := Lib.hid (by rw [EB.out, List.length_append]; exact hb)
  have E := Lib.hid H
  clear hb H
  go_enter Try.func54, Try.ntmps54
  go_upto_region 0 with fail; refine wp_region_lit ?_
  refine wpList_val (run_boxL8 (vs := evR (.int .i64 m.fr) (.int .i64 m.dev) (.bool m.first) (m.eph.map b8) (.int .i64 m.signed) (.int .i64 m.one) (hdC m.head) (.slice a0 m.body.length c0)) rfl rfl) rfl ?_; (try simp only [Act.put, List.setIfInBounds_toArray, List.set_cons_zero, List.set_cons_succ])
  replace E := Lib.hid (E.out.new (evR (.int .i64 m.fr) (.int .i64 m.dev) (.bool m.first) (m.eph.map b8) (.int .i64 m.signed) (.int .i64 m.one) (hdC m.head) (.slice a0 m.body.length c0)) 64)
  generalize u.alloc (.cells (evR (.int .i64 m.fr) (.int .i64 m.dev) (.bool m.first) (m.eph.map b8) (.int .i64 m.signed) (.int .i64 m.one) (hdC m.head) (.slice a0 m.body.length c0)).toArray 64) = a1 at *
  generalize u.heap.size = g2 at *
  refine wpList_end ?_
  go_upto_region 1 with fail; refine wp_region_lit ?_
  refine wpList_val (run_mv (v := .pointer (some ⟨p, 0, none⟩)) rfl rfl) rfl ?_; (try simp only [Act.put, List.setIfInBounds_toArray, List.set_cons_zero, List.set_cons_succ])
  refine wpList_val (run_fad (s := 0) (k := 0) rfl Try.underlying64 rfl (by kernel_rfl) rfl rfl) rfl ?_; (try simp only [Act.put, List.setIfInBounds_toArray, List.set_cons_zero, List.set_cons_succ])
  refine wpList_val (run_ldc rfl Try.underlying3 rfl rfl ((E.out.get (i := 0) rfl).c 0 _ (evR_From ))) rfl ?_; (try simp only [Act.put, List.setIfInBounds_toArray, List.set_cons_zero, List.set_cons_succ])
  refine wpList_callR (run_call2 enters_wnum rfl rfl rfl rfl) rfl (wnum_any w p _ _ (m.fr) _ (by have h := HB.out; simp only [List.length_append] at h ⊢; omega) E.out) (fun v4 a3 hR => ?_); (try simp only [Act.put, List.setIfInBounds_toArray, List.set_cons_zero, List.set_cons_succ])
  replace E := Lib.hid hR
  clear hR
  refine wpList_end ?_
  go_upto_region 2 with fail; refine wp_region_lit ?_
  refine wpList_val (run_mv (v := .pointer (some ⟨p, 0, none⟩)) rfl rfl) rfl ?_; (try simp only [Act.put, List.setIfInBounds_toArray, List.set_cons_zero, List.set_cons_succ])
  refine wpList_val (run_fad (s := 0) (k := 1) rfl Try.underlying64 rfl (by kernel_rfl) rfl rfl) rfl ?_; (try simp only [Act.put, List.setIfInBounds_toArray, List.set_cons_zero, List.set_cons_succ])
  refine wpList_val (run_ldc rfl Try.underlying3 rfl rfl ((E.out.get (i := 0) rfl).c 1 _ (evR_Device ))) rfl ?_; (try simp only [Act.put, List.setIfInBounds_toArray, List.set_cons_zero, List.set_cons_succ])
  refine wpList_callR (run_call2 enters_wnum rfl rfl rfl rfl) rfl (wnum_any w p _ _ (m.dev) _ (by have h := HB.out; simp only [List.length_append] at h ⊢; omega) E.out) (fun v6 a5 hR => ?_); (try simp only [Act.put, List.setIfInBounds_toArray, List.set_cons_zero, List.set_cons_succ])
  replace E := Lib.hid hR
  clear hR
  refine wpList_end ?_
  go_upto_region 3 with fail; refine wp_region_lit ?_
  refine wpList_val (run_mv (v := .pointer (some ⟨p, 0, none⟩)) rfl rfl) rfl ?_; (try simp only [Act.put, List.setIfInBounds_toArray, List.set_cons_zero, List.set_cons_succ])
  refine wpList_val (run_fad (s := 0) (k := 2) rfl Try.underlying64 rfl (by kernel_rfl) rfl rfl) rfl ?_; (try simp only [Act.put, List.setIfInBounds_toArray, List.set_cons_zero, List.set_cons_succ])
  refine wpList_val (run_ldc rfl Try.underlying4 rfl rfl ((E.out.get (i := 0) rfl).c 2 _ (evR_First ))) rfl ?_; (try simp only [Act.put, List.setIfInBounds_toArray, List.set_cons_zero, List.set_cons_succ])
  refine wpList_callR (run_call2 enters_wtru rfl rfl rfl rfl) rfl (wtru_any w p _ _ (m.first) _ (by have h := HB.out; simp only [List.length_append] at h ⊢; omega) E.out) (fun v8 a7 hR => ?_); (try simp only [Act.put, List.setIfInBounds_toArray, List.set_cons_zero, List.set_cons_succ])
  replace E := Lib.hid hR
  clear hR
  refine wpList_end ?_
  go_upto_region 4 with fail; refine wp_region_lit ?_
  refine wpList_val (run_mv (v := .pointer (some ⟨p, 0, none⟩)) rfl rfl) rfl ?_; (try simp only [Act.put, List.setIfInBounds_toArray, List.set_cons_zero, List.set_cons_succ])
  refine wpList_val (run_fad (s := 31) (k := 3) rfl Try.underlying64 rfl (by kernel_rfl) rfl rfl) rfl ?_; (try simp only [Act.put, List.setIfInBounds_toArray, List.set_cons_zero, List.set_cons_succ])
  refine wpList_val (run_ldM (vs := m.eph.map b8) rfl Try.underlying35 rfl (szR (by rw [List.length_map, k1]) (by kernel_rfl)) rfl ((E.out.get (i := 0) rfl).seg (evR_Eph (by rw [List.length_map, k1])))) rfl ?_; (try simp only [Act.put, List.setIfInBounds_toArray, List.set_cons_zero, List.set_cons_succ])
  refine wpList_callR (run_call2 enters_wkey rfl rfl rfl rfl) rfl (wkey_any w p _ _ m.eph _ k1 (by have h := HB.out; simp only [List.length_append] at h ⊢; omega) E.out) (fun v10 a9 hR => ?_); (try simp only [Act.put, List.setIfInBounds_toArray, List.set_cons_zero, List.set_cons_succ])
  replace E := Lib.hid hR
  clear hR
  refine wpList_end ?_
  go_upto_region 5 with fail; refine wp_region_lit ?_
  refine wpList_val (run_mv (v := .pointer (some ⟨p, 0, none⟩)) rfl rfl) rfl ?_; (try simp only [Act.put, List.setIfInBounds_toArray, List.set_cons_zero, List.set_cons_succ])
  refine wpList_val (run_fad (s := 0) (k := 35) rfl Try.underlying64 rfl (by kernel_rfl) rfl rfl) rfl ?_; (try simp only [Act.put, List.setIfInBounds_toArray, List.set_cons_zero, List.set_cons_succ])
  refine wpList_val (run_ldc rfl Try.underlying3 rfl rfl ((E.out.get (i := 0) rfl).c 35 _ (evR_Signed (by rw [List.length_map, k1])))) rfl ?_; (try simp only [Act.put, List.setIfInBounds_toArray, List.set_cons_zero, List.set_cons_succ])
  refine wpList_callR (run_call2 enters_wnum rfl rfl rfl rfl) rfl (wnum_any w p _ _ (m.signed) _ (by have h := HB.out; simp only [List.length_append] at h ⊢; omega) E.out) (fun v12 a11 hR => ?_); (try simp only [Act.put, List.setIfInBounds_toArray, List.set_cons_zero, List.set_cons_succ])
  replace E := Lib.hid hR
  clear hR
  refine wpList_end ?_
  go_upto_region 6 with fail; refine wp_region_lit ?_
  refine wpList_val (run_mv (v := .pointer (some ⟨p, 0, none⟩)) rfl rfl) rfl ?_; (try simp only [Act.put, List.setIfInBounds_toArray, List.set_cons_zero, List.set_cons_succ])
  refine wpList_val (run_fad (s := 0) (k := 36) rfl Try.underlying64 rfl (by kernel_rfl) rfl rfl) rfl ?_; (try simp only [Act.put, List.setIfInBounds_toArray, List.set_cons_zero, List.set_cons_succ])
  refine wpList_val (run_ldc rfl Try.underlying3 rfl rfl ((E.out.get (i := 0) rfl).c 36 _ (evR_One (by rw [List.length_map, k1])))) rfl ?_; (try simp only [Act.put, List.setIfInBounds_toArray, List.set_cons_zero, List.set_cons_succ])
  refine wpList_callR (run_call2 enters_wnon rfl rfl rfl rfl) rfl (wnon_any w p _ _ (m.one) _ ho (by have h := HB.out; simp only [List.length_append] at h ⊢; omega) E.out) (fun v14 a13 hR => ?_); (try simp only [Act.put, List.setIfInBounds_toArray, List.set_cons_zero, List.set_cons_succ])
  replace E := Lib.hid hR
  clear hR
  refine wpList_end ?_
  go_upto_region 7 with fail; refine wp_region_lit ?_
  refine wpList_val (run_mv (v := .pointer (some ⟨p, 0, none⟩)) rfl rfl) rfl ?_; (try simp only [Act.put, List.setIfInBounds_toArray, List.set_cons_zero, List.set_cons_succ])
  refine wpList_val (run_fad (s := 33) (k := 37) rfl Try.underlying64 rfl (by kernel_rfl) rfl rfl) rfl ?_; (try simp only [Act.put, List.setIfInBounds_toArray, List.set_cons_zero, List.set_cons_succ])
  refine wpList_val (run_ldM (vs := hdC m.head) rfl Try.underlying62 rfl (szR (hdC_len k2) (by kernel_rfl)) rfl ((E.out.get (i := 0) rfl).seg (evR_Head (by rw [List.length_map, k1]) (hdC_len k2)))) rfl ?_; (try simp only [Act.put, List.setIfInBounds_toArray, List.set_cons_zero, List.set_cons_succ])
  refine wpList_callR (run_call2 enters_whdr rfl rfl rfl rfl) rfl (whdr_any w p _ _ m.head _ k2 (by have h := HB.out; simp only [List.length_append] at h ⊢; omega) E.out) (fun v16 a15 hR => ?_); (try simp only [Act.put, List.setIfInBounds_toArray, List.set_cons_zero, List.set_cons_succ])
  replace E := Lib.hid hR
  clear hR
  refine wpList_end ?_
  go_upto_region 8 with fail; refine wp_region_lit ?_
  refine wpList_val (run_mv (v := .pointer (some ⟨p, 0, none⟩)) rfl rfl) rfl ?_; (try simp only [Act.put, List.setIfInBounds_toArray, List.set_cons_zero, List.set_cons_succ])
  refine wpList_val (run_fad (s := 0) (k := 71) rfl Try.underlying64 rfl (by kernel_rfl) rfl rfl) rfl ?_; (try simp only [Act.put, List.setIfInBounds_toArray, List.set_cons_zero, List.set_cons_succ])
  refine wpList_val (run_ldc rfl Try.underlying22 rfl rfl ((E.out.get (i := 0) rfl).c 71 _ (evR_Body (by rw [List.length_map, k1]) (hdC_len k2)))) rfl ?_; (try simp only [Act.put, List.setIfInBounds_toArray, List.set_cons_zero, List.set_cons_succ])
  refine wpList_callR (run_call2 enters_wbyt rfl rfl rfl rfl) rfl (wbyt_any w p _ _ m.body a0 c0 _ HF2.out (by have h := HB.out; simp only [List.length_append] at h ⊢; omega) E.out) (fun v18 a17 hR => ?_); (try simp only [Act.put, List.setIfInBounds_toArray, List.set_cons_zero, List.set_cons_succ])
  replace E := Lib.hid hR
  clear hR
  refine wpList_end ?_
  have E2 := Lib.hid (E.out.drop.cast EB.out)
  go_wp2_with fail
  exact bodyPost_end (results_none Try.results54 _ _ _) rfl ⟨_, rfl, E2.out⟩
end Go.Proofs.Ytgioojahadlmhaa
