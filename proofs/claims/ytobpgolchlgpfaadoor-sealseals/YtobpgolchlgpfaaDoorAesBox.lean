/- What aes.double, triple, put, powersOfThree, makeBoxes, Box and Unbox do. -/
import Derived.Test.YtobpgolchlgpfaaDoorAesMs
namespace Go.Proofs.YtobpgolchlgpfaaDoor
open Go.RowKit
set_option maxRecDepth 20000

set_option maxHeartbeats 400000 in
theorem double_any (x : BitVec 8) (w : World) : Calls Tryd.prog 71 #[b8 x] w fun e w' => e = .returned (b8 (dbl x)) ∧ w' = w := by
  go_enter Tryd.func71, Tryd.ntmps71
  go_upto_region 1 with fail; refine wp_region_lit ?_
  refine wpList_val (run_mv (v := b8 _) rfl rfl) rfl ?_; (try simp only [Act.put, List.setIfInBounds_toArray, List.set_cons_zero, List.set_cons_succ])
  refine wpList_val (run_shl8 (n := 1) rfl rfl rfl (by omega)) rfl ?_; (try simp only [Act.put, List.setIfInBounds_toArray, List.set_cons_zero, List.set_cons_succ])
  refine wpList_val (run_mv (v := b8 _) rfl rfl) rfl ?_; (try simp only [Act.put, List.setIfInBounds_toArray, List.set_cons_zero, List.set_cons_succ])
  refine wpList_val (run_shr8 (n := 7) rfl rfl rfl (by omega)) rfl ?_; (try simp only [Act.put, List.setIfInBounds_toArray, List.set_cons_zero, List.set_cons_succ])
  refine wpList_val (run_mul8 (b := 27) rfl rfl rfl) rfl ?_; (try simp only [Act.put, List.setIfInBounds_toArray, List.set_cons_zero, List.set_cons_succ])
  refine wpList_val (run_xor8 rfl rfl rfl) rfl ?_; (try simp only [Act.put, List.setIfInBounds_toArray, List.set_cons_zero, List.set_cons_succ]); refine wpList_val (run_asg (v := b8 _) rfl rfl) rfl ?_; (try simp only [Act.put, List.setIfInBounds_toArray, List.set_cons_zero, List.set_cons_succ])
  refine wpList_end ?_
  go_wp2_with fail
  go_ret
  exact ⟨rfl, rfl⟩
theorem enters_double : Enters 71 := enters_of Tryd.func71 (by kernel_rfl) rfl
set_option maxHeartbeats 400000 in
theorem triple_any (x : BitVec 8) (w : World) : Calls Tryd.prog 70 #[b8 x] w fun e w' => e = .returned (b8 (tri x)) ∧ w' = w := by
  go_enter Tryd.func70, Tryd.ntmps70
  go_upto_region 1 with fail; refine wp_region_lit ?_
  refine wpList_val (run_mv (v := b8 _) rfl rfl) rfl ?_; (try simp only [Act.put, List.setIfInBounds_toArray, List.set_cons_zero, List.set_cons_succ])
  refine wpList_still (run_call1 enters_double rfl rfl rfl) rfl (double_any _ _) ?_; (try simp only [Act.put, List.setIfInBounds_toArray, List.set_cons_zero, List.set_cons_succ])
  refine wpList_val (run_mv (v := b8 _) rfl rfl) rfl ?_; (try simp only [Act.put, List.setIfInBounds_toArray, List.set_cons_zero, List.set_cons_succ]); refine wpList_val (run_xor8 rfl rfl rfl) rfl ?_; (try simp only [Act.put, List.setIfInBounds_toArray, List.set_cons_zero, List.set_cons_succ]); refine wpList_val (run_asg (v := b8 _) rfl rfl) rfl ?_; (try simp only [Act.put, List.setIfInBounds_toArray, List.set_cons_zero, List.set_cons_succ])
  refine wpList_end ?_
  go_wp2_with fail
  go_ret
  exact ⟨rfl, rfl⟩
theorem enters_triple : Enters 70 := enters_of Tryd.func70 (by kernel_rfl) rfl
set_option maxHeartbeats 400000 in
theorem rot_any (x : BitVec 8) (n : Nat) (w : World) (hn : n < 8) : Calls Tryd.prog 69 #[b8 x, .int .i64 (n : Int)] w fun e w' => e = .returned (b8 (rotB x n)) ∧ w' = w := by
  go_enter Tryd.func69, Tryd.ntmps69
  go_upto_region 1 with fail; refine wp_region_lit ?_
  refine wpList_val (run_mv (v := .int _ _) rfl rfl) rfl ?_; (try simp only [Act.put, List.setIfInBounds_toArray, List.set_cons_zero, List.set_cons_succ])
  refine wpList_val (run_cviuN rfl rfl (by omega)) rfl ?_; (try simp only [Act.put, List.setIfInBounds_toArray, List.set_cons_zero, List.set_cons_succ])
  refine wpList_val (run_and7 rfl rfl rfl hn) rfl ?_; (try simp only [Act.put, List.setIfInBounds_toArray, List.set_cons_zero, List.set_cons_succ])
  refine wpList_val (run_asg (v := .int _ _) rfl rfl) rfl ?_; (try simp only [Act.put, List.setIfInBounds_toArray, List.set_cons_zero, List.set_cons_succ])
  refine wpList_end ?_
  go_upto_region 2 with fail; refine wp_region_lit ?_
  refine wpList_val (run_mv (v := b8 _) rfl rfl) rfl ?_; (try simp only [Act.put, List.setIfInBounds_toArray, List.set_cons_zero, List.set_cons_succ]); refine wpList_val (run_mv (v := .int _ _) rfl rfl) rfl ?_; (try simp only [Act.put, List.setIfInBounds_toArray, List.set_cons_zero, List.set_cons_succ])
  refine wpList_val (run_shl8 rfl rfl rfl (by omega)) rfl ?_; (try simp only [Act.put, List.setIfInBounds_toArray, List.set_cons_zero, List.set_cons_succ])
  refine wpList_val (run_mv (v := b8 _) rfl rfl) rfl ?_; (try simp only [Act.put, List.setIfInBounds_toArray, List.set_cons_zero, List.set_cons_succ]); refine wpList_val (run_mv (v := .int _ _) rfl rfl) rfl ?_; (try simp only [Act.put, List.setIfInBounds_toArray, List.set_cons_zero, List.set_cons_succ])
  refine wpList_val (run_subu (a := 8) rfl rfl rfl (by omega) (by omega)) rfl ?_; (try simp only [Act.put, List.setIfInBounds_toArray, List.set_cons_zero, List.set_cons_succ])
  refine wpList_val (run_shr8 rfl rfl rfl (by omega)) rfl ?_; (try simp only [Act.put, List.setIfInBounds_toArray, List.set_cons_zero, List.set_cons_succ])
  refine wpList_val (run_or8 rfl rfl rfl) rfl ?_; (try simp only [Act.put, List.setIfInBounds_toArray, List.set_cons_zero, List.set_cons_succ]); refine wpList_val (run_asg (v := b8 _) rfl rfl) rfl ?_; (try simp only [Act.put, List.setIfInBounds_toArray, List.set_cons_zero, List.set_cons_succ])
  refine wpList_end ?_
  go_wp2_with fail
  go_ret
  exact ⟨rfl, rfl⟩
theorem enters_rot : Enters 69 := enters_of Tryd.func69 (by kernel_rfl) rfl
set_option maxHeartbeats 1000000 in
theorem bput_any (g : Nat) (T : List (BitVec 8)) (b i : BitVec 8) (w : World) (hA : Arr g (T.map b8) w) (hT : T.length = 512) :
    Calls Tryd.prog 59 #[.pointer (some ⟨g, 0, none⟩), b8 b, b8 i] w fun e w' => ∃ v, e = .returned v ∧ w' = (w.setCell ⟨g, b.toNat, none⟩ (b8 (aff i))).setCell ⟨g, 256 + (aff i).toNat, none⟩ (b8 b) := by
  have HA := Lib.hid hA; clear hA
  have hb := b.isLt
  go_enter Tryd.func59, Tryd.ntmps59
  go_upto_region 0 with fail; refine wp_region_lit ?_
  refine wpList_val (run_mv (v := b8 _) rfl rfl) rfl ?_; (try simp only [Act.put, List.setIfInBounds_toArray, List.set_cons_zero, List.set_cons_succ])
  refine wpList_val (run_xor8 (b := 99) rfl rfl rfl) rfl ?_; (try simp only [Act.put, List.setIfInBounds_toArray, List.set_cons_zero, List.set_cons_succ])
  refine wpList_val (run_asg (v := b8 _) rfl rfl) rfl ?_; (try simp only [Act.put, List.setIfInBounds_toArray, List.set_cons_zero, List.set_cons_succ])
  refine wpList_end ?_
  have h0 : i ^^^ 99 = affI i 0 := rfl
  rw [h0]
  clear h0
  go_wp2_with fail
  go_loopw [6, 7] (fun s6 s7 u => ∃ n : Nat, n ≤ 4 ∧ s6 = b8 (affI i n) ∧ s7 = .int .i64 ((n : Int) + 1) ∧ u = w) (fun _ s _ => (5 - intOf s).toNat)
  case atStart => exact ⟨0, by omega, rfl, rfl, rfl⟩
  case round =>
    obtain ⟨n, hn, rfl, rfl, rfl⟩ := hrel
    by_cases hlt : n = 4
    · subst hlt
      have hk1 : ¬ (((4 : Nat) : Int) + 1 ≤ 4) := by omega
      have hc : affI i 4 = aff i := rfl
      rw [hc]
      have ha := (aff i).isLt
      clear hc
      generalize hc : aff i = c at *
      have EC := Lib.hid hc; clear hc
      go_upto_region 5 with fail; refine wp_region_lit ?_
      refine wpList_val (run_mv (v := .pointer (some _)) rfl rfl) rfl ?_; (try simp only [Act.put, List.setIfInBounds_toArray, List.set_cons_zero, List.set_cons_succ]); refine wpList_val (run_mv (v := b8 _) rfl rfl) rfl ?_; (try simp only [Act.put, List.setIfInBounds_toArray, List.set_cons_zero, List.set_cons_succ]); refine wpList_val (run_mv (v := b8 _) rfl rfl) rfl ?_; (try simp only [Act.put, List.setIfInBounds_toArray, List.set_cons_zero, List.set_cons_succ])
      refine wpList_val (run_nck rfl rfl) rfl ?_; (try simp only [Act.put, List.setIfInBounds_toArray, List.set_cons_zero, List.set_cons_succ])
      refine wpList_val (run_fad (s := 255) (k := 0) rfl Tryd.underlying69 rfl (by kernel_rfl) rfl rfl) rfl ?_; (try simp only [Act.put, List.setIfInBounds_toArray, List.set_cons_zero, List.set_cons_succ])
      refine wpList_val (run_ix0 rfl Tryd.underlying67 (by kernel_rfl) rfl rfl hb) rfl ?_; (try simp only [Act.put, List.setIfInBounds_toArray, List.set_cons_zero, List.set_cons_succ])
      refine wpList_skip (run_st8 rfl rfl rfl (HA.out.get8 (by omega)) (HA.out.f _)) rfl rfl ?_
      refine wpList_end ?_
      replace HA := Lib.hid (HA.out.set8 (i := b.toNat) (by omega) c)
      generalize hu : wr.setCell ⟨g, b.toNat, none⟩ (b8 c) = u1 at *
      have EU := Lib.hid hu; clear hu
      go_upto_region 6 with fail; refine wp_region_lit ?_
      refine wpList_val (run_mv (v := .pointer (some _)) rfl rfl) rfl ?_; (try simp only [Act.put, List.setIfInBounds_toArray, List.set_cons_zero, List.set_cons_succ]); refine wpList_val (run_mv (v := b8 _) rfl rfl) rfl ?_; (try simp only [Act.put, List.setIfInBounds_toArray, List.set_cons_zero, List.set_cons_succ]); refine wpList_val (run_mv (v := b8 _) rfl rfl) rfl ?_; (try simp only [Act.put, List.setIfInBounds_toArray, List.set_cons_zero, List.set_cons_succ])
      refine wpList_val (run_nck rfl rfl) rfl ?_; (try simp only [Act.put, List.setIfInBounds_toArray, List.set_cons_zero, List.set_cons_succ])
      refine wpList_val (run_fad (s := 255) (k := 256) rfl Tryd.underlying69 rfl (by kernel_rfl) rfl rfl) rfl ?_; (try simp only [Act.put, List.setIfInBounds_toArray, List.set_cons_zero, List.set_cons_succ])
      refine wpList_val (run_ixa (off := 256) rfl Tryd.underlying67 (by kernel_rfl) rfl rfl ha) rfl ?_; (try simp only [Act.put, List.setIfInBounds_toArray, List.set_cons_zero, List.set_cons_succ])
      refine wpList_skip (run_st8 rfl rfl rfl (HA.out.get8 (by rw [List.length_set]; omega)) (HA.out.f _)) rfl rfl ?_
      refine wpList_end ?_
      go_wp2_with fail
      exact bodyPost_end (results_none Tryd.results59 _ _ _) rfl ⟨⟨_, rfl⟩, by rw [EC.out, EU.out]⟩
    · have hk1 : (n : Int) + 1 ≤ 4 := by omega
      go_upto_region 4 with fail; refine wp_region_lit ?_
      refine wpList_val (run_mv (v := b8 _) rfl rfl) rfl ?_; (try simp only [Act.put, List.setIfInBounds_toArray, List.set_cons_zero, List.set_cons_succ]); refine wpList_val (run_mv (v := b8 _) rfl rfl) rfl ?_; (try simp only [Act.put, List.setIfInBounds_toArray, List.set_cons_zero, List.set_cons_succ]); refine wpList_val (run_mv (v := .int _ _) rfl rfl) rfl ?_; (try simp only [Act.put, List.setIfInBounds_toArray, List.set_cons_zero, List.set_cons_succ])
      rw [show ((n : Int) + 1) = ((n + 1 : Nat) : Int) by omega]
      refine wpList_still (run_call2 enters_rot rfl rfl rfl rfl) rfl (rot_any _ _ _ (by omega)) ?_; (try simp only [Act.put, List.setIfInBounds_toArray, List.set_cons_zero, List.set_cons_succ])
      rw [show ((n + 1 : Nat) : Int) = (n : Int) + 1 by omega]
      refine wpList_val (run_xor8 rfl rfl rfl) rfl ?_; (try simp only [Act.put, List.setIfInBounds_toArray, List.set_cons_zero, List.set_cons_succ]); refine wpList_val (run_asg (v := b8 _) rfl rfl) rfl ?_; (try simp only [Act.put, List.setIfInBounds_toArray, List.set_cons_zero, List.set_cons_succ])
      refine wpList_end ?_
      have hc : affI i n ^^^ rotB i (n + 1) = affI i (n + 1) := rfl
      rw [hc]
      clear hc
      go_wp2_with fail
      go_roundw
      case rel => exact ⟨n + 1, by omega, rfl, by go_num, trivial⟩
      case measure => simp [intOf]; omega
theorem enters_bput : Enters 59 := enters_of Tryd.func59 (by kernel_rfl) rfl
set_option maxHeartbeats 1000000 in
theorem powers_any (w : World) : Calls Tryd.prog 60 #[] w fun e w' => e = .returned (.agg ((tab 255 pw3).map b8).toArray) ∧ Below w.heap.size w w' := by
  have hM := Lib.hid (Ms.nil w)
  go_enter Tryd.func60, Tryd.ntmps60
  go_upto_region 0 with fail; refine wp_region_lit ?_
  refine wpList_val (run_alc (vs := z8 255) rfl (by kernel_rfl)) rfl ?_; (try simp only [Act.put, List.setIfInBounds_toArray, List.set_cons_zero]); replace hM := Lib.hid (hM.out.newZ 255 89); generalize w.alloc (.cells (z8 255).toArray 89) = a1 at *; generalize w.heap.size = g0 at *
  refine wpList_end ?_
  go_upto_region 1 with fail; refine wp_region_lit ?_
  refine wpList_val (run_alc (vs := z8 255) rfl (by kernel_rfl)) rfl ?_; (try simp only [Act.put, List.setIfInBounds_toArray, List.set_cons_zero, List.set_cons_succ]); replace hM := Lib.hid (hM.out.newZ 255 89); generalize a1.alloc (.cells (z8 255).toArray 89) = a2 at *; generalize a1.heap.size = g1 at *
  refine wpList_end ?_
  replace hM : Hid (Ms w [(g1, upd pw3 (List.replicate 255 0) 0), (g0, List.replicate 255 0)] a2) := Lib.hid (by rw [upd_zero]; exact hM.out)
  go_upto_region 2 with fail; refine wp_region_lit ?_
  refine wpList_val (run_asg (v := b8 1) rfl rfl) rfl ?_; (try simp only [Act.put, List.setIfInBounds_toArray, List.set_cons_zero, List.set_cons_succ])
  refine wpList_end ?_
  rw [← pw_zero]
  go_wp2_with fail
  go_loopw [2, 4] (fun s2 s u => ∃ k : Nat, k ≤ 255 ∧ s2 = b8 (pw3 k) ∧ s = .int .i64 (k : Int) ∧ Ms w [(g1, upd pw3 (List.replicate 255 0) k), (g0, List.replicate 255 0)] u) (fun _ s _ => (255 - intOf s).toNat)
  case atStart => exact ⟨0, by omega, rfl, rfl, hM.out⟩
  case round =>
    obtain ⟨k, hk, rfl, rfl, hJ⟩ := hrel
    replace hM := Lib.hid hJ
    clear hJ
    have hl : (upd pw3 (List.replicate 255 0) k).length = 255 := by rw [upd_len, List.length_replicate]
    by_cases hlt : k = 255
    · subst hlt
      have hk1 : ¬ (((255 : Nat) : Int) < 255) := by omega
      rw [upd_all List.length_replicate] at hM
      have htl := tab_len 255 pw3
      generalize hT : tab 255 pw3 = T at *
      have ET := Lib.hid hT; clear hT
      go_upto_region 9 with fail; refine wp_region_lit ?_; refine wpList_val (run_ldM (vs := (T).map b8) rfl Tryd.underlying89 rfl (sz sz255 htl) rfl (hM.out.get (i := 0) rfl).range) rfl ?_; (try simp only [Act.put, List.setIfInBounds_toArray, List.set_cons_zero, List.set_cons_succ]); refine wpList_skip (run_stA (vs := (T).map b8) rfl (sz sz255 htl) rfl rfl (oneB _) ((hM.out.get (i := 1) rfl).there8 (by rw [htl, List.length_replicate]))) rfl rfl ?_; refine wpList_end ?_; replace hM := Lib.hid (hM.out.put 1 rfl (m := T) (by rw [htl, List.length_replicate])); go_wp2_with fail; refine bodyPost_ret (v := .agg ((T).map b8).toArray) (results_rowB Tryd.results60 rfl Tryd.underlying89 rfl (sz sz255 htl) (hM.out.get (i := 1) rfl).range) rfl ⟨by rw [ET.out], hM.out.bl⟩
    · have hk1 : (k : Int) < 255 := by omega
      go_upto_region 6 with fail; refine wp_region_lit ?_
      refine wpList_val (run_mv (v := .int _ _) rfl rfl) rfl ?_; (try simp only [Act.put, List.setIfInBounds_toArray, List.set_cons_zero, List.set_cons_succ]); refine wpList_val (run_mv (v := b8 _) rfl rfl) rfl ?_; (try simp only [Act.put, List.setIfInBounds_toArray, List.set_cons_zero, List.set_cons_succ])
      refine wpList_val (run_ix0 rfl Tryd.underlying89 (by kernel_rfl) rfl rfl (by omega)) rfl ?_; (try simp only [Act.put, List.setIfInBounds_toArray, List.set_cons_zero, List.set_cons_succ])
      refine wpList_skip (run_st8 rfl rfl rfl ((hM.out.get (i := 0) rfl).get8 (by omega)) ((hM.out.get (i := 0) rfl).f _)) rfl rfl ?_
      refine wpList_end ?_
      replace hM : Hid (Ms w [(g1, upd pw3 (List.replicate 255 0) (k + 1)), (g0, List.replicate 255 0)] (wr.setCell ⟨g1, k, none⟩ (b8 (pw3 k)))) := Lib.hid (by rw [← upd_set (by rw [List.length_replicate]; omega)]; exact hM.out.set 0 rfl (by omega) (pw3 k))
      generalize wr.setCell ⟨g1, k, none⟩ (b8 (pw3 k)) = u1 at *
      go_upto_region 7 with fail; refine wp_region_lit ?_
      refine wpList_val (run_mv (v := b8 _) rfl rfl) rfl ?_; (try simp only [Act.put, List.setIfInBounds_toArray, List.set_cons_zero, List.set_cons_succ])
      refine wpList_still (run_call1 enters_triple rfl rfl rfl) rfl (triple_any _ _) ?_; (try simp only [Act.put, List.setIfInBounds_toArray, List.set_cons_zero, List.set_cons_succ])
      rw [pw_step k (by omega)]
      refine wpList_val (run_asg (v := b8 _) rfl rfl) rfl ?_; (try simp only [Act.put, List.setIfInBounds_toArray, List.set_cons_zero, List.set_cons_succ])
      refine wpList_end ?_
      go_wp2_with fail
      go_roundw
      case rel => exact ⟨k + 1, by omega, rfl, by go_num, hM.out⟩
      case measure => simp [intOf]; omega
theorem enters_powers : Enters 60 := enters_of Tryd.func60 (by kernel_rfl) rfl
set_option maxHeartbeats 2000000 in
set_option maxRecDepth 20000 in
theorem makeBoxes_any (w : World) : Calls Tryd.prog 40 #[] w fun e w' => e = .returned (.agg (boxT.map b8).toArray) ∧ Below w.heap.size w w' := by
  have hM := Lib.hid (Ms.nil w)
  go_enter Tryd.func40, Tryd.ntmps40
  go_upto_region 0 with fail; refine wp_region_lit ?_
  refine wpList_val (run_alc (vs := z8 512) rfl (by kernel_rfl)) rfl ?_; (try simp only [Act.put, List.setIfInBounds_toArray, List.set_cons_zero]); replace hM := Lib.hid (hM.out.newZ 512 69); generalize w.alloc (.cells (z8 512).toArray 69) = a1 at *; generalize w.heap.size = g0 at *
  refine wpList_end ?_
  go_upto_region 1 with fail; refine wp_region_lit ?_
  refine wpList_val (run_alc (vs := z8 512) rfl (by kernel_rfl)) rfl ?_; (try simp only [Act.put, List.setIfInBounds_toArray, List.set_cons_zero, List.set_cons_succ]); replace hM := Lib.hid (hM.out.newZ 512 69); generalize a1.alloc (.cells (z8 512).toArray 69) = a2 at *; generalize a1.heap.size = g1 at *
  refine wpList_end ?_
  go_upto_region 2 with fail; refine wp_region_lit ?_
  refine wpList_callR (run_call3 (b := b8 0) (c := b8 0) enters_bput rfl rfl rfl rfl rfl) rfl (bput_any g1 (List.replicate 512 0) 0 0 _ (hM.out.get (i := 0) rfl) List.length_replicate) (fun v a3 hR => ?_); (try simp only [Act.put, List.setIfInBounds_toArray, List.set_cons_zero, List.set_cons_succ])
  refine wpList_end ?_
  replace hM : Hid (Ms w [(g1, BXk 0), (g0, List.replicate 512 0)] a3) := Lib.hid (by
    rw [hR]
    exact (hM.out.set 0 rfl (j := (0 : BitVec 8).toNat) (by rw [List.length_replicate]; decide) (aff 0)).set 0 rfl (by have := (aff 0).isLt; rw [List.length_set, List.length_replicate]; omega) 0)
  clear hR
  go_upto_region 3 with fail; refine wp_region_lit ?_
  refine wpList_enter (run_call0 enters_powers rfl rfl) rfl (powers_any _) (fun a4 hb => ?_); (try simp only [Act.put, List.setIfInBounds_toArray, List.set_cons_zero, List.set_cons_succ])
  replace hM := Lib.hid (hM.out.below hb)
  clear hb
  refine wpList_val (run_alc (vs := z8 255) rfl (by kernel_rfl)) rfl ?_; (try simp only [Act.put, List.setIfInBounds_toArray, List.set_cons_zero, List.set_cons_succ]); replace hM := Lib.hid (hM.out.newZ 255 89); generalize a4.alloc (.cells (z8 255).toArray 89) = a5 at *; generalize a4.heap.size = g2 at *
  have htl := tab_len 255 pw3
  have hpg : ∀ i, i < 255 → (tab 255 pw3).getD i 0 = pw3 i := fun i hi => tab_get _ hi
  generalize tab 255 pw3 = P at *
  refine wpList_skip (run_stA (vs := (P).map b8) rfl (sz sz255 htl) rfl rfl (oneB _) ((hM.out.get (i := 0) rfl).there8 (by rw [htl, List.length_replicate]))) rfl rfl ?_
  refine wpList_end ?_
  replace hM := Lib.hid (hM.out.put 0 rfl (m := P) (by rw [htl, List.length_replicate]))
  replace hM : Hid (Ms w [(g2, P), (g1, BXk 0), (g0, List.replicate 512 0)] (a5.setCells g2 0 ((P).map b8))) := hM
  generalize a5.setCells g2 0 ((P).map b8) = a6 at *
  go_wp2_with fail
  go_loopw [6] (fun s u => ∃ k : Nat, k ≤ 255 ∧ s = .int .i64 (k : Int) ∧ Ms w [(g2, P), (g1, BXk k), (g0, List.replicate 512 0)] u) (fun s _ => (255 - intOf s).toNat)
  case atStart => exact ⟨0, by omega, rfl, hM.out⟩
  case round =>
    obtain ⟨k, hk, rfl, hJ⟩ := hrel
    replace hM := Lib.hid hJ
    clear hJ
    have hbl := BXk_len k
    by_cases hlt : k = 255
    · subst hlt
      have hk1 : ¬ (((255 : Nat) : Int) < 255) := by omega
      rw [BX_all] at hM hbl
      generalize hT : boxT = T at *
      have ET := Lib.hid hT; clear hT
      go_upto_region 9 with fail; refine wp_region_lit ?_; refine wpList_val (run_ldM (vs := (T).map b8) rfl Tryd.underlying69 rfl (sz szBoxes hbl) rfl (hM.out.get (i := 1) rfl).range) rfl ?_; (try simp only [Act.put, List.setIfInBounds_toArray, List.set_cons_zero, List.set_cons_succ]); refine wpList_skip (run_stA (vs := (T).map b8) rfl (sz szBoxes hbl) rfl rfl (oneB _) ((hM.out.get (i := 2) rfl).there8 (by rw [hbl, List.length_replicate]))) rfl rfl ?_; refine wpList_end ?_; replace hM := Lib.hid (hM.out.put 2 rfl (m := T) (by rw [hbl, List.length_replicate])); go_wp2_with fail; refine bodyPost_ret (v := .agg ((T).map b8).toArray) (results_rowB Tryd.results40 rfl Tryd.underlying69 rfl (sz szBoxes hbl) (hM.out.get (i := 2) rfl).range) rfl ⟨by rw [ET.out], hM.out.bl⟩
    · have hk1 : (k : Int) < 255 := by omega
      have C1 : Hid (∀ V, Below wr.heap.size wr V → V.cell? ⟨g2, k, none⟩ = some (b8 (pw3 k))) := Lib.hid fun V hV => by
        rw [((hM.out.below hV).get (i := 0) rfl).get8 (i := k) (by rw [htl]; omega), hpg _ (by omega)]
      have C2 : Hid (∀ V, Below wr.heap.size wr V → V.cell? ⟨g2, (255 - k) % 255, none⟩ = some (b8 (pw3 ((255 - k) % 255)))) := Lib.hid fun V hV => by
        rw [((hM.out.below hV).get (i := 0) rfl).get8 (i := (255 - k) % 255) (by rw [htl]; omega), hpg _ (by omega)]
      go_upto_region 6 with fail; refine wp_region_lit ?_
      refine wpList_val (run_mv (v := .int _ _) rfl rfl) rfl ?_; (try simp only [Act.put, List.setIfInBounds_toArray, List.set_cons_zero, List.set_cons_succ]); refine wpList_val (run_asg (v := .int _ _) rfl rfl) rfl ?_; (try simp only [Act.put, List.setIfInBounds_toArray, List.set_cons_zero, List.set_cons_succ])
      refine wpList_end ?_
      go_upto_region 7 with fail; refine wp_region_calm 8 (by kernel_rfl) (by kernel_rfl) ?_
      refine wpCalm_step _ (fun V hV => calm_run (run_mv (v := .int _ _) rfl rfl)) ?_; (try simp only [Act.put, List.setIfInBounds_toArray, List.set_cons_zero, List.set_cons_succ])
      refine wpCalm_step _ (fun V hV => calm_run (run_ix0 rfl Tryd.underlying89 (by kernel_rfl) rfl rfl (by omega))) ?_; (try simp only [Act.put, List.setIfInBounds_toArray, List.set_cons_zero, List.set_cons_succ])
      refine wpCalm_step _ (fun V hV => calm_run (run_ld8 rfl rfl (C1.out V hV))) ?_; (try simp only [Act.put, List.setIfInBounds_toArray, List.set_cons_zero, List.set_cons_succ])
      refine wpCalm_step _ (fun V hV => calm_run (run_mv (v := .int _ _) rfl rfl)) ?_; (try simp only [Act.put, List.setIfInBounds_toArray, List.set_cons_zero, List.set_cons_succ])
      refine wpCalm_step _ (fun V hV => calm_run (run_sub rfl rfl rfl (by omega) (by omega))) ?_; (try simp only [Act.put, List.setIfInBounds_toArray, List.set_cons_zero, List.set_cons_succ])
      refine wpCalm_step _ (fun V hV => calm_run (run_rem rfl rfl rfl (by omega) (by omega))) ?_; (try simp only [Act.put, List.setIfInBounds_toArray, List.set_cons_zero, List.set_cons_succ])
      rw [show (255 - (k : Int)) % 255 = (((255 - k) % 255 : Nat) : Int) by omega]
      refine wpCalm_step _ (fun V hV => calm_run (run_ix0 rfl Tryd.underlying89 (by kernel_rfl) rfl rfl (by omega))) ?_; (try simp only [Act.put, List.setIfInBounds_toArray, List.set_cons_zero, List.set_cons_succ])
      refine wpCalm_step _ (fun V hV => calm_run (run_ld8 rfl rfl (C2.out V hV))) ?_; (try simp only [Act.put, List.setIfInBounds_toArray, List.set_cons_zero, List.set_cons_succ])
      refine wpCalm_done ?_; intro a7 hb; simp only [List.drop_succ_cons, List.drop_zero]
      replace hM := Lib.hid (hM.out.below hb)
      clear hb C1 C2
      refine wpList_callR (run_call3 enters_bput rfl rfl rfl rfl rfl) rfl (bput_any g1 (BXk k) _ _ _ (hM.out.get (i := 1) rfl) hbl) (fun v a8 hR => ?_); (try simp only [Act.put, List.setIfInBounds_toArray, List.set_cons_zero, List.set_cons_succ])
      refine wpList_end ?_
      replace hM : Hid (Ms w [(g2, P), (g1, BXk (k + 1)), (g0, List.replicate 512 0)] a8) := Lib.hid (by
        rw [hR]
        have h1 := (pw3 k).isLt
        have h2 := (aff (pw3 ((255 - k) % 255))).isLt
        exact (hM.out.set 1 rfl (by omega) _).set 1 rfl (by rw [List.length_set]; omega) _)
      clear hR
      go_wp2_with fail
      go_roundw
      case rel => exact ⟨k + 1, by omega, by go_num, hM.out⟩
      case measure => simp [intOf]; omega
theorem enters_makeBoxes : Enters 40 := enters_of Tryd.func40 (by kernel_rfl) rfl
theorem boxT_take : boxT.take 256 = tab 256 fun i => bx (BitVec.ofNat 8 i) := ext8 (by rw [List.length_take, boxT_len, tab_len]; rfl) fun i hi => by
  rw [List.length_take, boxT_len] at hi
  rw [tab_get _ (by omega), List.getD_eq_getElem?_getD, List.getElem?_take_of_lt (by omega), ← List.getD_eq_getElem?_getD, boxT, tab_get _ (by omega), boxV, if_pos (by omega)]
theorem boxT_drop : (boxT.drop 256).take 256 = tab 256 fun i => ub (BitVec.ofNat 8 i) := ext8 (by rw [List.length_take, List.length_drop, boxT_len, tab_len]; rfl) fun i hi => by
  rw [List.length_take, List.length_drop, boxT_len] at hi
  rw [tab_get _ (by omega), List.getD_eq_getElem?_getD, List.getElem?_take_of_lt (by omega), List.getElem?_drop, ← List.getD_eq_getElem?_getD, boxT, tab_get _ (by omega), boxV, if_neg (by omega), Nat.add_sub_cancel_left]
end Go.Proofs.YtobpgolchlgpfaaDoor
