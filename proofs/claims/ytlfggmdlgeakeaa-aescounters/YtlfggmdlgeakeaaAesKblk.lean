/- What the laws' own function Block does. -/
import Derived.Test.YtlfggmdlgeakeaaAesCi
namespace Go.Proofs.Ytlfggmdlgeakeaa
open Go.RowKit

set_option maxRecDepth 20000 in
set_option maxHeartbeats 2000000 in
theorem kblk_any (k : List (BitVec 8)) (n : Nat) (w : World) (hK : k.length = 32) (hn : n ≤ 100) : Calls Try.prog 14 #[.agg (k.map b8).toArray, .int .i64 (n : Int)] w fun e w' => e = .returned (.agg ((kblk k n).map b8).toArray) ∧ Below w.heap.size w w' := by
  have hM := Lib.hid (Ms.nil w)
  obtain ⟨f, hf⟩ : ∃ f : Nat → BitVec 8, f = fun i => k.getD ((n + i) % 32) 0 := ⟨_, rfl⟩
  have EF : Hid (∀ i, f i = k.getD ((n + i) % 32) 0) := Lib.hid fun i => by rw [hf]
  have EX : Hid (kblk k n = tab 16 f) := Lib.hid (by rw [hf]; rfl)
  clear hf
  go_enter Try.func14, Try.ntmps14
  go_upto_region 0 with fail; refine wp_region_lit ?_
  refine wpList_val (run_box rfl rfl) rfl ?_; (try simp only [Act.put, List.setIfInBounds_toArray, List.set_cons_zero, List.set_cons_succ]); replace hM := Lib.hid (hM.out.new (k) 23); generalize w.alloc (.cells ((k).map b8).toArray 23) = a1 at *; generalize w.heap.size = g1 at *
  refine wpList_val (run_alc (vs := z8 16) rfl (by kernel_rfl)) rfl ?_; (try simp only [Act.put, List.setIfInBounds_toArray, List.set_cons_zero, List.set_cons_succ]); replace hM := Lib.hid (hM.out.newZ 16 24); generalize a1.alloc (.cells (z8 16).toArray 24) = a2 at *; generalize a1.heap.size = g2 at *
  refine wpList_end ?_
  go_upto_region 1 with fail; refine wp_region_lit ?_
  refine wpList_val (run_bld (cells := (z8 16).toArray) rfl (by kernel_rfl)) rfl ?_; (try simp only [Act.put, List.setIfInBounds_toArray, List.set_cons_zero, List.set_cons_succ]); refine wpList_val (run_alc (vs := z8 16) rfl (by kernel_rfl)) rfl ?_; (try simp only [Act.put, List.setIfInBounds_toArray, List.set_cons_zero, List.set_cons_succ]); replace hM := Lib.hid (hM.out.newZ 16 24); generalize a2.alloc (.cells (z8 16).toArray 24) = a3 at *; generalize a2.heap.size = g3 at *; refine wpList_skip (run_stA (vs := z8 16) rfl (sz (l := List.replicate 16 0) sz16 List.length_replicate) rfl rfl (oneB (List.replicate 16 0)) ((hM.out.get (i := 0) rfl).there8 rfl)) rfl rfl ?_; refine wpList_end ?_; replace hM := Lib.hid (show Ms _ _ (a3.setCells g3 0 (z8 16)) from hM.out.put 0 rfl (m := List.replicate 16 0) rfl)
  generalize a3.setCells g3 0 (z8 16) = a4 at *
  replace hM : Hid (Ms w [(g3, upd f (List.replicate 16 0) 0), (g2, List.replicate 16 0), (g1, k)] a4) := Lib.hid (by rw [upd_zero]; exact hM.out)
  go_wp2_with fail
  go_loopw [6] (fun s u => ∃ j : Nat, j ≤ 16 ∧ s = .int .i64 (j : Int) ∧ Ms w [(g3, upd f (List.replicate 16 0) j), (g2, List.replicate 16 0), (g1, k)] u) (fun s _ => (16 - intOf s).toNat)
  case atStart => exact ⟨0, by omega, rfl, hM.out⟩
  case round =>
    obtain ⟨j, hj, rfl, hJ⟩ := hrel
    replace hM := Lib.hid hJ
    clear hJ
    have hul : (upd f (List.replicate 16 0) j).length = 16 := by rw [upd_len, List.length_replicate]
    by_cases hlt : j = 16
    · subst hlt
      have hk1 : ¬ (((16 : Nat) : Int) < 16) := by omega
      rw [upd_all List.length_replicate] at hM
      have htl := tab_len 16 f
      generalize tab 16 f = r at *
      go_upto_region 6 with fail; refine wp_region_lit ?_; refine wpList_val (run_ldM (vs := (r).map b8) rfl Try.underlying24 rfl (sz sz16 htl) rfl (hM.out.get (i := 0) rfl).range) rfl ?_; (try simp only [Act.put, List.setIfInBounds_toArray, List.set_cons_zero, List.set_cons_succ]); refine wpList_skip (run_stA (vs := (r).map b8) rfl (sz sz16 htl) rfl rfl (oneB _) ((hM.out.get (i := 1) rfl).there8 (by rw [htl, List.length_replicate]))) rfl rfl ?_; refine wpList_end ?_; replace hM := Lib.hid (hM.out.put 1 rfl (m := r) (by rw [htl, List.length_replicate])); go_wp2_with fail; refine bodyPost_ret (v := .agg ((r).map b8).toArray) (results_row Try.results14 rfl Try.underlying24 rfl (sz sz16 htl) (hM.out.get (i := 1) rfl).range) rfl ⟨by rw [EX.out], hM.out.bl⟩
    · have hk1 : (j : Int) < 16 := by omega
      have C1 : Hid (wr.cell? ⟨g1, (n + j) % 32, none⟩ = some (b8 (f j))) := Lib.hid (by rw [EF.out]; exact (hM.out.get (i := 2) rfl).get8 (by omega))
      go_upto_region 5 with fail; refine wp_region_lit ?_
      (repeat ((first | refine wpList_val (run_mv (v := b32 _) rfl rfl) rfl ?_ | refine wpList_val (run_mv (v := b64 _) rfl rfl) rfl ?_ | refine wpList_val (run_mv (v := b8 _) rfl rfl) rfl ?_ | refine wpList_val (run_mv (v := .int _ _) rfl rfl) rfl ?_ | refine wpList_val (run_mv (v := .bool _) rfl rfl) rfl ?_ | refine wpList_val (run_mv (v := .slice (some _) _ _) rfl rfl) rfl ?_ | refine wpList_val (run_mv (v := .slice _ _ _) rfl rfl) rfl ?_ | refine wpList_val (run_mv (v := .pointer (some _)) rfl rfl) rfl ?_ | refine wpList_val (run_mv (v := .agg _) rfl rfl) rfl ?_ | refine wpList_val (run_asg (v := b32 _) rfl rfl) rfl ?_ | refine wpList_val (run_asg (v := b64 _) rfl rfl) rfl ?_ | refine wpList_val (run_asg (v := b8 _) rfl rfl) rfl ?_ | refine wpList_val (run_asg (v := .int _ _) rfl rfl) rfl ?_ | refine wpList_val (run_asg (v := .bool _) rfl rfl) rfl ?_ | refine wpList_val (run_asg (v := .slice (some _) _ _) rfl rfl) rfl ?_ | refine wpList_val (run_asg (v := .slice _ _ _) rfl rfl) rfl ?_ | refine wpList_val (run_asg (v := .pointer (some _)) rfl rfl) rfl ?_ | refine wpList_val (run_asg (v := .agg _) rfl rfl) rfl ?_ | refine wpList_val (run_mv rfl rfl) rfl ?_ | refine wpList_val (run_asg rfl rfl) rfl ?_ | refine wpList_val (run_xor32 rfl rfl rfl) rfl ?_ | refine wpList_val (run_and32 rfl rfl rfl) rfl ?_ | refine wpList_val (run_or32 rfl rfl rfl) rfl ?_ | refine wpList_val (run_add32 rfl rfl rfl) rfl ?_ | refine wpList_val (run_not32 rfl rfl) rfl ?_ | refine wpList_val (run_xor64 rfl rfl rfl) rfl ?_ | refine wpList_val (run_and64 rfl rfl rfl) rfl ?_ | refine wpList_val (run_or64 rfl rfl rfl) rfl ?_ | refine wpList_val (run_add64 rfl rfl rfl) rfl ?_ | refine wpList_val (run_not64 rfl rfl) rfl ?_ | refine wpList_val (run_xor8 rfl rfl rfl) rfl ?_ | refine wpList_val (run_and8 rfl rfl rfl) rfl ?_ | refine wpList_val (run_or8 rfl rfl rfl) rfl ?_ | refine wpList_val (run_add8 rfl rfl rfl) rfl ?_ | refine wpList_val (run_not8 rfl rfl) rfl ?_ | refine wpList_val (run_cv64_32 rfl rfl) rfl ?_ | refine wpList_val (run_cv8_32 rfl rfl) rfl ?_ | refine wpList_val (run_cv8_64 rfl rfl) rfl ?_ | refine wpList_val (run_cv32_8 rfl rfl) rfl ?_ | refine wpList_val (run_cv64_8 rfl rfl) rfl ?_); (try simp only [Act.put, List.setIfInBounds_toArray, List.set_cons_zero, List.set_cons_succ])))
      refine wpList_val (run_addN rfl rfl rfl (by omega)) rfl ?_; (try simp only [Act.put, List.setIfInBounds_toArray, List.set_cons_zero, List.set_cons_succ])
      refine wpList_val (run_remN (b := 32) rfl rfl rfl (by omega)) rfl ?_; (try simp only [Act.put, List.setIfInBounds_toArray, List.set_cons_zero, List.set_cons_succ])
      refine wpList_val (run_ix0 rfl Try.underlying23 (by kernel_rfl) rfl rfl (by omega)) rfl ?_; (try simp only [Act.put, List.setIfInBounds_toArray, List.set_cons_zero, List.set_cons_succ])
      refine wpList_val (run_ld8 rfl rfl C1.out) rfl ?_; (try simp only [Act.put, List.setIfInBounds_toArray, List.set_cons_zero, List.set_cons_succ])
      refine wpList_val (run_ix0 rfl Try.underlying24 (by kernel_rfl) rfl rfl (by omega)) rfl ?_; (try simp only [Act.put, List.setIfInBounds_toArray, List.set_cons_zero, List.set_cons_succ])
      refine wpList_skip (run_st8 rfl rfl rfl ((hM.out.get (i := 0) rfl).get8 (by omega)) ((hM.out.get (i := 0) rfl).f _)) rfl rfl ?_
      refine wpList_end ?_
      replace hM : Hid (Ms w [(g3, upd f (List.replicate 16 0) (j + 1)), (g2, List.replicate 16 0), (g1, k)] (wr.setCell ⟨g3, j, none⟩ (b8 (f j)))) := Lib.hid (by rw [← upd_set (by rw [List.length_replicate]; omega)]; exact hM.out.set 0 rfl (by omega) (f j))
      generalize wr.setCell ⟨g3, j, none⟩ (b8 (f j)) = a5 at *
      go_wp2_with fail
      go_roundw
      case rel => exact ⟨j + 1, by omega, by go_num, hM.out⟩
      case measure => simp [intOf]; omega
theorem enters_kblk : Enters 14 := enters_of Try.func14 (by kernel_rfl) rfl
theorem kblk_len (k : List (BitVec 8)) (n : Nat) : (kblk k n).length = 16 := tab_len _ _
end Go.Proofs.Ytlfggmdlgeakeaa
