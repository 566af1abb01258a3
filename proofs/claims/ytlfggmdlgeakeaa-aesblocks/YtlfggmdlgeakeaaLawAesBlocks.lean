/- The law AesBlocks, walked. -/
import Derived.Test.YtlfggmdlgeakeaaAesKnown
import Derived.Test.YtlfggmdlgeakeaaAesKblk
import Derived.Test.YtlfggmdlgeakeaaAesRef5
namespace Go.Proofs.Ytlfggmdlgeakeaa
open Go.RowKit

set_option maxRecDepth 20000 in
set_option maxHeartbeats 4000000 in
theorem blocklaw_any (k l : List (BitVec 8)) (w : World) (hk : k.length = 32) (hl : l.length = 32) : Calls Try.prog 6 #[.agg (k.map b8).toArray, .agg (l.map b8).toArray] w fun e w' => e = .returned (.bool true) ∧ Below w.heap.size w w' := by
  have hM := Lib.hid (Ms.nil w)
  obtain ⟨x, hx⟩ : ∃ x, x = kblk l 3 := ⟨_, rfl⟩
  have hxl : x.length = 16 := by rw [hx, kblk_len]
  have EX : Hid (kblk l 3 = x) := Lib.hid hx.symm
  have hbx := blockB_len k x
  have hux := unblockB_len k x
  clear hx
  go_enter Try.func6, Try.ntmps6
  go_upto_region 0 with fail; refine wp_region_lit ?_
  refine wpList_val (run_box rfl rfl) rfl ?_; (try simp only [Act.put, List.setIfInBounds_toArray, List.set_cons_zero, List.set_cons_succ]); replace hM := Lib.hid (hM.out.new (k) 23); generalize w.alloc (.cells ((k).map b8).toArray 23) = a1 at *; generalize w.heap.size = g1 at *
  refine wpList_val (run_box rfl rfl) rfl ?_; (try simp only [Act.put, List.setIfInBounds_toArray, List.set_cons_zero, List.set_cons_succ]); replace hM := Lib.hid (hM.out.new (l) 23); generalize a1.alloc (.cells ((l).map b8).toArray 23) = a2 at *; generalize a1.heap.size = g2 at *
  refine wpList_val (run_asg (v := .bool false) rfl rfl) rfl ?_; (try simp only [Act.put, List.setIfInBounds_toArray, List.set_cons_zero, List.set_cons_succ])
  refine wpList_end ?_
  go_upto_region 1 with fail; refine wp_region_lit ?_
  refine wpList_val (run_ldM (vs := l.map b8) rfl Try.underlying23 rfl (sz szKey hl) rfl (hM.out.get (i := 0) rfl).range) rfl ?_; (try simp only [Act.put, List.setIfInBounds_toArray, List.set_cons_zero, List.set_cons_succ])
  refine wpList_enter (run_call2 enters_kblk rfl rfl rfl rfl) rfl (kblk_any l 3 _ hl (by omega)) (fun a3 hb => ?_); (try simp only [Act.put, List.setIfInBounds_toArray, List.set_cons_zero, List.set_cons_succ])
  replace hM := Lib.hid (hM.out.below hb)
  clear hb
  rw [EX.out]
  refine wpList_val (run_alc (vs := z8 16) rfl (by kernel_rfl)) rfl ?_; (try simp only [Act.put, List.setIfInBounds_toArray, List.set_cons_zero, List.set_cons_succ]); replace hM := Lib.hid (hM.out.newZ 16 24); generalize a3.alloc (.cells (z8 16).toArray 24) = a4 at *; generalize a3.heap.size = g3 at *; refine wpList_skip (run_stA (vs := (x).map b8) rfl (sz sz16 hxl) rfl rfl (oneB _) ((hM.out.get (i := 0) rfl).there8 (by rw [hxl, List.length_replicate]))) rfl rfl ?_; refine wpList_end ?_; replace hM := Lib.hid (hM.out.put 0 rfl (m := x) (by rw [hxl, List.length_replicate])); generalize a4.setCells g3 0 ((x).map b8) = a5 at *
  replace hM : Hid (Ms w [(g3, x), (g2, l), (g1, k)] a5) := hM
  go_upto_region 2 with fail
  refine wp_region_noPanic ?_; refine wp_region_late (S := fun _ V => Below a5.heap.size a5 V) (by kernel_rfl) ((Below.refl _ _).drew) (fun hS => ?_)
  generalize a5.drew = b1 at *
  refine wpAnyL_call (R := fun v w => v = .bool true ∧ Below b1.heap.size b1 w) 0 (by kernel_rfl) rfl rfl rfl (run_call0 enters_known rfl rfl) (calls_eq (known_any _)) (fun v w h => hS.trans (h.2.mono hS.size)) (fun v b2 h => ?_); obtain ⟨rfl, hb⟩ := h; replace hS := hS.trans (hb.mono hS.size); (try simp only [Act.put, List.setIfInBounds_toArray, List.set_cons_zero, List.set_cons_succ])
  clear hb
  refine wpAnyL_take 1 rfl rfl (by kernel_rfl) (by kernel_rfl) (by kernel_rfl) (fun _ _ _ h => h) rfl (fun V hV => run_mv (v := .bool true) rfl rfl) hS ?_; (try simp only [Act.put, List.setIfInBounds_toArray, List.set_cons_zero, List.set_cons_succ])
  refine wpAnyL_take 2 rfl rfl (by kernel_rfl) (by kernel_rfl) (by kernel_rfl) (fun _ _ _ h => h) rfl (fun V hV => run_ldM (vs := k.map b8) rfl Try.underlying23 rfl (sz szKey hk) rfl ((hM.out.below hV).get (i := 2) rfl).range) hS ?_; (try simp only [Act.put, List.setIfInBounds_toArray, List.set_cons_zero, List.set_cons_succ])
  refine wpAnyL_take 3 rfl rfl (by kernel_rfl) (by kernel_rfl) (by kernel_rfl) (fun _ _ _ h => h) rfl (fun V hV => run_ldM (vs := x.map b8) rfl Try.underlying24 rfl (sz sz16 hxl) rfl ((hM.out.below hV).get (i := 0) rfl).range) hS ?_; (try simp only [Act.put, List.setIfInBounds_toArray, List.set_cons_zero, List.set_cons_succ])
  refine wpAnyL_take 5 rfl rfl (by kernel_rfl) (by kernel_rfl) (by kernel_rfl) (fun _ _ _ h => h) rfl (fun V hV => run_ldM (vs := k.map b8) rfl Try.underlying23 rfl (sz szKey hk) rfl ((hM.out.below hV).get (i := 2) rfl).range) hS ?_; (try simp only [Act.put, List.setIfInBounds_toArray, List.set_cons_zero, List.set_cons_succ])
  refine wpAnyL_take 6 rfl rfl (by kernel_rfl) (by kernel_rfl) (by kernel_rfl) (fun _ _ _ h => h) rfl (fun V hV => run_ldM (vs := x.map b8) rfl Try.underlying24 rfl (sz sz16 hxl) rfl ((hM.out.below hV).get (i := 0) rfl).range) hS ?_; (try simp only [Act.put, List.setIfInBounds_toArray, List.set_cons_zero, List.set_cons_succ])
  refine wpAnyL_call (R := fun v w => v = .agg ((blockB k x).map b8).toArray ∧ Below b2.heap.size b2 w) 4 (by kernel_rfl) rfl rfl rfl (run_call2 enters_block rfl rfl rfl rfl) (calls_eq (block_any k x _ hk hxl)) (fun v w h => hS.trans (h.2.mono hS.size)) (fun v b3 h => ?_); obtain ⟨rfl, hb⟩ := h; replace hS := hS.trans (hb.mono hS.size); (try simp only [Act.put, List.setIfInBounds_toArray, List.set_cons_zero, List.set_cons_succ])
  clear hb
  refine wpAnyL_call (R := fun v w => v = .agg ((blockB k x).map b8).toArray ∧ Below b3.heap.size b3 w) 7 (by kernel_rfl) rfl rfl rfl (run_call2 enters_rblock rfl rfl rfl rfl) (calls_eq (rblock_any k x _ hk hxl)) (fun v w h => hS.trans (h.2.mono hS.size)) (fun v b4 h => ?_); obtain ⟨rfl, hb⟩ := h; replace hS := hS.trans (hb.mono hS.size); (try simp only [Act.put, List.setIfInBounds_toArray, List.set_cons_zero, List.set_cons_succ])
  clear hb
  refine wpAnyL_take 8 rfl rfl (by kernel_rfl) (by kernel_rfl) (by kernel_rfl) (fun _ _ _ h => h) rfl (fun V hV => run_eq16 (c := true) hbx hbx rfl rfl rfl (decide_eq_true rfl)) hS ?_; (try simp only [Act.put, List.setIfInBounds_toArray, List.set_cons_zero, List.set_cons_succ])
  refine wpAnyL_take 9 rfl rfl (by kernel_rfl) (by kernel_rfl) (by kernel_rfl) (fun _ _ _ h => h) rfl (fun V hV => run_pick (b := true) (v := .bool true) rfl rfl rfl) hS ?_; (try simp only [Act.put, List.setIfInBounds_toArray, List.set_cons_zero, List.set_cons_succ])
  refine wpAnyL_take 10 rfl rfl (by kernel_rfl) (by kernel_rfl) (by kernel_rfl) (fun _ _ _ h => h) rfl (fun V hV => run_mv (v := .bool true) rfl rfl) hS ?_; (try simp only [Act.put, List.setIfInBounds_toArray, List.set_cons_zero, List.set_cons_succ])
  refine wpAnyL_take 11 rfl rfl (by kernel_rfl) (by kernel_rfl) (by kernel_rfl) (fun _ _ _ h => h) rfl (fun V hV => run_ldM (vs := k.map b8) rfl Try.underlying23 rfl (sz szKey hk) rfl ((hM.out.below hV).get (i := 2) rfl).range) hS ?_; (try simp only [Act.put, List.setIfInBounds_toArray, List.set_cons_zero, List.set_cons_succ])
  refine wpAnyL_take 12 rfl rfl (by kernel_rfl) (by kernel_rfl) (by kernel_rfl) (fun _ _ _ h => h) rfl (fun V hV => run_ldM (vs := x.map b8) rfl Try.underlying24 rfl (sz sz16 hxl) rfl ((hM.out.below hV).get (i := 0) rfl).range) hS ?_; (try simp only [Act.put, List.setIfInBounds_toArray, List.set_cons_zero, List.set_cons_succ])
  refine wpAnyL_take 14 rfl rfl (by kernel_rfl) (by kernel_rfl) (by kernel_rfl) (fun _ _ _ h => h) rfl (fun V hV => run_ldM (vs := k.map b8) rfl Try.underlying23 rfl (sz szKey hk) rfl ((hM.out.below hV).get (i := 2) rfl).range) hS ?_; (try simp only [Act.put, List.setIfInBounds_toArray, List.set_cons_zero, List.set_cons_succ])
  refine wpAnyL_take 15 rfl rfl (by kernel_rfl) (by kernel_rfl) (by kernel_rfl) (fun _ _ _ h => h) rfl (fun V hV => run_ldM (vs := x.map b8) rfl Try.underlying24 rfl (sz sz16 hxl) rfl ((hM.out.below hV).get (i := 0) rfl).range) hS ?_; (try simp only [Act.put, List.setIfInBounds_toArray, List.set_cons_zero, List.set_cons_succ])
  refine wpAnyL_call (R := fun v w => v = .agg ((unblockB k x).map b8).toArray ∧ Below b4.heap.size b4 w) 13 (by kernel_rfl) rfl rfl rfl (run_call2 enters_unblock rfl rfl rfl rfl) (calls_eq (unblock_any k x _ hk hxl)) (fun v w h => hS.trans (h.2.mono hS.size)) (fun v b5 h => ?_); obtain ⟨rfl, hb⟩ := h; replace hS := hS.trans (hb.mono hS.size); (try simp only [Act.put, List.setIfInBounds_toArray, List.set_cons_zero, List.set_cons_succ])
  clear hb
  refine wpAnyL_call (R := fun v w => v = .agg ((unblockB k x).map b8).toArray ∧ Below b5.heap.size b5 w) 16 (by kernel_rfl) rfl rfl rfl (run_call2 enters_runblock rfl rfl rfl rfl) (calls_eq (runblock_any k x _ hk hxl)) (fun v w h => hS.trans (h.2.mono hS.size)) (fun v b6 h => ?_); obtain ⟨rfl, hb⟩ := h; replace hS := hS.trans (hb.mono hS.size); (try simp only [Act.put, List.setIfInBounds_toArray, List.set_cons_zero, List.set_cons_succ])
  clear hb
  refine wpAnyL_take 17 rfl rfl (by kernel_rfl) (by kernel_rfl) (by kernel_rfl) (fun _ _ _ h => h) rfl (fun V hV => run_eq16 (c := true) hux hux rfl rfl rfl (decide_eq_true rfl)) hS ?_; (try simp only [Act.put, List.setIfInBounds_toArray, List.set_cons_zero, List.set_cons_succ])
  refine wpAnyL_take 18 rfl rfl (by kernel_rfl) (by kernel_rfl) (by kernel_rfl) (fun _ _ _ h => h) rfl (fun V hV => run_pick (b := true) (v := .bool true) rfl rfl rfl) hS ?_; (try simp only [Act.put, List.setIfInBounds_toArray, List.set_cons_zero, List.set_cons_succ])
  refine wpAnyL_take 19 rfl rfl (by kernel_rfl) (by kernel_rfl) (by kernel_rfl) (fun _ _ _ h => h) rfl (fun V hV => run_asg (v := .bool true) rfl rfl) hS ?_; (try simp only [Act.put, List.setIfInBounds_toArray, List.set_cons_zero, List.set_cons_succ])
  refine wpAnyL_done (by kernel_rfl) ?_ _; refine NoPanic.normal ?_
  replace hM := Lib.hid (hM.out.below hS)
  go_wp2_with fail
  go_ret
  exact ⟨rfl, hM.out.bl⟩
end Go.Proofs.Ytlfggmdlgeakeaa
