/- The law AesBack, walked. -/
import Derived.Test.YtlfggmdlgeakeaaAesKnown
import Derived.Test.YtlfggmdlgeakeaaAesKblk
namespace Go.Proofs.Ytlfggmdlgeakeaa
open Go.RowKit

set_option maxRecDepth 20000 in
set_option maxHeartbeats 4000000 in
theorem back_any (k l : List (BitVec 8)) (v : Value) (b : List (BitVec 8)) (w : World) (hk : k.length = 32) (hl : l.length = 32) (hv : Sl v b w) (hb : b.length ≤ 140737488351232) :
    Calls Try.prog 8 #[.agg (k.map b8).toArray, .agg (l.map b8).toArray, v] w fun e w' => e = .returned (.bool true) ∧ Below w.heap.size w w' := by
  have hM := Lib.hid (Ms.nil w)
  have HV := Lib.hid hv
  obtain ⟨x, hx⟩ : ∃ x, x = kblk l 7 := ⟨_, rfl⟩
  have hxl : x.length = 16 := by rw [hx, kblk_len]
  have EX : Hid (kblk l 7 = x) := Lib.hid hx.symm
  have E1 : Hid (unblockB k (blockB k x) = x) := Lib.hid (unblock_block k hxl)
  have E2 : Hid (blockB k (unblockB k x) = x) := Lib.hid (block_unblock k hxl)
  have E3 : Hid (ctr k x (ctr k x b) = b) := Lib.hid (ctr_ctr k x b)
  have hbx := blockB_len k x
  have hux := unblockB_len k x
  have hcl := ctr_len k x b
  clear hx
  obtain ⟨ao, c, rfl, -, -⟩ := hv
  go_enter Try.func8, Try.ntmps8
  go_upto_region 0 with fail; refine wp_region_lit ?_
  refine wpList_val (run_box rfl rfl) rfl ?_; (try simp only [Act.put, List.setIfInBounds_toArray, List.set_cons_zero, List.set_cons_succ]); replace hM := Lib.hid (hM.out.new (k) 23); generalize w.alloc (.cells ((k).map b8).toArray 23) = a1 at *; generalize w.heap.size = g1 at *
  refine wpList_val (run_box rfl rfl) rfl ?_; (try simp only [Act.put, List.setIfInBounds_toArray, List.set_cons_zero, List.set_cons_succ]); replace hM := Lib.hid (hM.out.new (l) 23); generalize a1.alloc (.cells ((l).map b8).toArray 23) = a2 at *; generalize a1.heap.size = g2 at *
  refine wpList_val (run_asg (v := .bool false) rfl rfl) rfl ?_; (try simp only [Act.put, List.setIfInBounds_toArray, List.set_cons_zero, List.set_cons_succ])
  refine wpList_end ?_
  go_upto_region 1 with fail; refine wp_region_lit ?_
  (repeat ((first | refine wpList_val (run_mv (v := b32 _) rfl rfl) rfl ?_ | refine wpList_val (run_mv (v := b64 _) rfl rfl) rfl ?_ | refine wpList_val (run_mv (v := b8 _) rfl rfl) rfl ?_ | refine wpList_val (run_mv (v := .int _ _) rfl rfl) rfl ?_ | refine wpList_val (run_mv (v := .bool _) rfl rfl) rfl ?_ | refine wpList_val (run_mv (v := .slice (some _) _ _) rfl rfl) rfl ?_ | refine wpList_val (run_mv (v := .slice _ _ _) rfl rfl) rfl ?_ | refine wpList_val (run_mv (v := .pointer (some _)) rfl rfl) rfl ?_ | refine wpList_val (run_mv (v := .agg _) rfl rfl) rfl ?_ | refine wpList_val (run_asg (v := b32 _) rfl rfl) rfl ?_ | refine wpList_val (run_asg (v := b64 _) rfl rfl) rfl ?_ | refine wpList_val (run_asg (v := b8 _) rfl rfl) rfl ?_ | refine wpList_val (run_asg (v := .int _ _) rfl rfl) rfl ?_ | refine wpList_val (run_asg (v := .bool _) rfl rfl) rfl ?_ | refine wpList_val (run_asg (v := .slice (some _) _ _) rfl rfl) rfl ?_ | refine wpList_val (run_asg (v := .slice _ _ _) rfl rfl) rfl ?_ | refine wpList_val (run_asg (v := .pointer (some _)) rfl rfl) rfl ?_ | refine wpList_val (run_asg (v := .agg _) rfl rfl) rfl ?_ | refine wpList_val (run_mv rfl rfl) rfl ?_ | refine wpList_val (run_asg rfl rfl) rfl ?_ | refine wpList_val (run_xor32 rfl rfl rfl) rfl ?_ | refine wpList_val (run_and32 rfl rfl rfl) rfl ?_ | refine wpList_val (run_or32 rfl rfl rfl) rfl ?_ | refine wpList_val (run_add32 rfl rfl rfl) rfl ?_ | refine wpList_val (run_not32 rfl rfl) rfl ?_ | refine wpList_val (run_xor64 rfl rfl rfl) rfl ?_ | refine wpList_val (run_and64 rfl rfl rfl) rfl ?_ | refine wpList_val (run_or64 rfl rfl rfl) rfl ?_ | refine wpList_val (run_add64 rfl rfl rfl) rfl ?_ | refine wpList_val (run_not64 rfl rfl) rfl ?_ | refine wpList_val (run_xor8 rfl rfl rfl) rfl ?_ | refine wpList_val (run_and8 rfl rfl rfl) rfl ?_ | refine wpList_val (run_or8 rfl rfl rfl) rfl ?_ | refine wpList_val (run_add8 rfl rfl rfl) rfl ?_ | refine wpList_val (run_not8 rfl rfl) rfl ?_ | refine wpList_val (run_cv64_32 rfl rfl) rfl ?_ | refine wpList_val (run_cv8_32 rfl rfl) rfl ?_ | refine wpList_val (run_cv8_64 rfl rfl) rfl ?_ | refine wpList_val (run_cv32_8 rfl rfl) rfl ?_ | refine wpList_val (run_cv64_8 rfl rfl) rfl ?_); (try simp only [Act.put, List.setIfInBounds_toArray, List.set_cons_zero, List.set_cons_succ])))
  refine wpList_val (run_len rfl Try.underlying25 rfl) rfl ?_; (try simp only [Act.put, List.setIfInBounds_toArray, List.set_cons_zero, List.set_cons_succ])
  by_cases hlt : 300 < b.length
  · refine wpList_val (run_gtrb (c := true) rfl rfl rfl (decide_eq_true (by omega))) rfl ?_; (try simp only [Act.put, List.setIfInBounds_toArray, List.set_cons_zero, List.set_cons_succ])
    refine wpList_end ?_
    go_upto_region 2 with fail; refine wp_region_lit ?_
    refine wpList_enter (run_call0 enters_known rfl rfl) rfl (known_any _) (fun a3 hb3 => ?_); (try simp only [Act.put, List.setIfInBounds_toArray, List.set_cons_zero, List.set_cons_succ])
    refine wpList_val (run_asg (v := .bool true) rfl rfl) rfl ?_; (try simp only [Act.put, List.setIfInBounds_toArray, List.set_cons_zero, List.set_cons_succ])
    refine wpList_end ?_
    replace hM := Lib.hid (hM.out.below hb3)
    go_wp2_with fail
    go_ret
    exact ⟨rfl, hM.out.bl⟩
  · refine wpList_val (run_gtrb (c := false) rfl rfl rfl (decide_eq_false (by omega))) rfl ?_; (try simp only [Act.put, List.setIfInBounds_toArray, List.set_cons_zero, List.set_cons_succ])
    refine wpList_end ?_
    go_upto_region 3 with fail; refine wp_region_lit ?_
    refine wpList_val (run_ldM (vs := l.map b8) rfl Try.underlying23 rfl (sz szKey hl) rfl (hM.out.get (i := 0) rfl).range) rfl ?_; (try simp only [Act.put, List.setIfInBounds_toArray, List.set_cons_zero, List.set_cons_succ])
    refine wpList_enter (run_call2 enters_kblk rfl rfl rfl rfl) rfl (kblk_any l 7 _ hl (by omega)) (fun a3 hb3 => ?_); (try simp only [Act.put, List.setIfInBounds_toArray, List.set_cons_zero, List.set_cons_succ])
    replace hM := Lib.hid (hM.out.below hb3)
    clear hb3
    rw [EX.out]
    refine wpList_val (run_alc (vs := z8 16) rfl (by kernel_rfl)) rfl ?_; (try simp only [Act.put, List.setIfInBounds_toArray, List.set_cons_zero, List.set_cons_succ]); replace hM := Lib.hid (hM.out.newZ 16 24); generalize a3.alloc (.cells (z8 16).toArray 24) = a4 at *; generalize a3.heap.size = g3 at *; refine wpList_skip (run_stA (vs := (x).map b8) rfl (sz sz16 hxl) rfl rfl (oneB _) ((hM.out.get (i := 0) rfl).there8 (by rw [hxl, List.length_replicate]))) rfl rfl ?_; refine wpList_end ?_; replace hM := Lib.hid (hM.out.put 0 rfl (m := x) (by rw [hxl, List.length_replicate])); generalize a4.setCells g3 0 ((x).map b8) = a5 at *
    replace hM : Hid (Ms w [(g3, x), (g2, l), (g1, k)] a5) := hM
    go_upto_region 4 with fail
    refine wp_region_noPanic ?_; refine wp_region_late (S := fun _ V => Below a5.heap.size a5 V) (by kernel_rfl) ((Below.refl _ _).drew) (fun hS => ?_)
    generalize a5.drew = b1 at *
    refine wpAnyL_call (R := fun v w => v = .bool true ∧ Below b1.heap.size b1 w) 0 (by kernel_rfl) rfl rfl rfl (run_call0 enters_known rfl rfl) (calls_eq (known_any _)) (fun v w h => hS.trans (h.2.mono hS.size)) (fun v b2 h => ?_); obtain ⟨rfl, hb⟩ := h; replace hS := hS.trans (hb.mono hS.size); (try simp only [Act.put, List.setIfInBounds_toArray, List.set_cons_zero, List.set_cons_succ])
    clear hb
    refine wpAnyL_take 1 rfl rfl (by kernel_rfl) (by kernel_rfl) (by kernel_rfl) (fun _ _ _ h => h) rfl (fun V hV => run_mv (v := .bool true) rfl rfl) hS ?_; (try simp only [Act.put, List.setIfInBounds_toArray, List.set_cons_zero, List.set_cons_succ])
    refine wpAnyL_take 2 rfl rfl (by kernel_rfl) (by kernel_rfl) (by kernel_rfl) (fun _ _ _ h => h) rfl (fun V hV => run_ldM (vs := k.map b8) rfl Try.underlying23 rfl (sz szKey hk) rfl ((hM.out.below hV).get (i := 2) rfl).range) hS ?_; (try simp only [Act.put, List.setIfInBounds_toArray, List.set_cons_zero, List.set_cons_succ])
    refine wpAnyL_take 3 rfl rfl (by kernel_rfl) (by kernel_rfl) (by kernel_rfl) (fun _ _ _ h => h) rfl (fun V hV => run_ldM (vs := k.map b8) rfl Try.underlying23 rfl (sz szKey hk) rfl ((hM.out.below hV).get (i := 2) rfl).range) hS ?_; (try simp only [Act.put, List.setIfInBounds_toArray, List.set_cons_zero, List.set_cons_succ])
    refine wpAnyL_take 4 rfl rfl (by kernel_rfl) (by kernel_rfl) (by kernel_rfl) (fun _ _ _ h => h) rfl (fun V hV => run_ldM (vs := x.map b8) rfl Try.underlying24 rfl (sz sz16 hxl) rfl ((hM.out.below hV).get (i := 0) rfl).range) hS ?_; (try simp only [Act.put, List.setIfInBounds_toArray, List.set_cons_zero, List.set_cons_succ])
    refine wpAnyL_take 7 rfl rfl (by kernel_rfl) (by kernel_rfl) (by kernel_rfl) (fun _ _ _ h => h) rfl (fun V hV => run_ldM (vs := x.map b8) rfl Try.underlying24 rfl (sz sz16 hxl) rfl ((hM.out.below hV).get (i := 0) rfl).range) hS ?_; (try simp only [Act.put, List.setIfInBounds_toArray, List.set_cons_zero, List.set_cons_succ])
    refine wpAnyL_call (R := fun v w => v = .agg ((blockB k x).map b8).toArray ∧ Below b2.heap.size b2 w) 5 (by kernel_rfl) rfl rfl rfl (run_call2 enters_block rfl rfl rfl rfl) (calls_eq (block_any k x _ hk hxl)) (fun v w h => hS.trans (h.2.mono hS.size)) (fun v b3 h => ?_); obtain ⟨rfl, hb⟩ := h; replace hS := hS.trans (hb.mono hS.size); (try simp only [Act.put, List.setIfInBounds_toArray, List.set_cons_zero, List.set_cons_succ])
    clear hb
    refine wpAnyL_call (R := fun v w => v = .agg ((unblockB k (blockB k x)).map b8).toArray ∧ Below b3.heap.size b3 w) 6 (by kernel_rfl) rfl rfl rfl (run_call2 enters_unblock rfl rfl rfl rfl) (calls_eq (unblock_any k (blockB k x) _ hk hbx)) (fun v w h => hS.trans (h.2.mono hS.size)) (fun v b4 h => ?_); obtain ⟨rfl, hb⟩ := h; replace hS := hS.trans (hb.mono hS.size); (try simp only [Act.put, List.setIfInBounds_toArray, List.set_cons_zero, List.set_cons_succ])
    clear hb
    rw [E1.out]
    refine wpAnyL_take 8 rfl rfl (by kernel_rfl) (by kernel_rfl) (by kernel_rfl) (fun _ _ _ h => h) rfl (fun V hV => run_eq16 (c := true) hxl hxl rfl rfl rfl (decide_eq_true rfl)) hS ?_; (try simp only [Act.put, List.setIfInBounds_toArray, List.set_cons_zero, List.set_cons_succ])
    refine wpAnyL_take 9 rfl rfl (by kernel_rfl) (by kernel_rfl) (by kernel_rfl) (fun _ _ _ h => h) rfl (fun V hV => run_pick (b := true) (v := .bool true) rfl rfl rfl) hS ?_; (try simp only [Act.put, List.setIfInBounds_toArray, List.set_cons_zero, List.set_cons_succ])
    refine wpAnyL_take 10 rfl rfl (by kernel_rfl) (by kernel_rfl) (by kernel_rfl) (fun _ _ _ h => h) rfl (fun V hV => run_mv (v := .bool true) rfl rfl) hS ?_; (try simp only [Act.put, List.setIfInBounds_toArray, List.set_cons_zero, List.set_cons_succ])
    refine wpAnyL_take 11 rfl rfl (by kernel_rfl) (by kernel_rfl) (by kernel_rfl) (fun _ _ _ h => h) rfl (fun V hV => run_ldM (vs := k.map b8) rfl Try.underlying23 rfl (sz szKey hk) rfl ((hM.out.below hV).get (i := 2) rfl).range) hS ?_; (try simp only [Act.put, List.setIfInBounds_toArray, List.set_cons_zero, List.set_cons_succ])
    refine wpAnyL_take 12 rfl rfl (by kernel_rfl) (by kernel_rfl) (by kernel_rfl) (fun _ _ _ h => h) rfl (fun V hV => run_ldM (vs := k.map b8) rfl Try.underlying23 rfl (sz szKey hk) rfl ((hM.out.below hV).get (i := 2) rfl).range) hS ?_; (try simp only [Act.put, List.setIfInBounds_toArray, List.set_cons_zero, List.set_cons_succ])
    refine wpAnyL_take 13 rfl rfl (by kernel_rfl) (by kernel_rfl) (by kernel_rfl) (fun _ _ _ h => h) rfl (fun V hV => run_ldM (vs := x.map b8) rfl Try.underlying24 rfl (sz sz16 hxl) rfl ((hM.out.below hV).get (i := 0) rfl).range) hS ?_; (try simp only [Act.put, List.setIfInBounds_toArray, List.set_cons_zero, List.set_cons_succ])
    refine wpAnyL_take 16 rfl rfl (by kernel_rfl) (by kernel_rfl) (by kernel_rfl) (fun _ _ _ h => h) rfl (fun V hV => run_ldM (vs := x.map b8) rfl Try.underlying24 rfl (sz sz16 hxl) rfl ((hM.out.below hV).get (i := 0) rfl).range) hS ?_; (try simp only [Act.put, List.setIfInBounds_toArray, List.set_cons_zero, List.set_cons_succ])
    refine wpAnyL_call (R := fun v w => v = .agg ((unblockB k x).map b8).toArray ∧ Below b4.heap.size b4 w) 14 (by kernel_rfl) rfl rfl rfl (run_call2 enters_unblock rfl rfl rfl rfl) (calls_eq (unblock_any k x _ hk hxl)) (fun v w h => hS.trans (h.2.mono hS.size)) (fun v b5 h => ?_); obtain ⟨rfl, hb⟩ := h; replace hS := hS.trans (hb.mono hS.size); (try simp only [Act.put, List.setIfInBounds_toArray, List.set_cons_zero, List.set_cons_succ])
    clear hb
    refine wpAnyL_call (R := fun v w => v = .agg ((blockB k (unblockB k x)).map b8).toArray ∧ Below b5.heap.size b5 w) 15 (by kernel_rfl) rfl rfl rfl (run_call2 enters_block rfl rfl rfl rfl) (calls_eq (block_any k (unblockB k x) _ hk hux)) (fun v w h => hS.trans (h.2.mono hS.size)) (fun v b6 h => ?_); obtain ⟨rfl, hb⟩ := h; replace hS := hS.trans (hb.mono hS.size); (try simp only [Act.put, List.setIfInBounds_toArray, List.set_cons_zero, List.set_cons_succ])
    clear hb
    rw [E2.out]
    refine wpAnyL_take 17 rfl rfl (by kernel_rfl) (by kernel_rfl) (by kernel_rfl) (fun _ _ _ h => h) rfl (fun V hV => run_eq16 (c := true) hxl hxl rfl rfl rfl (decide_eq_true rfl)) hS ?_; (try simp only [Act.put, List.setIfInBounds_toArray, List.set_cons_zero, List.set_cons_succ])
    refine wpAnyL_take 18 rfl rfl (by kernel_rfl) (by kernel_rfl) (by kernel_rfl) (fun _ _ _ h => h) rfl (fun V hV => run_pick (b := true) (v := .bool true) rfl rfl rfl) hS ?_; (try simp only [Act.put, List.setIfInBounds_toArray, List.set_cons_zero, List.set_cons_succ])
    refine wpAnyL_take 19 rfl rfl (by kernel_rfl) (by kernel_rfl) (by kernel_rfl) (fun _ _ _ h => h) rfl (fun V hV => run_mv (v := .bool true) rfl rfl) hS ?_; (try simp only [Act.put, List.setIfInBounds_toArray, List.set_cons_zero, List.set_cons_succ])
    refine wpAnyL_take 20 rfl rfl (by kernel_rfl) (by kernel_rfl) (by kernel_rfl) (fun _ _ _ h => h) rfl (fun V hV => run_ldM (vs := k.map b8) rfl Try.underlying23 rfl (sz szKey hk) rfl ((hM.out.below hV).get (i := 2) rfl).range) hS ?_; (try simp only [Act.put, List.setIfInBounds_toArray, List.set_cons_zero, List.set_cons_succ])
    refine wpAnyL_take 21 rfl rfl (by kernel_rfl) (by kernel_rfl) (by kernel_rfl) (fun _ _ _ h => h) rfl (fun V hV => run_ldM (vs := x.map b8) rfl Try.underlying24 rfl (sz sz16 hxl) rfl ((hM.out.below hV).get (i := 0) rfl).range) hS ?_; (try simp only [Act.put, List.setIfInBounds_toArray, List.set_cons_zero, List.set_cons_succ])
    refine wpAnyL_take 22 rfl rfl (by kernel_rfl) (by kernel_rfl) (by kernel_rfl) (fun _ _ _ h => h) rfl (fun V hV => run_ldM (vs := k.map b8) rfl Try.underlying23 rfl (sz szKey hk) rfl ((hM.out.below hV).get (i := 2) rfl).range) hS ?_; (try simp only [Act.put, List.setIfInBounds_toArray, List.set_cons_zero, List.set_cons_succ])
    refine wpAnyL_take 23 rfl rfl (by kernel_rfl) (by kernel_rfl) (by kernel_rfl) (fun _ _ _ h => h) rfl (fun V hV => run_ldM (vs := x.map b8) rfl Try.underlying24 rfl (sz sz16 hxl) rfl ((hM.out.below hV).get (i := 0) rfl).range) hS ?_; (try simp only [Act.put, List.setIfInBounds_toArray, List.set_cons_zero, List.set_cons_succ])
    refine wpAnyL_take 24 rfl rfl (by kernel_rfl) (by kernel_rfl) (by kernel_rfl) (fun _ _ _ h => h) rfl (fun V hV => run_mv (v := .slice _ _ _) rfl rfl) hS ?_; (try simp only [Act.put, List.setIfInBounds_toArray, List.set_cons_zero, List.set_cons_succ])
    refine wpAnyL_take 28 rfl rfl (by kernel_rfl) (by kernel_rfl) (by kernel_rfl) (fun _ _ _ h => h) rfl (fun V hV => run_mv (v := .slice _ _ _) rfl rfl) hS ?_; (try simp only [Act.put, List.setIfInBounds_toArray, List.set_cons_zero, List.set_cons_succ])
    refine wpAnyL_take 29 rfl rfl (by kernel_rfl) (by kernel_rfl) (by kernel_rfl) (fun _ _ _ h => h) rfl (fun V hV => run_str rfl rfl (HV.out.below (hM.out.below hV).bl)) hS ?_; (try simp only [Act.put, List.setIfInBounds_toArray, List.set_cons_zero, List.set_cons_succ])
    refine wpAnyL_call 25 (by kernel_rfl) rfl rfl rfl (run_call3 enters_counter rfl rfl rfl rfl rfl) (counter_any k x _ b _ hk hxl (HV.out.below (hM.out.below hS).bl) (by omega)) (fun _ _ h => hS.trans (h.2.mono hS.size)) (fun v1 b7 hR => ?_); (try simp only [Act.put, List.setIfInBounds_toArray, List.set_cons_zero, List.set_cons_succ])
    obtain ⟨S1, hb7⟩ := hR
    replace hS := hS.trans (hb7.mono hS.size)
    clear hb7
    refine wpAnyL_call 26 (by kernel_rfl) rfl rfl rfl (run_call3 enters_counter rfl rfl rfl rfl rfl) (counter_any k x v1 (ctr k x b) _ hk hxl S1 (by omega)) (fun _ _ h => hS.trans (h.2.mono hS.size)) (fun v2 b8' hR => ?_); (try simp only [Act.put, List.setIfInBounds_toArray, List.set_cons_zero, List.set_cons_succ])
    obtain ⟨S2, hb8⟩ := hR
    replace hS := hS.trans (hb8.mono hS.size)
    clear hb8
    refine wpAnyL_val 27 (by kernel_rfl) rfl rfl rfl (run_str rfl rfl S2) (hS) ?_; (try simp only [Act.put, List.setIfInBounds_toArray, List.set_cons_zero, List.set_cons_succ])
    rw [E3.out]
    refine wpAnyL_take 30 rfl rfl (by kernel_rfl) (by kernel_rfl) (by kernel_rfl) (fun _ _ _ h => h) rfl (fun V hV => run_eqstr rfl rfl rfl) hS ?_; (try simp only [Act.put, List.setIfInBounds_toArray, List.set_cons_zero, List.set_cons_succ])
    refine wpAnyL_take 31 rfl rfl (by kernel_rfl) (by kernel_rfl) (by kernel_rfl) (fun _ _ _ h => h) rfl (fun V hV => run_pick (b := true) (v := .bool true) rfl rfl rfl) hS ?_; (try simp only [Act.put, List.setIfInBounds_toArray, List.set_cons_zero, List.set_cons_succ])
    refine wpAnyL_take 32 rfl rfl (by kernel_rfl) (by kernel_rfl) (by kernel_rfl) (fun _ _ _ h => h) rfl (fun V hV => run_asg (v := .bool true) rfl rfl) hS ?_; (try simp only [Act.put, List.setIfInBounds_toArray, List.set_cons_zero, List.set_cons_succ])
    refine wpAnyL_done (by kernel_rfl) ?_ _; refine NoPanic.normal ?_
    replace hM := Lib.hid (hM.out.below hS)
    go_wp2_with fail
    go_ret
    exact ⟨rfl, hM.out.bl⟩
end Go.Proofs.Ytlfggmdlgeakeaa
