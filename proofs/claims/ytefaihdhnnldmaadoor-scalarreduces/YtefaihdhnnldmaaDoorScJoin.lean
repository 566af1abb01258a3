/- What scalar.join and shift do. -/
import Derived.Test.YtefaihdhnnldmaaDoorScOps
namespace Go.Proofs.YtefaihdhnnldmaaDoor
open Go.RowKit
set_option maxRecDepth 20000

set_option maxHeartbeats 4000000 in
theorem sjoin_any (l m : List (BitVec 64)) (w : World) (hl : l.length = 4) (hm : m.length = 4) : Calls Tryd.prog 22 #[.agg (l.map b64).toArray, .agg (m.map b64).toArray] w fun e w' => e = .returned (.agg ((l ++ m).map b64).toArray) ∧ Below w.heap.size w w' := by
  have hM := Lib.hid (Mv.nil w)
  have hlm : (l ++ m).length = 8 := by rw [List.length_append, hl, hm]
  have LL : Hid ((l.map b64).length = 4) := Lib.hid (by rw [List.length_map, hl])
  have LM : Hid ((m.map b64).length = 4) := Lib.hid (by rw [List.length_map, hm])
  have LX : Hid (((l ++ m).map b64).length = 8) := Lib.hid (by rw [List.length_map, hlm])
  have E1 : Hid ((z64 8).take 0 ++ (l.map b64 ++ (z64 8).drop (0 + (l.map b64).length)) = l.map b64 ++ z64 4) := Lib.hid (by rw [LL.out]; rfl)
  have E2 : Hid ((l.map b64 ++ z64 4).take 4 ++ (m.map b64 ++ (l.map b64 ++ z64 4).drop (4 + (m.map b64).length)) = (l ++ m).map b64) := Lib.hid (by
    rw [LM.out, List.take_left' LL.out, List.drop_of_length_le (by rw [List.length_append, LL.out, z64_len]; exact Nat.le_refl _), List.append_nil, List.map_append])
  have OL := Lib.hid (one64v l)
  have OM := Lib.hid (one64v m)
  have SZ := Lib.hid (szS8 hlm)
  have OX := Lib.hid (one64s (l ++ m))
  generalize l.map b64 = L at *
  generalize m.map b64 = M at *
  generalize (l ++ m).map b64 = X at *
  go_enter Tryd.func22, Tryd.ntmps22
  go_upto_region 0 with fail; refine wp_region_lit ?_
  refine wpList_val (run_boxL8 (vs := L) rfl rfl) rfl ?_; (try simp only [Act.put, List.setIfInBounds_toArray, List.set_cons_zero, List.set_cons_succ]); replace hM := Lib.hid (hM.out.new (L) 48); generalize w.alloc (.cells (L).toArray 48) = a1 at *; generalize w.heap.size = g1 at *
  refine wpList_val (run_boxL8 (vs := M) rfl rfl) rfl ?_; (try simp only [Act.put, List.setIfInBounds_toArray, List.set_cons_zero, List.set_cons_succ]); replace hM := Lib.hid (hM.out.new (M) 48); generalize a1.alloc (.cells (M).toArray 48) = a2 at *; generalize a1.heap.size = g2 at *
  refine wpList_val (run_alc (vs := z64 8) rfl (by kernel_rfl)) rfl ?_; (try simp only [Act.put, List.setIfInBounds_toArray, List.set_cons_zero, List.set_cons_succ]); replace hM := Lib.hid (hM.out.new (z64 8) 50); generalize a2.alloc (.cells (z64 8).toArray 50) = a3 at *; generalize a2.heap.size = g3 at *
  refine wpList_end ?_
  go_upto_region 1 with fail; refine wp_region_lit ?_
  refine wpList_val (run_alc (vs := z64 8) rfl (by kernel_rfl)) rfl ?_; (try simp only [Act.put, List.setIfInBounds_toArray, List.set_cons_zero, List.set_cons_succ]); replace hM := Lib.hid (hM.out.new (z64 8) 50); generalize a3.alloc (.cells (z64 8).toArray 50) = a4 at *; generalize a3.heap.size = g4 at *
  refine wpList_end ?_
  go_upto_region 2 with fail; refine wp_region_calm 2 (by kernel_rfl) (by kernel_rfl) ?_
  refine wpCalm_step _ (fun V hV => calm_run (run_slW rfl Tryd.underlying50 (by kernel_rfl) rfl)) ?_; (try simp only [Act.put, List.setIfInBounds_toArray, List.set_cons_zero, List.set_cons_succ])
  refine wpCalm_step _ (fun V hV => calm_run (run_slW rfl Tryd.underlying48 (by kernel_rfl) rfl)) ?_; (try simp only [Act.put, List.setIfInBounds_toArray, List.set_cons_zero, List.set_cons_succ])
  refine wpCalm_done ?_; intro a5 hb; simp only [List.drop_succ_cons, List.drop_zero]
  replace hM := Lib.hid (hM.out.below hb)
  clear hb
  refine wpList_val (run_cpyV (vs := L) (l := z64 8) rfl Tryd.underlying76 (by kernel_rfl) rfl rfl (hM.out.get (i := 3) rfl).range (by rw [LL.out]; rfl) (hM.out.get (i := 0) rfl) (by rw [LL.out, z64_len]; omega) OL.out) rfl ?_; (try simp only [Act.put, List.setIfInBounds_toArray, List.set_cons_zero, List.set_cons_succ])
  refine wpList_end ?_
  replace hM := Lib.hid (hM.out.mid 0 rfl (f := 0) (m := L) (by rw [LL.out, z64_len]; omega))
  rw [E1.out] at hM
  generalize a5.setCells g4 0 L = a6 at *
  go_upto_region 3 with fail; refine wp_region_calm 2 (by kernel_rfl) (by kernel_rfl) ?_
  refine wpCalm_step _ (fun V hV => calm_run (run_slWl (l := 4) rfl Tryd.underlying50 (by kernel_rfl) rfl rfl (by omega))) ?_; (try simp only [Act.put, List.setIfInBounds_toArray, List.set_cons_zero, List.set_cons_succ])
  refine wpCalm_step _ (fun V hV => calm_run (run_slW rfl Tryd.underlying48 (by kernel_rfl) rfl)) ?_; (try simp only [Act.put, List.setIfInBounds_toArray, List.set_cons_zero, List.set_cons_succ])
  refine wpCalm_done ?_; intro a7 hb; simp only [List.drop_succ_cons, List.drop_zero]
  replace hM := Lib.hid (hM.out.below hb)
  clear hb
  refine wpList_val (run_cpyV (f := 4) (vs := M) (l := L ++ z64 4) rfl Tryd.underlying76 (by kernel_rfl) rfl rfl (hM.out.get (i := 2) rfl).range (by rw [LM.out]; rfl) (hM.out.get (i := 0) rfl) (by rw [LM.out, List.length_append, LL.out, z64_len]; omega) OM.out) rfl ?_; (try simp only [Act.put, List.setIfInBounds_toArray, List.set_cons_zero, List.set_cons_succ])
  refine wpList_end ?_
  replace hM := Lib.hid (hM.out.mid 0 rfl (f := 4) (m := M) (by rw [LM.out, List.length_append, LL.out, z64_len]; omega))
  rw [E2.out] at hM
  generalize a7.setCells g4 4 M = a8 at *
  go_upto_region 4 with fail; refine wp_region_lit ?_
  refine wpList_val (run_ldM (vs := X) rfl Tryd.underlying50 rfl SZ.out rfl ((hM.out.get (i := 0) rfl).range)) rfl ?_; (try simp only [Act.put, List.setIfInBounds_toArray, List.set_cons_zero, List.set_cons_succ])
  refine wpList_skip (run_stM (vs := X) rfl SZ.out rfl rfl OX.out (by rw [LX.out.trans (z64_len 8).symm]; exact (hM.out.get (i := 1) rfl).there)) rfl rfl ?_; replace hM := Lib.hid (hM.out.put 1 rfl (m := X) (LX.out.trans (z64_len 8).symm))
  refine wpList_end ?_; go_wp2_with fail; refine bodyPost_ret (v := .agg (X).toArray) (results_rowB Tryd.results22 rfl Tryd.underlying50 rfl SZ.out (hM.out.get (i := 1) rfl).range) rfl ⟨rfl, hM.out.bl⟩
theorem enters_sjoin : Enters 22 := enters_of Tryd.func22 (by kernel_rfl) rfl
end Go.Proofs.YtefaihdhnnldmaaDoor
