/- The law AesBoxes, walked. -/
import Derived.Test.YtlfggmdlgeakeaaAesKnown
import Derived.Test.YtlfggmdlgeakeaaAesRef2
namespace Go.Proofs.Ytlfggmdlgeakeaa
open Go.RowKit

theorem rbox_below (b : BitVec 8) (w : World) : Calls Try.prog 16 #[b8 b] w fun e w' => e = .returned (b8 (bx b)) ∧ Below w.heap.size w w' :=
  (rbox_any b w).mono fun _ _ ⟨h1, h2⟩ => ⟨by rw [h1, rbx_eq], by rw [h2]; exact Below.refl _ _⟩
set_option maxRecDepth 20000 in
set_option maxHeartbeats 2000000 in
theorem boxlaw_any (b : BitVec 8) (w : World) : Calls Try.prog 5 #[b8 b] w fun e w' => e = .returned (.bool true) ∧ Below w.heap.size w w' := by
  go_enter Try.func5, Try.ntmps5
  go_upto_region 1 with fail; refine wp_region_lit ?_
  refine wpList_enter (run_call0 enters_known rfl rfl) rfl (known_any _) (fun a1 bl => ?_); (try simp only [Act.put, List.setIfInBounds_toArray, List.set_cons_zero, List.set_cons_succ])
  refine wpList_val (run_mv (v := .bool true) rfl rfl) rfl ?_; (try simp only [Act.put, List.setIfInBounds_toArray, List.set_cons_zero, List.set_cons_succ])
  refine wpList_valG (run_mv (v := b8 b) rfl rfl) rfl ?_; (try simp only [Act.put, List.setIfInBounds_toArray, List.set_cons_zero, List.set_cons_succ])
  refine wpList_enterG (run_call1 enters_box rfl rfl rfl) rfl (box_any b _) (fun a2 hb => ?_); (try simp only [Act.put, List.setIfInBounds_toArray, List.set_cons_zero, List.set_cons_succ])
  replace bl := bl.trans (hb.mono bl.size)
  clear hb
  refine wpList_valG (run_mv (v := b8 b) rfl rfl) rfl ?_; (try simp only [Act.put, List.setIfInBounds_toArray, List.set_cons_zero, List.set_cons_succ])
  refine wpList_enterG (run_call1 enters_rbox rfl rfl rfl) rfl (rbox_below b _) (fun a3 hb => ?_); (try simp only [Act.put, List.setIfInBounds_toArray, List.set_cons_zero, List.set_cons_succ])
  replace bl := bl.trans (hb.mono bl.size)
  clear hb
  refine wpList_valG (run_eqv8 (c := true) rfl rfl rfl (decide_eq_true rfl)) rfl ?_; (try simp only [Act.put, List.setIfInBounds_toArray, List.set_cons_zero, List.set_cons_succ])
  refine wpList_val (run_pick (b := true) (v := .bool true) rfl rfl rfl) rfl ?_; (try simp only [Act.put, List.setIfInBounds_toArray, List.set_cons_zero, List.set_cons_succ])
  refine wpList_val (run_mv (v := .bool true) rfl rfl) rfl ?_; (try simp only [Act.put, List.setIfInBounds_toArray, List.set_cons_zero, List.set_cons_succ])
  refine wpList_valG (run_mv (v := b8 b) rfl rfl) rfl ?_; (try simp only [Act.put, List.setIfInBounds_toArray, List.set_cons_zero, List.set_cons_succ])
  refine wpList_enterG (run_call1 enters_unbox rfl rfl rfl) rfl (unbox_any b _) (fun a4 hb => ?_); (try simp only [Act.put, List.setIfInBounds_toArray, List.set_cons_zero, List.set_cons_succ])
  replace bl := bl.trans (hb.mono bl.size)
  clear hb
  refine wpList_valG (run_mv (v := b8 b) rfl rfl) rfl ?_; (try simp only [Act.put, List.setIfInBounds_toArray, List.set_cons_zero, List.set_cons_succ])
  refine wpList_enterG (run_call1 enters_runbox rfl rfl rfl) rfl (runbox_any b _) (fun a5 hb => ?_); (try simp only [Act.put, List.setIfInBounds_toArray, List.set_cons_zero, List.set_cons_succ])
  replace bl := bl.trans (hb.mono bl.size)
  clear hb
  refine wpList_valG (run_eqv8 (c := true) rfl rfl rfl (decide_eq_true rfl)) rfl ?_; (try simp only [Act.put, List.setIfInBounds_toArray, List.set_cons_zero, List.set_cons_succ])
  refine wpList_val (run_pick (b := true) (v := .bool true) rfl rfl rfl) rfl ?_; (try simp only [Act.put, List.setIfInBounds_toArray, List.set_cons_zero, List.set_cons_succ])
  refine wpList_val (run_asg (v := .bool true) rfl rfl) rfl ?_; (try simp only [Act.put, List.setIfInBounds_toArray, List.set_cons_zero, List.set_cons_succ])
  refine wpList_end ?_
  go_wp2_with fail
  go_ret
  exact ⟨rfl, bl⟩
end Go.Proofs.Ytlfggmdlgeakeaa
