/- What keywardlaw03.ShaNarrow answers: the walk. -/
import Derived.Test.YtkjlaoaaifliaaaDoorRef532
namespace Go.Proofs.YtkjlaoaaifliaaaDoor
open Go.RowKit

set_option maxHeartbeats 2000000 in
theorem narrowLaw_any (vb : Value) (b : List (BitVec 8)) (vc : Value) (c : List (BitVec 8)) (n : Nat) (w : World) (hb : Sl vb b w) (hbl : b.length < 9223372036854775808) (hc : Sl vc c w) (hcl : c.length < 9223372036854775808) (hn : n < 65536) (hT : Tabs w) :
    Calls Tryd.prog 4 #[vb, vc, .int .u16 (n : Int)] w fun e w' => e = .returned (.bool true) ∧ Below w.heap.size w w' := by
  have HT := Lib.hid hT; clear hT
  have HB := Lib.hid hb
  have HC := Lib.hid hc
  obtain ⟨ab, cb, rfl, -, -⟩ := hb
  obtain ⟨ac, cc, rfl, -, -⟩ := hc
  go_enter Tryd.func4, Tryd.ntmps4
  go_upto_region 1 with fail; refine wp_region_lit ?_
  refine wpList_val (run_mv (v := .slice _ _ _) rfl rfl) rfl ?_; (try simp only [Act.put, List.setIfInBounds_toArray, List.set_cons_zero, List.set_cons_succ])
  refine wpList_val (run_len rfl Tryd.underlying23 rfl) rfl ?_; (try simp only [Act.put, List.setIfInBounds_toArray, List.set_cons_zero, List.set_cons_succ])
  by_cases h1 : 2000 < b.length
  · refine wpList_val (run_gtrb (c := true) rfl rfl rfl (decide_eq_true (by omega))) rfl ?_; (try simp only [Act.put, List.setIfInBounds_toArray, List.set_cons_zero, List.set_cons_succ])
    refine wpList_val (run_mv (v := .bool true) rfl rfl) rfl ?_; (try simp only [Act.put, List.setIfInBounds_toArray, List.set_cons_zero, List.set_cons_succ])
    refine wpList_pass rfl ?_; (try simp only [Act.put, List.setIfInBounds_toArray, List.set_cons_zero, List.set_cons_succ])
    refine wpList_pass rfl ?_; (try simp only [Act.put, List.setIfInBounds_toArray, List.set_cons_zero, List.set_cons_succ])
    refine wpList_pass rfl ?_; (try simp only [Act.put, List.setIfInBounds_toArray, List.set_cons_zero, List.set_cons_succ])
    refine wpList_val (run_pick (b := true) (v := .bool true) rfl rfl rfl) rfl ?_; (try simp only [Act.put, List.setIfInBounds_toArray, List.set_cons_zero, List.set_cons_succ])
    refine wpList_val (run_mv (v := .bool true) rfl rfl) rfl ?_; (try simp only [Act.put, List.setIfInBounds_toArray, List.set_cons_zero, List.set_cons_succ])
    refine wpList_pass rfl ?_; (try simp only [Act.put, List.setIfInBounds_toArray, List.set_cons_zero, List.set_cons_succ])
    refine wpList_pass rfl ?_; (try simp only [Act.put, List.setIfInBounds_toArray, List.set_cons_zero, List.set_cons_succ])
    refine wpList_val (run_pick (b := true) (v := .bool true) rfl rfl rfl) rfl ?_; (try simp only [Act.put, List.setIfInBounds_toArray, List.set_cons_zero, List.set_cons_succ])
    refine wpList_end ?_
    go_upto_region 2 with fail; refine wp_region_lit ?_
    refine wpList_enter (run_call0 enters_known rfl rfl) rfl (known_any _ HT.out) (fun u1 hb1 => ?_); (try simp only [Act.put, List.setIfInBounds_toArray, List.set_cons_zero, List.set_cons_succ])
    refine wpList_val (run_asg (v := .bool true) rfl rfl) rfl ?_; (try simp only [Act.put, List.setIfInBounds_toArray, List.set_cons_zero, List.set_cons_succ])
    refine wpList_end ?_
    go_wp2_with fail
    go_ret
    exact ⟨rfl, hb1⟩
  · refine wpList_val (run_gtrb (c := false) rfl rfl rfl (decide_eq_false (by omega))) rfl ?_; (try simp only [Act.put, List.setIfInBounds_toArray, List.set_cons_zero, List.set_cons_succ])
    refine wpList_val (run_mv (v := .bool false) rfl rfl) rfl ?_; (try simp only [Act.put, List.setIfInBounds_toArray, List.set_cons_zero, List.set_cons_succ])
    refine wpList_valG (run_mv (v := .slice _ _ _) rfl rfl) rfl ?_; (try simp only [Act.put, List.setIfInBounds_toArray, List.set_cons_zero, List.set_cons_succ])
    refine wpList_valG (run_len rfl Tryd.underlying23 rfl) rfl ?_; (try simp only [Act.put, List.setIfInBounds_toArray, List.set_cons_zero, List.set_cons_succ])
    by_cases h2 : 2000 < c.length
    · refine wpList_valG (run_gtrb (c := true) rfl rfl rfl (decide_eq_true (by omega))) rfl ?_; (try simp only [Act.put, List.setIfInBounds_toArray, List.set_cons_zero, List.set_cons_succ])
      refine wpList_val (run_pick (b := false) (v := .bool true) rfl rfl rfl) rfl ?_; (try simp only [Act.put, List.setIfInBounds_toArray, List.set_cons_zero, List.set_cons_succ])
      refine wpList_val (run_mv (v := .bool true) rfl rfl) rfl ?_; (try simp only [Act.put, List.setIfInBounds_toArray, List.set_cons_zero, List.set_cons_succ])
      refine wpList_pass rfl ?_; (try simp only [Act.put, List.setIfInBounds_toArray, List.set_cons_zero, List.set_cons_succ])
      refine wpList_pass rfl ?_; (try simp only [Act.put, List.setIfInBounds_toArray, List.set_cons_zero, List.set_cons_succ])
      refine wpList_val (run_pick (b := true) (v := .bool true) rfl rfl rfl) rfl ?_; (try simp only [Act.put, List.setIfInBounds_toArray, List.set_cons_zero, List.set_cons_succ])
      refine wpList_end ?_
      go_upto_region 2 with fail; refine wp_region_lit ?_
      refine wpList_enter (run_call0 enters_known rfl rfl) rfl (known_any _ HT.out) (fun u1 hb1 => ?_); (try simp only [Act.put, List.setIfInBounds_toArray, List.set_cons_zero, List.set_cons_succ])
      refine wpList_val (run_asg (v := .bool true) rfl rfl) rfl ?_; (try simp only [Act.put, List.setIfInBounds_toArray, List.set_cons_zero, List.set_cons_succ])
      refine wpList_end ?_
      go_wp2_with fail
      go_ret
      exact ⟨rfl, hb1⟩
    · refine wpList_valG (run_gtrb (c := false) rfl rfl rfl (decide_eq_false (by omega))) rfl ?_; (try simp only [Act.put, List.setIfInBounds_toArray, List.set_cons_zero, List.set_cons_succ])
      refine wpList_val (run_pick (b := false) (v := .bool false) rfl rfl rfl) rfl ?_; (try simp only [Act.put, List.setIfInBounds_toArray, List.set_cons_zero, List.set_cons_succ])
      refine wpList_val (run_mv (v := .bool false) rfl rfl) rfl ?_; (try simp only [Act.put, List.setIfInBounds_toArray, List.set_cons_zero, List.set_cons_succ])
      refine wpList_enterG (run_call0 enters_known rfl rfl) rfl (known_any _ HT.out) (fun u1 bl => ?_); (try simp only [Act.put, List.setIfInBounds_toArray, List.set_cons_zero, List.set_cons_succ])
      refine wpList_valG (run_notb (c := true) rfl rfl) rfl ?_; (try simp only [Act.put, List.setIfInBounds_toArray, List.set_cons_zero, List.set_cons_succ])
      refine wpList_val (run_pick (b := false) (v := .bool false) rfl rfl rfl) rfl ?_; (try simp only [Act.put, List.setIfInBounds_toArray, List.set_cons_zero, List.set_cons_succ])
      refine wpList_end ?_
      have hln := bts_len c (n % 300)
      have hlt : n % 300 < 300 := Nat.mod_lt _ (by omega)
      have HBT : Hid (∀ (u : World), Below w.heap.size w u → Calls Tryd.prog 13 #[.slice ac c.length cc, .int .u16 (n : Int)] u fun e w' => ∃ v, e = .returned v ∧ (BytI u v (bts c (n % 300)) w')) := Lib.hid fun u hu => bytes_any _ c n _ (HC.out.below hu) hcl hn
      generalize bts c (n % 300) = l at *
      go_upto_region 3 with fail; refine wp_region_lit ?_
      refine wpList_val (run_mv (v := .slice _ _ _) rfl rfl) rfl ?_; (try simp only [Act.put, List.setIfInBounds_toArray, List.set_cons_zero, List.set_cons_succ])
      refine wpList_enter (run_call1 enters_sum32 rfl rfl rfl) rfl (sum32_any _ b _ (HB.out.below bl) (by omega) (HT.out.below bl)) (fun u2 hb => ?_); (try simp only [Act.put, List.setIfInBounds_toArray, List.set_cons_zero, List.set_cons_succ])
      replace bl := bl.trans (hb.mono bl.size)
      clear hb
      refine wpList_val (run_mv (v := .slice _ _ _) rfl rfl) rfl ?_; (try simp only [Act.put, List.setIfInBounds_toArray, List.set_cons_zero, List.set_cons_succ])
      refine wpList_enter (run_call1 enters_refsum32 rfl rfl rfl) rfl (refsum32_any _ b _ (HB.out.below bl) (by omega) (HT.out.below bl)) (fun u3 hb => ?_); (try simp only [Act.put, List.setIfInBounds_toArray, List.set_cons_zero, List.set_cons_succ])
      replace bl := bl.trans (hb.mono bl.size)
      clear hb
      refine wpList_val (run_eqKey (sum_len32 b) rfl rfl rfl) rfl ?_; (try simp only [Act.put, List.setIfInBounds_toArray, List.set_cons_zero, List.set_cons_succ])
      refine wpList_val (run_mv (v := .bool true) rfl rfl) rfl ?_; (try simp only [Act.put, List.setIfInBounds_toArray, List.set_cons_zero, List.set_cons_succ])
      refine wpList_valG (run_mv (v := .slice _ _ _) rfl rfl) rfl ?_; (try simp only [Act.put, List.setIfInBounds_toArray, List.set_cons_zero, List.set_cons_succ])
      refine wpList_valG (run_mv (v := .int _ _) rfl rfl) rfl ?_; (try simp only [Act.put, List.setIfInBounds_toArray, List.set_cons_zero, List.set_cons_succ])
      refine wpList_callRG (run_call2 enters_byt rfl rfl rfl rfl) rfl (HBT.out _ bl) (fun v1 u4 hR => ?_); (try simp only [Act.put, List.setIfInBounds_toArray, List.set_cons_zero, List.set_cons_succ])
      have O1 := Lib.hid (Sl.own hR.O)
      replace bl := bl.trans (hR.bl.mono bl.size)
      clear hR
      refine wpList_enterG (run_call1 enters_sum32 rfl rfl rfl) rfl (sum32_any _ l _ O1.out (by omega) (HT.out.below bl)) (fun u5 hb => ?_); (try simp only [Act.put, List.setIfInBounds_toArray, List.set_cons_zero, List.set_cons_succ])
      replace bl := bl.trans (hb.mono bl.size)
      clear hb O1
      refine wpList_valG (run_mv (v := .slice _ _ _) rfl rfl) rfl ?_; (try simp only [Act.put, List.setIfInBounds_toArray, List.set_cons_zero, List.set_cons_succ])
      refine wpList_valG (run_mv (v := .int _ _) rfl rfl) rfl ?_; (try simp only [Act.put, List.setIfInBounds_toArray, List.set_cons_zero, List.set_cons_succ])
      refine wpList_callRG (run_call2 enters_byt rfl rfl rfl rfl) rfl (HBT.out _ bl) (fun v2 u6 hR => ?_); (try simp only [Act.put, List.setIfInBounds_toArray, List.set_cons_zero, List.set_cons_succ])
      have O2 := Lib.hid (Sl.own hR.O)
      replace bl := bl.trans (hR.bl.mono bl.size)
      clear hR
      refine wpList_enterG (run_call1 enters_refsum32 rfl rfl rfl) rfl (refsum32_any _ l _ O2.out (by omega) (HT.out.below bl)) (fun u7 hb => ?_); (try simp only [Act.put, List.setIfInBounds_toArray, List.set_cons_zero, List.set_cons_succ])
      replace bl := bl.trans (hb.mono bl.size)
      clear hb O2
      refine wpList_valG (run_eqKey (sum_len32 l) rfl rfl rfl) rfl ?_; (try simp only [Act.put, List.setIfInBounds_toArray, List.set_cons_zero, List.set_cons_succ])
      refine wpList_val (run_pick (b := true) (v := .bool true) rfl rfl rfl) rfl ?_; (try simp only [Act.put, List.setIfInBounds_toArray, List.set_cons_zero, List.set_cons_succ])
      refine wpList_val (run_asg (v := .bool true) rfl rfl) rfl ?_; (try simp only [Act.put, List.setIfInBounds_toArray, List.set_cons_zero, List.set_cons_succ])
      refine wpList_end ?_
      go_wp2_with fail
      go_ret
      exact ⟨rfl, bl⟩
end Go.Proofs.YtkjlaoaaifliaaaDoor
