/- What keywardlaw04.MacLong answers: the walk. -/
import Derived.Test.YtebmcjleepnehaaDoorLawMacHmacs
namespace Go.Proofs.YtebmcjleepnehaaDoor
open Go.RowKit

theorem fill_fz {k : List (BitVec 8)} (h : k.length ≤ 64) : fillK (fz k) = fillK k := by
  have hl := fz_len h
  unfold fillK
  rw [if_neg (by omega), if_neg (by omega)]
  unfold fz
  rw [List.length_append, List.length_replicate, show 64 - (k.length + (64 - k.length)) = 0 by omega]
  simp
theorem hmac_fz {k : List (BitVec 8)} (b : List (BitVec 8)) (h : k.length ≤ 64) : hmac (fz k) b = hmac k b := by unfold hmac; rw [fill_fz h]
set_option maxRecDepth 100000 in
set_option maxHeartbeats 4000000 in
theorem macLong_any (vc : Value) (cs : List (BitVec 8)) (vb : Value) (b : List (BitVec 8)) (n : Nat) (w : World) (hc : Sl vc cs w) (hcl : cs.length ≤ 140737488351232) (hb : Sl vb b w) (hbl : b.length ≤ 140737488351232) (hn : n < 65536) (hT : Tabs w) :
    Calls Tryd.prog 8 #[vc, vb, .int .u16 (n : Int)] w fun e w' => e = .returned (.bool true) ∧ Below w.heap.size w w' := by
  have HT := Lib.hid hT; clear hT
  have HB := Lib.hid hb
  have HC := Lib.hid hc
  obtain ⟨ab, c1, rfl, -, -⟩ := hb
  obtain ⟨ac, c2, rfl, -, -⟩ := hc
  go_enter Tryd.func8, Tryd.ntmps8
  go_upto_region 1 with fail; refine wp_region_lit ?_
  refine wpList_val (run_mv (v := .slice _ _ _) rfl rfl) rfl ?_; (try simp only [Act.put, List.setIfInBounds_toArray, List.set_cons_zero, List.set_cons_succ])
  refine wpList_val (run_len rfl Tryd.underlying22 rfl) rfl ?_; (try simp only [Act.put, List.setIfInBounds_toArray, List.set_cons_zero, List.set_cons_succ])
  by_cases h1 : 300 < b.length
  · refine wpList_val (run_gtrb (c := true) rfl rfl rfl (decide_eq_true (by omega))) rfl ?_; (try simp only [Act.put, List.setIfInBounds_toArray, List.set_cons_zero, List.set_cons_succ])
    refine wpList_val (run_mv (v := .bool true) rfl rfl) rfl ?_; (try simp only [Act.put, List.setIfInBounds_toArray, List.set_cons_zero, List.set_cons_succ])
    refine wpList_pass rfl ?_; (try simp only [Act.put, List.setIfInBounds_toArray, List.set_cons_zero, List.set_cons_succ])
    refine wpList_pass rfl ?_; (try simp only [Act.put, List.setIfInBounds_toArray, List.set_cons_zero, List.set_cons_succ])
    refine wpList_pass rfl ?_; (try simp only [Act.put, List.setIfInBounds_toArray, List.set_cons_zero, List.set_cons_succ])
    refine wpList_val (run_pick (b := true) (v := .bool true) rfl rfl rfl) rfl ?_; (try simp only [Act.put, List.setIfInBounds_toArray, List.set_cons_zero, List.set_cons_succ])
    refine wpList_end ?_
    go_upto_region 2 with fail; refine wp_region_lit ?_; refine wpList_enter (run_call0 enters_known4 rfl rfl) rfl (known4_any _ HT.out) (fun u1 hb1 => ?_); (try simp only [Act.put, List.setIfInBounds_toArray, List.set_cons_zero, List.set_cons_succ]); refine wpList_val (run_asg (v := .bool true) rfl rfl) rfl ?_; (try simp only [Act.put, List.setIfInBounds_toArray, List.set_cons_zero, List.set_cons_succ]); refine wpList_end ?_; go_wp2_with fail; go_ret; exact ⟨rfl, hb1⟩
  · refine wpList_val (run_gtrb (c := false) rfl rfl rfl (decide_eq_false (by omega))) rfl ?_; (try simp only [Act.put, List.setIfInBounds_toArray, List.set_cons_zero, List.set_cons_succ])
    refine wpList_val (run_mv (v := .bool false) rfl rfl) rfl ?_; (try simp only [Act.put, List.setIfInBounds_toArray, List.set_cons_zero, List.set_cons_succ])
    refine wpList_valG (run_mv (v := .slice _ _ _) rfl rfl) rfl ?_; (try simp only [Act.put, List.setIfInBounds_toArray, List.set_cons_zero, List.set_cons_succ])
    refine wpList_valG (run_len rfl Tryd.underlying22 rfl) rfl ?_; (try simp only [Act.put, List.setIfInBounds_toArray, List.set_cons_zero, List.set_cons_succ])
    by_cases h2 : 300 < cs.length
    · refine wpList_valG (run_gtrb (c := true) rfl rfl rfl (decide_eq_true (by omega))) rfl ?_; (try simp only [Act.put, List.setIfInBounds_toArray, List.set_cons_zero, List.set_cons_succ])
      refine wpList_val (run_pick (b := false) (v := .bool true) rfl rfl rfl) rfl ?_; (try simp only [Act.put, List.setIfInBounds_toArray, List.set_cons_zero, List.set_cons_succ])
      refine wpList_end ?_
      go_upto_region 2 with fail; refine wp_region_lit ?_; refine wpList_enter (run_call0 enters_known4 rfl rfl) rfl (known4_any _ HT.out) (fun u1 hb1 => ?_); (try simp only [Act.put, List.setIfInBounds_toArray, List.set_cons_zero, List.set_cons_succ]); refine wpList_val (run_asg (v := .bool true) rfl rfl) rfl ?_; (try simp only [Act.put, List.setIfInBounds_toArray, List.set_cons_zero, List.set_cons_succ]); refine wpList_end ?_; go_wp2_with fail; go_ret; exact ⟨rfl, hb1⟩
    · refine wpList_valG (run_gtrb (c := false) rfl rfl rfl (decide_eq_false (by omega))) rfl ?_; (try simp only [Act.put, List.setIfInBounds_toArray, List.set_cons_zero, List.set_cons_succ])
      refine wpList_val (run_pick (b := false) (v := .bool false) rfl rfl rfl) rfl ?_; (try simp only [Act.put, List.setIfInBounds_toArray, List.set_cons_zero, List.set_cons_succ])
      refine wpList_end ?_
      have hlx := bts_len cs (n % 300)
      have hlx3 : n % 300 < 300 := Nat.mod_lt _ (by omega)
      go_upto_region 3 with fail; refine wp_region_lit ?_
      refine wpList_val (run_mv (v := .slice _ _ _) rfl rfl) rfl ?_; (try simp only [Act.put, List.setIfInBounds_toArray, List.set_cons_zero, List.set_cons_succ])
      refine wpList_val (run_mv (v := .int _ _) rfl rfl) rfl ?_; (try simp only [Act.put, List.setIfInBounds_toArray, List.set_cons_zero, List.set_cons_succ])
      refine wpList_callR (run_call2 enters_byt rfl rfl rfl rfl) rfl (bytes_any _ cs n _ HC.out (by omega) hn) (fun q7 a1 hR => ?_); (try simp only [Act.put, List.setIfInBounds_toArray, List.set_cons_zero, List.set_cons_succ])
      have SX := Lib.hid (Sl.own hR.O)
      have bl := hR.bl
      clear hR
      generalize bts cs (n % 300) = k at *
      replace HB := Lib.hid (HB.out.below bl)
      replace HT := Lib.hid (HT.out.below bl)
      clear HC
      obtain ⟨a7, c7, e7, -, -⟩ := SX.out
      subst e7
      refine wpList_val (run_asg (v := .slice _ _ _) rfl rfl) rfl ?_; (try simp only [Act.put, List.setIfInBounds_toArray, List.set_cons_zero, List.set_cons_succ])
      refine wpList_end ?_
      have hS : Below a1.heap.size a1 a1 := Below.refl _ _
      go_upto_region 4 with fail; refine wp_region_lit ?_
      refine wpList_val (run_mv (v := .slice _ _ _) rfl rfl) rfl ?_; (try simp only [Act.put, List.setIfInBounds_toArray, List.set_cons_zero, List.set_cons_succ])
      refine wpList_val (run_len rfl Tryd.underlying22 rfl) rfl ?_; (try simp only [Act.put, List.setIfInBounds_toArray, List.set_cons_zero, List.set_cons_succ])
      by_cases h3 : 64 < k.length
      · refine wpList_val (run_gtrb (c := true) rfl rfl rfl (decide_eq_true (by omega))) rfl ?_; (try simp only [Act.put, List.setIfInBounds_toArray, List.set_cons_zero, List.set_cons_succ])
        refine wpList_end ?_
        go_upto_region 5 with fail; refine wp_region_lit ?_
        refine wpList_enter (run_call0 enters_known4 rfl rfl) rfl (known4_any _ (HT.out.below hS)) (fun a2 hb => ?_); (try simp only [Act.put, List.setIfInBounds_toArray, List.set_cons_zero, List.set_cons_succ])
        replace hS := hS.trans (hb.mono hS.size)
        clear hb
        refine wpList_val (run_mv (v := .bool true) rfl rfl) rfl ?_; (try simp only [Act.put, List.setIfInBounds_toArray, List.set_cons_zero, List.set_cons_succ])
        refine wpList_valG (run_mv (v := .slice _ _ _) rfl rfl) rfl ?_; (try simp only [Act.put, List.setIfInBounds_toArray, List.set_cons_zero, List.set_cons_succ])
        refine wpList_valG (run_mv (v := .slice _ _ _) rfl rfl) rfl ?_; (try simp only [Act.put, List.setIfInBounds_toArray, List.set_cons_zero, List.set_cons_succ])
        refine wpList_enterG (run_call2 enters_hmac rfl rfl rfl rfl) rfl (hmac_any _ k _ b _ (SX.out.below hS) (by omega) (HB.out.below hS) (by omega) (HT.out.below hS)) (fun a3 hb => ?_); (try simp only [Act.put, List.setIfInBounds_toArray, List.set_cons_zero, List.set_cons_succ])
        replace hS := hS.trans (hb.mono hS.size)
        clear hb
        refine wpList_valG (run_mv (v := .slice _ _ _) rfl rfl) rfl ?_; (try simp only [Act.put, List.setIfInBounds_toArray, List.set_cons_zero, List.set_cons_succ])
        refine wpList_valG (run_mv (v := .slice _ _ _) rfl rfl) rfl ?_; (try simp only [Act.put, List.setIfInBounds_toArray, List.set_cons_zero, List.set_cons_succ])
        refine wpList_enterG (run_call2 enters_rhmac rfl rfl rfl rfl) rfl (rhmac_any _ k _ b _ (SX.out.below hS) (by omega) (HB.out.below hS) (by omega) (HT.out.below hS)) (fun a4 hb => ?_); (try simp only [Act.put, List.setIfInBounds_toArray, List.set_cons_zero, List.set_cons_succ])
        replace hS := hS.trans (hb.mono hS.size)
        clear hb
        refine wpList_valG (run_eqKey (hmac_len k b) rfl rfl rfl) rfl ?_; (try simp only [Act.put, List.setIfInBounds_toArray, List.set_cons_zero, List.set_cons_succ])
        refine wpList_val (run_pick (b := true) (v := .bool true) rfl rfl rfl) rfl ?_; (try simp only [Act.put, List.setIfInBounds_toArray, List.set_cons_zero, List.set_cons_succ])
        refine wpList_val (run_asg (v := .bool true) rfl rfl) rfl ?_; (try simp only [Act.put, List.setIfInBounds_toArray, List.set_cons_zero, List.set_cons_succ])
        refine wpList_end ?_
        replace bl := bl.trans (hS.mono bl.size)
        go_wp2_with fail
        go_ret
        exact ⟨rfl, bl⟩
      · refine wpList_val (run_gtrb (c := false) rfl rfl rfl (decide_eq_false (by omega))) rfl ?_; (try simp only [Act.put, List.setIfInBounds_toArray, List.set_cons_zero, List.set_cons_succ])
        refine wpList_end ?_
        have HFZ := Lib.hid (hmac_fz b (show k.length ≤ 64 by omega))
        go_upto_region 6 with fail; refine wp_region_lit ?_
        (repeat ((first | refine wpList_val (run_mv (v := b32 _) rfl rfl) rfl ?_ | refine wpList_val (run_mv (v := b64 _) rfl rfl) rfl ?_ | refine wpList_val (run_mv (v := b8 _) rfl rfl) rfl ?_ | refine wpList_val (run_mv (v := .int _ _) rfl rfl) rfl ?_ | refine wpList_val (run_mv (v := .bool _) rfl rfl) rfl ?_ | refine wpList_val (run_mv (v := .slice (some _) _ _) rfl rfl) rfl ?_ | refine wpList_val (run_mv (v := .slice _ _ _) rfl rfl) rfl ?_ | refine wpList_val (run_mv (v := .pointer (some _)) rfl rfl) rfl ?_ | refine wpList_val (run_mv (v := .agg _) rfl rfl) rfl ?_ | refine wpList_val (run_asg (v := b32 _) rfl rfl) rfl ?_ | refine wpList_val (run_asg (v := b64 _) rfl rfl) rfl ?_ | refine wpList_val (run_asg (v := b8 _) rfl rfl) rfl ?_ | refine wpList_val (run_asg (v := .int _ _) rfl rfl) rfl ?_ | refine wpList_val (run_asg (v := .bool _) rfl rfl) rfl ?_ | refine wpList_val (run_asg (v := .slice (some _) _ _) rfl rfl) rfl ?_ | refine wpList_val (run_asg (v := .slice _ _ _) rfl rfl) rfl ?_ | refine wpList_val (run_asg (v := .pointer (some _)) rfl rfl) rfl ?_ | refine wpList_val (run_asg (v := .agg _) rfl rfl) rfl ?_ | refine wpList_val (run_mv rfl rfl) rfl ?_ | refine wpList_val (run_asg rfl rfl) rfl ?_ | refine wpList_val (run_xor32 rfl rfl rfl) rfl ?_ | refine wpList_val (run_and32 rfl rfl rfl) rfl ?_ | refine wpList_val (run_or32 rfl rfl rfl) rfl ?_ | refine wpList_val (run_add32 rfl rfl rfl) rfl ?_ | refine wpList_val (run_not32 rfl rfl) rfl ?_ | refine wpList_val (run_xor64 rfl rfl rfl) rfl ?_ | refine wpList_val (run_and64 rfl rfl rfl) rfl ?_ | refine wpList_val (run_or64 rfl rfl rfl) rfl ?_ | refine wpList_val (run_add64 rfl rfl rfl) rfl ?_ | refine wpList_val (run_not64 rfl rfl) rfl ?_ | refine wpList_val (run_xor8 rfl rfl rfl) rfl ?_ | refine wpList_val (run_and8 rfl rfl rfl) rfl ?_ | refine wpList_val (run_or8 rfl rfl rfl) rfl ?_ | refine wpList_val (run_add8 rfl rfl rfl) rfl ?_ | refine wpList_val (run_not8 rfl rfl) rfl ?_ | refine wpList_val (run_cv64_32 rfl rfl) rfl ?_ | refine wpList_val (run_cv8_32 rfl rfl) rfl ?_ | refine wpList_val (run_cv8_64 rfl rfl) rfl ?_ | refine wpList_val (run_cv32_8 rfl rfl) rfl ?_ | refine wpList_val (run_cv64_8 rfl rfl) rfl ?_); (try simp only [Act.put, List.setIfInBounds_toArray, List.set_cons_zero, List.set_cons_succ])))
        refine wpList_end ?_
        go_upto_region 7 with fail; refine wp_region_lit ?_
        refine wpList_val (run_mv (v := .slice _ _ _) rfl rfl) rfl ?_; (try simp only [Act.put, List.setIfInBounds_toArray, List.set_cons_zero, List.set_cons_succ])
        refine wpList_val (run_mv (v := .slice _ _ _) rfl rfl) rfl ?_; (try simp only [Act.put, List.setIfInBounds_toArray, List.set_cons_zero, List.set_cons_succ])
        refine wpList_appG (l := []) (m := k) rfl rfl rfl (World.ownsRow_nil a1 a1.heap.size _ _) rfl SX.out (by omega) (Nat.le_refl _) (fun q8 a2 h4 hb => ?_); (try simp only [Act.put, List.setIfInBounds_toArray, List.set_cons_zero, List.set_cons_succ])
        refine wpList_val (run_asg (v := q8) rfl rfl) rfl ?_; (try simp only [Act.put, List.setIfInBounds_toArray, List.set_cons_zero, List.set_cons_succ])
        refine wpList_end ?_
        have hI : Hid (S5 a1 q8 (k ++ List.replicate 0 0) a2) := Lib.hid ⟨hb, by rw [List.nil_append, Nat.zero_add] at h4; simpa using h4⟩
        clear h4 hb
        go_wp2_with fail
        go_loopw [8] (fun s8 u => ∃ i : Nat, k.length + i ≤ 64 ∧ S5 a1 s8 (k ++ List.replicate i 0) u) (fun s8 _ => 64 - slLen s8)
        case atStart => exact ⟨0, by omega, hI.out⟩
        case round =>
          obtain ⟨i, hi, hJ⟩ := hrel
          replace hI := Lib.hid hJ
          clear hJ
          have hll : (k ++ List.replicate i (0 : BitVec 8)).length = k.length + i := by rw [List.length_append, List.length_replicate]
          obtain ⟨a8, c8, e8, -⟩ : ∃ a8 c8, u8 = .slice a8 (k.length + i) c8 ∧ True := by
            rcases hI.out.O.2 with ⟨h5, h6⟩ | ⟨g, cap, cur, h5, _, _, h6, _⟩
            · exact ⟨none, 0, by rw [h5, ← hll, h6], trivial⟩
            · exact ⟨_, cap, by rw [h5, hll], trivial⟩
          subst e8
          go_upto_region 8 with fail; refine wp_region_lit ?_
          refine wpList_val (run_mv (v := .slice _ _ _) rfl rfl) rfl ?_; (try simp only [Act.put, List.setIfInBounds_toArray, List.set_cons_zero, List.set_cons_succ])
          refine wpList_val (run_len rfl Tryd.underlying22 rfl) rfl ?_; (try simp only [Act.put, List.setIfInBounds_toArray, List.set_cons_zero, List.set_cons_succ])
          by_cases h4 : k.length + i = 64
          · refine wpList_val (run_lssb (c := false) rfl rfl rfl (decide_eq_false (by omega))) rfl ?_; (try simp only [Act.put, List.setIfInBounds_toArray, List.set_cons_zero, List.set_cons_succ])
            refine wpList_end ?_
            have SL : Hid (Sl (.slice a8 (k.length + i) c8) (fz k) wr) := Lib.hid (by
              have h5 := Sl.own hI.out.O
              have e5 : k ++ List.replicate i (0 : BitVec 8) = fz k := by unfold fz; rw [show i = 64 - k.length by omega]
              rwa [e5] at h5)
            have hS := hI.out.bl
            have hfl : (fz k).length = 64 := fz_len (by omega)
            clear hI
            replace SX := Lib.hid (SX.out.below hS)
            replace HB := Lib.hid (HB.out.below hS)
            replace HT := Lib.hid (HT.out.below hS)
            replace bl := bl.trans (hS.mono bl.size)
            clear hS
            have hS : Below wr.heap.size wr wr := Below.refl _ _
            go_upto_region 10 with fail; refine wp_region_lit ?_
            refine wpList_enter (run_call0 enters_known4 rfl rfl) rfl (known4_any _ (HT.out.below hS)) (fun a3 hb => ?_); (try simp only [Act.put, List.setIfInBounds_toArray, List.set_cons_zero, List.set_cons_succ])
            replace hS := hS.trans (hb.mono hS.size)
            clear hb
            refine wpList_val (run_mv (v := .bool true) rfl rfl) rfl ?_; (try simp only [Act.put, List.setIfInBounds_toArray, List.set_cons_zero, List.set_cons_succ])
            refine wpList_valG (run_mv (v := .slice _ _ _) rfl rfl) rfl ?_; (try simp only [Act.put, List.setIfInBounds_toArray, List.set_cons_zero, List.set_cons_succ])
            refine wpList_valG (run_mv (v := .slice _ _ _) rfl rfl) rfl ?_; (try simp only [Act.put, List.setIfInBounds_toArray, List.set_cons_zero, List.set_cons_succ])
            refine wpList_enterG (run_call2 enters_hmac rfl rfl rfl rfl) rfl (hmac_any _ k _ b _ (SX.out.below hS) (by omega) (HB.out.below hS) (by omega) (HT.out.below hS)) (fun a4 hb => ?_); (try simp only [Act.put, List.setIfInBounds_toArray, List.set_cons_zero, List.set_cons_succ])
            replace hS := hS.trans (hb.mono hS.size)
            clear hb
            refine wpList_valG (run_mv (v := .slice _ _ _) rfl rfl) rfl ?_; (try simp only [Act.put, List.setIfInBounds_toArray, List.set_cons_zero, List.set_cons_succ])
            refine wpList_valG (run_mv (v := .slice _ _ _) rfl rfl) rfl ?_; (try simp only [Act.put, List.setIfInBounds_toArray, List.set_cons_zero, List.set_cons_succ])
            refine wpList_enterG (run_call2 enters_hmac rfl rfl rfl rfl) rfl (hmac_any _ (fz k) _ b _ (SL.out.below hS) (by omega) (HB.out.below hS) (by omega) (HT.out.below hS)) (fun a5 hb => ?_); (try simp only [Act.put, List.setIfInBounds_toArray, List.set_cons_zero, List.set_cons_succ])
            rw [HFZ.out]
            replace hS := hS.trans (hb.mono hS.size)
            clear hb
            refine wpList_valG (run_eqKey (hmac_len k b) rfl rfl rfl) rfl ?_; (try simp only [Act.put, List.setIfInBounds_toArray, List.set_cons_zero, List.set_cons_succ])
            refine wpList_val (run_pick (b := true) (v := .bool true) rfl rfl rfl) rfl ?_; (try simp only [Act.put, List.setIfInBounds_toArray, List.set_cons_zero, List.set_cons_succ])
            refine wpList_val (run_asg (v := .bool true) rfl rfl) rfl ?_; (try simp only [Act.put, List.setIfInBounds_toArray, List.set_cons_zero, List.set_cons_succ])
            refine wpList_end ?_
            replace bl := bl.trans (hS.mono bl.size)
            go_wp2_with fail
            go_ret
            exact ⟨rfl, bl⟩
          · refine wpList_val (run_lssb (c := true) rfl rfl rfl (decide_eq_true (by omega))) rfl ?_; (try simp only [Act.put, List.setIfInBounds_toArray, List.set_cons_zero, List.set_cons_succ])
            refine wpList_end ?_
            have HX : Hid (k ++ List.replicate (i + 1) (0 : BitVec 8) = (k ++ List.replicate i 0) ++ [0]) := Lib.hid (by rw [List.replicate_succ', List.append_assoc])
            generalize k ++ List.replicate i (0 : BitVec 8) = P at *
            go_upto_region 9 with fail; refine wp_region_lit ?_
            refine wpList_val (run_mv (v := .slice _ _ _) rfl rfl) rfl ?_; (try simp only [Act.put, List.setIfInBounds_toArray, List.set_cons_zero, List.set_cons_succ])
            refine wpList_val (run_bsl (cells := #[b8 ((0 : BitVec 8))]) (z := .int .u8 0) rfl Tryd.underlying22 (by kernel_rfl) (by omega) (by omega) (by kernel_rfl)) rfl ?_; (try simp only [Act.put, List.setIfInBounds_toArray, List.set_cons_zero, List.set_cons_succ]); have hb2 : Below wr.heap.size wr (wr.alloc (.cells #[b8 ((0 : BitVec 8))] 5)) := (Below.refl _ _).alloc (Nat.le_refl _) _; have A2 : Hid (Arr wr.heap.size ([(0 : BitVec 8)].map b8) (wr.alloc (.cells #[b8 ((0 : BitVec 8))] 5))) := Lib.hid (Arr.new wr _ _); replace hI := Lib.hid (hI.out.below hb2); clear hb2; generalize wr.alloc (.cells #[b8 ((0 : BitVec 8))] 5) = ua at *; refine wpList_app (f := b8) (fun _ => rfl) (l := P) (m := [(0 : BitVec 8)]) (bw := 1) (z := .int .u8 0) rfl rfl Tryd.underlying22 (by kernel_rfl) rfl (by omega) rfl hI.out.O rfl A2.out.range (by rw [hll]; show k.length + i + 1 ≤ _; omega) hI.out.bl.size (fun q9 a3 h3 hb3 => ?_); (try simp only [Act.put, List.setIfInBounds_toArray, List.set_cons_zero, List.set_cons_succ]); replace hI : Hid (S5 _ q9 (P ++ [(0 : BitVec 8)]) a3) := Lib.hid ⟨hI.out.bl.trans hb3, by rw [List.length_append]; exact h3⟩; clear h3 hb3 A2; clear ua; refine wpList_val (run_asg (v := q9) rfl rfl) rfl ?_; (try simp only [Act.put, List.setIfInBounds_toArray, List.set_cons_zero, List.set_cons_succ]); refine wpList_end ?_
            rw [← HX.out] at hI
            obtain ⟨a9, c9, e9, -⟩ : ∃ a9 c9, q9 = .slice a9 (k.length + (i + 1)) c9 ∧ True := by
              have hl5 : (k ++ List.replicate (i + 1) (0 : BitVec 8)).length = k.length + (i + 1) := by rw [List.length_append, List.length_replicate]
              rcases hI.out.O.2 with ⟨h5, h6⟩ | ⟨g, cap, cur, h5, _, _, h6, _⟩
              · exact ⟨none, 0, by rw [h5, ← hl5, h6], trivial⟩
              · exact ⟨_, cap, by rw [h5, hl5], trivial⟩
            subst e9
            clear HX
            go_wp2_with fail
            go_roundw
            case rel => exact ⟨i + 1, by omega, hI.out⟩
            case measure => simp [slLen]; omega
end Go.Proofs.YtebmcjleepnehaaDoor
