/- What the reference's Unblock does. -/
import Derived.Test.YtlfggmdlgeakeaaAesRef4
namespace Go.Proofs.Ytlfggmdlgeakeaa
open Go.RowKit

theorem ofNat_toNat8 {j : Nat} (h : j < 256) : (BitVec.ofNat 8 j).toNat = j := by rw [BitVec.toNat_ofNat]; omega
/-- The way back, as the boxes are gone through. -/
theorem back_facts : ∃ F : Nat → List (BitVec 8), List.replicate 256 0 = F 0 ∧ (∀ i, i < 256 → (F i).set (bx (BitVec.ofNat 8 i)).toNat (BitVec.ofNat 8 i) = F (i + 1)) ∧ (∀ i, (F i).length = 256) ∧ ∀ x : BitVec 8, (F 256).getD x.toNat 0 = ub x := by
  refine ⟨fun i => tab 256 fun j => if (ub (BitVec.ofNat 8 j)).toNat < i then ub (BitVec.ofNat 8 j) else 0, ?_, fun i hi => ?_, fun i => tab_len _ _, fun x => ?_⟩
  · refine ext8 (by rw [List.length_replicate, tab_len]) fun j hj => ?_
    rw [List.length_replicate] at hj
    rw [tab_get _ hj, if_neg (Nat.not_lt_zero _), List.getD_eq_getElem?_getD, List.getElem?_replicate, if_pos hj]; rfl
  · refine ext8 (by rw [List.length_set, tab_len, tab_len]) fun j hj => ?_
    rw [List.length_set, tab_len] at hj
    have hl := (bx (BitVec.ofNat 8 i)).isLt
    rw [getD_setB _ _ _ _ (by rw [tab_len]; omega), tab_get _ hj, tab_get _ hj]
    by_cases e : (bx (BitVec.ofNat 8 i)).toNat = j
    · subst e
      rw [if_pos rfl, BitVec.ofNat_toNat, BitVec.setWidth_eq, ub_bx, ofNat_toNat8 hi, if_pos (by omega)]
    · rw [if_neg e]
      have hne : (ub (BitVec.ofNat 8 j)).toNat ≠ i := fun h => by
        apply e
        rw [← h, BitVec.ofNat_toNat, BitVec.setWidth_eq, bx_ub, ofNat_toNat8 hj]
      by_cases h1 : (ub (BitVec.ofNat 8 j)).toNat < i
      · rw [if_pos h1, if_pos (by omega)]
      · rw [if_neg h1, if_neg (by omega)]
  · have hx := x.isLt
    rw [tab_get _ hx, BitVec.ofNat_toNat, BitVec.setWidth_eq, if_pos (ub x).isLt]
theorem turnI_3 : ∀ i, i < 16 → turnI 3 ((i + 4 * (i % 4)) % 16) = i := by decide +kernel
theorem turnI_31 : ∀ j, j < 16 → (turnI 3 j + 4 * (turnI 3 j % 4)) % 16 = j := by decide +kernel
/-- Sixteen bytes, taken back and turned back, one by one. -/
theorem scat_facts (m : List (BitVec 8)) : ∃ G : Nat → List (BitVec 8), List.replicate 16 0 = G 0 ∧ (∀ i, i < 16 → (G i).set ((i + 4 * (i % 4)) % 16) (ub (m.getD i 0)) = G (i + 1)) ∧ (∀ i, (G i).length = 16) ∧ G 16 = unboxB (turnB 3 m) := by
  refine ⟨fun i => tab 16 fun j => if turnI 3 j < i then ub (m.getD (turnI 3 j) 0) else 0, ?_, fun i hi => ?_, fun i => tab_len _ _, tab_congr fun j hj => ?_⟩
  · refine ext8 (by rw [List.length_replicate, tab_len]) fun j hj => ?_
    rw [List.length_replicate] at hj
    rw [tab_get _ hj, if_neg (Nat.not_lt_zero _), List.getD_eq_getElem?_getD, List.getElem?_replicate, if_pos hj]; rfl
  · refine ext8 (by rw [List.length_set, tab_len, tab_len]) fun j hj => ?_
    rw [List.length_set, tab_len] at hj
    rw [getD_setB _ _ _ _ (by rw [tab_len]; omega), tab_get _ hj, tab_get _ hj]
    by_cases e : (i + 4 * (i % 4)) % 16 = j
    · subst e
      rw [if_pos rfl, turnI_3 i hi, if_pos (by omega)]
    · rw [if_neg e]
      have hne : turnI 3 j ≠ i := fun h => e (by rw [← h]; exact turnI_31 j hj)
      by_cases h1 : turnI 3 j < i
      · rw [if_pos h1, if_pos (by omega)]
      · rw [if_neg h1, if_neg (by omega)]
  · rw [if_pos (turnI_lt 3 j), turnB, tab_get _ hj]
set_option maxRecDepth 20000 in
set_option maxHeartbeats 8000000 in
theorem runblock_any (key b : List (BitVec 8)) (w : World) (hK : key.length = 32) (hl : b.length = 16) : Calls Try.prog 21 #[.agg (key.map b8).toArray, .agg (b.map b8).toArray] w fun e w' => e = .returned (.agg ((unblockB key b).map b8).toArray) ∧ Below w.heap.size w w' := by
  have hM := Lib.hid (Ms.nil w)
  have hsl := sched_len hK
  have EX : Hid (unblockB key b = xorB (shoI (sched key) b 14) (rkey (sched key) 0)) := Lib.hid rfl
  have HL := Lib.hid (shoI_len (sched key) hl)
  obtain ⟨F, F0, FS, FL, FG⟩ := back_facts
  have HF0 := Lib.hid F0
  have HFS := Lib.hid FS
  have HFL := Lib.hid FL
  have HFG := Lib.hid FG
  clear F0 FS FL FG
  go_enter Try.func21, Try.ntmps21
  go_upto_region 0 with fail; refine wp_region_lit ?_
  refine wpList_val (run_box rfl rfl) rfl ?_; (try simp only [Act.put, List.setIfInBounds_toArray, List.set_cons_zero, List.set_cons_succ]); replace hM := Lib.hid (hM.out.new (key) 23); generalize w.alloc (.cells ((key).map b8).toArray 23) = a1 at *; generalize w.heap.size = g1 at *
  refine wpList_val (run_box rfl rfl) rfl ?_; (try simp only [Act.put, List.setIfInBounds_toArray, List.set_cons_zero, List.set_cons_succ]); replace hM := Lib.hid (hM.out.new (b) 24); generalize a1.alloc (.cells ((b).map b8).toArray 24) = a2 at *; generalize a1.heap.size = g2 at *
  refine wpList_val (run_alc (vs := z8 16) rfl (by kernel_rfl)) rfl ?_; (try simp only [Act.put, List.setIfInBounds_toArray, List.set_cons_zero, List.set_cons_succ]); replace hM := Lib.hid (hM.out.newZ 16 24); generalize a2.alloc (.cells (z8 16).toArray 24) = a3 at *; generalize a2.heap.size = g3 at *
  refine wpList_end ?_
  go_upto_region 1 with fail; refine wp_region_lit ?_
  refine wpList_callR (run_call0 enters_boxes rfl rfl) rfl (boxes_any _) (fun v1 a4 hR => ?_); (try simp only [Act.put, List.setIfInBounds_toArray, List.set_cons_zero, List.set_cons_succ])
  replace hM := Lib.hid (hM.out.below hR.bl)
  have HB := Lib.hid hR.sl
  clear hR
  obtain ⟨gb, ob, cb, rfl, hrd⟩ := HB.out.rd (by rw [bxL_len]; omega)
  rw [bxL_len]
  have hrb : ∀ V, Ms a4 [] V → ∀ i, i < 256 → V.cell? ⟨gb, ob + i, none⟩ = some (b8 (bx (BitVec.ofNat 8 i))) := fun V hV i hi => by
    rw [hrd V hV.bl i (by rw [bxL_len]; exact hi), bxL, tab_get _ hi]
  rw [bxL_len] at HB
  have HRB := Lib.hid hrb
  clear hrb hrd
  refine wpList_val (run_asg (v := .slice (some _) _ _) rfl rfl) rfl ?_; (try simp only [Act.put, List.setIfInBounds_toArray, List.set_cons_zero, List.set_cons_succ])
  refine wpList_end ?_
  go_upto_region 2 with fail; refine wp_region_lit ?_
  refine wpList_val (run_mk8 (n := 256) rfl rfl rfl (by omega)) rfl ?_; (try simp only [Act.put, List.setIfInBounds_toArray, List.set_cons_zero, List.set_cons_succ])
  have hM4 : Hid (Ms a4 [(a4.heap.size, List.replicate 256 0)] (a4.alloc (.cells (z8 256).toArray 5))) := Lib.hid ((Ms.nil a4).newZ 256 5)
  generalize a4.alloc (.cells (z8 256).toArray 5) = a5 at *
  generalize a4.heap.size = gk at *
  refine wpList_val (run_asg (v := .slice (some _) _ _) rfl rfl) rfl ?_; (try simp only [Act.put, List.setIfInBounds_toArray, List.set_cons_zero, List.set_cons_succ])
  refine wpList_end ?_
  rw [HF0.out] at hM4
  go_wp2_with fail
  go_loopw [7] (fun z u => ∃ i : Nat, i ≤ 256 ∧ z = .int .i64 (i : Int) ∧ Ms a4 [(gk, F i)] u) (fun z _ => (256 - intOf z).toNat)
  case atStart => exact ⟨0, by omega, rfl, hM4.out⟩
  case round =>
    obtain ⟨i, hi, rfl, hJ⟩ := hrel
    replace hM4 := Lib.hid hJ
    clear hJ
    have hfl := HFL.out i
    by_cases hlt : i = 256
    · subst hlt
      have hk1 : ¬ (((256 : Nat) : Int) < 256) := by omega
      replace hM := Lib.hid (hM.out.below hM4.out.bl)
      replace HB := Lib.hid (HB.out.below hM4.out.bl)
      have HA := Lib.hid (hM4.out.get (i := 0) rfl)
      generalize F 256 = U at *
      clear hM4 HRB HFS HFL
      go_upto_region 7 with fail; refine wp_region_lit ?_
      refine wpList_val (run_mv (v := .slice (some _) _ _) rfl rfl) rfl ?_; (try simp only [Act.put, List.setIfInBounds_toArray, List.set_cons_zero, List.set_cons_succ])
      refine wpList_val (run_ldM (vs := key.map b8) rfl Try.underlying23 rfl (sz szKey hK) rfl (hM.out.get (i := 2) rfl).range) rfl ?_; (try simp only [Act.put, List.setIfInBounds_toArray, List.set_cons_zero, List.set_cons_succ])
      refine wpList_callR (run_call2 enters_expanded rfl rfl rfl rfl) rfl (expanded_any _ key _ HB.out hK) (fun v2 b1 hR => ?_); (try simp only [Act.put, List.setIfInBounds_toArray, List.set_cons_zero, List.set_cons_succ])
      replace hM := Lib.hid (hM.out.below hR.bl)
      replace HA := Lib.hid (HA.out.below hR.bl)
      have H2 := Lib.hid hR.sl
      clear hR HB
      generalize hW : sched key = W at *
      have EW := Lib.hid hW; clear hW
      refine wpList_val (run_asg (v := v2) rfl rfl) rfl ?_; (try simp only [Act.put, List.setIfInBounds_toArray, List.set_cons_zero, List.set_cons_succ])
      refine wpList_end ?_
      go_upto_region 8 with fail; refine wp_region_lit ?_
      refine wpList_val (run_ldM (vs := b.map b8) rfl Try.underlying24 rfl (sz sz16 hl) rfl (hM.out.get (i := 1) rfl).range) rfl ?_; (try simp only [Act.put, List.setIfInBounds_toArray, List.set_cons_zero, List.set_cons_succ])
      refine wpList_callR (run_call1 enters_of' rfl rfl rfl) rfl (of_any b _ hl) (fun v3 b2 hR => ?_); (try simp only [Act.put, List.setIfInBounds_toArray, List.set_cons_zero, List.set_cons_succ])
      replace hM := Lib.hid (hM.out.below hR.bl)
      replace HA := Lib.hid (HA.out.below hR.bl)
      replace H2 := Lib.hid (H2.out.below hR.bl)
      have H3 := Lib.hid hR.sl
      clear hR
      refine wpList_val (run_asg (v := v3) rfl rfl) rfl ?_; (try simp only [Act.put, List.setIfInBounds_toArray, List.set_cons_zero, List.set_cons_succ])
      refine wpList_end ?_
      go_wp2_with fail
      go_loopw [9, 10] (fun s9 s10 u => ∃ n : Nat, n ≤ 14 ∧ s10 = .int .i64 ((14 - n : Nat) : Int) ∧ Sl s9 (shoI W b n) u ∧ Below b2.heap.size b2 u) (fun _ z _ => (intOf z).toNat)
      case atStart => exact ⟨0, by omega, rfl, H3.out, Below.refl _ _⟩
      case round =>
        obtain ⟨n, hn, rfl, hJ, bl⟩ := hrel
        replace H3 := Lib.hid hJ
        clear hJ
        have hil := HL.out n
        by_cases hlt : n = 14
        · subst hlt
          have hk1 : ¬ ((1 : Int) ≤ ((14 - 14 : Nat) : Int)) := by omega
          generalize shoI W b 14 = s at *
          go_upto_region 21 with fail; refine wp_region_lit ?_
          refine wpList_val (run_mv (v := u9) rfl rfl) rfl ?_; (try simp only [Act.put, List.setIfInBounds_toArray, List.set_cons_zero, List.set_cons_succ])
          refine wpList_val (run_mv (v := v2) rfl rfl) rfl ?_; (try simp only [Act.put, List.setIfInBounds_toArray, List.set_cons_zero, List.set_cons_succ])
          refine wpList_callR (run_call3 (c := .int .i64 ((0 : Nat) : Int)) enters_xored rfl rfl rfl rfl rfl) rfl (xored_any _ s v2 W 0 _ H3.out hil (H2.out.below bl) hsl (by omega)) (fun v4 c1 hR => ?_); (try simp only [Act.put, List.setIfInBounds_toArray, List.set_cons_zero, List.set_cons_succ])
          replace bl := bl.trans (hR.bl.mono bl.size)
          have H4 := Lib.hid hR.sl
          clear hR
          have hxl := xorB_len s (rkey W 0)
          generalize xorB s (rkey W 0) = r at *
          refine wpList_enter (run_call1 enters_to rfl rfl rfl) rfl (to_any v4 r _ H4.out hxl) (fun c2 hb2 => ?_); (try simp only [Act.put, List.setIfInBounds_toArray, List.set_cons_zero, List.set_cons_succ])
          replace hM := Lib.hid (hM.out.below (bl.trans (hb2.mono bl.size)))
          refine wpList_skip (run_stA (vs := r.map b8) rfl (sz sz16 hxl) rfl rfl (oneB _) ((hM.out.get (i := 0) rfl).there8 (by rw [hxl, List.length_replicate]))) rfl rfl ?_
          refine wpList_end ?_
          replace hM := Lib.hid (hM.out.put 0 rfl (m := r) (by rw [hxl, List.length_replicate]))
          go_wp2_with fail
          refine bodyPost_ret (v := .agg (r.map b8).toArray) (results_row Try.results21 rfl Try.underlying24 rfl (sz sz16 hxl) (hM.out.get (i := 0) rfl).range) rfl ⟨by rw [EX.out], hM.out.bl⟩
        · have hk1 : (1 : Int) ≤ ((14 - n : Nat) : Int) := by omega
          have EN : Hid (shoI W b (n + 1) = unboxB (turnB 3 (if 14 - n < 14 then unmixB (xorB (shoI W b n) (rkey W (14 - n))) else xorB (shoI W b n) (rkey W (14 - n))))) := Lib.hid rfl
          generalize shoI W b n = s at *
          have hq2 : 1 ≤ 14 - n ∧ 14 - n < 15 := by omega
          generalize hqe : 14 - n = q at *
          go_upto_region 12 with fail; refine wp_region_lit ?_
          refine wpList_val (run_mv (v := u9) rfl rfl) rfl ?_; (try simp only [Act.put, List.setIfInBounds_toArray, List.set_cons_zero, List.set_cons_succ])
          refine wpList_val (run_mv (v := v2) rfl rfl) rfl ?_; (try simp only [Act.put, List.setIfInBounds_toArray, List.set_cons_zero, List.set_cons_succ])
          (repeat ((first | refine wpList_val (run_mv (v := b32 _) rfl rfl) rfl ?_ | refine wpList_val (run_mv (v := b64 _) rfl rfl) rfl ?_ | refine wpList_val (run_mv (v := b8 _) rfl rfl) rfl ?_ | refine wpList_val (run_mv (v := .int _ _) rfl rfl) rfl ?_ | refine wpList_val (run_mv (v := .bool _) rfl rfl) rfl ?_ | refine wpList_val (run_mv (v := .slice (some _) _ _) rfl rfl) rfl ?_ | refine wpList_val (run_mv (v := .slice _ _ _) rfl rfl) rfl ?_ | refine wpList_val (run_mv (v := .pointer (some _)) rfl rfl) rfl ?_ | refine wpList_val (run_mv (v := .agg _) rfl rfl) rfl ?_ | refine wpList_val (run_asg (v := b32 _) rfl rfl) rfl ?_ | refine wpList_val (run_asg (v := b64 _) rfl rfl) rfl ?_ | refine wpList_val (run_asg (v := b8 _) rfl rfl) rfl ?_ | refine wpList_val (run_asg (v := .int _ _) rfl rfl) rfl ?_ | refine wpList_val (run_asg (v := .bool _) rfl rfl) rfl ?_ | refine wpList_val (run_asg (v := .slice (some _) _ _) rfl rfl) rfl ?_ | refine wpList_val (run_asg (v := .slice _ _ _) rfl rfl) rfl ?_ | refine wpList_val (run_asg (v := .pointer (some _)) rfl rfl) rfl ?_ | refine wpList_val (run_asg (v := .agg _) rfl rfl) rfl ?_ | refine wpList_val (run_mv rfl rfl) rfl ?_ | refine wpList_val (run_asg rfl rfl) rfl ?_ | refine wpList_val (run_xor32 rfl rfl rfl) rfl ?_ | refine wpList_val (run_and32 rfl rfl rfl) rfl ?_ | refine wpList_val (run_or32 rfl rfl rfl) rfl ?_ | refine wpList_val (run_add32 rfl rfl rfl) rfl ?_ | refine wpList_val (run_not32 rfl rfl) rfl ?_ | refine wpList_val (run_xor64 rfl rfl rfl) rfl ?_ | refine wpList_val (run_and64 rfl rfl rfl) rfl ?_ | refine wpList_val (run_or64 rfl rfl rfl) rfl ?_ | refine wpList_val (run_add64 rfl rfl rfl) rfl ?_ | refine wpList_val (run_not64 rfl rfl) rfl ?_ | refine wpList_val (run_xor8 rfl rfl rfl) rfl ?_ | refine wpList_val (run_and8 rfl rfl rfl) rfl ?_ | refine wpList_val (run_or8 rfl rfl rfl) rfl ?_ | refine wpList_val (run_add8 rfl rfl rfl) rfl ?_ | refine wpList_val (run_not8 rfl rfl) rfl ?_ | refine wpList_val (run_cv64_32 rfl rfl) rfl ?_ | refine wpList_val (run_cv8_32 rfl rfl) rfl ?_ | refine wpList_val (run_cv8_64 rfl rfl) rfl ?_ | refine wpList_val (run_cv32_8 rfl rfl) rfl ?_ | refine wpList_val (run_cv64_8 rfl rfl) rfl ?_); (try simp only [Act.put, List.setIfInBounds_toArray, List.set_cons_zero, List.set_cons_succ])))
          refine wpList_callR (run_call3 enters_xored rfl rfl rfl rfl rfl) rfl (xored_any _ s v2 W q _ H3.out hil (H2.out.below bl) hsl (by omega)) (fun v4 c1 hR => ?_); (try simp only [Act.put, List.setIfInBounds_toArray, List.set_cons_zero, List.set_cons_succ])
          replace bl := bl.trans (hR.bl.mono bl.size)
          have H4 := Lib.hid hR.sl
          clear hR H3
          have hxl := xorB_len s (rkey W q)
          generalize xorB s (rkey W q) = t at *
          refine wpList_val (run_asg (v := v4) rfl rfl) rfl ?_; (try simp only [Act.put, List.setIfInBounds_toArray, List.set_cons_zero, List.set_cons_succ])
          refine wpList_end ?_
          go_upto_region 13 with fail; refine wp_region_lit ?_
          (repeat ((first | refine wpList_val (run_mv (v := b32 _) rfl rfl) rfl ?_ | refine wpList_val (run_mv (v := b64 _) rfl rfl) rfl ?_ | refine wpList_val (run_mv (v := b8 _) rfl rfl) rfl ?_ | refine wpList_val (run_mv (v := .int _ _) rfl rfl) rfl ?_ | refine wpList_val (run_mv (v := .bool _) rfl rfl) rfl ?_ | refine wpList_val (run_mv (v := .slice (some _) _ _) rfl rfl) rfl ?_ | refine wpList_val (run_mv (v := .slice _ _ _) rfl rfl) rfl ?_ | refine wpList_val (run_mv (v := .pointer (some _)) rfl rfl) rfl ?_ | refine wpList_val (run_mv (v := .agg _) rfl rfl) rfl ?_ | refine wpList_val (run_asg (v := b32 _) rfl rfl) rfl ?_ | refine wpList_val (run_asg (v := b64 _) rfl rfl) rfl ?_ | refine wpList_val (run_asg (v := b8 _) rfl rfl) rfl ?_ | refine wpList_val (run_asg (v := .int _ _) rfl rfl) rfl ?_ | refine wpList_val (run_asg (v := .bool _) rfl rfl) rfl ?_ | refine wpList_val (run_asg (v := .slice (some _) _ _) rfl rfl) rfl ?_ | refine wpList_val (run_asg (v := .slice _ _ _) rfl rfl) rfl ?_ | refine wpList_val (run_asg (v := .pointer (some _)) rfl rfl) rfl ?_ | refine wpList_val (run_asg (v := .agg _) rfl rfl) rfl ?_ | refine wpList_val (run_mv rfl rfl) rfl ?_ | refine wpList_val (run_asg rfl rfl) rfl ?_ | refine wpList_val (run_xor32 rfl rfl rfl) rfl ?_ | refine wpList_val (run_and32 rfl rfl rfl) rfl ?_ | refine wpList_val (run_or32 rfl rfl rfl) rfl ?_ | refine wpList_val (run_add32 rfl rfl rfl) rfl ?_ | refine wpList_val (run_not32 rfl rfl) rfl ?_ | refine wpList_val (run_xor64 rfl rfl rfl) rfl ?_ | refine wpList_val (run_and64 rfl rfl rfl) rfl ?_ | refine wpList_val (run_or64 rfl rfl rfl) rfl ?_ | refine wpList_val (run_add64 rfl rfl rfl) rfl ?_ | refine wpList_val (run_not64 rfl rfl) rfl ?_ | refine wpList_val (run_xor8 rfl rfl rfl) rfl ?_ | refine wpList_val (run_and8 rfl rfl rfl) rfl ?_ | refine wpList_val (run_or8 rfl rfl rfl) rfl ?_ | refine wpList_val (run_add8 rfl rfl rfl) rfl ?_ | refine wpList_val (run_not8 rfl rfl) rfl ?_ | refine wpList_val (run_cv64_32 rfl rfl) rfl ?_ | refine wpList_val (run_cv8_32 rfl rfl) rfl ?_ | refine wpList_val (run_cv8_64 rfl rfl) rfl ?_ | refine wpList_val (run_cv32_8 rfl rfl) rfl ?_ | refine wpList_val (run_cv64_8 rfl rfl) rfl ?_); (try simp only [Act.put, List.setIfInBounds_toArray, List.set_cons_zero, List.set_cons_succ])))
          refine wpList_val (run_lssb (c := decide (q < 14)) rfl rfl rfl (by rw [decide_eq_decide]; omega)) rfl ?_; (try simp only [Act.put, List.setIfInBounds_toArray, List.set_cons_zero, List.set_cons_succ])
          refine wpList_end ?_
          go_upto_if 41 with fail
          go_cut [9] (fun s9 u => Sl s9 (if q < 14 then unmixB t else t) u ∧ Below b2.heap.size b2 u)
          case first =>
            by_cases h14 : q < 14
            · rw [decide_eq_true h14]
              have EM : Hid ((if q < 14 then unmixB t else t) = mxB [14, 11, 13, 9] t) := Lib.hid (by rw [if_pos h14, unmix_eq])
              go_upto_region 14 with fail; refine wp_region_lit ?_
              refine wpList_val (run_mv (v := v4) rfl rfl) rfl ?_; (try simp only [Act.put, List.setIfInBounds_toArray, List.set_cons_zero, List.set_cons_succ])
              refine wpList_val (run_bsl (cells := #[b8 14, b8 11, b8 13, b8 9]) (z := .int .u8 0) rfl Try.underlying25 (by kernel_rfl) (by omega) (by omega) (by kernel_rfl)) rfl ?_; (try simp only [Act.put, List.setIfInBounds_toArray, List.set_cons_zero, List.set_cons_succ])
              have hbn : Below c1.heap.size c1 (c1.alloc (.cells #[b8 14, b8 11, b8 13, b8 9] 5)) := (Below.refl _ _).alloc (Nat.le_refl _) _
              have hB4 : Hid (Sl (.slice (some ⟨c1.heap.size, 0, none⟩) 4 4) [14, 11, 13, 9] (c1.alloc (.cells #[b8 14, b8 11, b8 13, b8 9] 5))) := Lib.hid (sl_four c1 14 11 13 9 5)
              replace H4 := Lib.hid (H4.out.below hbn)
              replace bl := bl.trans (hbn.mono bl.size)
              clear hbn
              generalize c1.alloc (.cells #[b8 14, b8 11, b8 13, b8 9] 5) = c2 at *
              refine wpList_callR (run_call2 enters_mixed rfl rfl rfl rfl) rfl (mixed_any v4 t _ [14, 11, 13, 9] _ H4.out hxl hB4.out rfl) (fun v5 c3 hR => ?_); (try simp only [Act.put, List.setIfInBounds_toArray, List.set_cons_zero, List.set_cons_succ])
              refine wpList_val (run_asg (v := v5) rfl rfl) rfl ?_; (try simp only [Act.put, List.setIfInBounds_toArray, List.set_cons_zero, List.set_cons_succ])
              refine wpList_end ?_
              go_wp2_with fail
              go_meet
              exact ⟨by rw [EM.out]; exact hR.sl, bl.trans (hR.bl.mono bl.size)⟩
            · rw [decide_eq_false h14]
              have EM : Hid ((if q < 14 then unmixB t else t) = t) := Lib.hid (by rw [if_neg h14])
              go_wp2_with fail
              go_meet
              exact ⟨by rw [EM.out]; exact H4.out, bl⟩
          case rest =>
            obtain ⟨hc1, hc2⟩ := hcut
            replace H4 := Lib.hid hc1
            replace bl := hc2
            clear hc1 hc2
            generalize hw' : wc = c5 at *
            clear hw'
            have hml : (if q < 14 then unmixB t else t).length = 16 := by split; exact tab_len _ _; exact hxl
            generalize (if q < 14 then unmixB t else t) = m at *
            obtain ⟨G, G0, GS, GL, GE⟩ := scat_facts m
            rw [← GE] at EN
            have HG0 := Lib.hid G0
            have HGS := Lib.hid GS
            have HGL := Lib.hid GL
            clear G0 GS GL GE
            obtain ⟨gs, os, cs, rfl, hrs⟩ := H4.out.rd (by omega)
            rw [hml]
            have HRS : Hid (∀ V L, Ms c5 L V → ∀ i, i < 16 → V.cell? ⟨gs, os + i, none⟩ = some (b8 (m.getD i 0))) := Lib.hid fun V _ hV i hi => hrs V hV.bl i (by omega)
            have HRU : Hid (∀ V L, Ms c5 L V → ∀ x : BitVec 8, V.cell? ⟨gk, 0 + x.toNat, none⟩ = some (b8 (ub x))) := Lib.hid fun V _ hV x => by
              have := (HA.out.below (bl.trans (hV.bl.mono bl.size))).get8 (i := x.toNat) (by rw [hfl]; exact x.isLt)
              rw [Nat.zero_add, this, HFG.out]
            clear hrs
            go_upto_region 15 with fail; refine wp_region_lit ?_
            refine wpList_val (run_mk8 (n := 16) rfl rfl rfl (by omega)) rfl ?_; (try simp only [Act.put, List.setIfInBounds_toArray, List.set_cons_zero, List.set_cons_succ])
            have hM5 : Hid (Ms c5 [(c5.heap.size, List.replicate 16 0)] (c5.alloc (.cells (z8 16).toArray 5))) := Lib.hid ((Ms.nil c5).newZ 16 5)
            generalize c5.alloc (.cells (z8 16).toArray 5) = c6 at *
            obtain ⟨gt, hgt⟩ : ∃ gt, gt = c5.heap.size := ⟨_, rfl⟩
            rw [← hgt] at hM5
            rw [← hgt]
            clear hgt
            refine wpList_val (run_asg (v := .slice (some _) _ _) rfl rfl) rfl ?_; (try simp only [Act.put, List.setIfInBounds_toArray, List.set_cons_zero, List.set_cons_succ])
            refine wpList_end ?_
            rw [HG0.out] at hM5
            go_wp2_with fail
            go_loopw [12] (fun z u => ∃ j : Nat, j ≤ 16 ∧ z = .int .i64 (j : Int) ∧ Ms c5 [(gt, G j)] u) (fun z _ => (16 - intOf z).toNat)
            case atStart => exact ⟨0, by omega, rfl, hM5.out⟩
            case round =>
              obtain ⟨j, hj, rfl, hJ⟩ := hrel
              replace hM5 := Lib.hid hJ
              clear hJ
              have hgl := HGL.out j
              by_cases hj16 : j = 16
              · subst hj16
                have hk2 : ¬ (((16 : Nat) : Int) < 16) := by omega
                have hX : Hid (Sl (.slice (some ⟨gt, 0, none⟩) 16 16) (shoI W b (n + 1)) wr) := Lib.hid (by rw [EN.out]; exact sl_arr (hM5.out.get (i := 0) rfl) hgl)
                replace bl := bl.trans (hM5.out.bl.mono bl.size)
                go_upto_region 20 with fail; refine wp_region_lit ?_
                refine wpList_val (run_mv (v := .slice (some _) _ _) rfl rfl) rfl ?_; (try simp only [Act.put, List.setIfInBounds_toArray, List.set_cons_zero, List.set_cons_succ])
                refine wpList_val (run_asg (v := .slice (some _) _ _) rfl rfl) rfl ?_; (try simp only [Act.put, List.setIfInBounds_toArray, List.set_cons_zero, List.set_cons_succ])
                refine wpList_end ?_
                go_wp2_with fail
                go_roundw
                case rel => exact ⟨n + 1, by omega, by rw [show ((q : Int) - 1) = ((14 - (n + 1) : Nat) : Int) by omega], hX.out, bl⟩
                case measure => simp [intOf]; omega
              · have hk2 : (j : Int) < 16 := by omega
                have C1 := Lib.hid (HRS.out wr _ hM5.out j (by omega))
                have C2 := Lib.hid (HRU.out wr _ hM5.out (m.getD j 0))
                have EG := Lib.hid (HGS.out j (by omega))
                have hxl2 := (m.getD j 0).isLt
                generalize m.getD j 0 = x at *
                go_upto_region 19 with fail; refine wp_region_lit ?_
                (repeat ((first | refine wpList_val (run_mv (v := b32 _) rfl rfl) rfl ?_ | refine wpList_val (run_mv (v := b64 _) rfl rfl) rfl ?_ | refine wpList_val (run_mv (v := b8 _) rfl rfl) rfl ?_ | refine wpList_val (run_mv (v := .int _ _) rfl rfl) rfl ?_ | refine wpList_val (run_mv (v := .bool _) rfl rfl) rfl ?_ | refine wpList_val (run_mv (v := .slice (some _) _ _) rfl rfl) rfl ?_ | refine wpList_val (run_mv (v := .slice _ _ _) rfl rfl) rfl ?_ | refine wpList_val (run_mv (v := .pointer (some _)) rfl rfl) rfl ?_ | refine wpList_val (run_mv (v := .agg _) rfl rfl) rfl ?_ | refine wpList_val (run_asg (v := b32 _) rfl rfl) rfl ?_ | refine wpList_val (run_asg (v := b64 _) rfl rfl) rfl ?_ | refine wpList_val (run_asg (v := b8 _) rfl rfl) rfl ?_ | refine wpList_val (run_asg (v := .int _ _) rfl rfl) rfl ?_ | refine wpList_val (run_asg (v := .bool _) rfl rfl) rfl ?_ | refine wpList_val (run_asg (v := .slice (some _) _ _) rfl rfl) rfl ?_ | refine wpList_val (run_asg (v := .slice _ _ _) rfl rfl) rfl ?_ | refine wpList_val (run_asg (v := .pointer (some _)) rfl rfl) rfl ?_ | refine wpList_val (run_asg (v := .agg _) rfl rfl) rfl ?_ | refine wpList_val (run_mv rfl rfl) rfl ?_ | refine wpList_val (run_asg rfl rfl) rfl ?_ | refine wpList_val (run_xor32 rfl rfl rfl) rfl ?_ | refine wpList_val (run_and32 rfl rfl rfl) rfl ?_ | refine wpList_val (run_or32 rfl rfl rfl) rfl ?_ | refine wpList_val (run_add32 rfl rfl rfl) rfl ?_ | refine wpList_val (run_not32 rfl rfl) rfl ?_ | refine wpList_val (run_xor64 rfl rfl rfl) rfl ?_ | refine wpList_val (run_and64 rfl rfl rfl) rfl ?_ | refine wpList_val (run_or64 rfl rfl rfl) rfl ?_ | refine wpList_val (run_add64 rfl rfl rfl) rfl ?_ | refine wpList_val (run_not64 rfl rfl) rfl ?_ | refine wpList_val (run_xor8 rfl rfl rfl) rfl ?_ | refine wpList_val (run_and8 rfl rfl rfl) rfl ?_ | refine wpList_val (run_or8 rfl rfl rfl) rfl ?_ | refine wpList_val (run_add8 rfl rfl rfl) rfl ?_ | refine wpList_val (run_not8 rfl rfl) rfl ?_ | refine wpList_val (run_cv64_32 rfl rfl) rfl ?_ | refine wpList_val (run_cv8_32 rfl rfl) rfl ?_ | refine wpList_val (run_cv8_64 rfl rfl) rfl ?_ | refine wpList_val (run_cv32_8 rfl rfl) rfl ?_ | refine wpList_val (run_cv64_8 rfl rfl) rfl ?_); (try simp only [Act.put, List.setIfInBounds_toArray, List.set_cons_zero, List.set_cons_succ])))
                refine wpList_val (run_remN (b := 4) rfl rfl rfl (by omega)) rfl ?_; (try simp only [Act.put, List.setIfInBounds_toArray, List.set_cons_zero, List.set_cons_succ])
                refine wpList_val (run_mulN (a := 4) rfl rfl rfl (by omega)) rfl ?_; (try simp only [Act.put, List.setIfInBounds_toArray, List.set_cons_zero, List.set_cons_succ])
                refine wpList_val (run_addN rfl rfl rfl (by omega)) rfl ?_; (try simp only [Act.put, List.setIfInBounds_toArray, List.set_cons_zero, List.set_cons_succ])
                refine wpList_val (run_remN (b := 16) rfl rfl rfl (by omega)) rfl ?_; (try simp only [Act.put, List.setIfInBounds_toArray, List.set_cons_zero, List.set_cons_succ])
                (repeat ((first | refine wpList_val (run_mv (v := b32 _) rfl rfl) rfl ?_ | refine wpList_val (run_mv (v := b64 _) rfl rfl) rfl ?_ | refine wpList_val (run_mv (v := b8 _) rfl rfl) rfl ?_ | refine wpList_val (run_mv (v := .int _ _) rfl rfl) rfl ?_ | refine wpList_val (run_mv (v := .bool _) rfl rfl) rfl ?_ | refine wpList_val (run_mv (v := .slice (some _) _ _) rfl rfl) rfl ?_ | refine wpList_val (run_mv (v := .slice _ _ _) rfl rfl) rfl ?_ | refine wpList_val (run_mv (v := .pointer (some _)) rfl rfl) rfl ?_ | refine wpList_val (run_mv (v := .agg _) rfl rfl) rfl ?_ | refine wpList_val (run_asg (v := b32 _) rfl rfl) rfl ?_ | refine wpList_val (run_asg (v := b64 _) rfl rfl) rfl ?_ | refine wpList_val (run_asg (v := b8 _) rfl rfl) rfl ?_ | refine wpList_val (run_asg (v := .int _ _) rfl rfl) rfl ?_ | refine wpList_val (run_asg (v := .bool _) rfl rfl) rfl ?_ | refine wpList_val (run_asg (v := .slice (some _) _ _) rfl rfl) rfl ?_ | refine wpList_val (run_asg (v := .slice _ _ _) rfl rfl) rfl ?_ | refine wpList_val (run_asg (v := .pointer (some _)) rfl rfl) rfl ?_ | refine wpList_val (run_asg (v := .agg _) rfl rfl) rfl ?_ | refine wpList_val (run_mv rfl rfl) rfl ?_ | refine wpList_val (run_asg rfl rfl) rfl ?_ | refine wpList_val (run_xor32 rfl rfl rfl) rfl ?_ | refine wpList_val (run_and32 rfl rfl rfl) rfl ?_ | refine wpList_val (run_or32 rfl rfl rfl) rfl ?_ | refine wpList_val (run_add32 rfl rfl rfl) rfl ?_ | refine wpList_val (run_not32 rfl rfl) rfl ?_ | refine wpList_val (run_xor64 rfl rfl rfl) rfl ?_ | refine wpList_val (run_and64 rfl rfl rfl) rfl ?_ | refine wpList_val (run_or64 rfl rfl rfl) rfl ?_ | refine wpList_val (run_add64 rfl rfl rfl) rfl ?_ | refine wpList_val (run_not64 rfl rfl) rfl ?_ | refine wpList_val (run_xor8 rfl rfl rfl) rfl ?_ | refine wpList_val (run_and8 rfl rfl rfl) rfl ?_ | refine wpList_val (run_or8 rfl rfl rfl) rfl ?_ | refine wpList_val (run_add8 rfl rfl rfl) rfl ?_ | refine wpList_val (run_not8 rfl rfl) rfl ?_ | refine wpList_val (run_cv64_32 rfl rfl) rfl ?_ | refine wpList_val (run_cv8_32 rfl rfl) rfl ?_ | refine wpList_val (run_cv8_64 rfl rfl) rfl ?_ | refine wpList_val (run_cv32_8 rfl rfl) rfl ?_ | refine wpList_val (run_cv64_8 rfl rfl) rfl ?_); (try simp only [Act.put, List.setIfInBounds_toArray, List.set_cons_zero, List.set_cons_succ])))
                refine wpList_val (run_ixs rfl Try.underlying25 (by kernel_rfl) rfl rfl (by omega)) rfl ?_; (try simp only [Act.put, List.setIfInBounds_toArray, List.set_cons_zero, List.set_cons_succ])
                refine wpList_val (run_ld8 rfl rfl C1.out) rfl ?_; (try simp only [Act.put, List.setIfInBounds_toArray, List.set_cons_zero, List.set_cons_succ])
                refine wpList_val (run_ixs rfl Try.underlying25 (by kernel_rfl) rfl rfl hxl2) rfl ?_; (try simp only [Act.put, List.setIfInBounds_toArray, List.set_cons_zero, List.set_cons_succ])
                refine wpList_val (run_ld8 rfl rfl C2.out) rfl ?_; (try simp only [Act.put, List.setIfInBounds_toArray, List.set_cons_zero, List.set_cons_succ])
                refine wpList_val (run_ixs rfl Try.underlying25 (by kernel_rfl) rfl rfl (by omega)) rfl ?_; (try simp only [Act.put, List.setIfInBounds_toArray, List.set_cons_zero, List.set_cons_succ])
                rw [Nat.zero_add ((j + 4 * (j % 4)) % 16)]
                refine wpList_skip (run_st8 rfl rfl rfl ((hM5.out.get (i := 0) rfl).get8 (by omega)) ((hM5.out.get (i := 0) rfl).f _)) rfl rfl ?_
                refine wpList_end ?_
                replace hM5 : Hid (Ms c5 [(gt, G (j + 1))] (wr.setCell ⟨gt, (j + 4 * (j % 4)) % 16, none⟩ (b8 (ub x)))) := Lib.hid (by rw [← EG.out]; exact hM5.out.set 0 rfl (by omega) _)
                generalize wr.setCell ⟨gt, (j + 4 * (j % 4)) % 16, none⟩ (b8 (ub x)) = c7 at *
                go_wp2_with fail
                go_roundw
                case rel => exact ⟨j + 1, by omega, by go_num, hM5.out⟩
                case measure => simp [intOf]; omega
    · have hk1 : (i : Int) < 256 := by omega
      have hi2 : i < 256 := by omega
      have C1 : Hid (wr.cell? ⟨gb, ob + i, none⟩ = some (b8 (bx (BitVec.ofNat 8 i)))) := Lib.hid (HRB.out wr ⟨hM4.out.bl, List.nodup_nil, fun _ h => by cases h⟩ i hi2)
      have EG := Lib.hid (HFS.out i hi2)
      have hxl := (bx (BitVec.ofNat 8 i)).isLt
      generalize bx (BitVec.ofNat 8 i) = x at *
      go_upto_region 6 with fail; refine wp_region_lit ?_
      (repeat ((first | refine wpList_val (run_mv (v := b32 _) rfl rfl) rfl ?_ | refine wpList_val (run_mv (v := b64 _) rfl rfl) rfl ?_ | refine wpList_val (run_mv (v := b8 _) rfl rfl) rfl ?_ | refine wpList_val (run_mv (v := .int _ _) rfl rfl) rfl ?_ | refine wpList_val (run_mv (v := .bool _) rfl rfl) rfl ?_ | refine wpList_val (run_mv (v := .slice (some _) _ _) rfl rfl) rfl ?_ | refine wpList_val (run_mv (v := .slice _ _ _) rfl rfl) rfl ?_ | refine wpList_val (run_mv (v := .pointer (some _)) rfl rfl) rfl ?_ | refine wpList_val (run_mv (v := .agg _) rfl rfl) rfl ?_ | refine wpList_val (run_asg (v := b32 _) rfl rfl) rfl ?_ | refine wpList_val (run_asg (v := b64 _) rfl rfl) rfl ?_ | refine wpList_val (run_asg (v := b8 _) rfl rfl) rfl ?_ | refine wpList_val (run_asg (v := .int _ _) rfl rfl) rfl ?_ | refine wpList_val (run_asg (v := .bool _) rfl rfl) rfl ?_ | refine wpList_val (run_asg (v := .slice (some _) _ _) rfl rfl) rfl ?_ | refine wpList_val (run_asg (v := .slice _ _ _) rfl rfl) rfl ?_ | refine wpList_val (run_asg (v := .pointer (some _)) rfl rfl) rfl ?_ | refine wpList_val (run_asg (v := .agg _) rfl rfl) rfl ?_ | refine wpList_val (run_mv rfl rfl) rfl ?_ | refine wpList_val (run_asg rfl rfl) rfl ?_ | refine wpList_val (run_xor32 rfl rfl rfl) rfl ?_ | refine wpList_val (run_and32 rfl rfl rfl) rfl ?_ | refine wpList_val (run_or32 rfl rfl rfl) rfl ?_ | refine wpList_val (run_add32 rfl rfl rfl) rfl ?_ | refine wpList_val (run_not32 rfl rfl) rfl ?_ | refine wpList_val (run_xor64 rfl rfl rfl) rfl ?_ | refine wpList_val (run_and64 rfl rfl rfl) rfl ?_ | refine wpList_val (run_or64 rfl rfl rfl) rfl ?_ | refine wpList_val (run_add64 rfl rfl rfl) rfl ?_ | refine wpList_val (run_not64 rfl rfl) rfl ?_ | refine wpList_val (run_xor8 rfl rfl rfl) rfl ?_ | refine wpList_val (run_and8 rfl rfl rfl) rfl ?_ | refine wpList_val (run_or8 rfl rfl rfl) rfl ?_ | refine wpList_val (run_add8 rfl rfl rfl) rfl ?_ | refine wpList_val (run_not8 rfl rfl) rfl ?_ | refine wpList_val (run_cv64_32 rfl rfl) rfl ?_ | refine wpList_val (run_cv8_32 rfl rfl) rfl ?_ | refine wpList_val (run_cv8_64 rfl rfl) rfl ?_ | refine wpList_val (run_cv32_8 rfl rfl) rfl ?_ | refine wpList_val (run_cv64_8 rfl rfl) rfl ?_); (try simp only [Act.put, List.setIfInBounds_toArray, List.set_cons_zero, List.set_cons_succ])))
      refine wpList_val (run_ixs rfl Try.underlying25 (by kernel_rfl) rfl rfl hi2) rfl ?_; (try simp only [Act.put, List.setIfInBounds_toArray, List.set_cons_zero, List.set_cons_succ])
      refine wpList_val (run_ld8 rfl rfl C1.out) rfl ?_; (try simp only [Act.put, List.setIfInBounds_toArray, List.set_cons_zero, List.set_cons_succ])
      (repeat ((first | refine wpList_val (run_mv (v := b32 _) rfl rfl) rfl ?_ | refine wpList_val (run_mv (v := b64 _) rfl rfl) rfl ?_ | refine wpList_val (run_mv (v := b8 _) rfl rfl) rfl ?_ | refine wpList_val (run_mv (v := .int _ _) rfl rfl) rfl ?_ | refine wpList_val (run_mv (v := .bool _) rfl rfl) rfl ?_ | refine wpList_val (run_mv (v := .slice (some _) _ _) rfl rfl) rfl ?_ | refine wpList_val (run_mv (v := .slice _ _ _) rfl rfl) rfl ?_ | refine wpList_val (run_mv (v := .pointer (some _)) rfl rfl) rfl ?_ | refine wpList_val (run_mv (v := .agg _) rfl rfl) rfl ?_ | refine wpList_val (run_asg (v := b32 _) rfl rfl) rfl ?_ | refine wpList_val (run_asg (v := b64 _) rfl rfl) rfl ?_ | refine wpList_val (run_asg (v := b8 _) rfl rfl) rfl ?_ | refine wpList_val (run_asg (v := .int _ _) rfl rfl) rfl ?_ | refine wpList_val (run_asg (v := .bool _) rfl rfl) rfl ?_ | refine wpList_val (run_asg (v := .slice (some _) _ _) rfl rfl) rfl ?_ | refine wpList_val (run_asg (v := .slice _ _ _) rfl rfl) rfl ?_ | refine wpList_val (run_asg (v := .pointer (some _)) rfl rfl) rfl ?_ | refine wpList_val (run_asg (v := .agg _) rfl rfl) rfl ?_ | refine wpList_val (run_mv rfl rfl) rfl ?_ | refine wpList_val (run_asg rfl rfl) rfl ?_ | refine wpList_val (run_xor32 rfl rfl rfl) rfl ?_ | refine wpList_val (run_and32 rfl rfl rfl) rfl ?_ | refine wpList_val (run_or32 rfl rfl rfl) rfl ?_ | refine wpList_val (run_add32 rfl rfl rfl) rfl ?_ | refine wpList_val (run_not32 rfl rfl) rfl ?_ | refine wpList_val (run_xor64 rfl rfl rfl) rfl ?_ | refine wpList_val (run_and64 rfl rfl rfl) rfl ?_ | refine wpList_val (run_or64 rfl rfl rfl) rfl ?_ | refine wpList_val (run_add64 rfl rfl rfl) rfl ?_ | refine wpList_val (run_not64 rfl rfl) rfl ?_ | refine wpList_val (run_xor8 rfl rfl rfl) rfl ?_ | refine wpList_val (run_and8 rfl rfl rfl) rfl ?_ | refine wpList_val (run_or8 rfl rfl rfl) rfl ?_ | refine wpList_val (run_add8 rfl rfl rfl) rfl ?_ | refine wpList_val (run_not8 rfl rfl) rfl ?_ | refine wpList_val (run_cv64_32 rfl rfl) rfl ?_ | refine wpList_val (run_cv8_32 rfl rfl) rfl ?_ | refine wpList_val (run_cv8_64 rfl rfl) rfl ?_ | refine wpList_val (run_cv32_8 rfl rfl) rfl ?_ | refine wpList_val (run_cv64_8 rfl rfl) rfl ?_); (try simp only [Act.put, List.setIfInBounds_toArray, List.set_cons_zero, List.set_cons_succ])))
      refine wpList_val (run_cvi_8 rfl rfl) rfl ?_; (try simp only [Act.put, List.setIfInBounds_toArray, List.set_cons_zero, List.set_cons_succ])
      refine wpList_val (run_ixs rfl Try.underlying25 (by kernel_rfl) rfl rfl hxl) rfl ?_; (try simp only [Act.put, List.setIfInBounds_toArray, List.set_cons_zero, List.set_cons_succ])
      rw [Nat.zero_add x.toNat]
      refine wpList_skip (run_st8 rfl rfl rfl ((hM4.out.get (i := 0) rfl).get8 (by omega)) ((hM4.out.get (i := 0) rfl).f _)) rfl rfl ?_
      refine wpList_end ?_
      replace hM4 : Hid (Ms a4 [(gk, F (i + 1))] (wr.setCell ⟨gk, x.toNat, none⟩ (b8 (BitVec.ofNat 8 i)))) := Lib.hid (by rw [← EG.out]; exact hM4.out.set 0 rfl (by omega) _)
      generalize wr.setCell ⟨gk, x.toNat, none⟩ (b8 (BitVec.ofNat 8 i)) = a6 at *
      go_wp2_with fail
      go_roundw
      case rel => exact ⟨i + 1, by omega, by go_num, hM4.out⟩
      case measure => simp [intOf]; omega
theorem enters_runblock : Enters 21 := enters_of Try.func21 (by kernel_rfl) rfl
end Go.Proofs.Ytlfggmdlgeakeaa
