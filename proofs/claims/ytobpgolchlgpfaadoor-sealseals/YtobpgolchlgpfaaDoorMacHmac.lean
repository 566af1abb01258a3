/- What mac.Hmac and mac.Extract do. -/
import Derived.Test.YtobpgolchlgpfaaDoorMacFill
namespace Go.Proofs.YtobpgolchlgpfaaDoor
open Go.RowKit
set_option maxRecDepth 20000

theorem enters_hmac : Enters 29 := enters_of Tryd.func29 (by kernel_rfl) rfl
set_option maxHeartbeats 1000000 in
theorem hmac_any (vk : Value) (k : List (BitVec 8)) (vb : Value) (b : List (BitVec 8)) (w : World) (hk : Sl vk k w) (hkl : k.length < 1152921504606846976) (hb : Sl vb b w) (hbl : b.length ≤ 15000000) (hT : Tabs w) :
    Calls Tryd.prog 29 #[vk, vb] w fun e w' => e = .returned (.agg ((hmac k b).map b8).toArray) ∧ Below w.heap.size w w' := by
  have HT := Lib.hid hT; clear hT
  have HK := Lib.hid hk; clear hk
  have HB := Lib.hid hb; clear hb
  have EH : Hid (hmac k b = sum32 (xorL 0x5c (fillK k) ++ sum32 (xorL 0x36 (fillK k) ++ b))) := Lib.hid rfl
  go_enter Tryd.func29, Tryd.ntmps29
  go_upto_region 0 with fail; refine wp_region_lit ?_
  refine wpList_val (run_alc (vs := z8 32) rfl (by kernel_rfl)) rfl ?_; (try simp only [Act.put, List.setIfInBounds_toArray, List.set_cons_zero, List.set_cons_succ])
  refine wpList_end ?_
  have HR := Lib.hid (Arr.new w (z8 32) 29)
  have bl : Below w.heap.size w (w.alloc (.cells (z8 32).toArray 29)) := (Below.refl _ _).alloc (Nat.le_refl _) _
  generalize w.alloc (.cells (z8 32).toArray 29) = u0 at *
  have hfl := fill_len k
  go_upto_region 1 with fail; refine wp_region_lit ?_
  refine wpList_val (run_mv (v := vk) rfl rfl) rfl ?_; (try simp only [Act.put, List.setIfInBounds_toArray, List.set_cons_zero, List.set_cons_succ])
  refine wpList_enter (run_call1 enters_fill rfl rfl rfl) rfl (fill_any vk k _ (HK.out.below bl) hkl (HT.out.below bl)) (fun u1 hb => ?_); (try simp only [Act.put, List.setIfInBounds_toArray, List.set_cons_zero, List.set_cons_succ])
  replace HR := Lib.hid (HR.out.below hb)
  replace bl := bl.trans (hb.mono bl.size)
  clear hb
  generalize fillK k = FK at *
  have HL := Lib.hid (size_f64 hfl)
  refine wpList_val (run_alc (vs := z8 64) rfl (by kernel_rfl)) rfl ?_; (try simp only [Act.put, List.setIfInBounds_toArray, List.set_cons_zero, List.set_cons_succ]); have A1 := Arr.new u1 (z8 64) 79; have hb : Below u1.heap.size u1 (u1.alloc (.cells (z8 64).toArray 79)) := (Below.refl _ _).alloc (Nat.le_refl _) _; generalize hG : (u1.alloc (.cells (z8 64).toArray 79)) = a1 at *; clear hG; refine wpList_skip (run_stA (vs := (FK).map b8) rfl HL.out rfl rfl (one8 _) (by rw [List.length_map, hfl, ← z8_len 64]; exact A1.there)) rfl rfl ?_; refine wpList_end ?_; have HF := Lib.hid (A1.put (l' := (FK).map b8) (by rw [List.length_map, hfl, z8_len])); replace hb := below_setCells (Nat.le_refl u1.heap.size) ((FK).map b8) 0 hb; generalize a1.setCells u1.heap.size 0 ((FK).map b8) = u2 at *; clear A1
  replace HR := Lib.hid (HR.out.below hb)
  replace bl := bl.trans (hb.mono bl.size)
  clear hb
  go_upto_region 2 with fail; refine wp_region_lit ?_
  refine wpList_val (run_ldA (vs := FK.map b8) rfl Tryd.underlying79 HL.out rfl HF.out.range) rfl ?_; (try simp only [Act.put, List.setIfInBounds_toArray, List.set_cons_zero, List.set_cons_succ])
  refine wpList_val (run_mv (v := vb) rfl rfl) rfl ?_; (try simp only [Act.put, List.setIfInBounds_toArray, List.set_cons_zero, List.set_cons_succ])
  refine wpList_callR (run_call3 enters_behind rfl rfl rfl rfl rfl) rfl (behind_any FK 0x36 vb b _ hfl (HB.out.below bl) (by omega)) (fun v1 u3 hR => ?_); (try simp only [Act.put, List.setIfInBounds_toArray, List.set_cons_zero, List.set_cons_succ])
  obtain ⟨S1, hb⟩ := hR
  replace HR := Lib.hid (HR.out.below hb)
  replace HF := Lib.hid (HF.out.below hb)
  replace bl := bl.trans (hb.mono bl.size)
  clear hb
  have hl1 : (xorL 0x36 FK ++ b).length < 1152921504606846976 := by rw [List.length_append, xor_len, hfl]; omega
  generalize xorL 0x36 FK ++ b = B1 at *
  refine wpList_enter (run_call1 enters_sum32 rfl rfl rfl) rfl (sum32_any v1 B1 _ S1 hl1 (HT.out.below bl)) (fun u4 hb => ?_); (try simp only [Act.put, List.setIfInBounds_toArray, List.set_cons_zero, List.set_cons_succ])
  replace HR := Lib.hid (HR.out.below hb)
  replace HF := Lib.hid (HF.out.below hb)
  replace bl := bl.trans (hb.mono bl.size)
  clear hb S1
  refine wpList_val (run_alc (vs := z8 32) rfl (by kernel_rfl)) rfl ?_; (try simp only [Act.put, List.setIfInBounds_toArray, List.set_cons_zero, List.set_cons_succ]); have A1 := Arr.new u4 (z8 32) 29; have hb : Below u4.heap.size u4 (u4.alloc (.cells (z8 32).toArray 29)) := (Below.refl _ _).alloc (Nat.le_refl _) _; generalize hG : (u4.alloc (.cells (z8 32).toArray 29)) = a1 at *; clear hG; refine wpList_skip (run_stA rfl (size_d32 (sum_len32 B1)) rfl rfl (one8 _) (by rw [List.length_map, sum_len32]; exact A1.there)) rfl rfl ?_; refine wpList_end ?_; have H32 := Lib.hid (A1.put (l' := (sum32 B1).map b8) (by rw [List.length_map, sum_len32]; rfl)); replace hb := below_setCells (Nat.le_refl u4.heap.size) ((sum32 B1).map b8) 0 hb; generalize a1.setCells u4.heap.size 0 ((sum32 B1).map b8) = u5 at *; clear A1
  replace HR := Lib.hid (HR.out.below hb)
  replace HF := Lib.hid (HF.out.below hb)
  replace bl := bl.trans (hb.mono bl.size)
  clear hb
  have hsl := sum_len32 B1
  generalize sum32 B1 = D1 at *
  go_upto_region 3 with fail; refine wp_region_calm 2 (by kernel_rfl) (by kernel_rfl) ?_
  refine wpCalm_step _ (fun V hV => calm_run (run_ldA (vs := FK.map b8) rfl Tryd.underlying79 HL.out rfl (HF.out.below hV).range)) ?_; (try simp only [Act.put, List.setIfInBounds_toArray, List.set_cons_zero, List.set_cons_succ])
  refine wpCalm_step _ (fun V hV => calm_run (run_slA rfl Tryd.underlying29 (by kernel_rfl) rfl)) ?_; (try simp only [Act.put, List.setIfInBounds_toArray, List.set_cons_zero, List.set_cons_succ])
  refine wpCalm_done ?_; intro u6 hb; simp only [List.drop_succ_cons, List.drop_zero]
  have S2 : Hid (Sl (.slice (some ⟨u4.heap.size, 0, none⟩) 32 32) D1 u6) := Lib.hid (by have := Sl.arr (H32.out.below hb) (c := 32) (by omega); rwa [hsl] at this)
  replace HR := Lib.hid (HR.out.below hb)
  replace bl := bl.trans (hb.mono bl.size)
  clear hb HF H32
  refine wpList_callR (run_call3 enters_behind rfl rfl rfl rfl rfl) rfl (behind_any FK 0x5c _ D1 _ hfl S2.out (by omega)) (fun v2 u7 hR => ?_); (try simp only [Act.put, List.setIfInBounds_toArray, List.set_cons_zero, List.set_cons_succ])
  obtain ⟨S3, hb⟩ := hR
  replace HR := Lib.hid (HR.out.below hb)
  replace bl := bl.trans (hb.mono bl.size)
  clear hb S2
  have hl2 : (xorL 0x5c FK ++ D1).length < 1152921504606846976 := by rw [List.length_append, xor_len, hfl]; omega
  generalize xorL 0x5c FK ++ D1 = B2 at *
  refine wpList_enter (run_call1 enters_sum32 rfl rfl rfl) rfl (sum32_any v2 B2 _ S3 hl2 (HT.out.below bl)) (fun u8 hb => ?_); (try simp only [Act.put, List.setIfInBounds_toArray, List.set_cons_zero, List.set_cons_succ])
  replace HR := Lib.hid (HR.out.below hb)
  replace bl := bl.trans (hb.mono bl.size)
  clear hb S3
  have hs2 := sum_len32 B2
  generalize sum32 B2 = D2 at *
  have HZ := Lib.hid (size_d32 hs2)
  have hT := (HR.out.put (l' := D2.map b8) (by rw [List.length_map, hs2, z8_len])).range
  refine wpList_skip (run_stA (vs := D2.map b8) rfl HZ.out rfl rfl (one8 _) (by rw [List.length_map, hs2, ← z8_len 32]; exact HR.out.there)) rfl rfl ?_
  refine wpList_end ?_
  go_wp2_with fail
  refine bodyPost_ret (v := .agg (D2.map b8).toArray) ?_ rfl ⟨by rw [EH.out], below_setCells (Nat.le_refl _) _ _ bl⟩
  exact results_arr Tryd.results29 rfl Tryd.underlying29 HZ.out hT
theorem enters_extract : Enters 39 := enters_of Tryd.func39 (by kernel_rfl) rfl
set_option maxHeartbeats 1000000 in
theorem extract_any (vk : Value) (k : List (BitVec 8)) (vb : Value) (b : List (BitVec 8)) (w : World) (hk : Sl vk k w) (hkl : k.length < 1152921504606846976) (hb : Sl vb b w) (hbl : b.length ≤ 15000000) (hT : Tabs w) :
    Calls Tryd.prog 39 #[vk, vb] w fun e w' => e = .returned (.agg ((extract k b).map b8).toArray) ∧ Below w.heap.size w w' := by
  have HT := Lib.hid hT; clear hT
  have HK := Lib.hid hk
  have HB := Lib.hid hb; clear hb
  have EH : Hid (extract k b = if k.length = 0 then hmac (List.replicate 32 0) b else hmac k b) := Lib.hid rfl
  obtain ⟨ao, c, rfl, -, -⟩ := hk
  go_enter Tryd.func39, Tryd.ntmps39
  go_upto_region 0 with fail; refine wp_region_lit ?_
  refine wpList_val (run_alc (vs := z8 32) rfl (by kernel_rfl)) rfl ?_; (try simp only [Act.put, List.setIfInBounds_toArray, List.set_cons_zero, List.set_cons_succ])
  refine wpList_end ?_
  have HR := Lib.hid (Arr.new w (z8 32) 29)
  have bl : Below w.heap.size w (w.alloc (.cells (z8 32).toArray 29)) := (Below.refl _ _).alloc (Nat.le_refl _) _
  generalize w.alloc (.cells (z8 32).toArray 29) = u0 at *
  go_upto_region 1 with fail; refine wp_region_lit ?_
  refine wpList_val (run_mv (v := .slice _ _ _) rfl rfl) rfl ?_; (try simp only [Act.put, List.setIfInBounds_toArray, List.set_cons_zero, List.set_cons_succ])
  refine wpList_val (run_len rfl Tryd.underlying30 rfl) rfl ?_; (try simp only [Act.put, List.setIfInBounds_toArray, List.set_cons_zero, List.set_cons_succ])
  by_cases h0 : k.length = 0
  · rw [if_pos h0] at EH
    refine wpList_val (run_eqlb (c := true) rfl rfl rfl (by rw [h0]; rfl)) rfl ?_; (try simp only [Act.put, List.setIfInBounds_toArray, List.set_cons_zero, List.set_cons_succ])
    refine wpList_end ?_
    go_upto_region 2 with fail; refine wp_region_lit ?_
    refine wpList_val (run_alc (vs := z8 32) rfl (by kernel_rfl)) rfl ?_; (try simp only [Act.put, List.setIfInBounds_toArray, List.set_cons_zero, List.set_cons_succ])
    refine wpList_end ?_
    have hb : Below u0.heap.size u0 (u0.alloc (.cells (z8 32).toArray 29)) := (Below.refl _ _).alloc (Nat.le_refl _) _
    have S1 : Hid (Sl (.slice (some ⟨u0.heap.size, 0, none⟩) 32 32) (List.replicate 32 0) (u0.alloc (.cells (z8 32).toArray 29))) := Lib.hid (sl_zero (Arr.new u0 (z8 32) 29))
    replace HR := Lib.hid (HR.out.below hb)
    replace bl := bl.trans (hb.mono bl.size)
    clear hb
    generalize u0.alloc (.cells (z8 32).toArray 29) = u1 at *
    go_upto_region 3 with fail; refine wp_region_lit ?_
    refine wpList_val (run_slA rfl Tryd.underlying29 (by kernel_rfl) rfl) rfl ?_; (try simp only [Act.put, List.setIfInBounds_toArray, List.set_cons_zero, List.set_cons_succ])
    refine wpList_val (run_mv (v := vb) rfl rfl) rfl ?_; (try simp only [Act.put, List.setIfInBounds_toArray, List.set_cons_zero, List.set_cons_succ])
    refine wpList_enter (run_call2 enters_hmac rfl rfl rfl rfl) rfl (hmac_any _ _ vb b _ S1.out (by simp) (HB.out.below bl) hbl (HT.out.below bl)) (fun u2 hb => ?_); (try simp only [Act.put, List.setIfInBounds_toArray, List.set_cons_zero, List.set_cons_succ])
    replace HR := Lib.hid (HR.out.below hb); replace bl := bl.trans (hb.mono bl.size); clear hb; have hs2 : (hmac (List.replicate 32 0) b).length = 32 := hmac_len _ _; generalize hmac (List.replicate 32 0) b = D2 at *; have HZ := Lib.hid (size_d32 hs2); have hT := (HR.out.put (l' := D2.map b8) (by rw [List.length_map, hs2, z8_len])).range; refine wpList_skip (run_stA (vs := D2.map b8) rfl HZ.out rfl rfl (one8 _) (by rw [List.length_map, hs2, ← z8_len 32]; exact HR.out.there)) rfl rfl ?_; refine wpList_end ?_; go_wp2_with fail; refine bodyPost_ret (v := .agg (D2.map b8).toArray) ?_ rfl ⟨by rw [EH.out], below_setCells (Nat.le_refl _) _ _ bl⟩; exact results_arr Tryd.results39 rfl Tryd.underlying29 HZ.out hT
  · rw [if_neg h0] at EH
    refine wpList_val (run_eqlb (c := false) rfl rfl rfl (beq_eq_false_iff_ne.2 (by omega))) rfl ?_; (try simp only [Act.put, List.setIfInBounds_toArray, List.set_cons_zero, List.set_cons_succ])
    refine wpList_end ?_
    go_upto_region 4 with fail; refine wp_region_lit ?_
    refine wpList_val (run_mv (v := .slice _ _ _) rfl rfl) rfl ?_; (try simp only [Act.put, List.setIfInBounds_toArray, List.set_cons_zero, List.set_cons_succ])
    refine wpList_val (run_mv (v := vb) rfl rfl) rfl ?_; (try simp only [Act.put, List.setIfInBounds_toArray, List.set_cons_zero, List.set_cons_succ])
    refine wpList_enter (run_call2 enters_hmac rfl rfl rfl rfl) rfl (hmac_any _ k vb b _ (HK.out.below bl) hkl (HB.out.below bl) hbl (HT.out.below bl)) (fun u2 hb => ?_); (try simp only [Act.put, List.setIfInBounds_toArray, List.set_cons_zero, List.set_cons_succ])
    replace HR := Lib.hid (HR.out.below hb); replace bl := bl.trans (hb.mono bl.size); clear hb; have hs2 : (hmac k b).length = 32 := hmac_len _ _; generalize hmac k b = D2 at *; have HZ := Lib.hid (size_d32 hs2); have hT := (HR.out.put (l' := D2.map b8) (by rw [List.length_map, hs2, z8_len])).range; refine wpList_skip (run_stA (vs := D2.map b8) rfl HZ.out rfl rfl (one8 _) (by rw [List.length_map, hs2, ← z8_len 32]; exact HR.out.there)) rfl rfl ?_; refine wpList_end ?_; go_wp2_with fail; refine bodyPost_ret (v := .agg (D2.map b8).toArray) ?_ rfl ⟨by rw [EH.out], below_setCells (Nat.le_refl _) _ _ bl⟩; exact results_arr Tryd.results39 rfl Tryd.underlying29 HZ.out hT
end Go.Proofs.YtobpgolchlgpfaaDoor
