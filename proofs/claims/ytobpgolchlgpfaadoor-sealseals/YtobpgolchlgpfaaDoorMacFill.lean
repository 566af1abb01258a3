/- What mac.fill and mac.behindKey do. -/
import Derived.Test.YtobpgolchlgpfaaDoorMacDef
namespace Go.Proofs.YtobpgolchlgpfaaDoor
open Go.RowKit
set_option maxRecDepth 20000

/-- Two rows of a function's own. -/
structure TwoI (w : World) (r x : List Value) (u : World) : Prop where
  bl : Below w.heap.size w u
  R : Arr w.heap.size r u
  O : Arr (w.heap.size + 1) x u
theorem TwoI.below {w u u' : World} {r x : List Value} (i : TwoI w r x u) (hb : Below u.heap.size u u') : TwoI w r x u' :=
  ⟨i.bl.trans (hb.mono i.bl.size), i.R.below hb, i.O.below hb⟩
theorem TwoI.mid {w u : World} {r x vs : List Value} {f : Nat} (i : TwoI w r x u) (h : f + vs.length ≤ x.length) : TwoI w r (x.take f ++ (vs ++ x.drop (f + vs.length))) (u.setCells (w.heap.size + 1) f vs) :=
  ⟨below_setCells (by omega) _ _ i.bl, i.R.farAll (by omega) _ _, i.O.mid h⟩
theorem TwoI.set {w u : World} {r x : List Value} {k : Nat} (i : TwoI w r x u) (h : k < x.length) (v : Value) : TwoI w r (x.set k v) (u.setCell ⟨w.heap.size + 1, k, none⟩ v) :=
  ⟨i.bl.setCell (p := ⟨w.heap.size + 1, k, none⟩) (by simp) _, i.R.far (by omega) _ _, i.O.set h _⟩
theorem TwoI.new (w : World) (r x : List Value) (t t' : TypeId) : TwoI w r x ((w.alloc (.cells r.toArray t)).alloc (.cells x.toArray t')) :=
  ⟨((Below.refl _ _).alloc (Nat.le_refl _) _).alloc (by simp) _, (Arr.new w r t).below ((Below.refl _ _).alloc (Nat.le_refl _) _), Arr.at (by simp) x t'⟩
theorem enters_fill : Enters 46 := enters_of Tryd.func46 (by kernel_rfl) rfl
theorem enters_behind : Enters 48 := enters_of Tryd.func48 (by kernel_rfl) rfl

set_option maxHeartbeats 1000000 in
theorem fill_any (v : Value) (k : List (BitVec 8)) (w : World) (hv : Sl v k w) (hk : k.length < 1152921504606846976) (hT : Tabs w) :
    Calls Tryd.prog 46 #[v] w fun e w' => e = .returned (.agg ((fillK k).map b8).toArray) ∧ Below w.heap.size w w' := by
  have HT := Lib.hid hT; clear hT
  have HV := Lib.hid hv
  obtain ⟨ao, c, rfl, -, -⟩ := hv
  have hfl := fill_len k
  have HD : Hid (fillK k = fz (if 64 < k.length then sum32 k else k)) := Lib.hid rfl
  go_enter Tryd.func46, Tryd.ntmps46
  go_upto_region 0 with fail; refine wp_region_lit ?_
  refine wpList_val (run_alc (vs := z8 64) rfl (by kernel_rfl)) rfl ?_; (try simp only [Act.put, List.setIfInBounds_toArray, List.set_cons_zero, List.set_cons_succ])
  refine wpList_end ?_
  go_upto_region 1 with fail; refine wp_region_lit ?_
  refine wpList_val (run_alc (vs := z8 64) rfl (by kernel_rfl)) rfl ?_; (try simp only [Act.put, List.setIfInBounds_toArray, List.set_cons_zero, List.set_cons_succ])
  refine wpList_end ?_
  have hI := Lib.hid (TwoI.new w (z8 64) (z8 64) 79 79)
  rw [show (w.alloc (.cells (z8 64).toArray 79)).heap.size = w.heap.size + 1 by simp]
  generalize (w.alloc (.cells (z8 64).toArray 79)).alloc (.cells (z8 64).toArray 79) = u1 at *
  generalize hFK : fillK k = FK at *
  have EF := Lib.hid hFK; clear hFK
  have HL := Lib.hid (size_f64 hfl)
  go_upto_region 2 with fail; refine wp_region_lit ?_
  refine wpList_val (run_mv (v := .slice _ _ _) rfl rfl) rfl ?_; (try simp only [Act.put, List.setIfInBounds_toArray, List.set_cons_zero, List.set_cons_succ])
  refine wpList_val (run_len rfl Tryd.underlying30 rfl) rfl ?_; (try simp only [Act.put, List.setIfInBounds_toArray, List.set_cons_zero, List.set_cons_succ])
  refine wpList_val (run_gtr rfl rfl rfl) rfl ?_; (try simp only [Act.put, List.setIfInBounds_toArray, List.set_cons_zero, List.set_cons_succ])
  refine wpList_end ?_
  by_cases hlt : 64 < k.length
  · rw [if_pos hlt] at HD
    rw [decide_eq_true (show (64 : Int) < (k.length : Int) by omega)]
    go_upto_region 3 with fail; refine wp_region_lit ?_
    refine wpList_val (run_mv (v := .slice _ _ _) rfl rfl) rfl ?_; (try simp only [Act.put, List.setIfInBounds_toArray, List.set_cons_zero, List.set_cons_succ])
    refine wpList_enter (run_call1 enters_sum32 rfl rfl rfl) rfl (sum32_any _ k _ (HV.out.below hI.out.bl) hk (HT.out.below hI.out.bl)) (fun u2 hb => ?_); (try simp only [Act.put, List.setIfInBounds_toArray, List.set_cons_zero, List.set_cons_succ])
    replace hI := Lib.hid (hI.out.below hb)
    clear hb
    refine wpList_val (run_alc (vs := z8 32) rfl (by kernel_rfl)) rfl ?_; (try simp only [Act.put, List.setIfInBounds_toArray, List.set_cons_zero, List.set_cons_succ]); have A1 := Arr.new u2 (z8 32) 29; have hb : Below u2.heap.size u2 (u2.alloc (.cells (z8 32).toArray 29)) := (Below.refl _ _).alloc (Nat.le_refl _) _; generalize hG : (u2.alloc (.cells (z8 32).toArray 29)) = a1 at *; clear hG; refine wpList_skip (run_stA rfl (size_d32 (sum_len32 k)) rfl rfl (one8 _) (by rw [List.length_map, sum_len32]; exact A1.there)) rfl rfl ?_; refine wpList_end ?_; have H32 := Lib.hid (A1.put (l' := (sum32 k).map b8) (by rw [List.length_map, sum_len32]; rfl)); replace hb := below_setCells (Nat.le_refl u2.heap.size) ((sum32 k).map b8) 0 hb; generalize a1.setCells u2.heap.size 0 ((sum32 k).map b8) = u3 at *; clear A1
    replace hI := Lib.hid (hI.out.below hb)
    clear hb
    have hsl := sum_len32 k
    generalize sum32 k = s at *
    go_upto_region 4 with fail; refine wp_region_calm 2 (by kernel_rfl) (by kernel_rfl) ?_
    refine wpCalm_step _ (fun V hV => calm_run (run_slA rfl Tryd.underlying79 (by kernel_rfl) rfl)) ?_; (try simp only [Act.put, List.setIfInBounds_toArray, List.set_cons_zero, List.set_cons_succ])
    refine wpCalm_step _ (fun V hV => calm_run (run_slA rfl Tryd.underlying29 (by kernel_rfl) rfl)) ?_; (try simp only [Act.put, List.setIfInBounds_toArray, List.set_cons_zero, List.set_cons_succ])
    refine wpCalm_done ?_; intro u4 hb; simp only [List.drop_succ_cons, List.drop_zero]
    replace hI := Lib.hid (hI.out.below hb)
    replace H32 := Lib.hid (H32.out.below hb)
    clear hb
    have S1 : Hid (Sl (.slice (some ⟨u2.heap.size, 0, none⟩) 32 32) s u4) := Lib.hid (by have := Sl.arr H32.out (c := 32) (by omega); rwa [hsl] at this)
    have ht : s.take 64 = s := List.take_of_length_le (by omega)
    refine wpList_val (run_cpyG (l := s) (m := z8 64) rfl rfl rfl S1.out hI.out.O (by rw [ht, z8_len]; omega)) rfl ?_; (try simp only [Act.put, List.setIfInBounds_toArray, List.set_cons_zero, List.set_cons_succ])
    refine wpList_end ?_
    rw [ht]
    replace hI := Lib.hid (hI.out.mid (f := 0) (vs := s.map b8) (by rw [List.length_map, z8_len]; omega))
    rw [List.take_zero, List.nil_append, Nat.zero_add, fz_z8, ← HD.out] at hI
    generalize u4.setCells (w.heap.size + 1) 0 (s.map b8) = u5 at *
    clear H32 S1 ht
    go_upto_region 5 with fail; refine wp_region_lit ?_; refine wpList_val (run_ldA (vs := FK.map b8) rfl Tryd.underlying79 HL.out rfl hI.out.O.range) rfl ?_; (try simp only [Act.put, List.setIfInBounds_toArray, List.set_cons_zero, List.set_cons_succ]); have hT := (hI.out.R.put (l' := FK.map b8) (by rw [List.length_map, hfl, z8_len])).range; refine wpList_skip (run_stA (vs := FK.map b8) rfl HL.out rfl rfl (one8 _) (by rw [List.length_map, hfl, ← z8_len 64]; exact hI.out.R.there)) rfl rfl ?_; refine wpList_end ?_; go_wp2_with fail; refine bodyPost_ret (v := .agg (FK.map b8).toArray) ?_ rfl ⟨by rw [EF.out], below_setCells (Nat.le_refl _) _ _ hI.out.bl⟩; exact results_arr Tryd.results46 rfl Tryd.underlying79 HL.out hT
  · rw [if_neg hlt] at HD
    rw [decide_eq_false (show ¬ (64 : Int) < (k.length : Int) by omega)]
    go_upto_region 6 with fail; refine wp_region_lit ?_
    refine wpList_val (run_slA rfl Tryd.underlying79 (by kernel_rfl) rfl) rfl ?_; (try simp only [Act.put, List.setIfInBounds_toArray, List.set_cons_zero, List.set_cons_succ])
    refine wpList_val (run_mv (v := .slice _ _ _) rfl rfl) rfl ?_; (try simp only [Act.put, List.setIfInBounds_toArray, List.set_cons_zero, List.set_cons_succ])
    have ht : k.take 64 = k := List.take_of_length_le (by omega)
    refine wpList_val (run_cpyG (l := k) (m := z8 64) rfl rfl rfl (HV.out.below hI.out.bl) hI.out.O (by rw [ht, z8_len]; omega)) rfl ?_; (try simp only [Act.put, List.setIfInBounds_toArray, List.set_cons_zero, List.set_cons_succ])
    refine wpList_end ?_
    rw [ht]
    replace hI := Lib.hid (hI.out.mid (f := 0) (vs := k.map b8) (by rw [List.length_map, z8_len]; omega))
    rw [List.take_zero, List.nil_append, Nat.zero_add, fz_z8, ← HD.out] at hI
    generalize u1.setCells (w.heap.size + 1) 0 (k.map b8) = u5 at *
    clear ht
    go_upto_region 7 with fail; refine wp_region_lit ?_; refine wpList_val (run_ldA (vs := FK.map b8) rfl Tryd.underlying79 HL.out rfl hI.out.O.range) rfl ?_; (try simp only [Act.put, List.setIfInBounds_toArray, List.set_cons_zero, List.set_cons_succ]); have hT := (hI.out.R.put (l' := FK.map b8) (by rw [List.length_map, hfl, z8_len])).range; refine wpList_skip (run_stA (vs := FK.map b8) rfl HL.out rfl rfl (one8 _) (by rw [List.length_map, hfl, ← z8_len 64]; exact hI.out.R.there)) rfl rfl ?_; refine wpList_end ?_; go_wp2_with fail; refine bodyPost_ret (v := .agg (FK.map b8).toArray) ?_ rfl ⟨by rw [EF.out], below_setCells (Nat.le_refl _) _ _ hI.out.bl⟩; exact results_arr Tryd.results46 rfl Tryd.underlying79 HL.out hT

set_option maxHeartbeats 1000000 in
theorem behind_any (K : List (BitVec 8)) (m : BitVec 8) (v : Value) (b : List (BitVec 8)) (w : World) (hK : K.length = 64) (hv : Sl v b w) (hb : b.length ≤ 16000000) :
    Calls Tryd.prog 48 #[.agg (K.map b8).toArray, b8 m, v] w fun e w' => ∃ v', e = .returned v' ∧ (Sl v' (xorL m K ++ b) w' ∧ Below w.heap.size w w') := by
  have HV := Lib.hid hv
  obtain ⟨ao, c, rfl, -, -⟩ := hv
  go_enter Tryd.func48, Tryd.ntmps48
  go_upto_region 0 with fail; refine wp_region_lit ?_
  refine wpList_val (run_box rfl rfl) rfl ?_; (try simp only [Act.put, List.setIfInBounds_toArray, List.set_cons_zero, List.set_cons_succ])
  refine wpList_val (run_asg (v := .slice _ _ _) rfl rfl) rfl ?_; (try simp only [Act.put, List.setIfInBounds_toArray, List.set_cons_zero, List.set_cons_succ])
  refine wpList_end ?_
  go_upto_region 1 with fail; refine wp_region_lit ?_
  refine wpList_val (run_mv (v := .slice _ _ _) rfl rfl) rfl ?_; (try simp only [Act.put, List.setIfInBounds_toArray, List.set_cons_zero, List.set_cons_succ])
  refine wpList_val (run_len rfl Tryd.underlying30 rfl) rfl ?_; (try simp only [Act.put, List.setIfInBounds_toArray, List.set_cons_zero, List.set_cons_succ])
  refine wpList_val (run_add rfl rfl rfl (by omega) (by omega)) rfl ?_; (try simp only [Act.put, List.setIfInBounds_toArray, List.set_cons_zero, List.set_cons_succ])
  rw [show ((64 : Int) + (b.length : Int)) = ((64 + b.length : Nat) : Int) by omega]
  refine wpList_val (run_mk8 rfl rfl rfl (by omega)) rfl ?_; (try simp only [Act.put, List.setIfInBounds_toArray, List.set_cons_zero, List.set_cons_succ])
  refine wpList_val (run_asg (v := .slice (some _) _ _) rfl rfl) rfl ?_; (try simp only [Act.put, List.setIfInBounds_toArray, List.set_cons_zero, List.set_cons_succ])
  refine wpList_end ?_
  have hI := Lib.hid (TwoI.new w (K.map b8) (z8 (64 + b.length)) 79 5)
  rw [show (w.alloc (.cells (K.map b8).toArray 79)).heap.size = w.heap.size + 1 by simp]
  generalize (w.alloc (.cells (K.map b8).toArray 79)).alloc (.cells (z8 (64 + b.length)).toArray 5) = u1 at *
  replace hI : Hid (TwoI w (K.map b8) ((behT K m b.length 0).map b8) u1) := hI
  go_upto_region 2 with fail; refine wp_region_lit ?_
  refine wpList_val (run_mv (v := .int _ _) rfl rfl) rfl ?_; (try simp only [Act.put, List.setIfInBounds_toArray, List.set_cons_zero, List.set_cons_succ])
  refine wpList_end ?_
  go_wp2_with fail
  go_loopw [13] (fun s u => ∃ i : Nat, i ≤ 64 ∧ s = .int .i64 (i : Int) ∧ TwoI w (K.map b8) ((behT K m b.length i).map b8) u) (fun s _ => (64 - intOf s).toNat)
  case atStart => exact ⟨0, by omega, rfl, hI.out⟩
  case round =>
    obtain ⟨i, hi, rfl, hJ⟩ := hrel
    replace hI := Lib.hid hJ
    clear hJ
    have hbl := behT_len K m b.length i
    by_cases hlt : i = 64
    · subst hlt
      have hk1 : ¬ (((64 : Nat) : Int) < 64) := by omega
      have HE := Lib.hid (behT_end hK m b.length)
      have hxl := xor_len m K
      generalize behT K m b.length 64 = B at *
      generalize hX : xorL m K = X at *
      have EX := Lib.hid hX; clear hX
      go_upto_region 7 with fail; refine wp_region_lit ?_
      refine wpList_val (run_mv (v := .slice (some _) _ _) rfl rfl) rfl ?_; (try simp only [Act.put, List.setIfInBounds_toArray, List.set_cons_zero, List.set_cons_succ])
      refine wpList_val (run_cut (l := 64) rfl Tryd.underlying30 (by kernel_rfl) rfl rfl (by omega)) rfl ?_; (try simp only [Act.put, List.setIfInBounds_toArray, List.set_cons_zero, List.set_cons_succ])
      refine wpList_val (run_mv (v := .slice _ _ _) rfl rfl) rfl ?_; (try simp only [Act.put, List.setIfInBounds_toArray, List.set_cons_zero, List.set_cons_succ])
      obtain ⟨off, ec, ho1, ho2⟩ : ∃ off, cutO (some ⟨w.heap.size + 1, 0, none⟩) (64 + b.length) (64 + b.length) 64 = .slice (some ⟨w.heap.size + 1, off, none⟩) b.length b.length ∧ (b.length ≠ 0 → off = 64) ∧ off ≤ 64 := by
        unfold cutO
        rw [show 64 + b.length - 64 = b.length by omega]
        by_cases h0 : b.length = 0
        · exact ⟨0, by rw [if_pos (by omega)], fun h => absurd h0 h, by omega⟩
        · exact ⟨64, by rw [if_neg (by omega), Option.map_some, Addr.add_mid, Nat.zero_add], fun _ => rfl, by omega⟩
      rw [ec]
      clear ec
      have htk : b.take b.length = b := List.take_length
      refine wpList_val (run_cpyG (l := b) (m := B.map b8) rfl rfl rfl (HV.out.below hI.out.bl) hI.out.O (by rw [htk, List.length_map, hbl]; omega)) rfl ?_; (try simp only [Act.put, List.setIfInBounds_toArray, List.set_cons_zero, List.set_cons_succ])
      rw [htk]
      refine wpList_end ?_
      have HO : Hid (TwoI w (K.map b8) ((X ++ b).map b8) (wr.setCells (w.heap.size + 1) off (b.map b8))) := Lib.hid (by
        have h2 := hI.out.mid (f := 64) (vs := b.map b8) (by rw [List.length_map, List.length_map, hbl]; omega)
        rw [← List.map_take, HE.out, List.length_map, List.drop_of_length_le (by rw [List.length_map, hbl]; omega), List.append_nil, ← List.map_append] at h2
        by_cases h0 : b.length = 0
        · obtain rfl : b = [] := List.eq_nil_of_length_eq_zero h0
          exact h2
        · rw [ho1 h0]; exact h2)
      generalize wr.setCells (w.heap.size + 1) off (b.map b8) = u2 at *
      clear hI HE ho1 ho2
      go_upto_region 8 with fail; refine wp_region_lit ?_
      refine wpList_val (run_mv (v := .slice (some _) _ _) rfl rfl) rfl ?_; (try simp only [Act.put, List.setIfInBounds_toArray, List.set_cons_zero, List.set_cons_succ]); refine wpList_val (run_asg (v := .slice (some _) _ _) rfl rfl) rfl ?_; (try simp only [Act.put, List.setIfInBounds_toArray, List.set_cons_zero, List.set_cons_succ])
      refine wpList_end ?_
      go_wp2_with fail
      refine bodyPost_ret (results_tmp Tryd.results48 _ _ _) rfl ⟨_, rfl, ?_, HO.out.bl⟩
      have hxb : (X ++ b).length = 64 + b.length := by rw [List.length_append]; omega
      have := Sl.arr HO.out.O (c := 64 + b.length) (by omega)
      rw [hxb] at this
      rw [EX.out]
      exact this
    · have hk1 : (i : Int) < 64 := by omega
      have hk2 : i < 64 := by omega
      go_upto_region 4 with fail; refine wp_region_lit ?_
      refine wpList_val (run_mv (v := .int _ _) rfl rfl) rfl ?_; (try simp only [Act.put, List.setIfInBounds_toArray, List.set_cons_zero, List.set_cons_succ]); refine wpList_val (run_asg (v := .int _ _) rfl rfl) rfl ?_; (try simp only [Act.put, List.setIfInBounds_toArray, List.set_cons_zero, List.set_cons_succ])
      refine wpList_end ?_
      go_upto_region 5 with fail; refine wp_region_lit ?_
      refine wpList_val (run_mv (v := .slice (some _) _ _) rfl rfl) rfl ?_; (try simp only [Act.put, List.setIfInBounds_toArray, List.set_cons_zero, List.set_cons_succ]); refine wpList_val (run_mv (v := .int _ _) rfl rfl) rfl ?_; (try simp only [Act.put, List.setIfInBounds_toArray, List.set_cons_zero, List.set_cons_succ]); refine wpList_val (run_mv (v := .int _ _) rfl rfl) rfl ?_; (try simp only [Act.put, List.setIfInBounds_toArray, List.set_cons_zero, List.set_cons_succ])
      refine wpList_val (run_ix0 rfl Tryd.underlying79 (by kernel_rfl) rfl rfl hk2) rfl ?_; (try simp only [Act.put, List.setIfInBounds_toArray, List.set_cons_zero, List.set_cons_succ])
      refine wpList_val (run_ld8 rfl rfl (hI.out.R.c i _ (get_map b8 0 (by omega)))) rfl ?_; (try simp only [Act.put, List.setIfInBounds_toArray, List.set_cons_zero, List.set_cons_succ])
      refine wpList_val (run_mv (v := b8 _) rfl rfl) rfl ?_; (try simp only [Act.put, List.setIfInBounds_toArray, List.set_cons_zero, List.set_cons_succ]); refine wpList_val (run_xor8 rfl rfl rfl) rfl ?_; (try simp only [Act.put, List.setIfInBounds_toArray, List.set_cons_zero, List.set_cons_succ])
      refine wpList_val (run_ixs rfl Tryd.underlying30 (by kernel_rfl) rfl rfl (by omega)) rfl ?_; (try simp only [Act.put, List.setIfInBounds_toArray, List.set_cons_zero, List.set_cons_succ])
      rw [Nat.zero_add i]
      refine wpList_skip (run_st8 rfl rfl rfl (hI.out.O.c i _ (get_map b8 0 (by omega))) (hI.out.O.f _)) rfl rfl ?_
      refine wpList_end ?_
      have H2 : Hid (TwoI w (K.map b8) ((behT K m b.length (i + 1)).map b8) (wr.setCell ⟨w.heap.size + 1, i, none⟩ (b8 (K.getD i 0 ^^^ m)))) := Lib.hid (by rw [behT, ← set_map]; exact hI.out.set (by rw [List.length_map]; omega) _)
      generalize wr.setCell ⟨w.heap.size + 1, i, none⟩ (b8 (K.getD i 0 ^^^ m)) = u2 at *
      go_wp2_with fail
      go_roundw
      case rel => exact ⟨i + 1, by omega, by go_num, H2.out⟩
      case measure => simp [intOf]; omega
end Go.Proofs.YtobpgolchlgpfaaDoor
