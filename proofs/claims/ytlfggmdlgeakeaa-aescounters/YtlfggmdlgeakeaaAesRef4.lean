/- What the reference's hidden and Block do. -/
import Derived.Test.YtlfggmdlgeakeaaAesRef3
import Derived.Test.YtlfggmdlgeakeaaAesHid
import Derived.Test.YtlfggmdlgeakeaaAesCi
namespace Go.Proofs.Ytlfggmdlgeakeaa
open Go.RowKit

theorem turn_box (s : List (BitVec 8)) : turnB 1 (boxB s) = tab 16 fun i => bx (s.getD ((i + 4 * (i % 4)) % 16) 0) := tab_congr fun i hi => by
  rw [boxB, tab_get _ (turnI_lt 1 i), turnI_1 i hi]
theorem sl_arr {g n : Nat} {l : List (BitVec 8)} {u : World} (h : Arr g (l.map b8) u) (hl : l.length = n) : Sl (.slice (some ⟨g, 0, none⟩) n n) l u := by
  subst hl; exact Sl.arr h (Nat.le_refl _)
set_option maxRecDepth 20000 in
set_option maxHeartbeats 8000000 in
theorem hidden_any (vb : Value) (vw : Value) (W : List (BitVec 8)) (vs : Value) (b : List (BitVec 8)) (w : World) (hb : Sl vb bxL w) (hw : Sl vw W w) (hW : W.length = 240) (hs : Sl vs b w) (hl : b.length = 16) : Calls Try.prog 31 #[vb, vw, vs] w fun e w' => ∃ v', e = .returned v' ∧ S5 w v' (hideB W b) w' := by
  obtain ⟨g, o, c, rfl, hrd⟩ := hb.rd (by rw [bxL_len]; omega)
  rw [bxL_len]
  have HR : Hid (∀ V, Below w.heap.size w V → ∀ x : BitVec 8, V.cell? ⟨g, o + x.toNat, none⟩ = some (b8 (bx x))) := Lib.hid fun V h x => by
    rw [hrd V h x.toNat (by rw [bxL_len]; exact x.isLt), bxL_get]
  have HW := Lib.hid hw
  have HL := Lib.hid (hidI_len W b)
  clear hrd hb
  go_enter Try.func31, Try.ntmps31
  go_upto_region 1 with fail; refine wp_region_lit ?_
  refine wpList_val (run_mv (v := vs) rfl rfl) rfl ?_; (try simp only [Act.put, List.setIfInBounds_toArray, List.set_cons_zero, List.set_cons_succ])
  refine wpList_val (run_mv (v := vw) rfl rfl) rfl ?_; (try simp only [Act.put, List.setIfInBounds_toArray, List.set_cons_zero, List.set_cons_succ])
  refine wpList_callR (run_call3 (c := .int .i64 ((0 : Nat) : Int)) enters_xored rfl rfl rfl rfl rfl) rfl (xored_any vs b vw W 0 _ hs hl hw hW (by omega)) (fun v1 a1 hR => ?_); (try simp only [Act.put, List.setIfInBounds_toArray, List.set_cons_zero, List.set_cons_succ])
  refine wpList_val (run_asg (v := v1) rfl rfl) rfl ?_; (try simp only [Act.put, List.setIfInBounds_toArray, List.set_cons_zero, List.set_cons_succ])
  refine wpList_end ?_
  have hI : Hid (S5 w v1 (hidI W b 0) a1) := Lib.hid hR
  clear hR
  go_wp2_with fail
  go_loopw [2, 7] (fun s2 s7 u => ∃ n : Nat, n ≤ 14 ∧ s7 = .int .i64 ((n + 1 : Nat) : Int) ∧ S5 w s2 (hidI W b n) u) (fun _ s _ => (15 - intOf s).toNat)
  case atStart => exact ⟨0, by omega, rfl, hI.out⟩
  case round =>
    obtain ⟨n, hn, rfl, hJ⟩ := hrel
    replace hI := Lib.hid hJ
    clear hJ
    have hil := HL.out n
    by_cases hlt : n = 14
    · subst hlt
      have hk1 : ¬ (((14 + 1 : Nat) : Int) ≤ 14) := by omega
      have EX : Hid (hideB W b = hidI W b 14) := Lib.hid rfl
      generalize hidI W b 14 = r at *
      go_upto_region 13 with fail; refine wp_region_lit ?_
      refine wpList_val (run_mv (v := u2) rfl rfl) rfl ?_; (try simp only [Act.put, List.setIfInBounds_toArray, List.set_cons_zero, List.set_cons_succ])
      refine wpList_val (run_asg (v := u2) rfl rfl) rfl ?_; (try simp only [Act.put, List.setIfInBounds_toArray, List.set_cons_zero, List.set_cons_succ])
      refine wpList_end ?_
      go_wp2_with fail
      refine bodyPost_ret (results_tmp Try.results31 _ _ _) rfl ⟨_, rfl, ?_⟩
      rw [EX.out]; exact hI.out
    · have hk1 : ((n + 1 : Nat) : Int) ≤ 14 := by omega
      have EN : Hid (hidI W b (n + 1) = xorB (if n + 1 < 14 then mixB (turnB 1 (boxB (hidI W b n))) else turnB 1 (boxB (hidI W b n))) (rkey W (n + 1))) := Lib.hid rfl
      generalize hidI W b n = s at *
      obtain ⟨f, hf⟩ : ∃ f : Nat → BitVec 8, f = fun i => bx (s.getD ((i + 4 * (i % 4)) % 16) 0) := ⟨_, rfl⟩
      have EF : Hid (∀ i, bx (s.getD ((i + 4 * (i % 4)) % 16) 0) = f i) := Lib.hid fun i => by rw [hf]
      have ET : Hid (turnB 1 (boxB s) = tab 16 f) := Lib.hid (by rw [turn_box, hf])
      clear hf
      have bl0 := hI.out.bl
      obtain ⟨gs, fs, cs, rfl, hrs⟩ := hI.out.sl.rd (by omega)
      rw [hil]
      have HRS := Lib.hid hrs
      clear hrs
      generalize hwr : wr = b0 at *
      clear hwr
      have hM := Lib.hid (Ms.nil b0)
      go_upto_region 5 with fail; refine wp_region_lit ?_
      refine wpList_val (run_mk8 (n := 16) rfl rfl rfl (by omega)) rfl ?_; (try simp only [Act.put, List.setIfInBounds_toArray, List.set_cons_zero, List.set_cons_succ])
      replace hM := Lib.hid (hM.out.newZ 16 5)
      generalize b0.alloc (.cells (z8 16).toArray 5) = b1 at *
      obtain ⟨gt, hgt⟩ : ∃ gt, gt = b0.heap.size := ⟨_, rfl⟩
      rw [← hgt] at hM
      rw [← hgt]
      clear hgt
      refine wpList_val (run_asg (v := .slice (some _) _ _) rfl rfl) rfl ?_; (try simp only [Act.put, List.setIfInBounds_toArray, List.set_cons_zero, List.set_cons_succ])
      refine wpList_end ?_
      replace hM : Hid (Ms b0 [(gt, upd f (List.replicate 16 0) 0)] b1) := Lib.hid (by rw [upd_zero]; exact hM.out)
      go_wp2_with fail
      go_loopw [9] (fun z u => ∃ j : Nat, j ≤ 16 ∧ z = .int .i64 (j : Int) ∧ Ms b0 [(gt, upd f (List.replicate 16 0) j)] u) (fun z _ => (16 - intOf z).toNat)
      case atStart => exact ⟨0, by omega, rfl, hM.out⟩
      case round =>
        obtain ⟨j, hj, rfl, hJ⟩ := hrel
        replace hM := Lib.hid hJ
        clear hJ
        have hul : (upd f (List.replicate 16 0) j).length = 16 := by rw [upd_len, List.length_replicate]
        by_cases hj16 : j = 16
        · subst hj16
          have hk2 : ¬ (((16 : Nat) : Int) < 16) := by omega
          rw [upd_all List.length_replicate] at hM
          have htl := tab_len 16 f
          rw [ET.out] at EN
          generalize tab 16 f = t at *
          have hS0 : Hid (Below w.heap.size w wr) := Lib.hid (bl0.trans (hM.out.bl.mono bl0.size))
          have hT : Hid (Sl (.slice (some ⟨gt, 0, none⟩) 16 16) t wr) := Lib.hid (sl_arr (hM.out.get (i := 0) rfl) htl)
          clear hM HRS hI
          by_cases h14 : n + 1 < 14
          · have hk3 : ((n + 1 : Nat) : Int) < 14 := by omega
            rw [if_pos h14, ← mix_eq] at EN
            go_upto_region 11 with fail; refine wp_region_lit ?_
            refine wpList_val (run_mv (v := .slice (some _) _ _) rfl rfl) rfl ?_; (try simp only [Act.put, List.setIfInBounds_toArray, List.set_cons_zero, List.set_cons_succ])
            refine wpList_val (run_bsl (cells := #[b8 2, b8 3, b8 1, b8 1]) (z := .int .u8 0) rfl Try.underlying25 (by kernel_rfl) (by omega) (by omega) (by kernel_rfl)) rfl ?_; (try simp only [Act.put, List.setIfInBounds_toArray, List.set_cons_zero, List.set_cons_succ])
            have hbn : Below wr.heap.size wr (wr.alloc (.cells #[b8 2, b8 3, b8 1, b8 1] 5)) := (Below.refl _ _).alloc (Nat.le_refl _) _
            have hB4 : Hid (Sl (.slice (some ⟨wr.heap.size, 0, none⟩) 4 4) [2, 3, 1, 1] (wr.alloc (.cells #[b8 2, b8 3, b8 1, b8 1] 5))) := Lib.hid (sl_four wr 2 3 1 1 5)
            replace hT := Lib.hid (hT.out.below hbn)
            replace hS0 := Lib.hid (hS0.out.trans (hbn.mono hS0.out.size))
            clear hbn
            generalize wr.alloc (.cells #[b8 2, b8 3, b8 1, b8 1] 5) = c1 at *
            refine wpList_callR (run_call2 enters_mixed rfl rfl rfl rfl) rfl (mixed_any _ t _ [2, 3, 1, 1] _ hT.out htl hB4.out rfl) (fun v8 c2 hR => ?_); (try simp only [Act.put, List.setIfInBounds_toArray, List.set_cons_zero, List.set_cons_succ])
            refine wpList_val (run_asg (v := v8) rfl rfl) rfl ?_; (try simp only [Act.put, List.setIfInBounds_toArray, List.set_cons_zero, List.set_cons_succ])
            refine wpList_end ?_
            have hml : (mxB [2, 3, 1, 1] t).length = 16 := tab_len _ _
            generalize mxB [2, 3, 1, 1] t = m at *
            replace hS0 := Lib.hid (hS0.out.trans (hR.bl.mono hS0.out.size))
            have hX := Lib.hid hR.sl
            clear hR hT hB4
            go_upto_region 12 with fail; refine wp_region_lit ?_; refine wpList_val (run_mv (v := v8) rfl rfl) rfl ?_; (try simp only [Act.put, List.setIfInBounds_toArray, List.set_cons_zero, List.set_cons_succ]); refine wpList_val (run_mv (v := vw) rfl rfl) rfl ?_; (try simp only [Act.put, List.setIfInBounds_toArray, List.set_cons_zero, List.set_cons_succ]); refine wpList_val (run_mv (v := .int _ _) rfl rfl) rfl ?_; (try simp only [Act.put, List.setIfInBounds_toArray, List.set_cons_zero, List.set_cons_succ]); refine wpList_callR (run_call3 enters_xored rfl rfl rfl rfl rfl) rfl (xored_any _ m vw W (n + 1) _ hX.out hml (HW.out.below hS0.out) hW (by omega)) (fun v9 c9 hR => ?_); (try simp only [Act.put, List.setIfInBounds_toArray, List.set_cons_zero, List.set_cons_succ]); refine wpList_val (run_asg (v := v9) rfl rfl) rfl ?_; (try simp only [Act.put, List.setIfInBounds_toArray, List.set_cons_zero, List.set_cons_succ]); refine wpList_end ?_; have hI : Hid (S5 w v9 (hidI W b (n + 1)) c9) := Lib.hid (by rw [EN.out]; exact hR.mono hS0.out); clear hR; go_wp2_with fail; go_roundw; (case rel => exact ⟨n + 1, by omega, by go_num, hI.out⟩); (case measure => simp [intOf]; omega)
          · have hk3 : ¬ (((n + 1 : Nat) : Int) < 14) := by omega
            rw [if_neg h14] at EN
            have hX := hT
            go_upto_region 12 with fail; refine wp_region_lit ?_; refine wpList_val (run_mv (v := .slice (some _) _ _) rfl rfl) rfl ?_; (try simp only [Act.put, List.setIfInBounds_toArray, List.set_cons_zero, List.set_cons_succ]); refine wpList_val (run_mv (v := vw) rfl rfl) rfl ?_; (try simp only [Act.put, List.setIfInBounds_toArray, List.set_cons_zero, List.set_cons_succ]); refine wpList_val (run_mv (v := .int _ _) rfl rfl) rfl ?_; (try simp only [Act.put, List.setIfInBounds_toArray, List.set_cons_zero, List.set_cons_succ]); refine wpList_callR (run_call3 enters_xored rfl rfl rfl rfl rfl) rfl (xored_any _ t vw W (n + 1) _ hX.out htl (HW.out.below hS0.out) hW (by omega)) (fun v9 c9 hR => ?_); (try simp only [Act.put, List.setIfInBounds_toArray, List.set_cons_zero, List.set_cons_succ]); refine wpList_val (run_asg (v := v9) rfl rfl) rfl ?_; (try simp only [Act.put, List.setIfInBounds_toArray, List.set_cons_zero, List.set_cons_succ]); refine wpList_end ?_; have hI : Hid (S5 w v9 (hidI W b (n + 1)) c9) := Lib.hid (by rw [EN.out]; exact hR.mono hS0.out); clear hR; go_wp2_with fail; go_roundw; (case rel => exact ⟨n + 1, by omega, by go_num, hI.out⟩); (case measure => simp [intOf]; omega)
        · have hk2 : (j : Int) < 16 := by omega
          have C1 : Hid (wr.cell? ⟨gs, fs + (j + 4 * (j % 4)) % 16, none⟩ = some (b8 (s.getD ((j + 4 * (j % 4)) % 16) 0))) := Lib.hid (HRS.out wr hM.out.bl _ (by omega))
          have C2 : Hid (wr.cell? ⟨g, o + (s.getD ((j + 4 * (j % 4)) % 16) 0).toNat, none⟩ = some (b8 (f j))) := Lib.hid (by rw [← EF.out j]; exact HR.out wr (bl0.trans (hM.out.bl.mono bl0.size)) _)
          have hxl := (s.getD ((j + 4 * (j % 4)) % 16) 0).isLt
          generalize s.getD ((j + 4 * (j % 4)) % 16) 0 = x at *
          go_upto_region 9 with fail; refine wp_region_lit ?_
          (repeat ((first | refine wpList_val (run_mv (v := b32 _) rfl rfl) rfl ?_ | refine wpList_val (run_mv (v := b64 _) rfl rfl) rfl ?_ | refine wpList_val (run_mv (v := b8 _) rfl rfl) rfl ?_ | refine wpList_val (run_mv (v := .int _ _) rfl rfl) rfl ?_ | refine wpList_val (run_mv (v := .bool _) rfl rfl) rfl ?_ | refine wpList_val (run_mv (v := .slice (some _) _ _) rfl rfl) rfl ?_ | refine wpList_val (run_mv (v := .slice _ _ _) rfl rfl) rfl ?_ | refine wpList_val (run_mv (v := .pointer (some _)) rfl rfl) rfl ?_ | refine wpList_val (run_mv (v := .agg _) rfl rfl) rfl ?_ | refine wpList_val (run_asg (v := b32 _) rfl rfl) rfl ?_ | refine wpList_val (run_asg (v := b64 _) rfl rfl) rfl ?_ | refine wpList_val (run_asg (v := b8 _) rfl rfl) rfl ?_ | refine wpList_val (run_asg (v := .int _ _) rfl rfl) rfl ?_ | refine wpList_val (run_asg (v := .bool _) rfl rfl) rfl ?_ | refine wpList_val (run_asg (v := .slice (some _) _ _) rfl rfl) rfl ?_ | refine wpList_val (run_asg (v := .slice _ _ _) rfl rfl) rfl ?_ | refine wpList_val (run_asg (v := .pointer (some _)) rfl rfl) rfl ?_ | refine wpList_val (run_asg (v := .agg _) rfl rfl) rfl ?_ | refine wpList_val (run_mv rfl rfl) rfl ?_ | refine wpList_val (run_asg rfl rfl) rfl ?_ | refine wpList_val (run_xor32 rfl rfl rfl) rfl ?_ | refine wpList_val (run_and32 rfl rfl rfl) rfl ?_ | refine wpList_val (run_or32 rfl rfl rfl) rfl ?_ | refine wpList_val (run_add32 rfl rfl rfl) rfl ?_ | refine wpList_val (run_not32 rfl rfl) rfl ?_ | refine wpList_val (run_xor64 rfl rfl rfl) rfl ?_ | refine wpList_val (run_and64 rfl rfl rfl) rfl ?_ | refine wpList_val (run_or64 rfl rfl rfl) rfl ?_ | refine wpList_val (run_add64 rfl rfl rfl) rfl ?_ | refine wpList_val (run_not64 rfl rfl) rfl ?_ | refine wpList_val (run_xor8 rfl rfl rfl) rfl ?_ | refine wpList_val (run_and8 rfl rfl rfl) rfl ?_ | refine wpList_val (run_or8 rfl rfl rfl) rfl ?_ | refine wpList_val (run_add8 rfl rfl rfl) rfl ?_ | refine wpList_val (run_not8 rfl rfl) rfl ?_ | refine wpList_val (run_cv64_32 rfl rfl) rfl ?_ | refine wpList_val (run_cv8_32 rfl rfl) rfl ?_ | refine wpList_val (run_cv8_64 rfl rfl) rfl ?_ | refine wpList_val (run_cv32_8 rfl rfl) rfl ?_ | refine wpList_val (run_cv64_8 rfl rfl) rfl ?_); (try simp only [Act.put, List.setIfInBounds_toArray, List.set_cons_zero, List.set_cons_succ])))
          refine wpList_val (run_remN (b := 4) rfl rfl rfl (by omega)) rfl ?_; (try simp only [Act.put, List.setIfInBounds_toArray, List.set_cons_zero, List.set_cons_succ])
          refine wpList_val (run_mulN (a := 4) rfl rfl rfl (by omega)) rfl ?_; (try simp only [Act.put, List.setIfInBounds_toArray, List.set_cons_zero, List.set_cons_succ])
          refine wpList_val (run_addN rfl rfl rfl (by omega)) rfl ?_; (try simp only [Act.put, List.setIfInBounds_toArray, List.set_cons_zero, List.set_cons_succ])
          refine wpList_val (run_remN (b := 16) rfl rfl rfl (by omega)) rfl ?_; (try simp only [Act.put, List.setIfInBounds_toArray, List.set_cons_zero, List.set_cons_succ])
          refine wpList_val (run_ixs rfl Try.underlying25 (by kernel_rfl) rfl rfl (by omega)) rfl ?_; (try simp only [Act.put, List.setIfInBounds_toArray, List.set_cons_zero, List.set_cons_succ])
          refine wpList_val (run_ld8 rfl rfl C1.out) rfl ?_; (try simp only [Act.put, List.setIfInBounds_toArray, List.set_cons_zero, List.set_cons_succ])
          refine wpList_val (run_ixs rfl Try.underlying25 (by kernel_rfl) rfl rfl hxl) rfl ?_; (try simp only [Act.put, List.setIfInBounds_toArray, List.set_cons_zero, List.set_cons_succ])
          refine wpList_val (run_ld8 rfl rfl C2.out) rfl ?_; (try simp only [Act.put, List.setIfInBounds_toArray, List.set_cons_zero, List.set_cons_succ])
          refine wpList_val (run_ixs rfl Try.underlying25 (by kernel_rfl) rfl rfl (by omega)) rfl ?_; (try simp only [Act.put, List.setIfInBounds_toArray, List.set_cons_zero, List.set_cons_succ])
          rw [Nat.zero_add j]
          refine wpList_skip (run_st8 rfl rfl rfl ((hM.out.get (i := 0) rfl).get8 (by omega)) ((hM.out.get (i := 0) rfl).f _)) rfl rfl ?_
          refine wpList_end ?_
          replace hM : Hid (Ms b0 [(gt, upd f (List.replicate 16 0) (j + 1))] (wr.setCell ⟨gt, j, none⟩ (b8 (f j)))) := Lib.hid (by rw [← upd_set (by rw [List.length_replicate]; omega)]; exact hM.out.set 0 rfl (by omega) (f j))
          generalize wr.setCell ⟨gt, j, none⟩ (b8 (f j)) = b5 at *
          go_wp2_with fail
          go_roundw
          case rel => exact ⟨j + 1, by omega, by go_num, hM.out⟩
          case measure => simp [intOf]; omega
theorem enters_hidden : Enters 31 := enters_of Try.func31 (by kernel_rfl) rfl
set_option maxRecDepth 20000 in
set_option maxHeartbeats 2000000 in
theorem rblock_any (key b : List (BitVec 8)) (w : World) (hK : key.length = 32) (hl : b.length = 16) : Calls Try.prog 19 #[.agg (key.map b8).toArray, .agg (b.map b8).toArray] w fun e w' => e = .returned (.agg ((blockB key b).map b8).toArray) ∧ Below w.heap.size w w' := by
  have hM := Lib.hid (Ms.nil w)
  have hsl := sched_len hK
  have hbl := blockB_len key b
  have EX : Hid (blockB key b = hideB (sched key) b) := Lib.hid rfl
  rw [EX.out] at hbl
  go_enter Try.func19, Try.ntmps19
  go_upto_region 0 with fail; refine wp_region_lit ?_
  refine wpList_val (run_box rfl rfl) rfl ?_; (try simp only [Act.put, List.setIfInBounds_toArray, List.set_cons_zero, List.set_cons_succ]); replace hM := Lib.hid (hM.out.new (key) 23); generalize w.alloc (.cells ((key).map b8).toArray 23) = a1 at *; generalize w.heap.size = g1 at *
  refine wpList_val (run_box rfl rfl) rfl ?_; (try simp only [Act.put, List.setIfInBounds_toArray, List.set_cons_zero, List.set_cons_succ]); replace hM := Lib.hid (hM.out.new (b) 24); generalize a1.alloc (.cells ((b).map b8).toArray 24) = a2 at *; generalize a1.heap.size = g2 at *
  refine wpList_val (run_alc (vs := z8 16) rfl (by kernel_rfl)) rfl ?_; (try simp only [Act.put, List.setIfInBounds_toArray, List.set_cons_zero, List.set_cons_succ]); replace hM := Lib.hid (hM.out.newZ 16 24); generalize a2.alloc (.cells (z8 16).toArray 24) = a3 at *; generalize a2.heap.size = g3 at *
  refine wpList_end ?_
  go_upto_region 1 with fail; refine wp_region_lit ?_
  refine wpList_callR (run_call0 enters_boxes rfl rfl) rfl (boxes_any _) (fun v1 a4 hR => ?_); (try simp only [Act.put, List.setIfInBounds_toArray, List.set_cons_zero, List.set_cons_succ])
  replace hM := Lib.hid (hM.out.below hR.bl)
  have HB := Lib.hid hR.sl
  clear hR
  refine wpList_val (run_asg (v := v1) rfl rfl) rfl ?_; (try simp only [Act.put, List.setIfInBounds_toArray, List.set_cons_zero, List.set_cons_succ])
  refine wpList_end ?_
  go_upto_region 2 with fail
  refine wp_region_noPanic ?_; refine wp_region_late (S := Till 8 (fun V => Below a4.heap.size a4 V)) (by kernel_rfl) (.inr (Below.refl _ _).drew) (fun _ => ?_); have hS : Below a4.heap.size a4 a4.drew := (Below.refl _ _).drew
  generalize a4.drew = b1 at *
  refine wpAnyD_take 0 rfl rfl (by kernel_rfl) (by kernel_rfl) (by kernel_rfl) (by kernel_rfl) (by kernel_rfl) (fun _ _ _ h => h) rfl (fun V hV => run_mv (v := v1) rfl rfl) hS ?_; (try simp only [Act.put, List.setIfInBounds_toArray, List.set_cons_zero, List.set_cons_succ])
  refine wpAnyD_take 1 rfl rfl (by kernel_rfl) (by kernel_rfl) (by kernel_rfl) (by kernel_rfl) (by kernel_rfl) (fun _ _ _ h => h) rfl (fun V hV => run_mv (v := v1) rfl rfl) hS ?_; (try simp only [Act.put, List.setIfInBounds_toArray, List.set_cons_zero, List.set_cons_succ])
  refine wpAnyD_take 2 rfl rfl (by kernel_rfl) (by kernel_rfl) (by kernel_rfl) (by kernel_rfl) (by kernel_rfl) (fun _ _ _ h => h) rfl (fun V hV => run_ldM (vs := key.map b8) rfl Try.underlying23 rfl (sz szKey hK) rfl ((hM.out.below hV).get (i := 2) rfl).range) hS ?_; (try simp only [Act.put, List.setIfInBounds_toArray, List.set_cons_zero, List.set_cons_succ])
  refine wpAnyD_take 4 rfl rfl (by kernel_rfl) (by kernel_rfl) (by kernel_rfl) (by kernel_rfl) (by kernel_rfl) (fun _ _ _ h => h) rfl (fun V hV => run_ldM (vs := b.map b8) rfl Try.underlying24 rfl (sz sz16 hl) rfl ((hM.out.below hV).get (i := 1) rfl).range) hS ?_; (try simp only [Act.put, List.setIfInBounds_toArray, List.set_cons_zero, List.set_cons_succ])
  refine wpAnyD_callR 3 (by kernel_rfl) rfl rfl rfl (run_call2 enters_expanded rfl rfl rfl rfl) (expanded_any v1 key _ (HB.out.below hS) hK) (fun v w' hR => hS.trans (hR.bl.mono hS.size)) (fun v2 b2 hR => ?_); (try simp only [Act.put, List.setIfInBounds_toArray, List.set_cons_zero, List.set_cons_succ])
  replace hS := hS.trans (hR.bl.mono hS.size)
  have H2 := Lib.hid hR.sl
  clear hR
  generalize sched key = W at *
  refine wpAnyD_callR 5 (by kernel_rfl) rfl rfl rfl (run_call1 enters_of' rfl rfl rfl) (of_any b _ hl) (fun v w' hR => hS.trans (hR.bl.mono hS.size)) (fun v3 b3 hR => ?_); (try simp only [Act.put, List.setIfInBounds_toArray, List.set_cons_zero, List.set_cons_succ])
  replace hS := hS.trans (hR.bl.mono hS.size)
  replace H2 := Lib.hid (H2.out.below hR.bl)
  have H3 := Lib.hid hR.sl
  clear hR
  refine wpAnyD_callR 6 (by kernel_rfl) rfl rfl rfl (run_call3 enters_hidden rfl rfl rfl rfl rfl) (hidden_any v1 v2 W v3 b _ (HB.out.below hS) H2.out hsl H3.out hl) (fun v w' hR => hS.trans (hR.bl.mono hS.size)) (fun v4 b4 hR => ?_); (try simp only [Act.put, List.setIfInBounds_toArray, List.set_cons_zero, List.set_cons_succ])
  replace hS := hS.trans (hR.bl.mono hS.size)
  have H4 := Lib.hid hR.sl
  clear hR
  generalize hideB W b = r at *
  refine wpAnyD_call 7 (by kernel_rfl) rfl rfl rfl (run_call1 enters_to rfl rfl rfl) (to_any v4 r _ H4.out hbl) (fun w hb => hS.trans (hb.mono hS.size)) (fun b5 hb => ?_); replace hS := hS.trans (hb.mono hS.size); clear hb; (try simp only [Act.put, List.setIfInBounds_toArray, List.set_cons_zero, List.set_cons_succ])
  replace hM := Lib.hid (hM.out.below hS)
  refine wpAnyL_skip 8 (by kernel_rfl) rfl rfl rfl (run_stA (vs := r.map b8) rfl (sz sz16 hbl) rfl rfl (oneB _) ((hM.out.get (i := 0) rfl).there8 (by rw [hbl, List.length_replicate]))) (.inl rfl) ?_
  refine wpAnyL_done (by kernel_rfl) ?_ _; refine NoPanic.normal ?_
  replace hM := Lib.hid (hM.out.put 0 rfl (m := r) (by rw [hbl, List.length_replicate]))
  go_wp2_with fail
  refine bodyPost_ret (v := .agg (r.map b8).toArray) (results_row Try.results19 rfl Try.underlying24 rfl (sz sz16 hbl) (hM.out.get (i := 0) rfl).range) rfl ⟨by rw [EX.out], hM.out.bl⟩
theorem enters_rblock : Enters 19 := enters_of Try.func19 (by kernel_rfl) rfl
end Go.Proofs.Ytlfggmdlgeakeaa
