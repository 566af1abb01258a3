/- What the reference's Boxes, Unbox, of, to, xored and mixed do. -/
import Derived.Test.YtlfggmdlgeakeaaAesRefM
import Derived.Test.YtlfggmdlgeakeaaAppW
namespace Go.Proofs.Ytlfggmdlgeakeaa
open Go.RowKit

theorem tab_succ (k : Nat) (f : Nat → BitVec 8) : tab (k + 1) f = tab k f ++ [f k] := by simp [tab, List.range_succ]
/-- A slice that holds something: where it lies, and what is read of it from now on. -/
theorem Sl.rd {v : Value} {l : List (BitVec 8)} {w : World} (h : Sl v l w) (hn : 0 < l.length) : ∃ g f c, v = .slice (some ⟨g, f, none⟩) l.length c ∧ ∀ V, Below w.heap.size w V → ∀ i, i < l.length → V.cell? ⟨g, f + i, none⟩ = some (b8 (l.getD i 0)) := by
  obtain ⟨g, f, c, e, hg, hr⟩ := h.adr hn
  exact ⟨g, f, c, e, fun V hV i hi => rangeAt_below hr hg hV _ _ (get_map b8 0 hi)⟩
set_option maxRecDepth 20000 in
set_option maxHeartbeats 2000000 in
theorem boxes_any (w : World) : Calls Try.prog 29 #[] w fun e w' => ∃ v', e = .returned v' ∧ S5 w v' bxL w' := by
  obtain ⟨f, hf⟩ : ∃ f : Nat → BitVec 8, f = fun i => bx (BitVec.ofNat 8 i) := ⟨_, rfl⟩
  have EF : Hid (∀ i, bx (BitVec.ofNat 8 i) = f i) := Lib.hid fun i => by rw [hf]
  have EX : Hid (bxL = tab 256 f) := Lib.hid (by rw [hf]; rfl)
  clear hf
  have hI : Hid (S5 w (.slice none 0 0) (tab 0 f) w) := Lib.hid (S5.none w)
  go_enter Try.func29, Try.ntmps29
  go_upto_region 1 with fail; refine wp_region_lit ?_
  refine wpList_val (run_asg (v := .slice none 0 0) rfl rfl) rfl ?_; (try simp only [Act.put, List.setIfInBounds_toArray, List.set_cons_zero, List.set_cons_succ])
  refine wpList_end ?_
  go_wp2_with fail
  go_loopw [1, 2] (fun s1 s2 u => ∃ k : Nat, k ≤ 256 ∧ s2 = .int .i64 (k : Int) ∧ S5 w s1 (tab k f) u) (fun _ s _ => (256 - intOf s).toNat)
  case atStart => exact ⟨0, by omega, rfl, hI.out⟩
  case round =>
    obtain ⟨k, hk, rfl, hJ⟩ := hrel
    replace hI := Lib.hid hJ
    clear hJ
    have htl := tab_len k f
    by_cases hlt : k = 256
    · subst hlt
      have hk1 : ¬ (((256 : Nat) : Int) < 256) := by omega
      generalize tab 256 f = r at *
      go_upto_region 6 with fail; refine wp_region_lit ?_
      refine wpList_val (run_mv (v := u1) rfl rfl) rfl ?_; (try simp only [Act.put, List.setIfInBounds_toArray, List.set_cons_zero, List.set_cons_succ])
      refine wpList_val (run_asg (v := u1) rfl rfl) rfl ?_; (try simp only [Act.put, List.setIfInBounds_toArray, List.set_cons_zero])
      refine wpList_end ?_
      go_wp2_with fail
      refine bodyPost_ret (results_tmp Try.results29 _ _ _) rfl ⟨_, rfl, ?_⟩
      rw [EX.out]; exact hI.out
    · have hk1 : (k : Int) < 256 := by omega
      have HT := Lib.hid (tab_succ k f)
      generalize tab k f = T at *
      go_upto_region 5 with fail; refine wp_region_lit ?_
      refine wpList_val (run_mv (v := u1) rfl rfl) rfl ?_; (try simp only [Act.put, List.setIfInBounds_toArray, List.set_cons_zero, List.set_cons_succ])
      (repeat ((first | refine wpList_val (run_mv (v := b32 _) rfl rfl) rfl ?_ | refine wpList_val (run_mv (v := b64 _) rfl rfl) rfl ?_ | refine wpList_val (run_mv (v := b8 _) rfl rfl) rfl ?_ | refine wpList_val (run_mv (v := .int _ _) rfl rfl) rfl ?_ | refine wpList_val (run_mv (v := .bool _) rfl rfl) rfl ?_ | refine wpList_val (run_mv (v := .slice (some _) _ _) rfl rfl) rfl ?_ | refine wpList_val (run_mv (v := .slice _ _ _) rfl rfl) rfl ?_ | refine wpList_val (run_mv (v := .pointer (some _)) rfl rfl) rfl ?_ | refine wpList_val (run_mv (v := .agg _) rfl rfl) rfl ?_ | refine wpList_val (run_asg (v := b32 _) rfl rfl) rfl ?_ | refine wpList_val (run_asg (v := b64 _) rfl rfl) rfl ?_ | refine wpList_val (run_asg (v := b8 _) rfl rfl) rfl ?_ | refine wpList_val (run_asg (v := .int _ _) rfl rfl) rfl ?_ | refine wpList_val (run_asg (v := .bool _) rfl rfl) rfl ?_ | refine wpList_val (run_asg (v := .slice (some _) _ _) rfl rfl) rfl ?_ | refine wpList_val (run_asg (v := .slice _ _ _) rfl rfl) rfl ?_ | refine wpList_val (run_asg (v := .pointer (some _)) rfl rfl) rfl ?_ | refine wpList_val (run_asg (v := .agg _) rfl rfl) rfl ?_ | refine wpList_val (run_mv rfl rfl) rfl ?_ | refine wpList_val (run_asg rfl rfl) rfl ?_ | refine wpList_val (run_xor32 rfl rfl rfl) rfl ?_ | refine wpList_val (run_and32 rfl rfl rfl) rfl ?_ | refine wpList_val (run_or32 rfl rfl rfl) rfl ?_ | refine wpList_val (run_add32 rfl rfl rfl) rfl ?_ | refine wpList_val (run_not32 rfl rfl) rfl ?_ | refine wpList_val (run_xor64 rfl rfl rfl) rfl ?_ | refine wpList_val (run_and64 rfl rfl rfl) rfl ?_ | refine wpList_val (run_or64 rfl rfl rfl) rfl ?_ | refine wpList_val (run_add64 rfl rfl rfl) rfl ?_ | refine wpList_val (run_not64 rfl rfl) rfl ?_ | refine wpList_val (run_xor8 rfl rfl rfl) rfl ?_ | refine wpList_val (run_and8 rfl rfl rfl) rfl ?_ | refine wpList_val (run_or8 rfl rfl rfl) rfl ?_ | refine wpList_val (run_add8 rfl rfl rfl) rfl ?_ | refine wpList_val (run_not8 rfl rfl) rfl ?_ | refine wpList_val (run_cv64_32 rfl rfl) rfl ?_ | refine wpList_val (run_cv8_32 rfl rfl) rfl ?_ | refine wpList_val (run_cv8_64 rfl rfl) rfl ?_ | refine wpList_val (run_cv32_8 rfl rfl) rfl ?_ | refine wpList_val (run_cv64_8 rfl rfl) rfl ?_); (try simp only [Act.put, List.setIfInBounds_toArray, List.set_cons_zero, List.set_cons_succ])))
      refine wpList_val (run_cvi_8 rfl rfl) rfl ?_; (try simp only [Act.put, List.setIfInBounds_toArray, List.set_cons_zero, List.set_cons_succ])
      refine wpList_still (run_call1 enters_rbox rfl rfl rfl) rfl (rbox_any _ _) ?_; (try simp only [Act.put, List.setIfInBounds_toArray, List.set_cons_zero, List.set_cons_succ])
      rw [rbx_eq, EF.out]
      generalize f k = x at *
      refine wpList_val (run_bsl (cells := #[b8 (x)]) (z := .int .u8 0) rfl Try.underlying25 (by kernel_rfl) (by omega) (by omega) (by kernel_rfl)) rfl ?_; (try simp only [Act.put, List.setIfInBounds_toArray, List.set_cons_zero, List.set_cons_succ]); have hb2 : Below wr.heap.size wr (wr.alloc (.cells #[b8 (x)] 5)) := (Below.refl _ _).alloc (Nat.le_refl _) _; have A2 : Hid (Arr wr.heap.size ([x].map b8) (wr.alloc (.cells #[b8 (x)] 5))) := Lib.hid (Arr.new wr _ _); replace hI := Lib.hid (hI.out.below hb2); clear hb2; generalize wr.alloc (.cells #[b8 (x)] 5) = ua at *; refine wpList_app (f := b8) (fun _ => rfl) (l := T) (m := [x]) (bw := 1) (z := .int .u8 0) rfl rfl Try.underlying25 (by kernel_rfl) rfl (by omega) rfl hI.out.O rfl A2.out.range (by show T.length + 1 ≤ _; omega) hI.out.bl.size (fun v2 c2 h3 hb3 => ?_); (try simp only [Act.put, List.setIfInBounds_toArray, List.set_cons_zero, List.set_cons_succ]); replace hI : Hid (S5 _ v2 (T ++ [x]) c2) := Lib.hid ⟨hI.out.bl.trans hb3, by rw [List.length_append]; exact h3⟩; clear h3 hb3 A2; clear ua; refine wpList_val (run_asg (v := v2) rfl rfl) rfl ?_; (try simp only [Act.put, List.setIfInBounds_toArray, List.set_cons_zero, List.set_cons_succ]); refine wpList_end ?_
      rw [← HT.out] at hI
      go_wp2_with fail
      go_roundw
      case rel => exact ⟨k + 1, by omega, by go_num, hI.out⟩
      case measure => simp [intOf]; omega
theorem enters_boxes : Enters 29 := enters_of Try.func29 (by kernel_rfl) rfl
set_option maxRecDepth 20000 in
set_option maxHeartbeats 2000000 in
theorem runbox_any (b : BitVec 8) (w : World) : Calls Try.prog 18 #[b8 b] w fun e w' => e = .returned (b8 (ub b)) ∧ Below w.heap.size w w' := by
  have hq := (ub b).isLt
  have HU : Hid (∀ i, i < 256 → bxL.getD i 0 = b → ub b = BitVec.ofNat 8 i) := Lib.hid fun i hi h => by
    rw [bxL, tab_get _ hi] at h
    rw [← h, ub_bx]
  have HL : Hid (bxL.getD (ub b).toNat 0 = b) := Lib.hid (by rw [bxL_get, bx_ub])
  obtain ⟨L, hL⟩ : ∃ L, L = bxL := ⟨_, rfl⟩
  have hll : L.length = 256 := by rw [hL, bxL_len]
  have HB : Hid (∀ w, Calls Try.prog 29 #[] w fun e w' => ∃ v', e = .returned v' ∧ S5 w v' L w') := Lib.hid fun w => by rw [hL]; exact boxes_any w
  rw [← hL] at HU HL
  clear hL
  go_enter Try.func18, Try.ntmps18
  go_upto_region 1 with fail; refine wp_region_lit ?_
  refine wpList_callR (run_call0 enters_boxes rfl rfl) rfl (HB.out _) (fun v1 a1 hR => ?_); (try simp only [Act.put, List.setIfInBounds_toArray, List.set_cons_zero, List.set_cons_succ])
  have hb1 := hR.bl
  obtain ⟨g, f, c, rfl, hrd⟩ := hR.sl.rd (by omega)
  have HR := Lib.hid hrd
  clear hrd hR
  refine wpList_val (run_asg (v := .slice (some _) _ _) rfl rfl) rfl ?_; (try simp only [Act.put, List.setIfInBounds_toArray, List.set_cons_zero, List.set_cons_succ])
  refine wpList_end ?_
  go_wp2_with fail
  go_loopw [4] (fun s u => ∃ i : Nat, i ≤ 256 ∧ s = .int .i64 (i : Int) ∧ (∀ j, j < i → L.getD j 0 ≠ b) ∧ Below a1.heap.size a1 u) (fun s _ => (256 - intOf s).toNat)
  case atStart => exact ⟨0, by omega, rfl, fun j h => absurd h (Nat.not_lt_zero _), Below.refl _ _⟩
  case round =>
    obtain ⟨i, hi, rfl, hno, bl⟩ := hrel
    have hi2 : i < 256 := by
      rcases Nat.lt_or_ge i 256 with h | h
      · exact h
      · exact absurd HL.out (hno _ (by omega))
    have hk1 : (i : Int) < 256 := by omega
    go_upto_region 5 with fail; refine wp_region_lit ?_
    (repeat ((first | refine wpList_val (run_mv (v := b32 _) rfl rfl) rfl ?_ | refine wpList_val (run_mv (v := b64 _) rfl rfl) rfl ?_ | refine wpList_val (run_mv (v := b8 _) rfl rfl) rfl ?_ | refine wpList_val (run_mv (v := .int _ _) rfl rfl) rfl ?_ | refine wpList_val (run_mv (v := .bool _) rfl rfl) rfl ?_ | refine wpList_val (run_mv (v := .slice (some _) _ _) rfl rfl) rfl ?_ | refine wpList_val (run_mv (v := .slice _ _ _) rfl rfl) rfl ?_ | refine wpList_val (run_mv (v := .pointer (some _)) rfl rfl) rfl ?_ | refine wpList_val (run_mv (v := .agg _) rfl rfl) rfl ?_ | refine wpList_val (run_asg (v := b32 _) rfl rfl) rfl ?_ | refine wpList_val (run_asg (v := b64 _) rfl rfl) rfl ?_ | refine wpList_val (run_asg (v := b8 _) rfl rfl) rfl ?_ | refine wpList_val (run_asg (v := .int _ _) rfl rfl) rfl ?_ | refine wpList_val (run_asg (v := .bool _) rfl rfl) rfl ?_ | refine wpList_val (run_asg (v := .slice (some _) _ _) rfl rfl) rfl ?_ | refine wpList_val (run_asg (v := .slice _ _ _) rfl rfl) rfl ?_ | refine wpList_val (run_asg (v := .pointer (some _)) rfl rfl) rfl ?_ | refine wpList_val (run_asg (v := .agg _) rfl rfl) rfl ?_ | refine wpList_val (run_mv rfl rfl) rfl ?_ | refine wpList_val (run_asg rfl rfl) rfl ?_ | refine wpList_val (run_xor32 rfl rfl rfl) rfl ?_ | refine wpList_val (run_and32 rfl rfl rfl) rfl ?_ | refine wpList_val (run_or32 rfl rfl rfl) rfl ?_ | refine wpList_val (run_add32 rfl rfl rfl) rfl ?_ | refine wpList_val (run_not32 rfl rfl) rfl ?_ | refine wpList_val (run_xor64 rfl rfl rfl) rfl ?_ | refine wpList_val (run_and64 rfl rfl rfl) rfl ?_ | refine wpList_val (run_or64 rfl rfl rfl) rfl ?_ | refine wpList_val (run_add64 rfl rfl rfl) rfl ?_ | refine wpList_val (run_not64 rfl rfl) rfl ?_ | refine wpList_val (run_xor8 rfl rfl rfl) rfl ?_ | refine wpList_val (run_and8 rfl rfl rfl) rfl ?_ | refine wpList_val (run_or8 rfl rfl rfl) rfl ?_ | refine wpList_val (run_add8 rfl rfl rfl) rfl ?_ | refine wpList_val (run_not8 rfl rfl) rfl ?_ | refine wpList_val (run_cv64_32 rfl rfl) rfl ?_ | refine wpList_val (run_cv8_32 rfl rfl) rfl ?_ | refine wpList_val (run_cv8_64 rfl rfl) rfl ?_ | refine wpList_val (run_cv32_8 rfl rfl) rfl ?_ | refine wpList_val (run_cv64_8 rfl rfl) rfl ?_); (try simp only [Act.put, List.setIfInBounds_toArray, List.set_cons_zero, List.set_cons_succ])))
    refine wpList_val (run_ixs rfl Try.underlying25 (by kernel_rfl) rfl rfl (by omega)) rfl ?_; (try simp only [Act.put, List.setIfInBounds_toArray, List.set_cons_zero, List.set_cons_succ])
    refine wpList_val (run_ld8 rfl rfl (HR.out _ bl i (by omega))) rfl ?_; (try simp only [Act.put, List.setIfInBounds_toArray, List.set_cons_zero, List.set_cons_succ])
    (repeat ((first | refine wpList_val (run_mv (v := b32 _) rfl rfl) rfl ?_ | refine wpList_val (run_mv (v := b64 _) rfl rfl) rfl ?_ | refine wpList_val (run_mv (v := b8 _) rfl rfl) rfl ?_ | refine wpList_val (run_mv (v := .int _ _) rfl rfl) rfl ?_ | refine wpList_val (run_mv (v := .bool _) rfl rfl) rfl ?_ | refine wpList_val (run_mv (v := .slice (some _) _ _) rfl rfl) rfl ?_ | refine wpList_val (run_mv (v := .slice _ _ _) rfl rfl) rfl ?_ | refine wpList_val (run_mv (v := .pointer (some _)) rfl rfl) rfl ?_ | refine wpList_val (run_mv (v := .agg _) rfl rfl) rfl ?_ | refine wpList_val (run_asg (v := b32 _) rfl rfl) rfl ?_ | refine wpList_val (run_asg (v := b64 _) rfl rfl) rfl ?_ | refine wpList_val (run_asg (v := b8 _) rfl rfl) rfl ?_ | refine wpList_val (run_asg (v := .int _ _) rfl rfl) rfl ?_ | refine wpList_val (run_asg (v := .bool _) rfl rfl) rfl ?_ | refine wpList_val (run_asg (v := .slice (some _) _ _) rfl rfl) rfl ?_ | refine wpList_val (run_asg (v := .slice _ _ _) rfl rfl) rfl ?_ | refine wpList_val (run_asg (v := .pointer (some _)) rfl rfl) rfl ?_ | refine wpList_val (run_asg (v := .agg _) rfl rfl) rfl ?_ | refine wpList_val (run_mv rfl rfl) rfl ?_ | refine wpList_val (run_asg rfl rfl) rfl ?_ | refine wpList_val (run_xor32 rfl rfl rfl) rfl ?_ | refine wpList_val (run_and32 rfl rfl rfl) rfl ?_ | refine wpList_val (run_or32 rfl rfl rfl) rfl ?_ | refine wpList_val (run_add32 rfl rfl rfl) rfl ?_ | refine wpList_val (run_not32 rfl rfl) rfl ?_ | refine wpList_val (run_xor64 rfl rfl rfl) rfl ?_ | refine wpList_val (run_and64 rfl rfl rfl) rfl ?_ | refine wpList_val (run_or64 rfl rfl rfl) rfl ?_ | refine wpList_val (run_add64 rfl rfl rfl) rfl ?_ | refine wpList_val (run_not64 rfl rfl) rfl ?_ | refine wpList_val (run_xor8 rfl rfl rfl) rfl ?_ | refine wpList_val (run_and8 rfl rfl rfl) rfl ?_ | refine wpList_val (run_or8 rfl rfl rfl) rfl ?_ | refine wpList_val (run_add8 rfl rfl rfl) rfl ?_ | refine wpList_val (run_not8 rfl rfl) rfl ?_ | refine wpList_val (run_cv64_32 rfl rfl) rfl ?_ | refine wpList_val (run_cv8_32 rfl rfl) rfl ?_ | refine wpList_val (run_cv8_64 rfl rfl) rfl ?_ | refine wpList_val (run_cv32_8 rfl rfl) rfl ?_ | refine wpList_val (run_cv64_8 rfl rfl) rfl ?_); (try simp only [Act.put, List.setIfInBounds_toArray, List.set_cons_zero, List.set_cons_succ])))
    by_cases he : L.getD i 0 = b
    · have EU := Lib.hid (HU.out i hi2 he)
      refine wpList_val (run_eqv8 (c := true) rfl rfl rfl (decide_eq_true he)) rfl ?_; (try simp only [Act.put, List.setIfInBounds_toArray, List.set_cons_zero, List.set_cons_succ])
      refine wpList_end ?_
      go_upto_region 6 with fail; refine wp_region_lit ?_
      (repeat ((first | refine wpList_val (run_mv (v := b32 _) rfl rfl) rfl ?_ | refine wpList_val (run_mv (v := b64 _) rfl rfl) rfl ?_ | refine wpList_val (run_mv (v := b8 _) rfl rfl) rfl ?_ | refine wpList_val (run_mv (v := .int _ _) rfl rfl) rfl ?_ | refine wpList_val (run_mv (v := .bool _) rfl rfl) rfl ?_ | refine wpList_val (run_mv (v := .slice (some _) _ _) rfl rfl) rfl ?_ | refine wpList_val (run_mv (v := .slice _ _ _) rfl rfl) rfl ?_ | refine wpList_val (run_mv (v := .pointer (some _)) rfl rfl) rfl ?_ | refine wpList_val (run_mv (v := .agg _) rfl rfl) rfl ?_ | refine wpList_val (run_asg (v := b32 _) rfl rfl) rfl ?_ | refine wpList_val (run_asg (v := b64 _) rfl rfl) rfl ?_ | refine wpList_val (run_asg (v := b8 _) rfl rfl) rfl ?_ | refine wpList_val (run_asg (v := .int _ _) rfl rfl) rfl ?_ | refine wpList_val (run_asg (v := .bool _) rfl rfl) rfl ?_ | refine wpList_val (run_asg (v := .slice (some _) _ _) rfl rfl) rfl ?_ | refine wpList_val (run_asg (v := .slice _ _ _) rfl rfl) rfl ?_ | refine wpList_val (run_asg (v := .pointer (some _)) rfl rfl) rfl ?_ | refine wpList_val (run_asg (v := .agg _) rfl rfl) rfl ?_ | refine wpList_val (run_mv rfl rfl) rfl ?_ | refine wpList_val (run_asg rfl rfl) rfl ?_ | refine wpList_val (run_xor32 rfl rfl rfl) rfl ?_ | refine wpList_val (run_and32 rfl rfl rfl) rfl ?_ | refine wpList_val (run_or32 rfl rfl rfl) rfl ?_ | refine wpList_val (run_add32 rfl rfl rfl) rfl ?_ | refine wpList_val (run_not32 rfl rfl) rfl ?_ | refine wpList_val (run_xor64 rfl rfl rfl) rfl ?_ | refine wpList_val (run_and64 rfl rfl rfl) rfl ?_ | refine wpList_val (run_or64 rfl rfl rfl) rfl ?_ | refine wpList_val (run_add64 rfl rfl rfl) rfl ?_ | refine wpList_val (run_not64 rfl rfl) rfl ?_ | refine wpList_val (run_xor8 rfl rfl rfl) rfl ?_ | refine wpList_val (run_and8 rfl rfl rfl) rfl ?_ | refine wpList_val (run_or8 rfl rfl rfl) rfl ?_ | refine wpList_val (run_add8 rfl rfl rfl) rfl ?_ | refine wpList_val (run_not8 rfl rfl) rfl ?_ | refine wpList_val (run_cv64_32 rfl rfl) rfl ?_ | refine wpList_val (run_cv8_32 rfl rfl) rfl ?_ | refine wpList_val (run_cv8_64 rfl rfl) rfl ?_ | refine wpList_val (run_cv32_8 rfl rfl) rfl ?_ | refine wpList_val (run_cv64_8 rfl rfl) rfl ?_); (try simp only [Act.put, List.setIfInBounds_toArray, List.set_cons_zero, List.set_cons_succ])))
      refine wpList_val (run_cvi_8 rfl rfl) rfl ?_; (try simp only [Act.put, List.setIfInBounds_toArray, List.set_cons_zero, List.set_cons_succ])
      rw [← EU.out]
      (repeat ((first | refine wpList_val (run_mv (v := b32 _) rfl rfl) rfl ?_ | refine wpList_val (run_mv (v := b64 _) rfl rfl) rfl ?_ | refine wpList_val (run_mv (v := b8 _) rfl rfl) rfl ?_ | refine wpList_val (run_mv (v := .int _ _) rfl rfl) rfl ?_ | refine wpList_val (run_mv (v := .bool _) rfl rfl) rfl ?_ | refine wpList_val (run_mv (v := .slice (some _) _ _) rfl rfl) rfl ?_ | refine wpList_val (run_mv (v := .slice _ _ _) rfl rfl) rfl ?_ | refine wpList_val (run_mv (v := .pointer (some _)) rfl rfl) rfl ?_ | refine wpList_val (run_mv (v := .agg _) rfl rfl) rfl ?_ | refine wpList_val (run_asg (v := b32 _) rfl rfl) rfl ?_ | refine wpList_val (run_asg (v := b64 _) rfl rfl) rfl ?_ | refine wpList_val (run_asg (v := b8 _) rfl rfl) rfl ?_ | refine wpList_val (run_asg (v := .int _ _) rfl rfl) rfl ?_ | refine wpList_val (run_asg (v := .bool _) rfl rfl) rfl ?_ | refine wpList_val (run_asg (v := .slice (some _) _ _) rfl rfl) rfl ?_ | refine wpList_val (run_asg (v := .slice _ _ _) rfl rfl) rfl ?_ | refine wpList_val (run_asg (v := .pointer (some _)) rfl rfl) rfl ?_ | refine wpList_val (run_asg (v := .agg _) rfl rfl) rfl ?_ | refine wpList_val (run_mv rfl rfl) rfl ?_ | refine wpList_val (run_asg rfl rfl) rfl ?_ | refine wpList_val (run_xor32 rfl rfl rfl) rfl ?_ | refine wpList_val (run_and32 rfl rfl rfl) rfl ?_ | refine wpList_val (run_or32 rfl rfl rfl) rfl ?_ | refine wpList_val (run_add32 rfl rfl rfl) rfl ?_ | refine wpList_val (run_not32 rfl rfl) rfl ?_ | refine wpList_val (run_xor64 rfl rfl rfl) rfl ?_ | refine wpList_val (run_and64 rfl rfl rfl) rfl ?_ | refine wpList_val (run_or64 rfl rfl rfl) rfl ?_ | refine wpList_val (run_add64 rfl rfl rfl) rfl ?_ | refine wpList_val (run_not64 rfl rfl) rfl ?_ | refine wpList_val (run_xor8 rfl rfl rfl) rfl ?_ | refine wpList_val (run_and8 rfl rfl rfl) rfl ?_ | refine wpList_val (run_or8 rfl rfl rfl) rfl ?_ | refine wpList_val (run_add8 rfl rfl rfl) rfl ?_ | refine wpList_val (run_not8 rfl rfl) rfl ?_ | refine wpList_val (run_cv64_32 rfl rfl) rfl ?_ | refine wpList_val (run_cv8_32 rfl rfl) rfl ?_ | refine wpList_val (run_cv8_64 rfl rfl) rfl ?_ | refine wpList_val (run_cv32_8 rfl rfl) rfl ?_ | refine wpList_val (run_cv64_8 rfl rfl) rfl ?_); (try simp only [Act.put, List.setIfInBounds_toArray, List.set_cons_zero, List.set_cons_succ])))
      refine wpList_end ?_
      go_wp2_with fail
      go_ret
      exact ⟨rfl, hb1.trans (bl.mono hb1.size)⟩
    · have hno2 : ∀ j, j < i + 1 → L.getD j 0 ≠ b := fun j hj => by
        by_cases e : j = i
        · rw [e]; exact he
        · exact hno j (by omega)
      refine wpList_val (run_eqv8 (c := false) rfl rfl rfl (decide_eq_false he)) rfl ?_; (try simp only [Act.put, List.setIfInBounds_toArray, List.set_cons_zero, List.set_cons_succ])
      refine wpList_end ?_
      clear hno
      have HNO := Lib.hid hno2
      clear hno2
      go_wp2_with fail
      go_roundw
      case rel => exact ⟨i + 1, by omega, by go_num, HNO.out, bl⟩
      case measure => simp [intOf]; omega
theorem enters_runbox : Enters 18 := enters_of Try.func18 (by kernel_rfl) rfl
set_option maxRecDepth 20000 in
set_option maxHeartbeats 2000000 in
theorem of_any (b : List (BitVec 8)) (w : World) (hl : b.length = 16) : Calls Try.prog 33 #[.agg (b.map b8).toArray] w fun e w' => ∃ v', e = .returned v' ∧ S5 w v' b w' := by
  have hM := Lib.hid (Ms.nil w)
  obtain ⟨f, hf⟩ : ∃ f : Nat → BitVec 8, f = fun i => b.getD i 0 := ⟨_, rfl⟩
  have EF : Hid (∀ i, b.getD i 0 = f i) := Lib.hid fun i => by rw [hf]
  have EX : Hid (b = tab 16 f) := Lib.hid (by rw [hf, tab_self hl])
  clear hf
  go_enter Try.func33, Try.ntmps33
  go_upto_region 0 with fail; refine wp_region_lit ?_
  refine wpList_val (run_box rfl rfl) rfl ?_; (try simp only [Act.put, List.setIfInBounds_toArray, List.set_cons_zero, List.set_cons_succ]); replace hM := Lib.hid (hM.out.new (b) 24); generalize w.alloc (.cells ((b).map b8).toArray 24) = a1 at *; generalize w.heap.size = g1 at *
  refine wpList_val (run_asg (v := .slice none 0 0) rfl rfl) rfl ?_; (try simp only [Act.put, List.setIfInBounds_toArray, List.set_cons_zero, List.set_cons_succ])
  refine wpList_end ?_
  have hI : Hid (S5 a1 (.slice none 0 0) (tab 0 f) a1) := Lib.hid (S5.none a1)
  go_upto_region 1 with fail; refine wp_region_lit ?_
  refine wpList_val (run_asg (v := .slice none 0 0) rfl rfl) rfl ?_; (try simp only [Act.put, List.setIfInBounds_toArray, List.set_cons_zero, List.set_cons_succ])
  refine wpList_end ?_
  go_wp2_with fail
  go_loopw [3, 4] (fun s1 s2 u => ∃ k : Nat, k ≤ 16 ∧ s2 = .int .i64 (k : Int) ∧ S5 a1 s1 (tab k f) u) (fun _ s _ => (16 - intOf s).toNat)
  case atStart => exact ⟨0, by omega, rfl, hI.out⟩
  case round =>
    obtain ⟨k, hk, rfl, hJ⟩ := hrel
    replace hI := Lib.hid hJ
    clear hJ
    have htl := tab_len k f
    by_cases hlt : k = 16
    · subst hlt
      have hk1 : ¬ (((16 : Nat) : Int) < 16) := by omega
      generalize tab 16 f = r at *
      go_upto_region 6 with fail; refine wp_region_lit ?_
      refine wpList_val (run_mv (v := u3) rfl rfl) rfl ?_; (try simp only [Act.put, List.setIfInBounds_toArray, List.set_cons_zero, List.set_cons_succ])
      refine wpList_val (run_asg (v := u3) rfl rfl) rfl ?_; (try simp only [Act.put, List.setIfInBounds_toArray, List.set_cons_zero, List.set_cons_succ])
      refine wpList_end ?_
      go_wp2_with fail
      refine bodyPost_ret (results_tmp Try.results33 _ _ _) rfl ⟨_, rfl, ?_⟩
      rw [EX.out]; exact hI.out.mono hM.out.bl
    · have hk1 : (k : Int) < 16 := by omega
      have HT := Lib.hid (tab_succ k f)
      generalize tab k f = T at *
      have C1 := Lib.hid (((hM.out.below hI.out.bl).get (i := 0) rfl).get8 (i := k) (by omega))
      rw [EF.out] at C1
      generalize f k = x at *
      go_upto_region 5 with fail; refine wp_region_lit ?_
      refine wpList_val (run_mv (v := u3) rfl rfl) rfl ?_; (try simp only [Act.put, List.setIfInBounds_toArray, List.set_cons_zero, List.set_cons_succ])
      (repeat ((first | refine wpList_val (run_mv (v := b32 _) rfl rfl) rfl ?_ | refine wpList_val (run_mv (v := b64 _) rfl rfl) rfl ?_ | refine wpList_val (run_mv (v := b8 _) rfl rfl) rfl ?_ | refine wpList_val (run_mv (v := .int _ _) rfl rfl) rfl ?_ | refine wpList_val (run_mv (v := .bool _) rfl rfl) rfl ?_ | refine wpList_val (run_mv (v := .slice (some _) _ _) rfl rfl) rfl ?_ | refine wpList_val (run_mv (v := .slice _ _ _) rfl rfl) rfl ?_ | refine wpList_val (run_mv (v := .pointer (some _)) rfl rfl) rfl ?_ | refine wpList_val (run_mv (v := .agg _) rfl rfl) rfl ?_ | refine wpList_val (run_asg (v := b32 _) rfl rfl) rfl ?_ | refine wpList_val (run_asg (v := b64 _) rfl rfl) rfl ?_ | refine wpList_val (run_asg (v := b8 _) rfl rfl) rfl ?_ | refine wpList_val (run_asg (v := .int _ _) rfl rfl) rfl ?_ | refine wpList_val (run_asg (v := .bool _) rfl rfl) rfl ?_ | refine wpList_val (run_asg (v := .slice (some _) _ _) rfl rfl) rfl ?_ | refine wpList_val (run_asg (v := .slice _ _ _) rfl rfl) rfl ?_ | refine wpList_val (run_asg (v := .pointer (some _)) rfl rfl) rfl ?_ | refine wpList_val (run_asg (v := .agg _) rfl rfl) rfl ?_ | refine wpList_val (run_mv rfl rfl) rfl ?_ | refine wpList_val (run_asg rfl rfl) rfl ?_ | refine wpList_val (run_xor32 rfl rfl rfl) rfl ?_ | refine wpList_val (run_and32 rfl rfl rfl) rfl ?_ | refine wpList_val (run_or32 rfl rfl rfl) rfl ?_ | refine wpList_val (run_add32 rfl rfl rfl) rfl ?_ | refine wpList_val (run_not32 rfl rfl) rfl ?_ | refine wpList_val (run_xor64 rfl rfl rfl) rfl ?_ | refine wpList_val (run_and64 rfl rfl rfl) rfl ?_ | refine wpList_val (run_or64 rfl rfl rfl) rfl ?_ | refine wpList_val (run_add64 rfl rfl rfl) rfl ?_ | refine wpList_val (run_not64 rfl rfl) rfl ?_ | refine wpList_val (run_xor8 rfl rfl rfl) rfl ?_ | refine wpList_val (run_and8 rfl rfl rfl) rfl ?_ | refine wpList_val (run_or8 rfl rfl rfl) rfl ?_ | refine wpList_val (run_add8 rfl rfl rfl) rfl ?_ | refine wpList_val (run_not8 rfl rfl) rfl ?_ | refine wpList_val (run_cv64_32 rfl rfl) rfl ?_ | refine wpList_val (run_cv8_32 rfl rfl) rfl ?_ | refine wpList_val (run_cv8_64 rfl rfl) rfl ?_ | refine wpList_val (run_cv32_8 rfl rfl) rfl ?_ | refine wpList_val (run_cv64_8 rfl rfl) rfl ?_); (try simp only [Act.put, List.setIfInBounds_toArray, List.set_cons_zero, List.set_cons_succ])))
      refine wpList_val (run_ix0 rfl Try.underlying24 (by kernel_rfl) rfl rfl (by omega)) rfl ?_; (try simp only [Act.put, List.setIfInBounds_toArray, List.set_cons_zero, List.set_cons_succ])
      refine wpList_val (run_ld8 rfl rfl C1.out) rfl ?_; (try simp only [Act.put, List.setIfInBounds_toArray, List.set_cons_zero, List.set_cons_succ])
      refine wpList_val (run_bsl (cells := #[b8 (x)]) (z := .int .u8 0) rfl Try.underlying25 (by kernel_rfl) (by omega) (by omega) (by kernel_rfl)) rfl ?_; (try simp only [Act.put, List.setIfInBounds_toArray, List.set_cons_zero, List.set_cons_succ]); have hb2 : Below wr.heap.size wr (wr.alloc (.cells #[b8 (x)] 5)) := (Below.refl _ _).alloc (Nat.le_refl _) _; have A2 : Hid (Arr wr.heap.size ([x].map b8) (wr.alloc (.cells #[b8 (x)] 5))) := Lib.hid (Arr.new wr _ _); replace hI := Lib.hid (hI.out.below hb2); clear hb2; generalize wr.alloc (.cells #[b8 (x)] 5) = ua at *; refine wpList_app (f := b8) (fun _ => rfl) (l := T) (m := [x]) (bw := 1) (z := .int .u8 0) rfl rfl Try.underlying25 (by kernel_rfl) rfl (by omega) rfl hI.out.O rfl A2.out.range (by show T.length + 1 ≤ _; omega) hI.out.bl.size (fun v2 c2 h3 hb3 => ?_); (try simp only [Act.put, List.setIfInBounds_toArray, List.set_cons_zero, List.set_cons_succ]); replace hI : Hid (S5 _ v2 (T ++ [x]) c2) := Lib.hid ⟨hI.out.bl.trans hb3, by rw [List.length_append]; exact h3⟩; clear h3 hb3 A2; clear ua; refine wpList_val (run_asg (v := v2) rfl rfl) rfl ?_; (try simp only [Act.put, List.setIfInBounds_toArray, List.set_cons_zero, List.set_cons_succ]); refine wpList_end ?_
      rw [← HT.out] at hI
      go_wp2_with fail
      go_roundw
      case rel => exact ⟨k + 1, by omega, by go_num, hI.out⟩
      case measure => simp [intOf]; omega
theorem enters_of' : Enters 33 := enters_of Try.func33 (by kernel_rfl) rfl
set_option maxRecDepth 20000 in
set_option maxHeartbeats 2000000 in
theorem to_any (v : Value) (s : List (BitVec 8)) (w : World) (hv : Sl v s w) (hl : s.length = 16) : Calls Try.prog 30 #[v] w fun e w' => e = .returned (.agg (s.map b8).toArray) ∧ Below w.heap.size w w' := by
  have hM := Lib.hid (Ms.nil w)
  obtain ⟨g, o, c, rfl, hrd⟩ := hv.rd (by omega)
  have HR : Hid (∀ V L, Ms w L V → ∀ i, i < s.length → V.cell? ⟨g, o + i, none⟩ = some (b8 (s.getD i 0))) := Lib.hid fun V _ h => hrd V h.bl
  clear hrd hv
  obtain ⟨f, hf⟩ : ∃ f : Nat → BitVec 8, f = fun i => s.getD i 0 := ⟨_, rfl⟩
  have EF : Hid (∀ i, s.getD i 0 = f i) := Lib.hid fun i => by rw [hf]
  have EX : Hid (s = tab 16 f) := Lib.hid (by rw [hf, tab_self hl])
  clear hf
  go_enter Try.func30, Try.ntmps30
  go_upto_region 0 with fail; refine wp_region_lit ?_
  refine wpList_val (run_alc (vs := z8 16) rfl (by kernel_rfl)) rfl ?_; (try simp only [Act.put, List.setIfInBounds_toArray, List.set_cons_zero, List.set_cons_succ]); replace hM := Lib.hid (hM.out.newZ 16 24); generalize w.alloc (.cells (z8 16).toArray 24) = a1 at *; generalize w.heap.size = g1 at *
  refine wpList_end ?_
  go_upto_region 1 with fail; refine wp_region_lit ?_
  refine wpList_val (run_bld (cells := (z8 16).toArray) rfl (by kernel_rfl)) rfl ?_; (try simp only [Act.put, List.setIfInBounds_toArray, List.set_cons_zero, List.set_cons_succ]); refine wpList_val (run_alc (vs := z8 16) rfl (by kernel_rfl)) rfl ?_; (try simp only [Act.put, List.setIfInBounds_toArray, List.set_cons_zero, List.set_cons_succ]); replace hM := Lib.hid (hM.out.newZ 16 24); generalize a1.alloc (.cells (z8 16).toArray 24) = a2 at *; generalize a1.heap.size = g2 at *; refine wpList_skip (run_stA (vs := z8 16) rfl (sz (l := List.replicate 16 0) sz16 List.length_replicate) rfl rfl (oneB (List.replicate 16 0)) ((hM.out.get (i := 0) rfl).there8 rfl)) rfl rfl ?_; refine wpList_end ?_; replace hM := Lib.hid (show Ms _ _ (a2.setCells g2 0 (z8 16)) from hM.out.put 0 rfl (m := List.replicate 16 0) rfl)
  generalize a2.setCells g2 0 (z8 16) = a3 at *
  replace hM : Hid (Ms w [(g2, upd f (List.replicate 16 0) 0), (g1, List.replicate 16 0)] a3) := Lib.hid (by rw [upd_zero]; exact hM.out)
  go_wp2_with fail
  go_loopw [4] (fun z u => ∃ j : Nat, j ≤ 16 ∧ z = .int .i64 (j : Int) ∧ Ms w [(g2, upd f (List.replicate 16 0) j), (g1, List.replicate 16 0)] u) (fun z _ => (16 - intOf z).toNat)
  case atStart => exact ⟨0, by omega, rfl, hM.out⟩
  case round =>
    obtain ⟨j, hj, rfl, hJ⟩ := hrel
    replace hM := Lib.hid hJ
    clear hJ
    have hul : (upd f (List.replicate 16 0) j).length = 16 := by rw [upd_len, List.length_replicate]
    by_cases hlt : j = 16
    · subst hlt
      have hk1 : ¬ (((16 : Nat) : Int) < 16) := by omega
      rw [upd_all List.length_replicate] at hM
      have htl := tab_len 16 f
      generalize tab 16 f = r at *
      go_upto_region 6 with fail; refine wp_region_lit ?_; refine wpList_val (run_ldM (vs := (r).map b8) rfl Try.underlying24 rfl (sz sz16 htl) rfl (hM.out.get (i := 0) rfl).range) rfl ?_; (try simp only [Act.put, List.setIfInBounds_toArray, List.set_cons_zero, List.set_cons_succ]); refine wpList_skip (run_stA (vs := (r).map b8) rfl (sz sz16 htl) rfl rfl (oneB _) ((hM.out.get (i := 1) rfl).there8 (by rw [htl, List.length_replicate]))) rfl rfl ?_; refine wpList_end ?_; replace hM := Lib.hid (hM.out.put 1 rfl (m := r) (by rw [htl, List.length_replicate])); go_wp2_with fail; refine bodyPost_ret (v := .agg ((r).map b8).toArray) (results_row Try.results30 rfl Try.underlying24 rfl (sz sz16 htl) (hM.out.get (i := 1) rfl).range) rfl ⟨by rw [EX.out], hM.out.bl⟩
    · have hk1 : (j : Int) < 16 := by omega
      have C1 : Hid (wr.cell? ⟨g, o + j, none⟩ = some (b8 (f j))) := Lib.hid (by rw [← EF.out]; exact HR.out _ _ hM.out j (by omega))
      go_upto_region 5 with fail; refine wp_region_lit ?_
      (repeat ((first | refine wpList_val (run_mv (v := b32 _) rfl rfl) rfl ?_ | refine wpList_val (run_mv (v := b64 _) rfl rfl) rfl ?_ | refine wpList_val (run_mv (v := b8 _) rfl rfl) rfl ?_ | refine wpList_val (run_mv (v := .int _ _) rfl rfl) rfl ?_ | refine wpList_val (run_mv (v := .bool _) rfl rfl) rfl ?_ | refine wpList_val (run_mv (v := .slice (some _) _ _) rfl rfl) rfl ?_ | refine wpList_val (run_mv (v := .slice _ _ _) rfl rfl) rfl ?_ | refine wpList_val (run_mv (v := .pointer (some _)) rfl rfl) rfl ?_ | refine wpList_val (run_mv (v := .agg _) rfl rfl) rfl ?_ | refine wpList_val (run_asg (v := b32 _) rfl rfl) rfl ?_ | refine wpList_val (run_asg (v := b64 _) rfl rfl) rfl ?_ | refine wpList_val (run_asg (v := b8 _) rfl rfl) rfl ?_ | refine wpList_val (run_asg (v := .int _ _) rfl rfl) rfl ?_ | refine wpList_val (run_asg (v := .bool _) rfl rfl) rfl ?_ | refine wpList_val (run_asg (v := .slice (some _) _ _) rfl rfl) rfl ?_ | refine wpList_val (run_asg (v := .slice _ _ _) rfl rfl) rfl ?_ | refine wpList_val (run_asg (v := .pointer (some _)) rfl rfl) rfl ?_ | refine wpList_val (run_asg (v := .agg _) rfl rfl) rfl ?_ | refine wpList_val (run_mv rfl rfl) rfl ?_ | refine wpList_val (run_asg rfl rfl) rfl ?_ | refine wpList_val (run_xor32 rfl rfl rfl) rfl ?_ | refine wpList_val (run_and32 rfl rfl rfl) rfl ?_ | refine wpList_val (run_or32 rfl rfl rfl) rfl ?_ | refine wpList_val (run_add32 rfl rfl rfl) rfl ?_ | refine wpList_val (run_not32 rfl rfl) rfl ?_ | refine wpList_val (run_xor64 rfl rfl rfl) rfl ?_ | refine wpList_val (run_and64 rfl rfl rfl) rfl ?_ | refine wpList_val (run_or64 rfl rfl rfl) rfl ?_ | refine wpList_val (run_add64 rfl rfl rfl) rfl ?_ | refine wpList_val (run_not64 rfl rfl) rfl ?_ | refine wpList_val (run_xor8 rfl rfl rfl) rfl ?_ | refine wpList_val (run_and8 rfl rfl rfl) rfl ?_ | refine wpList_val (run_or8 rfl rfl rfl) rfl ?_ | refine wpList_val (run_add8 rfl rfl rfl) rfl ?_ | refine wpList_val (run_not8 rfl rfl) rfl ?_ | refine wpList_val (run_cv64_32 rfl rfl) rfl ?_ | refine wpList_val (run_cv8_32 rfl rfl) rfl ?_ | refine wpList_val (run_cv8_64 rfl rfl) rfl ?_ | refine wpList_val (run_cv32_8 rfl rfl) rfl ?_ | refine wpList_val (run_cv64_8 rfl rfl) rfl ?_); (try simp only [Act.put, List.setIfInBounds_toArray, List.set_cons_zero, List.set_cons_succ])))
      refine wpList_val (run_ixs rfl Try.underlying25 (by kernel_rfl) rfl rfl (by omega)) rfl ?_; (try simp only [Act.put, List.setIfInBounds_toArray, List.set_cons_zero, List.set_cons_succ])
      refine wpList_val (run_ld8 rfl rfl C1.out) rfl ?_; (try simp only [Act.put, List.setIfInBounds_toArray, List.set_cons_zero, List.set_cons_succ])
      refine wpList_val (run_ix0 rfl Try.underlying24 (by kernel_rfl) rfl rfl (by omega)) rfl ?_; (try simp only [Act.put, List.setIfInBounds_toArray, List.set_cons_zero, List.set_cons_succ])
      refine wpList_skip (run_st8 rfl rfl rfl ((hM.out.get (i := 0) rfl).get8 (by omega)) ((hM.out.get (i := 0) rfl).f _)) rfl rfl ?_
      refine wpList_end ?_
      replace hM : Hid (Ms w [(g2, upd f (List.replicate 16 0) (j + 1)), (g1, List.replicate 16 0)] (wr.setCell ⟨g2, j, none⟩ (b8 (f j)))) := Lib.hid (by rw [← upd_set (by rw [List.length_replicate]; omega)]; exact hM.out.set 0 rfl (by omega) (f j))
      generalize wr.setCell ⟨g2, j, none⟩ (b8 (f j)) = a5 at *
      go_wp2_with fail
      go_roundw
      case rel => exact ⟨j + 1, by omega, by go_num, hM.out⟩
      case measure => simp [intOf]; omega
theorem enters_to : Enters 30 := enters_of Try.func30 (by kernel_rfl) rfl
set_option maxRecDepth 20000 in
set_option maxHeartbeats 2000000 in
theorem xored_any (v : Value) (s : List (BitVec 8)) (vw : Value) (W : List (BitVec 8)) (r : Nat) (w : World) (hv : Sl v s w) (hl : s.length = 16) (hw : Sl vw W w) (hW : W.length = 240) (hr : r < 15) : Calls Try.prog 35 #[v, vw, .int .i64 (r : Int)] w fun e w' => ∃ v', e = .returned v' ∧ S5 w v' (xorB s (rkey W r)) w' := by
  obtain ⟨g, o, c, rfl, hrd⟩ := hv.rd (by omega)
  have HR := Lib.hid hrd
  obtain ⟨g', o', c', rfl, hrd'⟩ := hw.rd (by omega)
  have HR' := Lib.hid hrd'
  clear hrd hv hrd' hw
  obtain ⟨f, hf⟩ : ∃ f : Nat → BitVec 8, f = fun i => s.getD i 0 ^^^ W.getD (16 * r + i) 0 := ⟨_, rfl⟩
  have EF : Hid (∀ i, s.getD i 0 ^^^ W.getD (16 * r + i) 0 = f i) := Lib.hid fun i => by rw [hf]
  have EX : Hid (xorB s (rkey W r) = tab 16 f) := Lib.hid (by
    rw [hf]; exact tab_congr fun i hi => by rw [rkey, tab_get _ hi])
  clear hf
  have hI : Hid (S5 w (.slice none 0 0) (tab 0 f) w) := Lib.hid (S5.none w)
  go_enter Try.func35, Try.ntmps35
  go_upto_region 1 with fail; refine wp_region_lit ?_
  refine wpList_val (run_asg (v := .slice none 0 0) rfl rfl) rfl ?_; (try simp only [Act.put, List.setIfInBounds_toArray, List.set_cons_zero, List.set_cons_succ])
  refine wpList_end ?_
  go_wp2_with fail
  go_loopw [7, 8] (fun s1 s2 u => ∃ k : Nat, k ≤ 16 ∧ s2 = .int .i64 (k : Int) ∧ S5 w s1 (tab k f) u) (fun _ z _ => (16 - intOf z).toNat)
  case atStart => exact ⟨0, by omega, rfl, hI.out⟩
  case round =>
    obtain ⟨k, hk, rfl, hJ⟩ := hrel
    replace hI := Lib.hid hJ
    clear hJ
    have htl := tab_len k f
    by_cases hlt : k = 16
    · subst hlt
      have hk1 : ¬ (((16 : Nat) : Int) < 16) := by omega
      generalize tab 16 f = q at *
      go_upto_region 6 with fail; refine wp_region_lit ?_
      refine wpList_val (run_mv (v := u7) rfl rfl) rfl ?_; (try simp only [Act.put, List.setIfInBounds_toArray, List.set_cons_zero, List.set_cons_succ])
      refine wpList_val (run_asg (v := u7) rfl rfl) rfl ?_; (try simp only [Act.put, List.setIfInBounds_toArray, List.set_cons_zero, List.set_cons_succ])
      refine wpList_end ?_
      go_wp2_with fail
      refine bodyPost_ret (results_tmp Try.results35 _ _ _) rfl ⟨_, rfl, ?_⟩
      rw [EX.out]; exact hI.out
    · have hk1 : (k : Int) < 16 := by omega
      have HT := Lib.hid (tab_succ k f)
      have EJ := Lib.hid (EF.out k)
      generalize tab k f = T at *
      generalize f k = x at *
      have C1 : Hid (∀ V, Below wr.heap.size wr V → V.cell? ⟨g, o + k, none⟩ = some (b8 (s.getD k 0))) := Lib.hid fun V hV => HR.out V (hI.out.below hV).bl k (by omega)
      have C2 : Hid (∀ V, Below wr.heap.size wr V → V.cell? ⟨g', o' + (16 * r + k), none⟩ = some (b8 (W.getD (16 * r + k) 0))) := Lib.hid fun V hV => HR'.out V (hI.out.below hV).bl (16 * r + k) (by omega)
      go_upto_region 5 with fail
      refine wp_region_noPanic ?_; refine wp_region_late (S := Till 14 (fun V => Below wr.heap.size wr V)) (by kernel_rfl) (.inr (Below.refl _ _).drew) (fun _ => ?_); have hS : Below wr.heap.size wr wr.drew := (Below.refl _ _).drew
      generalize wr.drew = c1 at *
      refine wpAnyD_take 0 rfl rfl (by kernel_rfl) (by kernel_rfl) (by kernel_rfl) (by kernel_rfl) (by kernel_rfl) (fun _ _ _ h => h) rfl (fun V hV => run_mv (v := u7) rfl rfl) hS ?_; (try simp only [Act.put, List.setIfInBounds_toArray, List.set_cons_zero, List.set_cons_succ])
      refine wpAnyD_take 1 rfl rfl (by kernel_rfl) (by kernel_rfl) (by kernel_rfl) (by kernel_rfl) (by kernel_rfl) (fun _ _ _ h => h) rfl (fun V hV => run_mv (v := .slice (some _) _ _) rfl rfl) hS ?_; (try simp only [Act.put, List.setIfInBounds_toArray, List.set_cons_zero, List.set_cons_succ])
      refine wpAnyD_take 2 rfl rfl (by kernel_rfl) (by kernel_rfl) (by kernel_rfl) (by kernel_rfl) (by kernel_rfl) (fun _ _ _ h => h) rfl (fun V hV => run_mv (v := .int _ _) rfl rfl) hS ?_; (try simp only [Act.put, List.setIfInBounds_toArray, List.set_cons_zero, List.set_cons_succ])
      refine wpAnyD_take 3 rfl rfl (by kernel_rfl) (by kernel_rfl) (by kernel_rfl) (by kernel_rfl) (by kernel_rfl) (fun _ _ _ h => h) rfl (fun V hV => run_ixs rfl Try.underlying25 (by kernel_rfl) rfl rfl (by omega)) hS ?_; (try simp only [Act.put, List.setIfInBounds_toArray, List.set_cons_zero, List.set_cons_succ])
      refine wpAnyD_take 4 rfl rfl (by kernel_rfl) (by kernel_rfl) (by kernel_rfl) (by kernel_rfl) (by kernel_rfl) (fun _ _ _ h => h) rfl (fun V hV => run_ld8 rfl rfl (C1.out V hV)) hS ?_; (try simp only [Act.put, List.setIfInBounds_toArray, List.set_cons_zero, List.set_cons_succ])
      refine wpAnyD_take 5 rfl rfl (by kernel_rfl) (by kernel_rfl) (by kernel_rfl) (by kernel_rfl) (by kernel_rfl) (fun _ _ _ h => h) rfl (fun V hV => run_mv (v := .slice (some _) _ _) rfl rfl) hS ?_; (try simp only [Act.put, List.setIfInBounds_toArray, List.set_cons_zero, List.set_cons_succ])
      refine wpAnyD_take 6 rfl rfl (by kernel_rfl) (by kernel_rfl) (by kernel_rfl) (by kernel_rfl) (by kernel_rfl) (fun _ _ _ h => h) rfl (fun V hV => run_mv (v := .int _ _) rfl rfl) hS ?_; (try simp only [Act.put, List.setIfInBounds_toArray, List.set_cons_zero, List.set_cons_succ])
      refine wpAnyD_take 7 rfl rfl (by kernel_rfl) (by kernel_rfl) (by kernel_rfl) (by kernel_rfl) (by kernel_rfl) (fun _ _ _ h => h) rfl (fun V hV => run_mulN (a := 16) rfl rfl rfl (by omega)) hS ?_; (try simp only [Act.put, List.setIfInBounds_toArray, List.set_cons_zero, List.set_cons_succ])
      refine wpAnyD_take 8 rfl rfl (by kernel_rfl) (by kernel_rfl) (by kernel_rfl) (by kernel_rfl) (by kernel_rfl) (fun _ _ _ h => h) rfl (fun V hV => run_mv (v := .int _ _) rfl rfl) hS ?_; (try simp only [Act.put, List.setIfInBounds_toArray, List.set_cons_zero, List.set_cons_succ])
      refine wpAnyD_take 9 rfl rfl (by kernel_rfl) (by kernel_rfl) (by kernel_rfl) (by kernel_rfl) (by kernel_rfl) (fun _ _ _ h => h) rfl (fun V hV => run_addN rfl rfl rfl (by omega)) hS ?_; (try simp only [Act.put, List.setIfInBounds_toArray, List.set_cons_zero, List.set_cons_succ])
      refine wpAnyD_take 10 rfl rfl (by kernel_rfl) (by kernel_rfl) (by kernel_rfl) (by kernel_rfl) (by kernel_rfl) (fun _ _ _ h => h) rfl (fun V hV => run_ixs rfl Try.underlying25 (by kernel_rfl) rfl rfl (by omega)) hS ?_; (try simp only [Act.put, List.setIfInBounds_toArray, List.set_cons_zero, List.set_cons_succ])
      refine wpAnyD_take 11 rfl rfl (by kernel_rfl) (by kernel_rfl) (by kernel_rfl) (by kernel_rfl) (by kernel_rfl) (fun _ _ _ h => h) rfl (fun V hV => run_ld8 rfl rfl (C2.out V hV)) hS ?_; (try simp only [Act.put, List.setIfInBounds_toArray, List.set_cons_zero, List.set_cons_succ])
      refine wpAnyD_take 12 rfl rfl (by kernel_rfl) (by kernel_rfl) (by kernel_rfl) (by kernel_rfl) (by kernel_rfl) (fun _ _ _ h => h) rfl (fun V hV => run_xor8 rfl rfl rfl) hS ?_; (try simp only [Act.put, List.setIfInBounds_toArray, List.set_cons_zero, List.set_cons_succ])
      rw [EJ.out]
      clear C1 C2
      refine wpAnyD_val 13 (by kernel_rfl) rfl rfl rfl (run_bsl (cells := #[b8 (x)]) (z := .int .u8 0) rfl Try.underlying25 (by kernel_rfl) (by omega) (by omega) (by kernel_rfl)) (.inr (hS.alloc hS.size _)) ?_; (try simp only [Act.put, List.setIfInBounds_toArray, List.set_cons_zero, List.set_cons_succ]); replace hI := Lib.hid (hI.out.below hS); have hb2 : Below c1.heap.size c1 (c1.alloc (.cells #[b8 (x)] 5)) := (Below.refl _ _).alloc (Nat.le_refl _) _; have A2 : Hid (Arr c1.heap.size ([x].map b8) (c1.alloc (.cells #[b8 (x)] 5))) := Lib.hid (Arr.new c1 _ _); replace hI := Lib.hid (hI.out.below hb2); clear hb2 hS; generalize c1.alloc (.cells #[b8 (x)] 5) = ua at *; refine wpAnyD_app (f := b8) (fun _ => rfl) (l := T) (m := [x]) (bw := 1) (z := .int .u8 0) 14 (by kernel_rfl) rfl rfl rfl rfl rfl Try.underlying25 (by kernel_rfl) rfl (by omega) rfl hI.out.O rfl A2.out.range (by show T.length + 1 ≤ _; omega) hI.out.bl.size (fun v2 c2 h3 hb3 => ?_); (try simp only [Act.put, List.setIfInBounds_toArray, List.set_cons_zero, List.set_cons_succ]); replace hI : Hid (S5 _ v2 (T ++ [x]) c2) := Lib.hid ⟨hI.out.bl.trans hb3, by rw [List.length_append]; exact h3⟩; clear h3 hb3 A2; clear ua; refine wpAnyD_val 15 (by kernel_rfl) rfl rfl rfl (run_asg (v := v2) rfl rfl) (.inl rfl) ?_; (try simp only [Act.put, List.setIfInBounds_toArray, List.set_cons_zero, List.set_cons_succ]); refine wpAnyL_done (by kernel_rfl) ?_ _; refine NoPanic.normal ?_
      rw [← HT.out] at hI
      go_wp2_with fail
      go_roundw
      case rel => exact ⟨k + 1, by omega, by go_num, hI.out⟩
      case measure => simp [intOf]; omega
theorem enters_xored : Enters 35 := enters_of Try.func35 (by kernel_rfl) rfl
set_option maxRecDepth 20000 in
set_option maxHeartbeats 4000000 in
theorem mixed_any (v : Value) (s : List (BitVec 8)) (vb : Value) (B : List (BitVec 8)) (w : World) (hv : Sl v s w) (hl : s.length = 16) (hb : Sl vb B w) (hB : B.length = 4) : Calls Try.prog 36 #[v, vb] w fun e w' => ∃ v', e = .returned v' ∧ S5 w v' (mxB B s) w' := by
  obtain ⟨g, o, c, rfl, hrd⟩ := hv.rd (by omega)
  have HR := Lib.hid hrd
  obtain ⟨g', o', c', rfl, hrd'⟩ := hb.rd (by omega)
  have HR' := Lib.hid hrd'
  clear hrd hv hrd' hb
  obtain ⟨q, hq⟩ : ∃ q : Nat → Nat → BitVec 8, q = mxI B s := ⟨_, rfl⟩
  have E0 : Hid (∀ i, 0 = q i 0) := Lib.hid fun i => by rw [hq]; rfl
  have EQ : Hid (∀ i k, q i (k + 1) = q i k ^^^ tms (B.getD ((k + 4 - i % 4) % 4) 0) (s.getD (i / 4 * 4 + k) 0)) := Lib.hid fun i k => by rw [hq]; rfl
  obtain ⟨f, hf⟩ : ∃ f : Nat → BitVec 8, f = fun i => q i 4 := ⟨_, rfl⟩
  have EF : Hid (∀ i, q i 4 = f i) := Lib.hid fun i => by rw [hf]
  have EX : Hid (mxB B s = tab 16 f) := Lib.hid (by rw [hf, hq]; rfl)
  clear hf hq
  have hI : Hid (S5 w (.slice none 0 0) (tab 0 f) w) := Lib.hid (S5.none w)
  go_enter Try.func36, Try.ntmps36
  go_upto_region 1 with fail; refine wp_region_lit ?_
  refine wpList_val (run_asg (v := .slice none 0 0) rfl rfl) rfl ?_; (try simp only [Act.put, List.setIfInBounds_toArray, List.set_cons_zero, List.set_cons_succ])
  refine wpList_end ?_
  go_wp2_with fail
  go_loopw [5, 6] (fun s1 s2 u => ∃ k : Nat, k ≤ 16 ∧ s2 = .int .i64 (k : Int) ∧ S5 w s1 (tab k f) u) (fun _ z _ => (16 - intOf z).toNat)
  case atStart => exact ⟨0, by omega, rfl, hI.out⟩
  case round =>
    obtain ⟨i, hi, rfl, hJ⟩ := hrel
    replace hI := Lib.hid hJ
    clear hJ
    have htl := tab_len i f
    by_cases hlt : i = 16
    · subst hlt
      have hk1 : ¬ (((16 : Nat) : Int) < 16) := by omega
      generalize tab 16 f = r at *
      go_upto_region 11 with fail; refine wp_region_lit ?_
      refine wpList_val (run_mv (v := u5) rfl rfl) rfl ?_; (try simp only [Act.put, List.setIfInBounds_toArray, List.set_cons_zero, List.set_cons_succ])
      refine wpList_val (run_asg (v := u5) rfl rfl) rfl ?_; (try simp only [Act.put, List.setIfInBounds_toArray, List.set_cons_zero, List.set_cons_succ])
      refine wpList_end ?_
      go_wp2_with fail
      refine bodyPost_ret (results_tmp Try.results36 _ _ _) rfl ⟨_, rfl, ?_⟩
      rw [EX.out]; exact hI.out
    · have hk1 : (i : Int) < 16 := by omega
      have HT := Lib.hid (tab_succ i f)
      have EJ := Lib.hid (EF.out i)
      have EK := Lib.hid (EQ.out i)
      generalize tab i f = T at *
      generalize f i = x at *
      go_upto_region 5 with fail; refine wp_region_lit ?_
      refine wpList_val (run_asg (v := b8 0) rfl rfl) rfl ?_; (try simp only [Act.put, List.setIfInBounds_toArray, List.set_cons_zero, List.set_cons_succ])
      rw [E0.out i]
      generalize q i = p at *
      refine wpList_end ?_
      generalize hvv : u5 = vv at *
      clear hvv
      go_wp2_with fail
      go_loopw [7, 8] (fun s7 s8 u => ∃ k : Nat, k ≤ 4 ∧ s8 = .int .i64 (k : Int) ∧ s7 = b8 (p k) ∧ S5 w vv T u) (fun _ z _ => (4 - intOf z).toNat)
      case atStart => exact ⟨0, by omega, rfl, rfl, hI.out⟩
      case round =>
        obtain ⟨k, hk, rfl, rfl, hJ⟩ := hrel
        replace hI := Lib.hid hJ
        clear hJ
        by_cases hk4 : k = 4
        · subst hk4
          have hk2 : ¬ (((4 : Nat) : Int) < 4) := by omega
          rw [EJ.out]
          go_upto_region 10 with fail; refine wp_region_lit ?_
          refine wpList_val (run_mv (v := vv) rfl rfl) rfl ?_; (try simp only [Act.put, List.setIfInBounds_toArray, List.set_cons_zero, List.set_cons_succ])
          (repeat ((first | refine wpList_val (run_mv (v := b32 _) rfl rfl) rfl ?_ | refine wpList_val (run_mv (v := b64 _) rfl rfl) rfl ?_ | refine wpList_val (run_mv (v := b8 _) rfl rfl) rfl ?_ | refine wpList_val (run_mv (v := .int _ _) rfl rfl) rfl ?_ | refine wpList_val (run_mv (v := .bool _) rfl rfl) rfl ?_ | refine wpList_val (run_mv (v := .slice (some _) _ _) rfl rfl) rfl ?_ | refine wpList_val (run_mv (v := .slice _ _ _) rfl rfl) rfl ?_ | refine wpList_val (run_mv (v := .pointer (some _)) rfl rfl) rfl ?_ | refine wpList_val (run_mv (v := .agg _) rfl rfl) rfl ?_ | refine wpList_val (run_asg (v := b32 _) rfl rfl) rfl ?_ | refine wpList_val (run_asg (v := b64 _) rfl rfl) rfl ?_ | refine wpList_val (run_asg (v := b8 _) rfl rfl) rfl ?_ | refine wpList_val (run_asg (v := .int _ _) rfl rfl) rfl ?_ | refine wpList_val (run_asg (v := .bool _) rfl rfl) rfl ?_ | refine wpList_val (run_asg (v := .slice (some _) _ _) rfl rfl) rfl ?_ | refine wpList_val (run_asg (v := .slice _ _ _) rfl rfl) rfl ?_ | refine wpList_val (run_asg (v := .pointer (some _)) rfl rfl) rfl ?_ | refine wpList_val (run_asg (v := .agg _) rfl rfl) rfl ?_ | refine wpList_val (run_mv rfl rfl) rfl ?_ | refine wpList_val (run_asg rfl rfl) rfl ?_ | refine wpList_val (run_xor32 rfl rfl rfl) rfl ?_ | refine wpList_val (run_and32 rfl rfl rfl) rfl ?_ | refine wpList_val (run_or32 rfl rfl rfl) rfl ?_ | refine wpList_val (run_add32 rfl rfl rfl) rfl ?_ | refine wpList_val (run_not32 rfl rfl) rfl ?_ | refine wpList_val (run_xor64 rfl rfl rfl) rfl ?_ | refine wpList_val (run_and64 rfl rfl rfl) rfl ?_ | refine wpList_val (run_or64 rfl rfl rfl) rfl ?_ | refine wpList_val (run_add64 rfl rfl rfl) rfl ?_ | refine wpList_val (run_not64 rfl rfl) rfl ?_ | refine wpList_val (run_xor8 rfl rfl rfl) rfl ?_ | refine wpList_val (run_and8 rfl rfl rfl) rfl ?_ | refine wpList_val (run_or8 rfl rfl rfl) rfl ?_ | refine wpList_val (run_add8 rfl rfl rfl) rfl ?_ | refine wpList_val (run_not8 rfl rfl) rfl ?_ | refine wpList_val (run_cv64_32 rfl rfl) rfl ?_ | refine wpList_val (run_cv8_32 rfl rfl) rfl ?_ | refine wpList_val (run_cv8_64 rfl rfl) rfl ?_ | refine wpList_val (run_cv32_8 rfl rfl) rfl ?_ | refine wpList_val (run_cv64_8 rfl rfl) rfl ?_); (try simp only [Act.put, List.setIfInBounds_toArray, List.set_cons_zero, List.set_cons_succ])))
          refine wpList_val (run_bsl (cells := #[b8 (x)]) (z := .int .u8 0) rfl Try.underlying25 (by kernel_rfl) (by omega) (by omega) (by kernel_rfl)) rfl ?_; (try simp only [Act.put, List.setIfInBounds_toArray, List.set_cons_zero, List.set_cons_succ]); have hb2 : Below wr.heap.size wr (wr.alloc (.cells #[b8 (x)] 5)) := (Below.refl _ _).alloc (Nat.le_refl _) _; have A2 : Hid (Arr wr.heap.size ([x].map b8) (wr.alloc (.cells #[b8 (x)] 5))) := Lib.hid (Arr.new wr _ _); replace hI := Lib.hid (hI.out.below hb2); clear hb2; generalize wr.alloc (.cells #[b8 (x)] 5) = ua at *; refine wpList_app (f := b8) (fun _ => rfl) (l := T) (m := [x]) (bw := 1) (z := .int .u8 0) rfl rfl Try.underlying25 (by kernel_rfl) rfl (by omega) rfl hI.out.O rfl A2.out.range (by show T.length + 1 ≤ _; omega) hI.out.bl.size (fun v2 c2 h3 hb3 => ?_); (try simp only [Act.put, List.setIfInBounds_toArray, List.set_cons_zero, List.set_cons_succ]); replace hI : Hid (S5 _ v2 (T ++ [x]) c2) := Lib.hid ⟨hI.out.bl.trans hb3, by rw [List.length_append]; exact h3⟩; clear h3 hb3 A2; clear ua; refine wpList_val (run_asg (v := v2) rfl rfl) rfl ?_; (try simp only [Act.put, List.setIfInBounds_toArray, List.set_cons_zero, List.set_cons_succ]); refine wpList_end ?_
          rw [← HT.out] at hI
          go_wp2_with fail
          go_roundw
          case rel => exact ⟨i + 1, by omega, by go_num, hI.out⟩
          case measure => simp [intOf]; omega
        · have hk2 : (k : Int) < 4 := by omega
          have C1 : Hid (∀ V, Below wr.heap.size wr V → V.cell? ⟨g', o' + (k + 4 - i % 4) % 4, none⟩ = some (b8 (B.getD ((k + 4 - i % 4) % 4) 0))) := Lib.hid fun V hV => HR'.out V (hI.out.below hV).bl _ (by omega)
          have C2 : Hid (∀ V, Below wr.heap.size wr V → V.cell? ⟨g, o + (i / 4 * 4 + k), none⟩ = some (b8 (s.getD (i / 4 * 4 + k) 0))) := Lib.hid fun V hV => HR.out V (hI.out.below hV).bl _ (by omega)
          have EK2 := Lib.hid (EK.out k)
          go_upto_region 9 with fail; refine wp_region_calm 20 (by kernel_rfl) (by kernel_rfl) ?_
          (repeat ((first | refine wpCalm_step _ (fun V hV => calm_run (run_mv (v := b32 _) rfl rfl)) ?_ | refine wpCalm_step _ (fun V hV => calm_run (run_mv (v := b64 _) rfl rfl)) ?_ | refine wpCalm_step _ (fun V hV => calm_run (run_mv (v := b8 _) rfl rfl)) ?_ | refine wpCalm_step _ (fun V hV => calm_run (run_mv (v := .int _ _) rfl rfl)) ?_ | refine wpCalm_step _ (fun V hV => calm_run (run_mv (v := .bool _) rfl rfl)) ?_ | refine wpCalm_step _ (fun V hV => calm_run (run_mv (v := .slice (some _) _ _) rfl rfl)) ?_ | refine wpCalm_step _ (fun V hV => calm_run (run_mv (v := .slice _ _ _) rfl rfl)) ?_ | refine wpCalm_step _ (fun V hV => calm_run (run_mv (v := .pointer (some _)) rfl rfl)) ?_ | refine wpCalm_step _ (fun V hV => calm_run (run_mv (v := .agg _) rfl rfl)) ?_ | refine wpCalm_step _ (fun V hV => calm_run (run_asg (v := b32 _) rfl rfl)) ?_ | refine wpCalm_step _ (fun V hV => calm_run (run_asg (v := b64 _) rfl rfl)) ?_ | refine wpCalm_step _ (fun V hV => calm_run (run_asg (v := b8 _) rfl rfl)) ?_ | refine wpCalm_step _ (fun V hV => calm_run (run_asg (v := .int _ _) rfl rfl)) ?_ | refine wpCalm_step _ (fun V hV => calm_run (run_asg (v := .bool _) rfl rfl)) ?_ | refine wpCalm_step _ (fun V hV => calm_run (run_asg (v := .slice (some _) _ _) rfl rfl)) ?_ | refine wpCalm_step _ (fun V hV => calm_run (run_asg (v := .slice _ _ _) rfl rfl)) ?_ | refine wpCalm_step _ (fun V hV => calm_run (run_asg (v := .pointer (some _)) rfl rfl)) ?_ | refine wpCalm_step _ (fun V hV => calm_run (run_asg (v := .agg _) rfl rfl)) ?_ | refine wpCalm_step _ (fun V hV => calm_run (run_mv rfl rfl)) ?_ | refine wpCalm_step _ (fun V hV => calm_run (run_asg rfl rfl)) ?_ | refine wpCalm_step _ (fun V hV => calm_run (run_xor32 rfl rfl rfl)) ?_ | refine wpCalm_step _ (fun V hV => calm_run (run_and32 rfl rfl rfl)) ?_ | refine wpCalm_step _ (fun V hV => calm_run (run_or32 rfl rfl rfl)) ?_ | refine wpCalm_step _ (fun V hV => calm_run (run_add32 rfl rfl rfl)) ?_ | refine wpCalm_step _ (fun V hV => calm_run (run_not32 rfl rfl)) ?_ | refine wpCalm_step _ (fun V hV => calm_run (run_xor64 rfl rfl rfl)) ?_ | refine wpCalm_step _ (fun V hV => calm_run (run_and64 rfl rfl rfl)) ?_ | refine wpCalm_step _ (fun V hV => calm_run (run_or64 rfl rfl rfl)) ?_ | refine wpCalm_step _ (fun V hV => calm_run (run_add64 rfl rfl rfl)) ?_ | refine wpCalm_step _ (fun V hV => calm_run (run_not64 rfl rfl)) ?_ | refine wpCalm_step _ (fun V hV => calm_run (run_xor8 rfl rfl rfl)) ?_ | refine wpCalm_step _ (fun V hV => calm_run (run_and8 rfl rfl rfl)) ?_ | refine wpCalm_step _ (fun V hV => calm_run (run_or8 rfl rfl rfl)) ?_ | refine wpCalm_step _ (fun V hV => calm_run (run_add8 rfl rfl rfl)) ?_ | refine wpCalm_step _ (fun V hV => calm_run (run_not8 rfl rfl)) ?_ | refine wpCalm_step _ (fun V hV => calm_run (run_cv64_32 rfl rfl)) ?_ | refine wpCalm_step _ (fun V hV => calm_run (run_cv8_32 rfl rfl)) ?_ | refine wpCalm_step _ (fun V hV => calm_run (run_cv8_64 rfl rfl)) ?_ | refine wpCalm_step _ (fun V hV => calm_run (run_cv32_8 rfl rfl)) ?_ | refine wpCalm_step _ (fun V hV => calm_run (run_cv64_8 rfl rfl)) ?_); (try simp only [Act.put, List.setIfInBounds_toArray, List.set_cons_zero, List.set_cons_succ])))
          refine wpCalm_step _ (fun V hV => calm_run (run_addN (b := 4) rfl rfl rfl (by omega))) ?_; (try simp only [Act.put, List.setIfInBounds_toArray, List.set_cons_zero, List.set_cons_succ])
          (repeat ((first | refine wpCalm_step _ (fun V hV => calm_run (run_mv (v := b32 _) rfl rfl)) ?_ | refine wpCalm_step _ (fun V hV => calm_run (run_mv (v := b64 _) rfl rfl)) ?_ | refine wpCalm_step _ (fun V hV => calm_run (run_mv (v := b8 _) rfl rfl)) ?_ | refine wpCalm_step _ (fun V hV => calm_run (run_mv (v := .int _ _) rfl rfl)) ?_ | refine wpCalm_step _ (fun V hV => calm_run (run_mv (v := .bool _) rfl rfl)) ?_ | refine wpCalm_step _ (fun V hV => calm_run (run_mv (v := .slice (some _) _ _) rfl rfl)) ?_ | refine wpCalm_step _ (fun V hV => calm_run (run_mv (v := .slice _ _ _) rfl rfl)) ?_ | refine wpCalm_step _ (fun V hV => calm_run (run_mv (v := .pointer (some _)) rfl rfl)) ?_ | refine wpCalm_step _ (fun V hV => calm_run (run_mv (v := .agg _) rfl rfl)) ?_ | refine wpCalm_step _ (fun V hV => calm_run (run_asg (v := b32 _) rfl rfl)) ?_ | refine wpCalm_step _ (fun V hV => calm_run (run_asg (v := b64 _) rfl rfl)) ?_ | refine wpCalm_step _ (fun V hV => calm_run (run_asg (v := b8 _) rfl rfl)) ?_ | refine wpCalm_step _ (fun V hV => calm_run (run_asg (v := .int _ _) rfl rfl)) ?_ | refine wpCalm_step _ (fun V hV => calm_run (run_asg (v := .bool _) rfl rfl)) ?_ | refine wpCalm_step _ (fun V hV => calm_run (run_asg (v := .slice (some _) _ _) rfl rfl)) ?_ | refine wpCalm_step _ (fun V hV => calm_run (run_asg (v := .slice _ _ _) rfl rfl)) ?_ | refine wpCalm_step _ (fun V hV => calm_run (run_asg (v := .pointer (some _)) rfl rfl)) ?_ | refine wpCalm_step _ (fun V hV => calm_run (run_asg (v := .agg _) rfl rfl)) ?_ | refine wpCalm_step _ (fun V hV => calm_run (run_mv rfl rfl)) ?_ | refine wpCalm_step _ (fun V hV => calm_run (run_asg rfl rfl)) ?_ | refine wpCalm_step _ (fun V hV => calm_run (run_xor32 rfl rfl rfl)) ?_ | refine wpCalm_step _ (fun V hV => calm_run (run_and32 rfl rfl rfl)) ?_ | refine wpCalm_step _ (fun V hV => calm_run (run_or32 rfl rfl rfl)) ?_ | refine wpCalm_step _ (fun V hV => calm_run (run_add32 rfl rfl rfl)) ?_ | refine wpCalm_step _ (fun V hV => calm_run (run_not32 rfl rfl)) ?_ | refine wpCalm_step _ (fun V hV => calm_run (run_xor64 rfl rfl rfl)) ?_ | refine wpCalm_step _ (fun V hV => calm_run (run_and64 rfl rfl rfl)) ?_ | refine wpCalm_step _ (fun V hV => calm_run (run_or64 rfl rfl rfl)) ?_ | refine wpCalm_step _ (fun V hV => calm_run (run_add64 rfl rfl rfl)) ?_ | refine wpCalm_step _ (fun V hV => calm_run (run_not64 rfl rfl)) ?_ | refine wpCalm_step _ (fun V hV => calm_run (run_xor8 rfl rfl rfl)) ?_ | refine wpCalm_step _ (fun V hV => calm_run (run_and8 rfl rfl rfl)) ?_ | refine wpCalm_step _ (fun V hV => calm_run (run_or8 rfl rfl rfl)) ?_ | refine wpCalm_step _ (fun V hV => calm_run (run_add8 rfl rfl rfl)) ?_ | refine wpCalm_step _ (fun V hV => calm_run (run_not8 rfl rfl)) ?_ | refine wpCalm_step _ (fun V hV => calm_run (run_cv64_32 rfl rfl)) ?_ | refine wpCalm_step _ (fun V hV => calm_run (run_cv8_32 rfl rfl)) ?_ | refine wpCalm_step _ (fun V hV => calm_run (run_cv8_64 rfl rfl)) ?_ | refine wpCalm_step _ (fun V hV => calm_run (run_cv32_8 rfl rfl)) ?_ | refine wpCalm_step _ (fun V hV => calm_run (run_cv64_8 rfl rfl)) ?_); (try simp only [Act.put, List.setIfInBounds_toArray, List.set_cons_zero, List.set_cons_succ])))
          refine wpCalm_step _ (fun V hV => calm_run (run_remN (b := 4) rfl rfl rfl (by omega))) ?_; (try simp only [Act.put, List.setIfInBounds_toArray, List.set_cons_zero, List.set_cons_succ])
          refine wpCalm_step _ (fun V hV => calm_run (run_subN rfl rfl rfl (by omega) (by omega))) ?_; (try simp only [Act.put, List.setIfInBounds_toArray, List.set_cons_zero, List.set_cons_succ])
          refine wpCalm_step _ (fun V hV => calm_run (run_remN (b := 4) rfl rfl rfl (by omega))) ?_; (try simp only [Act.put, List.setIfInBounds_toArray, List.set_cons_zero, List.set_cons_succ])
          refine wpCalm_step _ (fun V hV => calm_run (run_ixs rfl Try.underlying25 (by kernel_rfl) rfl rfl (by omega))) ?_; (try simp only [Act.put, List.setIfInBounds_toArray, List.set_cons_zero, List.set_cons_succ])
          refine wpCalm_step _ (fun V hV => calm_run (run_ld8 rfl rfl (C1.out V hV))) ?_; (try simp only [Act.put, List.setIfInBounds_toArray, List.set_cons_zero, List.set_cons_succ])
          (repeat ((first | refine wpCalm_step _ (fun V hV => calm_run (run_mv (v := b32 _) rfl rfl)) ?_ | refine wpCalm_step _ (fun V hV => calm_run (run_mv (v := b64 _) rfl rfl)) ?_ | refine wpCalm_step _ (fun V hV => calm_run (run_mv (v := b8 _) rfl rfl)) ?_ | refine wpCalm_step _ (fun V hV => calm_run (run_mv (v := .int _ _) rfl rfl)) ?_ | refine wpCalm_step _ (fun V hV => calm_run (run_mv (v := .bool _) rfl rfl)) ?_ | refine wpCalm_step _ (fun V hV => calm_run (run_mv (v := .slice (some _) _ _) rfl rfl)) ?_ | refine wpCalm_step _ (fun V hV => calm_run (run_mv (v := .slice _ _ _) rfl rfl)) ?_ | refine wpCalm_step _ (fun V hV => calm_run (run_mv (v := .pointer (some _)) rfl rfl)) ?_ | refine wpCalm_step _ (fun V hV => calm_run (run_mv (v := .agg _) rfl rfl)) ?_ | refine wpCalm_step _ (fun V hV => calm_run (run_asg (v := b32 _) rfl rfl)) ?_ | refine wpCalm_step _ (fun V hV => calm_run (run_asg (v := b64 _) rfl rfl)) ?_ | refine wpCalm_step _ (fun V hV => calm_run (run_asg (v := b8 _) rfl rfl)) ?_ | refine wpCalm_step _ (fun V hV => calm_run (run_asg (v := .int _ _) rfl rfl)) ?_ | refine wpCalm_step _ (fun V hV => calm_run (run_asg (v := .bool _) rfl rfl)) ?_ | refine wpCalm_step _ (fun V hV => calm_run (run_asg (v := .slice (some _) _ _) rfl rfl)) ?_ | refine wpCalm_step _ (fun V hV => calm_run (run_asg (v := .slice _ _ _) rfl rfl)) ?_ | refine wpCalm_step _ (fun V hV => calm_run (run_asg (v := .pointer (some _)) rfl rfl)) ?_ | refine wpCalm_step _ (fun V hV => calm_run (run_asg (v := .agg _) rfl rfl)) ?_ | refine wpCalm_step _ (fun V hV => calm_run (run_mv rfl rfl)) ?_ | refine wpCalm_step _ (fun V hV => calm_run (run_asg rfl rfl)) ?_ | refine wpCalm_step _ (fun V hV => calm_run (run_xor32 rfl rfl rfl)) ?_ | refine wpCalm_step _ (fun V hV => calm_run (run_and32 rfl rfl rfl)) ?_ | refine wpCalm_step _ (fun V hV => calm_run (run_or32 rfl rfl rfl)) ?_ | refine wpCalm_step _ (fun V hV => calm_run (run_add32 rfl rfl rfl)) ?_ | refine wpCalm_step _ (fun V hV => calm_run (run_not32 rfl rfl)) ?_ | refine wpCalm_step _ (fun V hV => calm_run (run_xor64 rfl rfl rfl)) ?_ | refine wpCalm_step _ (fun V hV => calm_run (run_and64 rfl rfl rfl)) ?_ | refine wpCalm_step _ (fun V hV => calm_run (run_or64 rfl rfl rfl)) ?_ | refine wpCalm_step _ (fun V hV => calm_run (run_add64 rfl rfl rfl)) ?_ | refine wpCalm_step _ (fun V hV => calm_run (run_not64 rfl rfl)) ?_ | refine wpCalm_step _ (fun V hV => calm_run (run_xor8 rfl rfl rfl)) ?_ | refine wpCalm_step _ (fun V hV => calm_run (run_and8 rfl rfl rfl)) ?_ | refine wpCalm_step _ (fun V hV => calm_run (run_or8 rfl rfl rfl)) ?_ | refine wpCalm_step _ (fun V hV => calm_run (run_add8 rfl rfl rfl)) ?_ | refine wpCalm_step _ (fun V hV => calm_run (run_not8 rfl rfl)) ?_ | refine wpCalm_step _ (fun V hV => calm_run (run_cv64_32 rfl rfl)) ?_ | refine wpCalm_step _ (fun V hV => calm_run (run_cv8_32 rfl rfl)) ?_ | refine wpCalm_step _ (fun V hV => calm_run (run_cv8_64 rfl rfl)) ?_ | refine wpCalm_step _ (fun V hV => calm_run (run_cv32_8 rfl rfl)) ?_ | refine wpCalm_step _ (fun V hV => calm_run (run_cv64_8 rfl rfl)) ?_); (try simp only [Act.put, List.setIfInBounds_toArray, List.set_cons_zero, List.set_cons_succ])))
          refine wpCalm_step _ (fun V hV => calm_run (run_quoN (b := 4) rfl rfl rfl (by omega) (by omega))) ?_; (try simp only [Act.put, List.setIfInBounds_toArray, List.set_cons_zero, List.set_cons_succ])
          refine wpCalm_step _ (fun V hV => calm_run (run_mulN (b := 4) rfl rfl rfl (by omega))) ?_; (try simp only [Act.put, List.setIfInBounds_toArray, List.set_cons_zero, List.set_cons_succ])
          (repeat ((first | refine wpCalm_step _ (fun V hV => calm_run (run_mv (v := b32 _) rfl rfl)) ?_ | refine wpCalm_step _ (fun V hV => calm_run (run_mv (v := b64 _) rfl rfl)) ?_ | refine wpCalm_step _ (fun V hV => calm_run (run_mv (v := b8 _) rfl rfl)) ?_ | refine wpCalm_step _ (fun V hV => calm_run (run_mv (v := .int _ _) rfl rfl)) ?_ | refine wpCalm_step _ (fun V hV => calm_run (run_mv (v := .bool _) rfl rfl)) ?_ | refine wpCalm_step _ (fun V hV => calm_run (run_mv (v := .slice (some _) _ _) rfl rfl)) ?_ | refine wpCalm_step _ (fun V hV => calm_run (run_mv (v := .slice _ _ _) rfl rfl)) ?_ | refine wpCalm_step _ (fun V hV => calm_run (run_mv (v := .pointer (some _)) rfl rfl)) ?_ | refine wpCalm_step _ (fun V hV => calm_run (run_mv (v := .agg _) rfl rfl)) ?_ | refine wpCalm_step _ (fun V hV => calm_run (run_asg (v := b32 _) rfl rfl)) ?_ | refine wpCalm_step _ (fun V hV => calm_run (run_asg (v := b64 _) rfl rfl)) ?_ | refine wpCalm_step _ (fun V hV => calm_run (run_asg (v := b8 _) rfl rfl)) ?_ | refine wpCalm_step _ (fun V hV => calm_run (run_asg (v := .int _ _) rfl rfl)) ?_ | refine wpCalm_step _ (fun V hV => calm_run (run_asg (v := .bool _) rfl rfl)) ?_ | refine wpCalm_step _ (fun V hV => calm_run (run_asg (v := .slice (some _) _ _) rfl rfl)) ?_ | refine wpCalm_step _ (fun V hV => calm_run (run_asg (v := .slice _ _ _) rfl rfl)) ?_ | refine wpCalm_step _ (fun V hV => calm_run (run_asg (v := .pointer (some _)) rfl rfl)) ?_ | refine wpCalm_step _ (fun V hV => calm_run (run_asg (v := .agg _) rfl rfl)) ?_ | refine wpCalm_step _ (fun V hV => calm_run (run_mv rfl rfl)) ?_ | refine wpCalm_step _ (fun V hV => calm_run (run_asg rfl rfl)) ?_ | refine wpCalm_step _ (fun V hV => calm_run (run_xor32 rfl rfl rfl)) ?_ | refine wpCalm_step _ (fun V hV => calm_run (run_and32 rfl rfl rfl)) ?_ | refine wpCalm_step _ (fun V hV => calm_run (run_or32 rfl rfl rfl)) ?_ | refine wpCalm_step _ (fun V hV => calm_run (run_add32 rfl rfl rfl)) ?_ | refine wpCalm_step _ (fun V hV => calm_run (run_not32 rfl rfl)) ?_ | refine wpCalm_step _ (fun V hV => calm_run (run_xor64 rfl rfl rfl)) ?_ | refine wpCalm_step _ (fun V hV => calm_run (run_and64 rfl rfl rfl)) ?_ | refine wpCalm_step _ (fun V hV => calm_run (run_or64 rfl rfl rfl)) ?_ | refine wpCalm_step _ (fun V hV => calm_run (run_add64 rfl rfl rfl)) ?_ | refine wpCalm_step _ (fun V hV => calm_run (run_not64 rfl rfl)) ?_ | refine wpCalm_step _ (fun V hV => calm_run (run_xor8 rfl rfl rfl)) ?_ | refine wpCalm_step _ (fun V hV => calm_run (run_and8 rfl rfl rfl)) ?_ | refine wpCalm_step _ (fun V hV => calm_run (run_or8 rfl rfl rfl)) ?_ | refine wpCalm_step _ (fun V hV => calm_run (run_add8 rfl rfl rfl)) ?_ | refine wpCalm_step _ (fun V hV => calm_run (run_not8 rfl rfl)) ?_ | refine wpCalm_step _ (fun V hV => calm_run (run_cv64_32 rfl rfl)) ?_ | refine wpCalm_step _ (fun V hV => calm_run (run_cv8_32 rfl rfl)) ?_ | refine wpCalm_step _ (fun V hV => calm_run (run_cv8_64 rfl rfl)) ?_ | refine wpCalm_step _ (fun V hV => calm_run (run_cv32_8 rfl rfl)) ?_ | refine wpCalm_step _ (fun V hV => calm_run (run_cv64_8 rfl rfl)) ?_); (try simp only [Act.put, List.setIfInBounds_toArray, List.set_cons_zero, List.set_cons_succ])))
          refine wpCalm_step _ (fun V hV => calm_run (run_addN rfl rfl rfl (by omega))) ?_; (try simp only [Act.put, List.setIfInBounds_toArray, List.set_cons_zero, List.set_cons_succ])
          refine wpCalm_step _ (fun V hV => calm_run (run_ixs rfl Try.underlying25 (by kernel_rfl) rfl rfl (by omega))) ?_; (try simp only [Act.put, List.setIfInBounds_toArray, List.set_cons_zero, List.set_cons_succ])
          refine wpCalm_step _ (fun V hV => calm_run (run_ld8 rfl rfl (C2.out V hV))) ?_; (try simp only [Act.put, List.setIfInBounds_toArray, List.set_cons_zero, List.set_cons_succ])
          refine wpCalm_step _ (fun V hV => calm_still (run_call2 enters_times rfl rfl rfl rfl) (times_any _ _ V)) ?_; (try simp only [Act.put, List.setIfInBounds_toArray, List.set_cons_zero, List.set_cons_succ])
          (repeat ((first | refine wpCalm_step _ (fun V hV => calm_run (run_mv (v := b32 _) rfl rfl)) ?_ | refine wpCalm_step _ (fun V hV => calm_run (run_mv (v := b64 _) rfl rfl)) ?_ | refine wpCalm_step _ (fun V hV => calm_run (run_mv (v := b8 _) rfl rfl)) ?_ | refine wpCalm_step _ (fun V hV => calm_run (run_mv (v := .int _ _) rfl rfl)) ?_ | refine wpCalm_step _ (fun V hV => calm_run (run_mv (v := .bool _) rfl rfl)) ?_ | refine wpCalm_step _ (fun V hV => calm_run (run_mv (v := .slice (some _) _ _) rfl rfl)) ?_ | refine wpCalm_step _ (fun V hV => calm_run (run_mv (v := .slice _ _ _) rfl rfl)) ?_ | refine wpCalm_step _ (fun V hV => calm_run (run_mv (v := .pointer (some _)) rfl rfl)) ?_ | refine wpCalm_step _ (fun V hV => calm_run (run_mv (v := .agg _) rfl rfl)) ?_ | refine wpCalm_step _ (fun V hV => calm_run (run_asg (v := b32 _) rfl rfl)) ?_ | refine wpCalm_step _ (fun V hV => calm_run (run_asg (v := b64 _) rfl rfl)) ?_ | refine wpCalm_step _ (fun V hV => calm_run (run_asg (v := b8 _) rfl rfl)) ?_ | refine wpCalm_step _ (fun V hV => calm_run (run_asg (v := .int _ _) rfl rfl)) ?_ | refine wpCalm_step _ (fun V hV => calm_run (run_asg (v := .bool _) rfl rfl)) ?_ | refine wpCalm_step _ (fun V hV => calm_run (run_asg (v := .slice (some _) _ _) rfl rfl)) ?_ | refine wpCalm_step _ (fun V hV => calm_run (run_asg (v := .slice _ _ _) rfl rfl)) ?_ | refine wpCalm_step _ (fun V hV => calm_run (run_asg (v := .pointer (some _)) rfl rfl)) ?_ | refine wpCalm_step _ (fun V hV => calm_run (run_asg (v := .agg _) rfl rfl)) ?_ | refine wpCalm_step _ (fun V hV => calm_run (run_mv rfl rfl)) ?_ | refine wpCalm_step _ (fun V hV => calm_run (run_asg rfl rfl)) ?_ | refine wpCalm_step _ (fun V hV => calm_run (run_xor32 rfl rfl rfl)) ?_ | refine wpCalm_step _ (fun V hV => calm_run (run_and32 rfl rfl rfl)) ?_ | refine wpCalm_step _ (fun V hV => calm_run (run_or32 rfl rfl rfl)) ?_ | refine wpCalm_step _ (fun V hV => calm_run (run_add32 rfl rfl rfl)) ?_ | refine wpCalm_step _ (fun V hV => calm_run (run_not32 rfl rfl)) ?_ | refine wpCalm_step _ (fun V hV => calm_run (run_xor64 rfl rfl rfl)) ?_ | refine wpCalm_step _ (fun V hV => calm_run (run_and64 rfl rfl rfl)) ?_ | refine wpCalm_step _ (fun V hV => calm_run (run_or64 rfl rfl rfl)) ?_ | refine wpCalm_step _ (fun V hV => calm_run (run_add64 rfl rfl rfl)) ?_ | refine wpCalm_step _ (fun V hV => calm_run (run_not64 rfl rfl)) ?_ | refine wpCalm_step _ (fun V hV => calm_run (run_xor8 rfl rfl rfl)) ?_ | refine wpCalm_step _ (fun V hV => calm_run (run_and8 rfl rfl rfl)) ?_ | refine wpCalm_step _ (fun V hV => calm_run (run_or8 rfl rfl rfl)) ?_ | refine wpCalm_step _ (fun V hV => calm_run (run_add8 rfl rfl rfl)) ?_ | refine wpCalm_step _ (fun V hV => calm_run (run_not8 rfl rfl)) ?_ | refine wpCalm_step _ (fun V hV => calm_run (run_cv64_32 rfl rfl)) ?_ | refine wpCalm_step _ (fun V hV => calm_run (run_cv8_32 rfl rfl)) ?_ | refine wpCalm_step _ (fun V hV => calm_run (run_cv8_64 rfl rfl)) ?_ | refine wpCalm_step _ (fun V hV => calm_run (run_cv32_8 rfl rfl)) ?_ | refine wpCalm_step _ (fun V hV => calm_run (run_cv64_8 rfl rfl)) ?_); (try simp only [Act.put, List.setIfInBounds_toArray, List.set_cons_zero, List.set_cons_succ])))
          refine wpCalm_done ?_; intro c1 hb; simp only [List.drop_succ_cons, List.drop_zero]
          replace hI := Lib.hid (hI.out.below hb)
          clear hb C1 C2
          rw [← EK2.out]
          (repeat ((first | refine wpList_val (run_mv (v := b32 _) rfl rfl) rfl ?_ | refine wpList_val (run_mv (v := b64 _) rfl rfl) rfl ?_ | refine wpList_val (run_mv (v := b8 _) rfl rfl) rfl ?_ | refine wpList_val (run_mv (v := .int _ _) rfl rfl) rfl ?_ | refine wpList_val (run_mv (v := .bool _) rfl rfl) rfl ?_ | refine wpList_val (run_mv (v := .slice (some _) _ _) rfl rfl) rfl ?_ | refine wpList_val (run_mv (v := .slice _ _ _) rfl rfl) rfl ?_ | refine wpList_val (run_mv (v := .pointer (some _)) rfl rfl) rfl ?_ | refine wpList_val (run_mv (v := .agg _) rfl rfl) rfl ?_ | refine wpList_val (run_asg (v := b32 _) rfl rfl) rfl ?_ | refine wpList_val (run_asg (v := b64 _) rfl rfl) rfl ?_ | refine wpList_val (run_asg (v := b8 _) rfl rfl) rfl ?_ | refine wpList_val (run_asg (v := .int _ _) rfl rfl) rfl ?_ | refine wpList_val (run_asg (v := .bool _) rfl rfl) rfl ?_ | refine wpList_val (run_asg (v := .slice (some _) _ _) rfl rfl) rfl ?_ | refine wpList_val (run_asg (v := .slice _ _ _) rfl rfl) rfl ?_ | refine wpList_val (run_asg (v := .pointer (some _)) rfl rfl) rfl ?_ | refine wpList_val (run_asg (v := .agg _) rfl rfl) rfl ?_ | refine wpList_val (run_mv rfl rfl) rfl ?_ | refine wpList_val (run_asg rfl rfl) rfl ?_ | refine wpList_val (run_xor32 rfl rfl rfl) rfl ?_ | refine wpList_val (run_and32 rfl rfl rfl) rfl ?_ | refine wpList_val (run_or32 rfl rfl rfl) rfl ?_ | refine wpList_val (run_add32 rfl rfl rfl) rfl ?_ | refine wpList_val (run_not32 rfl rfl) rfl ?_ | refine wpList_val (run_xor64 rfl rfl rfl) rfl ?_ | refine wpList_val (run_and64 rfl rfl rfl) rfl ?_ | refine wpList_val (run_or64 rfl rfl rfl) rfl ?_ | refine wpList_val (run_add64 rfl rfl rfl) rfl ?_ | refine wpList_val (run_not64 rfl rfl) rfl ?_ | refine wpList_val (run_xor8 rfl rfl rfl) rfl ?_ | refine wpList_val (run_and8 rfl rfl rfl) rfl ?_ | refine wpList_val (run_or8 rfl rfl rfl) rfl ?_ | refine wpList_val (run_add8 rfl rfl rfl) rfl ?_ | refine wpList_val (run_not8 rfl rfl) rfl ?_ | refine wpList_val (run_cv64_32 rfl rfl) rfl ?_ | refine wpList_val (run_cv8_32 rfl rfl) rfl ?_ | refine wpList_val (run_cv8_64 rfl rfl) rfl ?_ | refine wpList_val (run_cv32_8 rfl rfl) rfl ?_ | refine wpList_val (run_cv64_8 rfl rfl) rfl ?_); (try simp only [Act.put, List.setIfInBounds_toArray, List.set_cons_zero, List.set_cons_succ])))
          refine wpList_end ?_
          go_wp2_with fail
          go_roundw
          case rel => exact ⟨k + 1, by omega, by go_num, rfl, hI.out⟩
          case measure => simp [intOf]; omega
theorem enters_mixed : Enters 36 := enters_of Try.func36 (by kernel_rfl) rfl
end Go.Proofs.Ytlfggmdlgeakeaa
