/- What keywardref04's Hmac and Extract do. -/
import Derived.Test.YtebmcjleepnehaaDoorTwo
import Derived.Test.YtebmcjleepnehaaDoorMacFill
import Derived.Test.YtebmcjleepnehaaDoorRef532
namespace Go.Proofs.YtebmcjleepnehaaDoor
open Go.RowKit

theorem enters_rslice : Enters 25 := enters_of Tryd.func25 (by kernel_rfl) rfl
theorem enters_joined : Enters 27 := enters_of Tryd.func27 (by kernel_rfl) rfl
set_option maxHeartbeats 1000000 in
theorem rslice_any (K : List (BitVec 8)) (w : World) (hK : K.length = 32) :
    Calls Tryd.prog 25 #[.agg (K.map b8).toArray] w fun e w' => ∃ v', e = .returned v' ∧ (w'.ownsRow w.heap.size 5 1 v' 32 (K.map b8) ∧ Below w.heap.size w w') := by
  go_enter Tryd.func25, Tryd.ntmps25
  go_upto_region 0 with fail; refine wp_region_lit ?_
  refine wpList_val (run_box rfl rfl) rfl ?_; (try simp only [Act.put, List.setIfInBounds_toArray, List.set_cons_zero, List.set_cons_succ])
  (repeat ((first | refine wpList_val (run_mv (v := b32 _) rfl rfl) rfl ?_ | refine wpList_val (run_mv (v := b64 _) rfl rfl) rfl ?_ | refine wpList_val (run_mv (v := b8 _) rfl rfl) rfl ?_ | refine wpList_val (run_mv (v := .int _ _) rfl rfl) rfl ?_ | refine wpList_val (run_mv (v := .bool _) rfl rfl) rfl ?_ | refine wpList_val (run_mv (v := .slice (some _) _ _) rfl rfl) rfl ?_ | refine wpList_val (run_mv (v := .slice _ _ _) rfl rfl) rfl ?_ | refine wpList_val (run_mv (v := .pointer (some _)) rfl rfl) rfl ?_ | refine wpList_val (run_mv (v := .agg _) rfl rfl) rfl ?_ | refine wpList_val (run_asg (v := b32 _) rfl rfl) rfl ?_ | refine wpList_val (run_asg (v := b64 _) rfl rfl) rfl ?_ | refine wpList_val (run_asg (v := b8 _) rfl rfl) rfl ?_ | refine wpList_val (run_asg (v := .int _ _) rfl rfl) rfl ?_ | refine wpList_val (run_asg (v := .bool _) rfl rfl) rfl ?_ | refine wpList_val (run_asg (v := .slice (some _) _ _) rfl rfl) rfl ?_ | refine wpList_val (run_asg (v := .slice _ _ _) rfl rfl) rfl ?_ | refine wpList_val (run_asg (v := .pointer (some _)) rfl rfl) rfl ?_ | refine wpList_val (run_asg (v := .agg _) rfl rfl) rfl ?_ | refine wpList_val (run_mv rfl rfl) rfl ?_ | refine wpList_val (run_asg rfl rfl) rfl ?_ | refine wpList_val (run_xor32 rfl rfl rfl) rfl ?_ | refine wpList_val (run_and32 rfl rfl rfl) rfl ?_ | refine wpList_val (run_or32 rfl rfl rfl) rfl ?_ | refine wpList_val (run_add32 rfl rfl rfl) rfl ?_ | refine wpList_val (run_not32 rfl rfl) rfl ?_ | refine wpList_val (run_xor64 rfl rfl rfl) rfl ?_ | refine wpList_val (run_and64 rfl rfl rfl) rfl ?_ | refine wpList_val (run_or64 rfl rfl rfl) rfl ?_ | refine wpList_val (run_add64 rfl rfl rfl) rfl ?_ | refine wpList_val (run_not64 rfl rfl) rfl ?_ | refine wpList_val (run_xor8 rfl rfl rfl) rfl ?_ | refine wpList_val (run_and8 rfl rfl rfl) rfl ?_ | refine wpList_val (run_or8 rfl rfl rfl) rfl ?_ | refine wpList_val (run_add8 rfl rfl rfl) rfl ?_ | refine wpList_val (run_not8 rfl rfl) rfl ?_ | refine wpList_val (run_cv64_32 rfl rfl) rfl ?_ | refine wpList_val (run_cv8_32 rfl rfl) rfl ?_ | refine wpList_val (run_cv8_64 rfl rfl) rfl ?_ | refine wpList_val (run_cv32_8 rfl rfl) rfl ?_ | refine wpList_val (run_cv64_8 rfl rfl) rfl ?_); (try simp only [Act.put, List.setIfInBounds_toArray, List.set_cons_zero, List.set_cons_succ])))
  refine wpList_end ?_
  have HK := Lib.hid (Arr.new w (K.map b8) 28)
  have bl : Below w.heap.size w (w.alloc (.cells (K.map b8).toArray 28)) := (Below.refl _ _).alloc (Nat.le_refl _) _
  generalize w.alloc (.cells (K.map b8).toArray 28) = r at *
  have hI : Hid (S5 r (.slice none 0 0) (K.take 0) r) := Lib.hid ⟨Below.refl _ _, World.ownsRow_nil _ _ _ _⟩
  go_upto_region 1 with fail; refine wp_region_lit ?_
  (repeat ((first | refine wpList_val (run_mv (v := b32 _) rfl rfl) rfl ?_ | refine wpList_val (run_mv (v := b64 _) rfl rfl) rfl ?_ | refine wpList_val (run_mv (v := b8 _) rfl rfl) rfl ?_ | refine wpList_val (run_mv (v := .int _ _) rfl rfl) rfl ?_ | refine wpList_val (run_mv (v := .bool _) rfl rfl) rfl ?_ | refine wpList_val (run_mv (v := .slice (some _) _ _) rfl rfl) rfl ?_ | refine wpList_val (run_mv (v := .slice _ _ _) rfl rfl) rfl ?_ | refine wpList_val (run_mv (v := .pointer (some _)) rfl rfl) rfl ?_ | refine wpList_val (run_mv (v := .agg _) rfl rfl) rfl ?_ | refine wpList_val (run_asg (v := b32 _) rfl rfl) rfl ?_ | refine wpList_val (run_asg (v := b64 _) rfl rfl) rfl ?_ | refine wpList_val (run_asg (v := b8 _) rfl rfl) rfl ?_ | refine wpList_val (run_asg (v := .int _ _) rfl rfl) rfl ?_ | refine wpList_val (run_asg (v := .bool _) rfl rfl) rfl ?_ | refine wpList_val (run_asg (v := .slice (some _) _ _) rfl rfl) rfl ?_ | refine wpList_val (run_asg (v := .slice _ _ _) rfl rfl) rfl ?_ | refine wpList_val (run_asg (v := .pointer (some _)) rfl rfl) rfl ?_ | refine wpList_val (run_asg (v := .agg _) rfl rfl) rfl ?_ | refine wpList_val (run_mv rfl rfl) rfl ?_ | refine wpList_val (run_asg rfl rfl) rfl ?_ | refine wpList_val (run_xor32 rfl rfl rfl) rfl ?_ | refine wpList_val (run_and32 rfl rfl rfl) rfl ?_ | refine wpList_val (run_or32 rfl rfl rfl) rfl ?_ | refine wpList_val (run_add32 rfl rfl rfl) rfl ?_ | refine wpList_val (run_not32 rfl rfl) rfl ?_ | refine wpList_val (run_xor64 rfl rfl rfl) rfl ?_ | refine wpList_val (run_and64 rfl rfl rfl) rfl ?_ | refine wpList_val (run_or64 rfl rfl rfl) rfl ?_ | refine wpList_val (run_add64 rfl rfl rfl) rfl ?_ | refine wpList_val (run_not64 rfl rfl) rfl ?_ | refine wpList_val (run_xor8 rfl rfl rfl) rfl ?_ | refine wpList_val (run_and8 rfl rfl rfl) rfl ?_ | refine wpList_val (run_or8 rfl rfl rfl) rfl ?_ | refine wpList_val (run_add8 rfl rfl rfl) rfl ?_ | refine wpList_val (run_not8 rfl rfl) rfl ?_ | refine wpList_val (run_cv64_32 rfl rfl) rfl ?_ | refine wpList_val (run_cv8_32 rfl rfl) rfl ?_ | refine wpList_val (run_cv8_64 rfl rfl) rfl ?_ | refine wpList_val (run_cv32_8 rfl rfl) rfl ?_ | refine wpList_val (run_cv64_8 rfl rfl) rfl ?_); (try simp only [Act.put, List.setIfInBounds_toArray, List.set_cons_zero, List.set_cons_succ])))
  refine wpList_end ?_
  go_upto_region 2 with fail; refine wp_region_lit ?_
  (repeat ((first | refine wpList_val (run_mv (v := b32 _) rfl rfl) rfl ?_ | refine wpList_val (run_mv (v := b64 _) rfl rfl) rfl ?_ | refine wpList_val (run_mv (v := b8 _) rfl rfl) rfl ?_ | refine wpList_val (run_mv (v := .int _ _) rfl rfl) rfl ?_ | refine wpList_val (run_mv (v := .bool _) rfl rfl) rfl ?_ | refine wpList_val (run_mv (v := .slice (some _) _ _) rfl rfl) rfl ?_ | refine wpList_val (run_mv (v := .slice _ _ _) rfl rfl) rfl ?_ | refine wpList_val (run_mv (v := .pointer (some _)) rfl rfl) rfl ?_ | refine wpList_val (run_mv (v := .agg _) rfl rfl) rfl ?_ | refine wpList_val (run_asg (v := b32 _) rfl rfl) rfl ?_ | refine wpList_val (run_asg (v := b64 _) rfl rfl) rfl ?_ | refine wpList_val (run_asg (v := b8 _) rfl rfl) rfl ?_ | refine wpList_val (run_asg (v := .int _ _) rfl rfl) rfl ?_ | refine wpList_val (run_asg (v := .bool _) rfl rfl) rfl ?_ | refine wpList_val (run_asg (v := .slice (some _) _ _) rfl rfl) rfl ?_ | refine wpList_val (run_asg (v := .slice _ _ _) rfl rfl) rfl ?_ | refine wpList_val (run_asg (v := .pointer (some _)) rfl rfl) rfl ?_ | refine wpList_val (run_asg (v := .agg _) rfl rfl) rfl ?_ | refine wpList_val (run_mv rfl rfl) rfl ?_ | refine wpList_val (run_asg rfl rfl) rfl ?_ | refine wpList_val (run_xor32 rfl rfl rfl) rfl ?_ | refine wpList_val (run_and32 rfl rfl rfl) rfl ?_ | refine wpList_val (run_or32 rfl rfl rfl) rfl ?_ | refine wpList_val (run_add32 rfl rfl rfl) rfl ?_ | refine wpList_val (run_not32 rfl rfl) rfl ?_ | refine wpList_val (run_xor64 rfl rfl rfl) rfl ?_ | refine wpList_val (run_and64 rfl rfl rfl) rfl ?_ | refine wpList_val (run_or64 rfl rfl rfl) rfl ?_ | refine wpList_val (run_add64 rfl rfl rfl) rfl ?_ | refine wpList_val (run_not64 rfl rfl) rfl ?_ | refine wpList_val (run_xor8 rfl rfl rfl) rfl ?_ | refine wpList_val (run_and8 rfl rfl rfl) rfl ?_ | refine wpList_val (run_or8 rfl rfl rfl) rfl ?_ | refine wpList_val (run_add8 rfl rfl rfl) rfl ?_ | refine wpList_val (run_not8 rfl rfl) rfl ?_ | refine wpList_val (run_cv64_32 rfl rfl) rfl ?_ | refine wpList_val (run_cv8_32 rfl rfl) rfl ?_ | refine wpList_val (run_cv8_64 rfl rfl) rfl ?_ | refine wpList_val (run_cv32_8 rfl rfl) rfl ?_ | refine wpList_val (run_cv64_8 rfl rfl) rfl ?_); (try simp only [Act.put, List.setIfInBounds_toArray, List.set_cons_zero, List.set_cons_succ])))
  refine wpList_end ?_
  go_wp2_with fail
  go_loopw [3, 4] (fun s3 s4 u => ∃ k : Nat, k ≤ 32 ∧ s4 = .int .i64 (k : Int) ∧ S5 r s3 (K.take k) u) (fun _ s4 _ => (32 - intOf s4).toNat)
  case atStart => exact ⟨0, by omega, rfl, hI.out⟩
  case round v3 v4 _ =>
    obtain ⟨k, hk, rfl, hJ⟩ := hrel
    replace hI := Lib.hid hJ
    clear hJ
    by_cases hlt : k = 32
    · subst hlt
      have hk1 : ¬ (((32 : Nat) : Int) < 32) := by omega
      rw [List.take_of_length_le (by omega)] at hI
      go_upto_region 6 with fail; refine wp_region_lit ?_
      refine wpList_val (run_mv (v := u3) rfl rfl) rfl ?_; (try simp only [Act.put, List.setIfInBounds_toArray, List.set_cons_zero, List.set_cons_succ])
      refine wpList_val (run_asg (v := u3) rfl rfl) rfl ?_; (try simp only [Act.put, List.setIfInBounds_toArray, List.set_cons_zero, List.set_cons_succ])
      refine wpList_end ?_
      go_wp2_with fail
      refine bodyPost_ret (results_tmp Tryd.results25 _ _ _) rfl ⟨_, rfl, ?_, bl.trans (hI.out.bl.mono bl.size)⟩
      have := own_mono hI.out.O bl.size
      rw [hK] at this
      exact this
    · have hk1 : (k : Int) < 32 := by omega
      have hk2 : k < 32 := by omega
      have HT2 := Lib.hid (take_snoc8 K k (by omega))
      have htl : (K.take k).length = k := by rw [List.length_take]; omega
      have HC : Hid (wr.cell? ⟨w.heap.size, k, none⟩ = some (b8 (K.getD k 0))) := Lib.hid ((HK.out.below hI.out.bl).c k _ (get_map b8 0 (by omega)))
      generalize K.getD k 0 = x at *
      generalize hP : K.take k = P at *
      clear hP
      go_upto_region 5 with fail; refine wp_region_lit ?_
      refine wpList_val (run_mv (v := u3) rfl rfl) rfl ?_; (try simp only [Act.put, List.setIfInBounds_toArray, List.set_cons_zero, List.set_cons_succ])
      refine wpList_val (run_mv (v := .int _ _) rfl rfl) rfl ?_; (try simp only [Act.put, List.setIfInBounds_toArray, List.set_cons_zero, List.set_cons_succ])
      refine wpList_val (run_ix0 rfl Tryd.underlying28 (by kernel_rfl) rfl rfl hk2) rfl ?_; (try simp only [Act.put, List.setIfInBounds_toArray, List.set_cons_zero, List.set_cons_succ])
      refine wpList_val (run_ld8 rfl rfl HC.out) rfl ?_; (try simp only [Act.put, List.setIfInBounds_toArray, List.set_cons_zero, List.set_cons_succ])
      refine wpList_val (run_bsl (cells := #[b8 (x)]) (z := .int .u8 0) rfl Tryd.underlying22 (by kernel_rfl) (by omega) (by omega) (by kernel_rfl)) rfl ?_; (try simp only [Act.put, List.setIfInBounds_toArray, List.set_cons_zero, List.set_cons_succ]); have hb2 : Below wr.heap.size wr (wr.alloc (.cells #[b8 (x)] 5)) := (Below.refl _ _).alloc (Nat.le_refl _) _; have A2 : Hid (Arr wr.heap.size ([x].map b8) (wr.alloc (.cells #[b8 (x)] 5))) := Lib.hid (Arr.new wr _ _); replace hI := Lib.hid (hI.out.below hb2); clear hb2; generalize wr.alloc (.cells #[b8 (x)] 5) = ua at *; refine wpList_app (f := b8) (fun _ => rfl) (l := P) (m := [x]) (bw := 1) (z := .int .u8 0) rfl rfl Tryd.underlying22 (by kernel_rfl) rfl (by omega) rfl hI.out.O rfl A2.out.range (by rw [htl]; show k + 1 ≤ _; omega) hI.out.bl.size (fun v5 u5 h3 hb3 => ?_); (try simp only [Act.put, List.setIfInBounds_toArray, List.set_cons_zero, List.set_cons_succ]); replace hI : Hid (S5 _ v5 (P ++ [x]) u5) := Lib.hid ⟨hI.out.bl.trans hb3, by rw [List.length_append]; exact h3⟩; clear h3 hb3 A2; clear ua; refine wpList_val (run_asg (v := v5) rfl rfl) rfl ?_; (try simp only [Act.put, List.setIfInBounds_toArray, List.set_cons_zero, List.set_cons_succ]); refine wpList_end ?_
      rw [← HT2.out] at hI
      clear HC HT2
      go_wp2_with fail
      go_roundw
      case rel => exact ⟨k + 1, by omega, by go_num, hI.out⟩
      case measure => simp [intOf]; omega
set_option maxHeartbeats 1000000 in
theorem joined_any (va : Value) (a : List (BitVec 8)) (vb : Value) (b : List (BitVec 8)) (w : World) (ha : Sl va a w) (hb : Sl vb b w) (hn : a.length + b.length ≤ 16777216) :
    Calls Tryd.prog 27 #[va, vb] w fun e w' => ∃ v', e = .returned v' ∧ (Sl v' (a ++ b) w' ∧ Below w.heap.size w w') := by
  have HA := Lib.hid ha; clear ha
  have HB := Lib.hid hb; clear hb
  go_enter Tryd.func27, Tryd.ntmps27
  go_upto_region 1 with fail; refine wp_region_lit ?_
  (repeat ((first | refine wpList_val (run_mv (v := b32 _) rfl rfl) rfl ?_ | refine wpList_val (run_mv (v := b64 _) rfl rfl) rfl ?_ | refine wpList_val (run_mv (v := b8 _) rfl rfl) rfl ?_ | refine wpList_val (run_mv (v := .int _ _) rfl rfl) rfl ?_ | refine wpList_val (run_mv (v := .bool _) rfl rfl) rfl ?_ | refine wpList_val (run_mv (v := .slice (some _) _ _) rfl rfl) rfl ?_ | refine wpList_val (run_mv (v := .slice _ _ _) rfl rfl) rfl ?_ | refine wpList_val (run_mv (v := .pointer (some _)) rfl rfl) rfl ?_ | refine wpList_val (run_mv (v := .agg _) rfl rfl) rfl ?_ | refine wpList_val (run_asg (v := b32 _) rfl rfl) rfl ?_ | refine wpList_val (run_asg (v := b64 _) rfl rfl) rfl ?_ | refine wpList_val (run_asg (v := b8 _) rfl rfl) rfl ?_ | refine wpList_val (run_asg (v := .int _ _) rfl rfl) rfl ?_ | refine wpList_val (run_asg (v := .bool _) rfl rfl) rfl ?_ | refine wpList_val (run_asg (v := .slice (some _) _ _) rfl rfl) rfl ?_ | refine wpList_val (run_asg (v := .slice _ _ _) rfl rfl) rfl ?_ | refine wpList_val (run_asg (v := .pointer (some _)) rfl rfl) rfl ?_ | refine wpList_val (run_asg (v := .agg _) rfl rfl) rfl ?_ | refine wpList_val (run_mv rfl rfl) rfl ?_ | refine wpList_val (run_asg rfl rfl) rfl ?_ | refine wpList_val (run_xor32 rfl rfl rfl) rfl ?_ | refine wpList_val (run_and32 rfl rfl rfl) rfl ?_ | refine wpList_val (run_or32 rfl rfl rfl) rfl ?_ | refine wpList_val (run_add32 rfl rfl rfl) rfl ?_ | refine wpList_val (run_not32 rfl rfl) rfl ?_ | refine wpList_val (run_xor64 rfl rfl rfl) rfl ?_ | refine wpList_val (run_and64 rfl rfl rfl) rfl ?_ | refine wpList_val (run_or64 rfl rfl rfl) rfl ?_ | refine wpList_val (run_add64 rfl rfl rfl) rfl ?_ | refine wpList_val (run_not64 rfl rfl) rfl ?_ | refine wpList_val (run_xor8 rfl rfl rfl) rfl ?_ | refine wpList_val (run_and8 rfl rfl rfl) rfl ?_ | refine wpList_val (run_or8 rfl rfl rfl) rfl ?_ | refine wpList_val (run_add8 rfl rfl rfl) rfl ?_ | refine wpList_val (run_not8 rfl rfl) rfl ?_ | refine wpList_val (run_cv64_32 rfl rfl) rfl ?_ | refine wpList_val (run_cv8_32 rfl rfl) rfl ?_ | refine wpList_val (run_cv8_64 rfl rfl) rfl ?_ | refine wpList_val (run_cv32_8 rfl rfl) rfl ?_ | refine wpList_val (run_cv64_8 rfl rfl) rfl ?_); (try simp only [Act.put, List.setIfInBounds_toArray, List.set_cons_zero, List.set_cons_succ])))
  refine wpList_end ?_
  go_upto_region 2 with fail; refine wp_region_lit ?_
  refine wpList_val (run_mv (v := .slice _ _ _) rfl rfl) rfl ?_; (try simp only [Act.put, List.setIfInBounds_toArray, List.set_cons_zero, List.set_cons_succ])
  refine wpList_val (run_mv (v := va) rfl rfl) rfl ?_; (try simp only [Act.put, List.setIfInBounds_toArray, List.set_cons_zero, List.set_cons_succ])
  refine wpList_appG (l := []) (m := a) rfl rfl rfl (World.ownsRow_nil w w.heap.size _ _) rfl HA.out (by omega) (Nat.le_refl _) (fun v1 u1 h1 bl => ?_); (try simp only [Act.put, List.setIfInBounds_toArray, List.set_cons_zero, List.set_cons_succ])
  refine wpList_val (run_asg (v := v1) rfl rfl) rfl ?_; (try simp only [Act.put, List.setIfInBounds_toArray, List.set_cons_zero, List.set_cons_succ])
  refine wpList_end ?_
  have HO := Lib.hid h1; clear h1
  go_upto_region 3 with fail; refine wp_region_lit ?_
  refine wpList_val (run_mv (v := v1) rfl rfl) rfl ?_; (try simp only [Act.put, List.setIfInBounds_toArray, List.set_cons_zero, List.set_cons_succ])
  refine wpList_val (run_mv (v := vb) rfl rfl) rfl ?_; (try simp only [Act.put, List.setIfInBounds_toArray, List.set_cons_zero, List.set_cons_succ])
  refine wpList_appG (l := [] ++ a) (m := b) rfl rfl rfl HO.out rfl (HB.out.below bl) (by omega) bl.size (fun v2 u2 h2 hb2 => ?_); (try simp only [Act.put, List.setIfInBounds_toArray, List.set_cons_zero, List.set_cons_succ])
  refine wpList_val (run_asg (v := v2) rfl rfl) rfl ?_; (try simp only [Act.put, List.setIfInBounds_toArray, List.set_cons_zero, List.set_cons_succ])
  refine wpList_end ?_
  have HS : Hid (Sl v2 (a ++ b) u2) := Lib.hid (by
    rw [List.nil_append] at h2
    exact Sl.own (base := w.heap.size) (by rw [List.length_append]; rwa [Nat.zero_add] at h2))
  replace bl := bl.trans hb2
  clear h2 hb2 HO HA HB
  go_upto_region 4 with fail; refine wp_region_lit ?_
  refine wpList_val (run_mv (v := v2) rfl rfl) rfl ?_; (try simp only [Act.put, List.setIfInBounds_toArray, List.set_cons_zero, List.set_cons_succ])
  refine wpList_val (run_asg (v := v2) rfl rfl) rfl ?_; (try simp only [Act.put, List.setIfInBounds_toArray, List.set_cons_zero, List.set_cons_succ])
  refine wpList_end ?_
  go_wp2_with fail
  exact bodyPost_ret (results_tmp Tryd.results27 _ _ _) rfl ⟨_, rfl, HS.out, bl⟩
end Go.Proofs.YtebmcjleepnehaaDoor
namespace Go.Proofs.YtebmcjleepnehaaDoor
open Go.RowKit

theorem enters_rhmac : Enters 16 := enters_of Tryd.func16 (by kernel_rfl) rfl
def keyS (k : List (BitVec 8)) : List (BitVec 8) := if 64 < k.length then sum32 k else k
theorem keyS_le (k : List (BitVec 8)) : (keyS k).length ≤ 64 := by
  unfold keyS
  split
  · rw [sum_len32]; omega
  · omega
theorem fz_getD (s : List (BitVec 8)) (i : Nat) : (fz s).getD i 0 = if i < s.length then s.getD i 0 else 0 := by
  unfold fz
  by_cases h : i < s.length
  · rw [if_pos h]
    simp only [List.getD_eq_getElem?_getD]
    rw [List.getElem?_append_left h]
  · rw [if_neg h]
    simp only [List.getD_eq_getElem?_getD]
    rw [List.getElem?_append_right (by omega), List.getElem?_replicate]
    split <;> rfl
theorem xor_snoc (m : BitVec 8) (F : List (BitVec 8)) (k : Nat) (h : k < F.length) : xorL m (F.take (k + 1)) = xorL m (F.take k) ++ [F.getD k 0 ^^^ m] := by
  unfold xorL
  rw [take_snoc8 F k h, List.map_append]; rfl
structure TwoR (r : World) (v v2 : Value) (l l2 : List (BitVec 8)) (n : Nat) (u : World) : Prop where
  bl : Below r.heap.size r u
  O : u.ownsRow r.heap.size 5 1 v n (l.map b8)
  O2 : u.ownsRow r.heap.size 5 1 v2 n (l2.map b8)
  ap : Apart v v2
theorem TwoR.below {r u u' : World} {v v2 : Value} {l l2 : List (BitVec 8)} {n : Nat} (i : TwoR r v v2 l l2 n u) (hb : Below u.heap.size u u') : TwoR r v v2 l l2 n u' :=
  ⟨i.bl.trans (hb.mono i.bl.size), own_below i.O hb, own_below i.O2 hb, i.ap⟩
set_option maxHeartbeats 2000000 in
theorem rhmac_any (vk : Value) (k : List (BitVec 8)) (vb : Value) (b : List (BitVec 8)) (w : World) (hk : Sl vk k w) (hkl : k.length ≤ 9000) (hb : Sl vb b w) (hbl : b.length ≤ 9000) (hT : Tabs w) :
    Calls Tryd.prog 16 #[vk, vb] w fun e w' => e = .returned (.agg ((hmac k b).map b8).toArray) ∧ Below w.heap.size w w' := by
  have HT := Lib.hid hT; clear hT
  have HK := Lib.hid hk
  have HB := Lib.hid hb; clear hb
  have EH : Hid (hmac k b = sum32 (xorL 0x5c (fz (keyS k)) ++ sum32 (xorL 0x36 (fz (keyS k)) ++ b))) := Lib.hid rfl
  have HKS : Hid (keyS k = if 64 < k.length then sum32 k else k) := Lib.hid rfl
  have hksl := keyS_le k
  obtain ⟨ao, c, rfl, -, -⟩ := hk
  go_enter Tryd.func16, Tryd.ntmps16
  go_upto_region 0 with fail; refine wp_region_lit ?_
  refine wpList_val (run_alc (vs := z8 32) rfl (by kernel_rfl)) rfl ?_; (try simp only [Act.put, List.setIfInBounds_toArray, List.set_cons_zero, List.set_cons_succ])
  refine wpList_end ?_
  have HR := Lib.hid (Arr.new w (z8 32) 28)
  have bl : Below w.heap.size w (w.alloc (.cells (z8 32).toArray 28)) := (Below.refl _ _).alloc (Nat.le_refl _) _
  generalize w.alloc (.cells (z8 32).toArray 28) = a0 at *
  generalize keyS k = s at *
  go_upto_region 1 with fail; refine wp_region_lit ?_
  (repeat ((first | refine wpList_val (run_mv (v := b32 _) rfl rfl) rfl ?_ | refine wpList_val (run_mv (v := b64 _) rfl rfl) rfl ?_ | refine wpList_val (run_mv (v := b8 _) rfl rfl) rfl ?_ | refine wpList_val (run_mv (v := .int _ _) rfl rfl) rfl ?_ | refine wpList_val (run_mv (v := .bool _) rfl rfl) rfl ?_ | refine wpList_val (run_mv (v := .slice (some _) _ _) rfl rfl) rfl ?_ | refine wpList_val (run_mv (v := .slice _ _ _) rfl rfl) rfl ?_ | refine wpList_val (run_mv (v := .pointer (some _)) rfl rfl) rfl ?_ | refine wpList_val (run_mv (v := .agg _) rfl rfl) rfl ?_ | refine wpList_val (run_asg (v := b32 _) rfl rfl) rfl ?_ | refine wpList_val (run_asg (v := b64 _) rfl rfl) rfl ?_ | refine wpList_val (run_asg (v := b8 _) rfl rfl) rfl ?_ | refine wpList_val (run_asg (v := .int _ _) rfl rfl) rfl ?_ | refine wpList_val (run_asg (v := .bool _) rfl rfl) rfl ?_ | refine wpList_val (run_asg (v := .slice (some _) _ _) rfl rfl) rfl ?_ | refine wpList_val (run_asg (v := .slice _ _ _) rfl rfl) rfl ?_ | refine wpList_val (run_asg (v := .pointer (some _)) rfl rfl) rfl ?_ | refine wpList_val (run_asg (v := .agg _) rfl rfl) rfl ?_ | refine wpList_val (run_mv rfl rfl) rfl ?_ | refine wpList_val (run_asg rfl rfl) rfl ?_ | refine wpList_val (run_xor32 rfl rfl rfl) rfl ?_ | refine wpList_val (run_and32 rfl rfl rfl) rfl ?_ | refine wpList_val (run_or32 rfl rfl rfl) rfl ?_ | refine wpList_val (run_add32 rfl rfl rfl) rfl ?_ | refine wpList_val (run_not32 rfl rfl) rfl ?_ | refine wpList_val (run_xor64 rfl rfl rfl) rfl ?_ | refine wpList_val (run_and64 rfl rfl rfl) rfl ?_ | refine wpList_val (run_or64 rfl rfl rfl) rfl ?_ | refine wpList_val (run_add64 rfl rfl rfl) rfl ?_ | refine wpList_val (run_not64 rfl rfl) rfl ?_ | refine wpList_val (run_xor8 rfl rfl rfl) rfl ?_ | refine wpList_val (run_and8 rfl rfl rfl) rfl ?_ | refine wpList_val (run_or8 rfl rfl rfl) rfl ?_ | refine wpList_val (run_add8 rfl rfl rfl) rfl ?_ | refine wpList_val (run_not8 rfl rfl) rfl ?_ | refine wpList_val (run_cv64_32 rfl rfl) rfl ?_ | refine wpList_val (run_cv8_32 rfl rfl) rfl ?_ | refine wpList_val (run_cv8_64 rfl rfl) rfl ?_ | refine wpList_val (run_cv32_8 rfl rfl) rfl ?_ | refine wpList_val (run_cv64_8 rfl rfl) rfl ?_); (try simp only [Act.put, List.setIfInBounds_toArray, List.set_cons_zero, List.set_cons_succ])))
  refine wpList_val (run_len rfl Tryd.underlying22 rfl) rfl ?_; (try simp only [Act.put, List.setIfInBounds_toArray, List.set_cons_zero, List.set_cons_succ])
  refine wpList_val (run_gtr rfl rfl rfl) rfl ?_; (try simp only [Act.put, List.setIfInBounds_toArray, List.set_cons_zero, List.set_cons_succ])
  refine wpList_end ?_
  go_upto_if 11 with fail
  go_cut [0] (fun s0 u => Sl s0 s u ∧ Below a0.heap.size a0 u)
  case first =>
    by_cases hlt : 64 < k.length
    · rw [if_pos hlt] at HKS
      rw [decide_eq_true (show (64 : Int) < (k.length : Int) by omega)]
      go_upto_region 2 with fail; refine wp_region_lit ?_
      (repeat ((first | refine wpList_val (run_mv (v := b32 _) rfl rfl) rfl ?_ | refine wpList_val (run_mv (v := b64 _) rfl rfl) rfl ?_ | refine wpList_val (run_mv (v := b8 _) rfl rfl) rfl ?_ | refine wpList_val (run_mv (v := .int _ _) rfl rfl) rfl ?_ | refine wpList_val (run_mv (v := .bool _) rfl rfl) rfl ?_ | refine wpList_val (run_mv (v := .slice (some _) _ _) rfl rfl) rfl ?_ | refine wpList_val (run_mv (v := .slice _ _ _) rfl rfl) rfl ?_ | refine wpList_val (run_mv (v := .pointer (some _)) rfl rfl) rfl ?_ | refine wpList_val (run_mv (v := .agg _) rfl rfl) rfl ?_ | refine wpList_val (run_asg (v := b32 _) rfl rfl) rfl ?_ | refine wpList_val (run_asg (v := b64 _) rfl rfl) rfl ?_ | refine wpList_val (run_asg (v := b8 _) rfl rfl) rfl ?_ | refine wpList_val (run_asg (v := .int _ _) rfl rfl) rfl ?_ | refine wpList_val (run_asg (v := .bool _) rfl rfl) rfl ?_ | refine wpList_val (run_asg (v := .slice (some _) _ _) rfl rfl) rfl ?_ | refine wpList_val (run_asg (v := .slice _ _ _) rfl rfl) rfl ?_ | refine wpList_val (run_asg (v := .pointer (some _)) rfl rfl) rfl ?_ | refine wpList_val (run_asg (v := .agg _) rfl rfl) rfl ?_ | refine wpList_val (run_mv rfl rfl) rfl ?_ | refine wpList_val (run_asg rfl rfl) rfl ?_ | refine wpList_val (run_xor32 rfl rfl rfl) rfl ?_ | refine wpList_val (run_and32 rfl rfl rfl) rfl ?_ | refine wpList_val (run_or32 rfl rfl rfl) rfl ?_ | refine wpList_val (run_add32 rfl rfl rfl) rfl ?_ | refine wpList_val (run_not32 rfl rfl) rfl ?_ | refine wpList_val (run_xor64 rfl rfl rfl) rfl ?_ | refine wpList_val (run_and64 rfl rfl rfl) rfl ?_ | refine wpList_val (run_or64 rfl rfl rfl) rfl ?_ | refine wpList_val (run_add64 rfl rfl rfl) rfl ?_ | refine wpList_val (run_not64 rfl rfl) rfl ?_ | refine wpList_val (run_xor8 rfl rfl rfl) rfl ?_ | refine wpList_val (run_and8 rfl rfl rfl) rfl ?_ | refine wpList_val (run_or8 rfl rfl rfl) rfl ?_ | refine wpList_val (run_add8 rfl rfl rfl) rfl ?_ | refine wpList_val (run_not8 rfl rfl) rfl ?_ | refine wpList_val (run_cv64_32 rfl rfl) rfl ?_ | refine wpList_val (run_cv8_32 rfl rfl) rfl ?_ | refine wpList_val (run_cv8_64 rfl rfl) rfl ?_ | refine wpList_val (run_cv32_8 rfl rfl) rfl ?_ | refine wpList_val (run_cv64_8 rfl rfl) rfl ?_); (try simp only [Act.put, List.setIfInBounds_toArray, List.set_cons_zero, List.set_cons_succ])))
      refine wpList_enter (run_call1 enters_refsum32 rfl rfl rfl) rfl (refsum32_any _ k _ (HK.out.below bl) (by omega) (HT.out.below bl)) (fun a1 b1 => ?_); (try simp only [Act.put, List.setIfInBounds_toArray, List.set_cons_zero, List.set_cons_succ])
      rw [← HKS.out]
      refine wpList_callR (run_call1 enters_rslice rfl rfl rfl) rfl (rslice_any s _ (by rw [HKS.out]; exact sum_len32 k)) (fun v1 a2 hR => ?_)
      obtain ⟨O1, hb⟩ := hR
      have S1 : Sl v1 s a2 := Sl.own (base := a1.heap.size) (by rw [show s.length = 32 by rw [HKS.out]; exact sum_len32 k]; exact O1)
      (try simp only [Act.put, List.setIfInBounds_toArray, List.set_cons_zero, List.set_cons_succ])
      refine wpList_val (run_asg (v := v1) rfl rfl) rfl ?_
      simp only [Act.put, List.setIfInBounds_toArray, List.set_cons_zero]
      refine wpList_end ?_
      go_wp2_with fail
      go_meet
      exact ⟨S1, b1.trans (hb.mono b1.size)⟩
    · rw [if_neg hlt] at HKS
      rw [decide_eq_false (show ¬ (64 : Int) < (k.length : Int) by omega)]
      go_wp2_with fail
      go_meet
      exact ⟨by rw [HKS.out]; exact HK.out.below bl, Below.refl _ _⟩
  case rest =>
    obtain ⟨S0, hb0⟩ := hcut
    have H0 := Lib.hid S0
    obtain ⟨ak, ck, e0, -, -⟩ := S0
    subst e0
    replace HR := Lib.hid (HR.out.below hb0)
    replace bl := bl.trans (hb0.mono bl.size)
    clear hb0 HK HKS
    generalize hr : wc = r at *
    clear hr
    have hfl := fz_len hksl
    have HFG := Lib.hid (fz_getD s)
    generalize fz s = F at *
    have hI : Hid (TwoR r (.slice none 0 0) (.slice none 0 0) (xorL 0x36 (F.take 0)) (xorL 0x5c (F.take 0)) 0 r) := Lib.hid ⟨Below.refl _ _, World.ownsRow_nil _ _ _ _, World.ownsRow_nil _ _ _ _, Apart.nil _⟩
    go_upto_region 3 with fail; refine wp_region_lit ?_
    (repeat ((first | refine wpList_val (run_mv (v := b32 _) rfl rfl) rfl ?_ | refine wpList_val (run_mv (v := b64 _) rfl rfl) rfl ?_ | refine wpList_val (run_mv (v := b8 _) rfl rfl) rfl ?_ | refine wpList_val (run_mv (v := .int _ _) rfl rfl) rfl ?_ | refine wpList_val (run_mv (v := .bool _) rfl rfl) rfl ?_ | refine wpList_val (run_mv (v := .slice (some _) _ _) rfl rfl) rfl ?_ | refine wpList_val (run_mv (v := .slice _ _ _) rfl rfl) rfl ?_ | refine wpList_val (run_mv (v := .pointer (some _)) rfl rfl) rfl ?_ | refine wpList_val (run_mv (v := .agg _) rfl rfl) rfl ?_ | refine wpList_val (run_asg (v := b32 _) rfl rfl) rfl ?_ | refine wpList_val (run_asg (v := b64 _) rfl rfl) rfl ?_ | refine wpList_val (run_asg (v := b8 _) rfl rfl) rfl ?_ | refine wpList_val (run_asg (v := .int _ _) rfl rfl) rfl ?_ | refine wpList_val (run_asg (v := .bool _) rfl rfl) rfl ?_ | refine wpList_val (run_asg (v := .slice (some _) _ _) rfl rfl) rfl ?_ | refine wpList_val (run_asg (v := .slice _ _ _) rfl rfl) rfl ?_ | refine wpList_val (run_asg (v := .pointer (some _)) rfl rfl) rfl ?_ | refine wpList_val (run_asg (v := .agg _) rfl rfl) rfl ?_ | refine wpList_val (run_mv rfl rfl) rfl ?_ | refine wpList_val (run_asg rfl rfl) rfl ?_ | refine wpList_val (run_xor32 rfl rfl rfl) rfl ?_ | refine wpList_val (run_and32 rfl rfl rfl) rfl ?_ | refine wpList_val (run_or32 rfl rfl rfl) rfl ?_ | refine wpList_val (run_add32 rfl rfl rfl) rfl ?_ | refine wpList_val (run_not32 rfl rfl) rfl ?_ | refine wpList_val (run_xor64 rfl rfl rfl) rfl ?_ | refine wpList_val (run_and64 rfl rfl rfl) rfl ?_ | refine wpList_val (run_or64 rfl rfl rfl) rfl ?_ | refine wpList_val (run_add64 rfl rfl rfl) rfl ?_ | refine wpList_val (run_not64 rfl rfl) rfl ?_ | refine wpList_val (run_xor8 rfl rfl rfl) rfl ?_ | refine wpList_val (run_and8 rfl rfl rfl) rfl ?_ | refine wpList_val (run_or8 rfl rfl rfl) rfl ?_ | refine wpList_val (run_add8 rfl rfl rfl) rfl ?_ | refine wpList_val (run_not8 rfl rfl) rfl ?_ | refine wpList_val (run_cv64_32 rfl rfl) rfl ?_ | refine wpList_val (run_cv8_32 rfl rfl) rfl ?_ | refine wpList_val (run_cv8_64 rfl rfl) rfl ?_ | refine wpList_val (run_cv32_8 rfl rfl) rfl ?_ | refine wpList_val (run_cv64_8 rfl rfl) rfl ?_); (try simp only [Act.put, List.setIfInBounds_toArray, List.set_cons_zero, List.set_cons_succ])))
    refine wpList_end ?_
    go_upto_region 4 with fail; refine wp_region_lit ?_
    (repeat ((first | refine wpList_val (run_mv (v := b32 _) rfl rfl) rfl ?_ | refine wpList_val (run_mv (v := b64 _) rfl rfl) rfl ?_ | refine wpList_val (run_mv (v := b8 _) rfl rfl) rfl ?_ | refine wpList_val (run_mv (v := .int _ _) rfl rfl) rfl ?_ | refine wpList_val (run_mv (v := .bool _) rfl rfl) rfl ?_ | refine wpList_val (run_mv (v := .slice (some _) _ _) rfl rfl) rfl ?_ | refine wpList_val (run_mv (v := .slice _ _ _) rfl rfl) rfl ?_ | refine wpList_val (run_mv (v := .pointer (some _)) rfl rfl) rfl ?_ | refine wpList_val (run_mv (v := .agg _) rfl rfl) rfl ?_ | refine wpList_val (run_asg (v := b32 _) rfl rfl) rfl ?_ | refine wpList_val (run_asg (v := b64 _) rfl rfl) rfl ?_ | refine wpList_val (run_asg (v := b8 _) rfl rfl) rfl ?_ | refine wpList_val (run_asg (v := .int _ _) rfl rfl) rfl ?_ | refine wpList_val (run_asg (v := .bool _) rfl rfl) rfl ?_ | refine wpList_val (run_asg (v := .slice (some _) _ _) rfl rfl) rfl ?_ | refine wpList_val (run_asg (v := .slice _ _ _) rfl rfl) rfl ?_ | refine wpList_val (run_asg (v := .pointer (some _)) rfl rfl) rfl ?_ | refine wpList_val (run_asg (v := .agg _) rfl rfl) rfl ?_ | refine wpList_val (run_mv rfl rfl) rfl ?_ | refine wpList_val (run_asg rfl rfl) rfl ?_ | refine wpList_val (run_xor32 rfl rfl rfl) rfl ?_ | refine wpList_val (run_and32 rfl rfl rfl) rfl ?_ | refine wpList_val (run_or32 rfl rfl rfl) rfl ?_ | refine wpList_val (run_add32 rfl rfl rfl) rfl ?_ | refine wpList_val (run_not32 rfl rfl) rfl ?_ | refine wpList_val (run_xor64 rfl rfl rfl) rfl ?_ | refine wpList_val (run_and64 rfl rfl rfl) rfl ?_ | refine wpList_val (run_or64 rfl rfl rfl) rfl ?_ | refine wpList_val (run_add64 rfl rfl rfl) rfl ?_ | refine wpList_val (run_not64 rfl rfl) rfl ?_ | refine wpList_val (run_xor8 rfl rfl rfl) rfl ?_ | refine wpList_val (run_and8 rfl rfl rfl) rfl ?_ | refine wpList_val (run_or8 rfl rfl rfl) rfl ?_ | refine wpList_val (run_add8 rfl rfl rfl) rfl ?_ | refine wpList_val (run_not8 rfl rfl) rfl ?_ | refine wpList_val (run_cv64_32 rfl rfl) rfl ?_ | refine wpList_val (run_cv8_32 rfl rfl) rfl ?_ | refine wpList_val (run_cv8_64 rfl rfl) rfl ?_ | refine wpList_val (run_cv32_8 rfl rfl) rfl ?_ | refine wpList_val (run_cv64_8 rfl rfl) rfl ?_); (try simp only [Act.put, List.setIfInBounds_toArray, List.set_cons_zero, List.set_cons_succ])))
    refine wpList_end ?_
    go_upto_region 5 with fail; refine wp_region_lit ?_
    (repeat ((first | refine wpList_val (run_mv (v := b32 _) rfl rfl) rfl ?_ | refine wpList_val (run_mv (v := b64 _) rfl rfl) rfl ?_ | refine wpList_val (run_mv (v := b8 _) rfl rfl) rfl ?_ | refine wpList_val (run_mv (v := .int _ _) rfl rfl) rfl ?_ | refine wpList_val (run_mv (v := .bool _) rfl rfl) rfl ?_ | refine wpList_val (run_mv (v := .slice (some _) _ _) rfl rfl) rfl ?_ | refine wpList_val (run_mv (v := .slice _ _ _) rfl rfl) rfl ?_ | refine wpList_val (run_mv (v := .pointer (some _)) rfl rfl) rfl ?_ | refine wpList_val (run_mv (v := .agg _) rfl rfl) rfl ?_ | refine wpList_val (run_asg (v := b32 _) rfl rfl) rfl ?_ | refine wpList_val (run_asg (v := b64 _) rfl rfl) rfl ?_ | refine wpList_val (run_asg (v := b8 _) rfl rfl) rfl ?_ | refine wpList_val (run_asg (v := .int _ _) rfl rfl) rfl ?_ | refine wpList_val (run_asg (v := .bool _) rfl rfl) rfl ?_ | refine wpList_val (run_asg (v := .slice (some _) _ _) rfl rfl) rfl ?_ | refine wpList_val (run_asg (v := .slice _ _ _) rfl rfl) rfl ?_ | refine wpList_val (run_asg (v := .pointer (some _)) rfl rfl) rfl ?_ | refine wpList_val (run_asg (v := .agg _) rfl rfl) rfl ?_ | refine wpList_val (run_mv rfl rfl) rfl ?_ | refine wpList_val (run_asg rfl rfl) rfl ?_ | refine wpList_val (run_xor32 rfl rfl rfl) rfl ?_ | refine wpList_val (run_and32 rfl rfl rfl) rfl ?_ | refine wpList_val (run_or32 rfl rfl rfl) rfl ?_ | refine wpList_val (run_add32 rfl rfl rfl) rfl ?_ | refine wpList_val (run_not32 rfl rfl) rfl ?_ | refine wpList_val (run_xor64 rfl rfl rfl) rfl ?_ | refine wpList_val (run_and64 rfl rfl rfl) rfl ?_ | refine wpList_val (run_or64 rfl rfl rfl) rfl ?_ | refine wpList_val (run_add64 rfl rfl rfl) rfl ?_ | refine wpList_val (run_not64 rfl rfl) rfl ?_ | refine wpList_val (run_xor8 rfl rfl rfl) rfl ?_ | refine wpList_val (run_and8 rfl rfl rfl) rfl ?_ | refine wpList_val (run_or8 rfl rfl rfl) rfl ?_ | refine wpList_val (run_add8 rfl rfl rfl) rfl ?_ | refine wpList_val (run_not8 rfl rfl) rfl ?_ | refine wpList_val (run_cv64_32 rfl rfl) rfl ?_ | refine wpList_val (run_cv8_32 rfl rfl) rfl ?_ | refine wpList_val (run_cv8_64 rfl rfl) rfl ?_ | refine wpList_val (run_cv32_8 rfl rfl) rfl ?_ | refine wpList_val (run_cv64_8 rfl rfl) rfl ?_); (try simp only [Act.put, List.setIfInBounds_toArray, List.set_cons_zero, List.set_cons_succ])))
    refine wpList_end ?_
    go_wp2_with fail
    go_loopw [5, 6, 7] (fun s5 s6 s7 u => ∃ i : Nat, i ≤ 64 ∧ s7 = .int .i64 (i : Int) ∧ TwoR r s5 s6 (xorL 0x36 (F.take i)) (xorL 0x5c (F.take i)) i u) (fun _ _ s7 _ => (64 - intOf s7).toNat)
    case atStart => exact ⟨0, by omega, rfl, hI.out⟩
    case round v5 v6 v7 _ =>
      obtain ⟨i, hi, rfl, hJ⟩ := hrel
      replace hI := Lib.hid hJ
      clear hJ
      by_cases hlt : i = 64
      · subst hlt
        have hk1 : ¬ (((64 : Nat) : Int) < 64) := by omega
        rw [List.take_of_length_le (by omega)] at hI
        have hx1 := xor_len 0x36 F
        have hx2 := xor_len 0x5c F
        generalize xorL 0x36 F = X1 at *
        generalize xorL 0x5c F = X2 at *
        have SI : Hid (∀ V, Below wr.heap.size wr V → Sl u5 X1 V) := Lib.hid fun V hV => Sl.own (base := r.heap.size) (by rw [hx1, hfl]; exact (hI.out.below hV).O)
        have SO : Hid (∀ V, Below wr.heap.size wr V → Sl u6 X2 V) := Lib.hid fun V hV => Sl.own (base := r.heap.size) (by rw [hx2, hfl]; exact (hI.out.below hV).O2)
        replace HR := Lib.hid (HR.out.below hI.out.bl)
        replace bl := bl.trans (hI.out.bl.mono bl.size)
        clear hI H0 HFG
        go_upto_region 13 with fail; refine wp_region_lit ?_
        refine wpList_val (run_mv (v := u6) rfl rfl) rfl ?_; (try simp only [Act.put, List.setIfInBounds_toArray, List.set_cons_zero, List.set_cons_succ])
        refine wpList_val (run_mv (v := u5) rfl rfl) rfl ?_; (try simp only [Act.put, List.setIfInBounds_toArray, List.set_cons_zero, List.set_cons_succ])
        refine wpList_val (run_mv (v := vb) rfl rfl) rfl ?_; (try simp only [Act.put, List.setIfInBounds_toArray, List.set_cons_zero, List.set_cons_succ])
        refine wpList_callR (run_call2 enters_joined rfl rfl rfl rfl) rfl (joined_any _ X1 _ b _ (SI.out _ (Below.refl _ _)) (HB.out.below bl) (by omega)) (fun q1 a1 hR => ?_); (try simp only [Act.put, List.setIfInBounds_toArray, List.set_cons_zero, List.set_cons_succ])
        obtain ⟨S1, hS⟩ := hR
        have hl1 : (X1 ++ b).length ≤ 10000 := by rw [List.length_append]; omega
        generalize X1 ++ b = B1 at *
        refine wpList_enter (run_call1 enters_refsum32 rfl rfl rfl) rfl (refsum32_any _ B1 _ S1 hl1 (HT.out.below (bl.trans (hS.mono bl.size)))) (fun a2 hb => ?_); (try simp only [Act.put, List.setIfInBounds_toArray, List.set_cons_zero, List.set_cons_succ])
        replace hS := hS.trans (hb.mono hS.size)
        clear hb S1
        have hsl := sum_len32 B1
        generalize sum32 B1 = D1 at *
        refine wpList_callR (run_call1 enters_rslice rfl rfl rfl) rfl (rslice_any D1 _ hsl) (fun q2 a3 hR => ?_); (try simp only [Act.put, List.setIfInBounds_toArray, List.set_cons_zero, List.set_cons_succ])
        obtain ⟨O1, hb⟩ := hR
        replace hS := hS.trans (hb.mono hS.size)
        have S2 : Sl q2 D1 a3 := Sl.own (base := a2.heap.size) (by rw [hsl]; exact O1)
        clear hb O1
        refine wpList_callR (run_call2 enters_joined rfl rfl rfl rfl) rfl (joined_any _ X2 _ D1 _ (SO.out _ hS) S2 (by omega)) (fun q3 a4 hR => ?_); (try simp only [Act.put, List.setIfInBounds_toArray, List.set_cons_zero, List.set_cons_succ])
        obtain ⟨S3, hb⟩ := hR
        replace hS := hS.trans (hb.mono hS.size)
        clear hb S2
        have hl2 : (X2 ++ D1).length ≤ 10000 := by rw [List.length_append]; omega
        generalize X2 ++ D1 = B2 at *
        refine wpList_enter (run_call1 enters_refsum32 rfl rfl rfl) rfl (refsum32_any _ B2 _ S3 hl2 (HT.out.below (bl.trans (hS.mono bl.size)))) (fun a5 hb => ?_); (try simp only [Act.put, List.setIfInBounds_toArray, List.set_cons_zero, List.set_cons_succ])
        replace hS := hS.trans (hb.mono hS.size)
        clear hb S3
        have hs2 := sum_len32 B2
        generalize sum32 B2 = D2 at *
        replace HR := Lib.hid (HR.out.below hS)
        replace bl := bl.trans (hS.mono bl.size)
        clear hS SI SO
        have HZ := Lib.hid (size_d32 hs2)
        have hT := (HR.out.put (l' := D2.map b8) (by rw [List.length_map, hs2, z8_len])).range
        refine wpList_skip (run_stA (vs := D2.map b8) rfl HZ.out rfl rfl (one8 _) (by rw [List.length_map, hs2, ← z8_len 32]; exact HR.out.there)) rfl rfl ?_
        refine wpList_end ?_
        go_wp2_with fail
        refine bodyPost_ret (v := .agg (D2.map b8).toArray) ?_ rfl ⟨by rw [EH.out], below_setCells (Nat.le_refl _) _ _ bl⟩
        exact results_arr Tryd.results16 rfl Tryd.underlying28 HZ.out hT
      · have hk1 : (i : Int) < 64 := by omega
        have hk2 : i < 64 := by omega
        have HX1 := Lib.hid (xor_snoc 0x36 F i (by omega))
        have HX2 := Lib.hid (xor_snoc 0x5c F i (by omega))
        have HG := Lib.hid (HFG.out i)
        generalize F.getD i 0 = x at *
        generalize xorL 0x36 (F.take i) = P1 at *
        generalize xorL 0x5c (F.take i) = P2 at *
        go_upto_region 8 with fail; refine wp_region_lit ?_
        (repeat ((first | refine wpList_val (run_mv (v := b32 _) rfl rfl) rfl ?_ | refine wpList_val (run_mv (v := b64 _) rfl rfl) rfl ?_ | refine wpList_val (run_mv (v := b8 _) rfl rfl) rfl ?_ | refine wpList_val (run_mv (v := .int _ _) rfl rfl) rfl ?_ | refine wpList_val (run_mv (v := .bool _) rfl rfl) rfl ?_ | refine wpList_val (run_mv (v := .slice (some _) _ _) rfl rfl) rfl ?_ | refine wpList_val (run_mv (v := .slice _ _ _) rfl rfl) rfl ?_ | refine wpList_val (run_mv (v := .pointer (some _)) rfl rfl) rfl ?_ | refine wpList_val (run_mv (v := .agg _) rfl rfl) rfl ?_ | refine wpList_val (run_asg (v := b32 _) rfl rfl) rfl ?_ | refine wpList_val (run_asg (v := b64 _) rfl rfl) rfl ?_ | refine wpList_val (run_asg (v := b8 _) rfl rfl) rfl ?_ | refine wpList_val (run_asg (v := .int _ _) rfl rfl) rfl ?_ | refine wpList_val (run_asg (v := .bool _) rfl rfl) rfl ?_ | refine wpList_val (run_asg (v := .slice (some _) _ _) rfl rfl) rfl ?_ | refine wpList_val (run_asg (v := .slice _ _ _) rfl rfl) rfl ?_ | refine wpList_val (run_asg (v := .pointer (some _)) rfl rfl) rfl ?_ | refine wpList_val (run_asg (v := .agg _) rfl rfl) rfl ?_ | refine wpList_val (run_mv rfl rfl) rfl ?_ | refine wpList_val (run_asg rfl rfl) rfl ?_ | refine wpList_val (run_xor32 rfl rfl rfl) rfl ?_ | refine wpList_val (run_and32 rfl rfl rfl) rfl ?_ | refine wpList_val (run_or32 rfl rfl rfl) rfl ?_ | refine wpList_val (run_add32 rfl rfl rfl) rfl ?_ | refine wpList_val (run_not32 rfl rfl) rfl ?_ | refine wpList_val (run_xor64 rfl rfl rfl) rfl ?_ | refine wpList_val (run_and64 rfl rfl rfl) rfl ?_ | refine wpList_val (run_or64 rfl rfl rfl) rfl ?_ | refine wpList_val (run_add64 rfl rfl rfl) rfl ?_ | refine wpList_val (run_not64 rfl rfl) rfl ?_ | refine wpList_val (run_xor8 rfl rfl rfl) rfl ?_ | refine wpList_val (run_and8 rfl rfl rfl) rfl ?_ | refine wpList_val (run_or8 rfl rfl rfl) rfl ?_ | refine wpList_val (run_add8 rfl rfl rfl) rfl ?_ | refine wpList_val (run_not8 rfl rfl) rfl ?_ | refine wpList_val (run_cv64_32 rfl rfl) rfl ?_ | refine wpList_val (run_cv8_32 rfl rfl) rfl ?_ | refine wpList_val (run_cv8_64 rfl rfl) rfl ?_ | refine wpList_val (run_cv32_8 rfl rfl) rfl ?_ | refine wpList_val (run_cv64_8 rfl rfl) rfl ?_); (try simp only [Act.put, List.setIfInBounds_toArray, List.set_cons_zero, List.set_cons_succ])))
        refine wpList_end ?_
        go_upto_region 9 with fail; refine wp_region_lit ?_
        (repeat ((first | refine wpList_val (run_mv (v := b32 _) rfl rfl) rfl ?_ | refine wpList_val (run_mv (v := b64 _) rfl rfl) rfl ?_ | refine wpList_val (run_mv (v := b8 _) rfl rfl) rfl ?_ | refine wpList_val (run_mv (v := .int _ _) rfl rfl) rfl ?_ | refine wpList_val (run_mv (v := .bool _) rfl rfl) rfl ?_ | refine wpList_val (run_mv (v := .slice (some _) _ _) rfl rfl) rfl ?_ | refine wpList_val (run_mv (v := .slice _ _ _) rfl rfl) rfl ?_ | refine wpList_val (run_mv (v := .pointer (some _)) rfl rfl) rfl ?_ | refine wpList_val (run_mv (v := .agg _) rfl rfl) rfl ?_ | refine wpList_val (run_asg (v := b32 _) rfl rfl) rfl ?_ | refine wpList_val (run_asg (v := b64 _) rfl rfl) rfl ?_ | refine wpList_val (run_asg (v := b8 _) rfl rfl) rfl ?_ | refine wpList_val (run_asg (v := .int _ _) rfl rfl) rfl ?_ | refine wpList_val (run_asg (v := .bool _) rfl rfl) rfl ?_ | refine wpList_val (run_asg (v := .slice (some _) _ _) rfl rfl) rfl ?_ | refine wpList_val (run_asg (v := .slice _ _ _) rfl rfl) rfl ?_ | refine wpList_val (run_asg (v := .pointer (some _)) rfl rfl) rfl ?_ | refine wpList_val (run_asg (v := .agg _) rfl rfl) rfl ?_ | refine wpList_val (run_mv rfl rfl) rfl ?_ | refine wpList_val (run_asg rfl rfl) rfl ?_ | refine wpList_val (run_xor32 rfl rfl rfl) rfl ?_ | refine wpList_val (run_and32 rfl rfl rfl) rfl ?_ | refine wpList_val (run_or32 rfl rfl rfl) rfl ?_ | refine wpList_val (run_add32 rfl rfl rfl) rfl ?_ | refine wpList_val (run_not32 rfl rfl) rfl ?_ | refine wpList_val (run_xor64 rfl rfl rfl) rfl ?_ | refine wpList_val (run_and64 rfl rfl rfl) rfl ?_ | refine wpList_val (run_or64 rfl rfl rfl) rfl ?_ | refine wpList_val (run_add64 rfl rfl rfl) rfl ?_ | refine wpList_val (run_not64 rfl rfl) rfl ?_ | refine wpList_val (run_xor8 rfl rfl rfl) rfl ?_ | refine wpList_val (run_and8 rfl rfl rfl) rfl ?_ | refine wpList_val (run_or8 rfl rfl rfl) rfl ?_ | refine wpList_val (run_add8 rfl rfl rfl) rfl ?_ | refine wpList_val (run_not8 rfl rfl) rfl ?_ | refine wpList_val (run_cv64_32 rfl rfl) rfl ?_ | refine wpList_val (run_cv8_32 rfl rfl) rfl ?_ | refine wpList_val (run_cv8_64 rfl rfl) rfl ?_ | refine wpList_val (run_cv32_8 rfl rfl) rfl ?_ | refine wpList_val (run_cv64_8 rfl rfl) rfl ?_); (try simp only [Act.put, List.setIfInBounds_toArray, List.set_cons_zero, List.set_cons_succ])))
        refine wpList_val (run_len rfl Tryd.underlying22 rfl) rfl ?_; (try simp only [Act.put, List.setIfInBounds_toArray, List.set_cons_zero, List.set_cons_succ])
        refine wpList_val (run_lss rfl rfl rfl) rfl ?_; (try simp only [Act.put, List.setIfInBounds_toArray, List.set_cons_zero, List.set_cons_succ])
        refine wpList_end ?_
        generalize hwr : wr = a1 at *
        clear hwr
        go_upto_if 22 with fail
        go_cut [8] (fun s8 u => s8 = b8 x ∧ u = a1)
        case first =>
          by_cases hil : i < s.length
          · rw [if_pos hil] at HG
            rw [decide_eq_true (show (i : Int) < (s.length : Int) by omega)]
            obtain ⟨g, f, c2, e2, hg, hr⟩ := H0.out.adr (by omega)
            injection e2 with e2 _ e2'
            subst e2 e2'
            have HC : Hid (a1.cell? ⟨g, f + i, none⟩ = some (b8 x)) := Lib.hid (by rw [HG.out]; exact rangeAt_below hr hg hI.out.bl _ _ (get_map b8 0 hil))
            clear hr
            go_upto_region 10 with fail; refine wp_region_lit ?_
            (repeat ((first | refine wpList_val (run_mv (v := b32 _) rfl rfl) rfl ?_ | refine wpList_val (run_mv (v := b64 _) rfl rfl) rfl ?_ | refine wpList_val (run_mv (v := b8 _) rfl rfl) rfl ?_ | refine wpList_val (run_mv (v := .int _ _) rfl rfl) rfl ?_ | refine wpList_val (run_mv (v := .bool _) rfl rfl) rfl ?_ | refine wpList_val (run_mv (v := .slice (some _) _ _) rfl rfl) rfl ?_ | refine wpList_val (run_mv (v := .slice _ _ _) rfl rfl) rfl ?_ | refine wpList_val (run_mv (v := .pointer (some _)) rfl rfl) rfl ?_ | refine wpList_val (run_mv (v := .agg _) rfl rfl) rfl ?_ | refine wpList_val (run_asg (v := b32 _) rfl rfl) rfl ?_ | refine wpList_val (run_asg (v := b64 _) rfl rfl) rfl ?_ | refine wpList_val (run_asg (v := b8 _) rfl rfl) rfl ?_ | refine wpList_val (run_asg (v := .int _ _) rfl rfl) rfl ?_ | refine wpList_val (run_asg (v := .bool _) rfl rfl) rfl ?_ | refine wpList_val (run_asg (v := .slice (some _) _ _) rfl rfl) rfl ?_ | refine wpList_val (run_asg (v := .slice _ _ _) rfl rfl) rfl ?_ | refine wpList_val (run_asg (v := .pointer (some _)) rfl rfl) rfl ?_ | refine wpList_val (run_asg (v := .agg _) rfl rfl) rfl ?_ | refine wpList_val (run_mv rfl rfl) rfl ?_ | refine wpList_val (run_asg rfl rfl) rfl ?_ | refine wpList_val (run_xor32 rfl rfl rfl) rfl ?_ | refine wpList_val (run_and32 rfl rfl rfl) rfl ?_ | refine wpList_val (run_or32 rfl rfl rfl) rfl ?_ | refine wpList_val (run_add32 rfl rfl rfl) rfl ?_ | refine wpList_val (run_not32 rfl rfl) rfl ?_ | refine wpList_val (run_xor64 rfl rfl rfl) rfl ?_ | refine wpList_val (run_and64 rfl rfl rfl) rfl ?_ | refine wpList_val (run_or64 rfl rfl rfl) rfl ?_ | refine wpList_val (run_add64 rfl rfl rfl) rfl ?_ | refine wpList_val (run_not64 rfl rfl) rfl ?_ | refine wpList_val (run_xor8 rfl rfl rfl) rfl ?_ | refine wpList_val (run_and8 rfl rfl rfl) rfl ?_ | refine wpList_val (run_or8 rfl rfl rfl) rfl ?_ | refine wpList_val (run_add8 rfl rfl rfl) rfl ?_ | refine wpList_val (run_not8 rfl rfl) rfl ?_ | refine wpList_val (run_cv64_32 rfl rfl) rfl ?_ | refine wpList_val (run_cv8_32 rfl rfl) rfl ?_ | refine wpList_val (run_cv8_64 rfl rfl) rfl ?_ | refine wpList_val (run_cv32_8 rfl rfl) rfl ?_ | refine wpList_val (run_cv64_8 rfl rfl) rfl ?_); (try simp only [Act.put, List.setIfInBounds_toArray, List.set_cons_zero, List.set_cons_succ])))
            refine wpList_val (run_ixs rfl Tryd.underlying22 (by kernel_rfl) rfl rfl hil) rfl ?_; (try simp only [Act.put, List.setIfInBounds_toArray, List.set_cons_zero, List.set_cons_succ])
            refine wpList_val (run_ld8 rfl rfl HC.out) rfl ?_; (try simp only [Act.put, List.setIfInBounds_toArray, List.set_cons_zero, List.set_cons_succ])
            (repeat ((first | refine wpList_val (run_mv (v := b32 _) rfl rfl) rfl ?_ | refine wpList_val (run_mv (v := b64 _) rfl rfl) rfl ?_ | refine wpList_val (run_mv (v := b8 _) rfl rfl) rfl ?_ | refine wpList_val (run_mv (v := .int _ _) rfl rfl) rfl ?_ | refine wpList_val (run_mv (v := .bool _) rfl rfl) rfl ?_ | refine wpList_val (run_mv (v := .slice (some _) _ _) rfl rfl) rfl ?_ | refine wpList_val (run_mv (v := .slice _ _ _) rfl rfl) rfl ?_ | refine wpList_val (run_mv (v := .pointer (some _)) rfl rfl) rfl ?_ | refine wpList_val (run_mv (v := .agg _) rfl rfl) rfl ?_ | refine wpList_val (run_asg (v := b32 _) rfl rfl) rfl ?_ | refine wpList_val (run_asg (v := b64 _) rfl rfl) rfl ?_ | refine wpList_val (run_asg (v := b8 _) rfl rfl) rfl ?_ | refine wpList_val (run_asg (v := .int _ _) rfl rfl) rfl ?_ | refine wpList_val (run_asg (v := .bool _) rfl rfl) rfl ?_ | refine wpList_val (run_asg (v := .slice (some _) _ _) rfl rfl) rfl ?_ | refine wpList_val (run_asg (v := .slice _ _ _) rfl rfl) rfl ?_ | refine wpList_val (run_asg (v := .pointer (some _)) rfl rfl) rfl ?_ | refine wpList_val (run_asg (v := .agg _) rfl rfl) rfl ?_ | refine wpList_val (run_mv rfl rfl) rfl ?_ | refine wpList_val (run_asg rfl rfl) rfl ?_ | refine wpList_val (run_xor32 rfl rfl rfl) rfl ?_ | refine wpList_val (run_and32 rfl rfl rfl) rfl ?_ | refine wpList_val (run_or32 rfl rfl rfl) rfl ?_ | refine wpList_val (run_add32 rfl rfl rfl) rfl ?_ | refine wpList_val (run_not32 rfl rfl) rfl ?_ | refine wpList_val (run_xor64 rfl rfl rfl) rfl ?_ | refine wpList_val (run_and64 rfl rfl rfl) rfl ?_ | refine wpList_val (run_or64 rfl rfl rfl) rfl ?_ | refine wpList_val (run_add64 rfl rfl rfl) rfl ?_ | refine wpList_val (run_not64 rfl rfl) rfl ?_ | refine wpList_val (run_xor8 rfl rfl rfl) rfl ?_ | refine wpList_val (run_and8 rfl rfl rfl) rfl ?_ | refine wpList_val (run_or8 rfl rfl rfl) rfl ?_ | refine wpList_val (run_add8 rfl rfl rfl) rfl ?_ | refine wpList_val (run_not8 rfl rfl) rfl ?_ | refine wpList_val (run_cv64_32 rfl rfl) rfl ?_ | refine wpList_val (run_cv8_32 rfl rfl) rfl ?_ | refine wpList_val (run_cv8_64 rfl rfl) rfl ?_ | refine wpList_val (run_cv32_8 rfl rfl) rfl ?_ | refine wpList_val (run_cv64_8 rfl rfl) rfl ?_); (try simp only [Act.put, List.setIfInBounds_toArray, List.set_cons_zero, List.set_cons_succ])))
            refine wpList_end ?_
            go_wp2_with fail
            go_meet
            exact ⟨rfl, rfl⟩
          · rw [if_neg hil] at HG
            rw [decide_eq_false (show ¬ (i : Int) < (s.length : Int) by omega)]
            go_wp2_with fail
            go_meet
            exact ⟨by rw [HG.out]; rfl, rfl⟩
        case rest =>
          obtain ⟨rfl, rfl⟩ := hcut
          clear HG H0
          go_upto_region 11 with fail; refine wp_region_lit ?_
          refine wpList_val (run_mv (v := u5) rfl rfl) rfl ?_; (try simp only [Act.put, List.setIfInBounds_toArray, List.set_cons_zero, List.set_cons_succ])
          refine wpList_val (run_mv (v := b8 _) rfl rfl) rfl ?_; (try simp only [Act.put, List.setIfInBounds_toArray, List.set_cons_zero, List.set_cons_succ])
          refine wpList_val (run_xor8 (b := 0x36) rfl rfl rfl) rfl ?_; (try simp only [Act.put, List.setIfInBounds_toArray, List.set_cons_zero, List.set_cons_succ])
          refine wpList_val (run_bsl (cells := #[b8 (x ^^^ 0x36)]) (z := .int .u8 0) rfl Tryd.underlying22 (by kernel_rfl) (by omega) (by omega) (by kernel_rfl)) rfl ?_; (try simp only [Act.put, List.setIfInBounds_toArray, List.set_cons_zero, List.set_cons_succ]); have hb2 : Below wc.heap.size wc (wc.alloc (.cells #[b8 (x ^^^ 0x36)] 5)) := (Below.refl _ _).alloc (Nat.le_refl _) _; have A2 : Hid (Arr wc.heap.size ([x ^^^ 0x36].map b8) (wc.alloc (.cells #[b8 (x ^^^ 0x36)] 5))) := Lib.hid (Arr.new wc _ _)
          replace hI := Lib.hid (hI.out.below hb2)
          clear hb2
          generalize wc.alloc (.cells #[b8 (x ^^^ 0x36)] 5) = a2 at *
          refine wpList_app2 (l := P1) (m := [x ^^^ 0x36]) (l2 := P2) rfl rfl rfl hI.out.O hI.out.O2 hI.out.ap rfl A2.out.range (by show i + 1 ≤ _; omega) (by simp) hI.out.bl.size (fun q1 a3 h1 h2 h3 h4 => ?_); (try simp only [Act.put, List.setIfInBounds_toArray, List.set_cons_zero, List.set_cons_succ])
          have HO1 := Lib.hid h1
          have HO2 := Lib.hid h2
          have HAP := Lib.hid h3
          have hbl4 := hI.out.bl.trans h4
          clear h1 h2 h3 h4 hI A2
          refine wpList_val (run_asg (v := q1) rfl rfl) rfl ?_; (try simp only [Act.put, List.setIfInBounds_toArray, List.set_cons_zero, List.set_cons_succ])
          refine wpList_end ?_
          go_upto_region 12 with fail; refine wp_region_lit ?_
          refine wpList_val (run_mv (v := u6) rfl rfl) rfl ?_; (try simp only [Act.put, List.setIfInBounds_toArray, List.set_cons_zero, List.set_cons_succ])
          refine wpList_val (run_mv (v := b8 _) rfl rfl) rfl ?_; (try simp only [Act.put, List.setIfInBounds_toArray, List.set_cons_zero, List.set_cons_succ])
          refine wpList_val (run_xor8 (b := 0x5c) rfl rfl rfl) rfl ?_; (try simp only [Act.put, List.setIfInBounds_toArray, List.set_cons_zero, List.set_cons_succ])
          refine wpList_val (run_bsl (cells := #[b8 (x ^^^ 0x5c)]) (z := .int .u8 0) rfl Tryd.underlying22 (by kernel_rfl) (by omega) (by omega) (by kernel_rfl)) rfl ?_; (try simp only [Act.put, List.setIfInBounds_toArray, List.set_cons_zero, List.set_cons_succ]); have hb2 : Below a3.heap.size a3 (a3.alloc (.cells #[b8 (x ^^^ 0x5c)] 5)) := (Below.refl _ _).alloc (Nat.le_refl _) _; have A2 : Hid (Arr a3.heap.size ([x ^^^ 0x5c].map b8) (a3.alloc (.cells #[b8 (x ^^^ 0x5c)] 5))) := Lib.hid (Arr.new a3 _ _)
          replace HO1 := Lib.hid (own_below HO1.out hb2)
          replace HO2 := Lib.hid (own_below HO2.out hb2)
          replace hbl4 := hbl4.trans (hb2.mono hbl4.size)
          clear hb2
          generalize a3.alloc (.cells #[b8 (x ^^^ 0x5c)] 5) = a4 at *
          refine wpList_app2 (l := P2) (m := [x ^^^ 0x5c]) (l2 := P1 ++ [x ^^^ 0x36]) rfl rfl rfl HO2.out HO1.out HAP.out.symm rfl A2.out.range (by show i + 1 ≤ _; omega) (by simp) hbl4.size (fun q2 a5 h1 h2 h3 h4 => ?_); (try simp only [Act.put, List.setIfInBounds_toArray, List.set_cons_zero, List.set_cons_succ])
          have H5 : Hid (TwoR r q1 q2 (xorL 0x36 (F.take (i + 1))) (xorL 0x5c (F.take (i + 1))) (i + 1) a5) := Lib.hid ⟨hbl4.trans h4, by rw [HX1.out]; exact h2, by rw [HX2.out]; exact h1, h3.symm⟩
          clear h1 h2 h3 h4 HO1 HO2 HAP hbl4 A2 HX1 HX2
          refine wpList_val (run_asg (v := q2) rfl rfl) rfl ?_; (try simp only [Act.put, List.setIfInBounds_toArray, List.set_cons_zero, List.set_cons_succ])
          refine wpList_end ?_
          go_wp2_with fail
          go_roundw
          case rel => exact ⟨i + 1, by omega, by go_num, H5.out⟩
          case measure => simp [intOf]; omega
end Go.Proofs.YtebmcjleepnehaaDoor
