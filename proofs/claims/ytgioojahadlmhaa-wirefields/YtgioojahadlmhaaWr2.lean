/- What keywardref10's all, key, sig and truth answer. -/
import Derived.Test.YtgioojahadlmhaaWr1
import Derived.Test.YtgioojahadlmhaaMixB
namespace Go.Proofs.Ytgioojahadlmhaa
open Go.RowKit
set_option maxRecDepth 20000

/-- Bytes that are told, in memory laid since w or ahead of it. -/
structure Tl (w : World) (v : Value) (l : List (BitVec 8)) (u : World) : Prop where
  bl : Below w.heap.size w u
  s : Sl v l u
theorem Tl.of {w u : World} {v : Value} {l : List (BitVec 8)} (h : S5 w v l u) : Tl w v l u := ⟨h.bl, h.sl⟩
theorem enters_all10 : Enters 57 := enters_of Try.func57 (by kernel_rfl) rfl
set_option maxHeartbeats 4000000 in
theorem all10_any (g : Nat) (vs : List Value) (ls : List (List (BitVec 8))) (k : Nat) (w : World) (hc : Cat g vs ls w) (hk : ls.length = k) (hk2 : k ≤ 1000) (hn : ls.flatten.length ≤ 16000000) :
    Calls Try.prog 57 #[.slice (some ⟨g, 0, none⟩) k k] w fun e w' => ∃ v', e = .returned v' ∧ S5 w v' ls.flatten w' := by
  have HC := Lib.hid hc; clear hc
  have EA : Hid (catL ls k = ls.flatten) := Lib.hid (by rw [← hk]; exact catL_all ls)
  have HL : Hid (∀ i, (catL ls i).length ≤ 16000000) := Lib.hid fun i => Nat.le_trans (catL_le ls i) hn
  have HE : Hid (∀ i, i < k → ∀ u, Below w.heap.size w u → ∃ v l, u.cell? ⟨g, i, none⟩ = some v ∧ Sl v l u ∧ catL ls (i + 1) = catL ls i ++ l ∧ (catL ls i).length + l.length ≤ 16000000) := Lib.hid fun i hi u hu => by
    have hc := HC.out.below hu
    obtain ⟨v, h1, h2⟩ := hc.S i (by omega)
    have e := catL_succ ls i (by omega)
    have := HL.out (i + 1)
    rw [e, List.length_append] at this
    have h3 := hc.R i v h1
    rw [Nat.zero_add] at h3
    exact ⟨v, _, h3, h2, e, this⟩
  clear HC
  obtain ⟨F, hF⟩ : ∃ F, F = catL ls := ⟨_, rfl⟩
  have E0 : F 0 = [] := by rw [hF]; rfl
  rw [← hF] at EA HL HE
  clear hF hn
  generalize ls.flatten = out at *
  clear hk
  go_enter Try.func57, Try.ntmps57
  go_upto_region 0 with fail; refine wp_region_lit ?_
  refine wpList_val (run_asg (v := .slice none 0 0) rfl rfl) rfl ?_; (try simp only [Act.put, List.setIfInBounds_toArray, List.set_cons_zero, List.set_cons_succ])
  refine wpList_end ?_
  go_upto_region 1 with fail; refine wp_region_lit ?_
  refine wpList_val (run_asg (v := .slice none 0 0) rfl rfl) rfl ?_; (try simp only [Act.put, List.setIfInBounds_toArray, List.set_cons_zero, List.set_cons_succ])
  refine wpList_end ?_
  have hI : Hid (S5 w (.slice none 0 0) (F 0) w) := Lib.hid (by rw [E0]; exact S5.none w)
  go_upto_region 2 with fail; refine wp_region_lit ?_
  refine wpList_val (run_asg (v := .int .i64 0) rfl rfl) rfl ?_; (try simp only [Act.put, List.setIfInBounds_toArray, List.set_cons_zero, List.set_cons_succ])
  refine wpList_end ?_
  go_wp2_with fail
  go_loopw [3, 4] (fun s3 s4 u => ∃ i : Nat, i ≤ k ∧ s4 = .int .i64 (i : Int) ∧ S5 w s3 (F i) u) (fun _ s4 _ => (k - intOf s4).toNat)
  case atStart => exact ⟨0, by omega, rfl, hI.out⟩
  case round =>
    obtain ⟨i, hi, rfl, hJ⟩ := hrel
    replace hI := Lib.hid hJ
    clear hJ
    go_upto_region 3 with fail; refine wp_region_lit ?_
    refine wpList_val (run_mv (v := .int _ _) rfl rfl) rfl ?_; (try simp only [Act.put, List.setIfInBounds_toArray, List.set_cons_zero, List.set_cons_succ])
    refine wpList_val (run_mv (v := .slice (some _) _ _) rfl rfl) rfl ?_; (try simp only [Act.put, List.setIfInBounds_toArray, List.set_cons_zero, List.set_cons_succ])
    refine wpList_val (run_len rfl Try.underlying122 rfl) rfl ?_; (try simp only [Act.put, List.setIfInBounds_toArray, List.set_cons_zero, List.set_cons_succ])
    by_cases hik : i = k
    · subst hik
      refine wpList_val (run_lssb (c := false) rfl rfl rfl (decide_eq_false (by omega))) rfl ?_; (try simp only [Act.put, List.setIfInBounds_toArray, List.set_cons_zero, List.set_cons_succ])
      refine wpList_end ?_
      go_upto_region 6 with fail; refine wp_region_lit ?_
      refine wpList_val (run_mv (v := u3) rfl rfl) rfl ?_; (try simp only [Act.put, List.setIfInBounds_toArray, List.set_cons_zero, List.set_cons_succ])
      refine wpList_val (run_asg (v := u3) rfl rfl) rfl ?_; (try simp only [Act.put, List.setIfInBounds_toArray, List.set_cons_zero, List.set_cons_succ])
      refine wpList_end ?_
      go_wp2_with fail
      exact bodyPost_ret (results_tmp Try.results57 _ _ _) rfl ⟨_, rfl, by rw [← EA.out]; exact hI.out⟩
    · refine wpList_val (run_lssb (c := true) rfl rfl rfl (decide_eq_true (by omega))) rfl ?_; (try simp only [Act.put, List.setIfInBounds_toArray, List.set_cons_zero, List.set_cons_succ])
      refine wpList_end ?_
      obtain ⟨vx, lx, x1, x2, x3, x4⟩ := HE.out i (by omega) _ hI.out.bl
      have X1 := Lib.hid x1
      have X2 := Lib.hid x2
      have X3 := Lib.hid x3
      clear x1 x2 x3
      go_upto_region 5 with fail; refine wp_region_lit ?_
      refine wpList_val (run_mv (v := u3) rfl rfl) rfl ?_; (try simp only [Act.put, List.setIfInBounds_toArray, List.set_cons_zero, List.set_cons_succ])
      refine wpList_val (run_mv (v := .slice (some _) _ _) rfl rfl) rfl ?_; (try simp only [Act.put, List.setIfInBounds_toArray, List.set_cons_zero, List.set_cons_succ])
      refine wpList_val (run_mv (v := .int _ _) rfl rfl) rfl ?_; (try simp only [Act.put, List.setIfInBounds_toArray, List.set_cons_zero, List.set_cons_succ])
      refine wpList_val (run_ixs (i := i) rfl Try.underlying122 (by kernel_rfl) rfl rfl (by omega)) rfl ?_; (try simp only [Act.put, List.setIfInBounds_toArray, List.set_cons_zero, List.set_cons_succ])
      rw [Nat.zero_add]
      refine wpList_val (run_ldSl rfl rfl X1.out) rfl ?_; (try simp only [Act.put, List.setIfInBounds_toArray, List.set_cons_zero, List.set_cons_succ])
      refine wpList_appG (l := F i) (m := lx) rfl rfl rfl hI.out.O rfl X2.out (by omega) hI.out.bl.size (fun v' u' h1 h2 => ?_); (try simp only [Act.put, List.setIfInBounds_toArray, List.set_cons_zero, List.set_cons_succ])
      have hI2 : Hid (S5 w v' (F (i + 1)) u') := Lib.hid ⟨hI.out.bl.trans h2, by rw [X3.out, List.length_append]; exact h1⟩
      clear h1 h2 hI X1 X2 X3
      refine wpList_val (run_asg (v := v') rfl rfl) rfl ?_; (try simp only [Act.put, List.setIfInBounds_toArray, List.set_cons_zero, List.set_cons_succ])
      refine wpList_end ?_
      go_wp2_with fail
      go_roundw
      case rel => exact ⟨i + 1, by omega, by go_num, hI2.out⟩
      case measure => simp [intOf]; omega
theorem enters_key10 : Enters 59 := enters_of Try.func59 (by kernel_rfl) rfl
set_option maxHeartbeats 1000000 in
theorem key10_any (K : List (BitVec 8)) (w : World) (hK : K.length = 32) :
    Calls Try.prog 59 #[.agg (K.map b8).toArray] w fun e w' => ∃ v', e = .returned v' ∧ S5 w v' K w' := by
  go_enter Try.func59, Try.ntmps59
  go_upto_region 0 with fail; refine wp_region_lit ?_
  refine wpList_val (run_boxL8 (vs := K.map b8) rfl rfl) rfl ?_; (try simp only [Act.put, List.setIfInBounds_toArray, List.set_cons_zero, List.set_cons_succ])
  (repeat ((first | refine wpList_val (run_mv (v := b32 _) rfl rfl) rfl ?_ | refine wpList_val (run_mv (v := b64 _) rfl rfl) rfl ?_ | refine wpList_val (run_mv (v := b8 _) rfl rfl) rfl ?_ | refine wpList_val (run_mv (v := .int _ _) rfl rfl) rfl ?_ | refine wpList_val (run_mv (v := .bool _) rfl rfl) rfl ?_ | refine wpList_val (run_mv (v := .slice (some _) _ _) rfl rfl) rfl ?_ | refine wpList_val (run_mv (v := .slice _ _ _) rfl rfl) rfl ?_ | refine wpList_val (run_mv (v := .pointer (some _)) rfl rfl) rfl ?_ | refine wpList_val (run_mv (v := .agg _) rfl rfl) rfl ?_ | refine wpList_val (run_asg (v := b32 _) rfl rfl) rfl ?_ | refine wpList_val (run_asg (v := b64 _) rfl rfl) rfl ?_ | refine wpList_val (run_asg (v := b8 _) rfl rfl) rfl ?_ | refine wpList_val (run_asg (v := .int _ _) rfl rfl) rfl ?_ | refine wpList_val (run_asg (v := .bool _) rfl rfl) rfl ?_ | refine wpList_val (run_asg (v := .slice (some _) _ _) rfl rfl) rfl ?_ | refine wpList_val (run_asg (v := .slice _ _ _) rfl rfl) rfl ?_ | refine wpList_val (run_asg (v := .pointer (some _)) rfl rfl) rfl ?_ | refine wpList_val (run_asg (v := .agg _) rfl rfl) rfl ?_ | refine wpList_val (run_mv rfl rfl) rfl ?_ | refine wpList_val (run_asg rfl rfl) rfl ?_ | refine wpList_val (run_xor32 rfl rfl rfl) rfl ?_ | refine wpList_val (run_and32 rfl rfl rfl) rfl ?_ | refine wpList_val (run_or32 rfl rfl rfl) rfl ?_ | refine wpList_val (run_add32 rfl rfl rfl) rfl ?_ | refine wpList_val (run_not32 rfl rfl) rfl ?_ | refine wpList_val (run_xor64 rfl rfl rfl) rfl ?_ | refine wpList_val (run_and64 rfl rfl rfl) rfl ?_ | refine wpList_val (run_or64 rfl rfl rfl) rfl ?_ | refine wpList_val (run_add64 rfl rfl rfl) rfl ?_ | refine wpList_val (run_not64 rfl rfl) rfl ?_ | refine wpList_val (run_xor8 rfl rfl rfl) rfl ?_ | refine wpList_val (run_and8 rfl rfl rfl) rfl ?_ | refine wpList_val (run_or8 rfl rfl rfl) rfl ?_ | refine wpList_val (run_add8 rfl rfl rfl) rfl ?_ | refine wpList_val (run_not8 rfl rfl) rfl ?_ | refine wpList_val (run_cv64_32 rfl rfl) rfl ?_ | refine wpList_val (run_cv8_32 rfl rfl) rfl ?_ | refine wpList_val (run_cv8_64 rfl rfl) rfl ?_ | refine wpList_val (run_cv32_8 rfl rfl) rfl ?_ | refine wpList_val (run_cv64_8 rfl rfl) rfl ?_); (try simp only [Act.put, List.setIfInBounds_toArray, List.set_cons_zero, List.set_cons_succ])))
  refine wpList_end ?_
  have HK := Lib.hid (Arr.new w (K.map b8) 35)
  have bl : Below w.heap.size w (w.alloc (.cells (K.map b8).toArray 35)) := (Below.refl _ _).alloc (Nat.le_refl _) _
  generalize w.alloc (.cells (K.map b8).toArray 35) = r at *
  have hI : Hid (S5 r (.slice none 0 0) (K.take 0) r) := Lib.hid ⟨Below.refl _ _, World.ownsRow_nil _ _ _ _⟩
  go_upto_region 1 with fail; refine wp_region_lit ?_
  (repeat ((first | refine wpList_val (run_mv (v := b32 _) rfl rfl) rfl ?_ | refine wpList_val (run_mv (v := b64 _) rfl rfl) rfl ?_ | refine wpList_val (run_mv (v := b8 _) rfl rfl) rfl ?_ | refine wpList_val (run_mv (v := .int _ _) rfl rfl) rfl ?_ | refine wpList_val (run_mv (v := .bool _) rfl rfl) rfl ?_ | refine wpList_val (run_mv (v := .slice (some _) _ _) rfl rfl) rfl ?_ | refine wpList_val (run_mv (v := .slice _ _ _) rfl rfl) rfl ?_ | refine wpList_val (run_mv (v := .pointer (some _)) rfl rfl) rfl ?_ | refine wpList_val (run_mv (v := .agg _) rfl rfl) rfl ?_ | refine wpList_val (run_asg (v := b32 _) rfl rfl) rfl ?_ | refine wpList_val (run_asg (v := b64 _) rfl rfl) rfl ?_ | refine wpList_val (run_asg (v := b8 _) rfl rfl) rfl ?_ | refine wpList_val (run_asg (v := .int _ _) rfl rfl) rfl ?_ | refine wpList_val (run_asg (v := .bool _) rfl rfl) rfl ?_ | refine wpList_val (run_asg (v := .slice (some _) _ _) rfl rfl) rfl ?_ | refine wpList_val (run_asg (v := .slice _ _ _) rfl rfl) rfl ?_ | refine wpList_val (run_asg (v := .pointer (some _)) rfl rfl) rfl ?_ | refine wpList_val (run_asg (v := .agg _) rfl rfl) rfl ?_ | refine wpList_val (run_mv rfl rfl) rfl ?_ | refine wpList_val (run_asg rfl rfl) rfl ?_ | refine wpList_val (run_xor32 rfl rfl rfl) rfl ?_ | refine wpList_val (run_and32 rfl rfl rfl) rfl ?_ | refine wpList_val (run_or32 rfl rfl rfl) rfl ?_ | refine wpList_val (run_add32 rfl rfl rfl) rfl ?_ | refine wpList_val (run_not32 rfl rfl) rfl ?_ | refine wpList_val (run_xor64 rfl rfl rfl) rfl ?_ | refine wpList_val (run_and64 rfl rfl rfl) rfl ?_ | refine wpList_val (run_or64 rfl rfl rfl) rfl ?_ | refine wpList_val (run_add64 rfl rfl rfl) rfl ?_ | refine wpList_val (run_not64 rfl rfl) rfl ?_ | refine wpList_val (run_xor8 rfl rfl rfl) rfl ?_ | refine wpList_val (run_and8 rfl rfl rfl) rfl ?_ | refine wpList_val (run_or8 rfl rfl rfl) rfl ?_ | refine wpList_val (run_add8 rfl rfl rfl) rfl ?_ | refine wpList_val (run_not8 rfl rfl) rfl ?_ | refine wpList_val (run_cv64_32 rfl rfl) rfl ?_ | refine wpList_val (run_cv8_32 rfl rfl) rfl ?_ | refine wpList_val (run_cv8_64 rfl rfl) rfl ?_ | refine wpList_val (run_cv32_8 rfl rfl) rfl ?_ | refine wpList_val (run_cv64_8 rfl rfl) rfl ?_); (try simp only [Act.put, List.setIfInBounds_toArray, List.set_cons_zero, List.set_cons_succ])))
  refine wpList_end ?_
  go_upto_region 2 with fail; refine wp_region_lit ?_
  (repeat ((first | refine wpList_val (run_mv (v := b32 _) rfl rfl) rfl ?_ | refine wpList_val (run_mv (v := b64 _) rfl rfl) rfl ?_ | refine wpList_val (run_mv (v := b8 _) rfl rfl) rfl ?_ | refine wpList_val (run_mv (v := .int _ _) rfl rfl) rfl ?_ | refine wpList_val (run_mv (v := .bool _) rfl rfl) rfl ?_ | refine wpList_val (run_mv (v := .slice (some _) _ _) rfl rfl) rfl ?_ | refine wpList_val (run_mv (v := .slice _ _ _) rfl rfl) rfl ?_ | refine wpList_val (run_mv (v := .pointer (some _)) rfl rfl) rfl ?_ | refine wpList_val (run_mv (v := .agg _) rfl rfl) rfl ?_ | refine wpList_val (run_asg (v := b32 _) rfl rfl) rfl ?_ | refine wpList_val (run_asg (v := b64 _) rfl rfl) rfl ?_ | refine wpList_val (run_asg (v := b8 _) rfl rfl) rfl ?_ | refine wpList_val (run_asg (v := .int _ _) rfl rfl) rfl ?_ | refine wpList_val (run_asg (v := .bool _) rfl rfl) rfl ?_ | refine wpList_val (run_asg (v := .slice (some _) _ _) rfl rfl) rfl ?_ | refine wpList_val (run_asg (v := .slice _ _ _) rfl rfl) rfl ?_ | refine wpList_val (run_asg (v := .pointer (some _)) rfl rfl) rfl ?_ | refine wpList_val (run_asg (v := .agg _) rfl rfl) rfl ?_ | refine wpList_val (run_mv rfl rfl) rfl ?_ | refine wpList_val (run_asg rfl rfl) rfl ?_ | refine wpList_val (run_xor32 rfl rfl rfl) rfl ?_ | refine wpList_val (run_and32 rfl rfl rfl) rfl ?_ | refine wpList_val (run_or32 rfl rfl rfl) rfl ?_ | refine wpList_val (run_add32 rfl rfl rfl) rfl ?_ | refine wpList_val (run_not32 rfl rfl) rfl ?_ | refine wpList_val (run_xor64 rfl rfl rfl) rfl ?_ | refine wpList_val (run_and64 rfl rfl rfl) rfl ?_ | refine wpList_val (run_or64 rfl rfl rfl) rfl ?_ | refine wpList_val (run_add64 rfl rfl rfl) rfl ?_ | refine wpList_val (run_not64 rfl rfl) rfl ?_ | refine wpList_val (run_xor8 rfl rfl rfl) rfl ?_ | refine wpList_val (run_and8 rfl rfl rfl) rfl ?_ | refine wpList_val (run_or8 rfl rfl rfl) rfl ?_ | refine wpList_val (run_add8 rfl rfl rfl) rfl ?_ | refine wpList_val (run_not8 rfl rfl) rfl ?_ | refine wpList_val (run_cv64_32 rfl rfl) rfl ?_ | refine wpList_val (run_cv8_32 rfl rfl) rfl ?_ | refine wpList_val (run_cv8_64 rfl rfl) rfl ?_ | refine wpList_val (run_cv32_8 rfl rfl) rfl ?_ | refine wpList_val (run_cv64_8 rfl rfl) rfl ?_); (try simp only [Act.put, List.setIfInBounds_toArray, List.set_cons_zero, List.set_cons_succ])))
  refine wpList_end ?_
  go_wp2_with fail
  go_loopw [3, 4] (fun s3 s4 u => ∃ k : Nat, k ≤ 32 ∧ s4 = .int .i64 (k : Int) ∧ S5 r s3 (K.take k) u) (fun _ s4 _ => (32 - intOf s4).toNat)
  case atStart => exact ⟨0, by omega, rfl, hI.out⟩
  case round v3 v4 _ =>
    obtain ⟨k, hk, rfl, hJ⟩ := hrel
    replace hI := Lib.hid hJ
    clear hJ
    by_cases hlt : k = 32
    · subst hlt
      have hk1 : ¬ (((32 : Nat) : Int) < 32) := by omega
      rw [List.take_of_length_le (by omega)] at hI
      go_upto_region 6 with fail; refine wp_region_lit ?_
      refine wpList_val (run_mv (v := u3) rfl rfl) rfl ?_; (try simp only [Act.put, List.setIfInBounds_toArray, List.set_cons_zero, List.set_cons_succ])
      refine wpList_val (run_asg (v := u3) rfl rfl) rfl ?_; (try simp only [Act.put, List.setIfInBounds_toArray, List.set_cons_zero, List.set_cons_succ])
      refine wpList_end ?_
      go_wp2_with fail
      exact bodyPost_ret (results_tmp Try.results59 _ _ _) rfl ⟨_, rfl, hI.out.mono bl⟩
    · have hk1 : (k : Int) < 32 := by omega
      have hk2 : k < 32 := by omega
      have HT2 := Lib.hid (take_snoc8 K k (by omega))
      have htl : (K.take k).length = k := by rw [List.length_take]; omega
      have HC : Hid (wr.cell? ⟨w.heap.size, k, none⟩ = some (b8 (K.getD k 0))) := Lib.hid ((HK.out.below hI.out.bl).c k _ (get_map b8 0 (by omega)))
      generalize K.getD k 0 = x at *
      generalize hP : K.take k = P at *
      clear hP
      go_upto_region 5 with fail; refine wp_region_lit ?_
      refine wpList_val (run_mv (v := u3) rfl rfl) rfl ?_; (try simp only [Act.put, List.setIfInBounds_toArray, List.set_cons_zero, List.set_cons_succ])
      refine wpList_val (run_mv (v := .int _ _) rfl rfl) rfl ?_; (try simp only [Act.put, List.setIfInBounds_toArray, List.set_cons_zero, List.set_cons_succ])
      refine wpList_val (run_ix0 rfl Try.underlying35 (by kernel_rfl) rfl rfl hk2) rfl ?_; (try simp only [Act.put, List.setIfInBounds_toArray, List.set_cons_zero, List.set_cons_succ])
      refine wpList_val (run_ld8 rfl rfl HC.out) rfl ?_; (try simp only [Act.put, List.setIfInBounds_toArray, List.set_cons_zero, List.set_cons_succ])
      refine wpList_val (run_bsl (cells := #[b8 (x)]) (z := .int .u8 0) rfl Try.underlying22 (by kernel_rfl) (by omega) (by omega) (by kernel_rfl)) rfl ?_; (try simp only [Act.put, List.setIfInBounds_toArray, List.set_cons_zero, List.set_cons_succ]); have hb2 : Below wr.heap.size wr (wr.alloc (.cells #[b8 (x)] 5)) := (Below.refl _ _).alloc (Nat.le_refl _) _; have A2 : Hid (Arr wr.heap.size ([x].map b8) (wr.alloc (.cells #[b8 (x)] 5))) := Lib.hid (Arr.new wr _ _); replace hI := Lib.hid (hI.out.below hb2); clear hb2; generalize wr.alloc (.cells #[b8 (x)] 5) = ua at *; refine wpList_app (f := b8) (fun _ => rfl) (l := P) (m := [x]) (bw := 1) (z := .int .u8 0) rfl rfl Try.underlying22 (by kernel_rfl) rfl (by omega) rfl hI.out.O rfl A2.out.range (by rw [htl]; show k + 1 ≤ _; omega) hI.out.bl.size (fun v5 z5 h3 hb3 => ?_); (try simp only [Act.put, List.setIfInBounds_toArray, List.set_cons_zero, List.set_cons_succ]); replace hI : Hid (S5 _ v5 (P ++ [x]) z5) := Lib.hid ⟨hI.out.bl.trans hb3, by rw [List.length_append]; exact h3⟩; clear h3 hb3 A2; clear ua; refine wpList_val (run_asg (v := v5) rfl rfl) rfl ?_; (try simp only [Act.put, List.setIfInBounds_toArray, List.set_cons_zero, List.set_cons_succ]); refine wpList_end ?_
      rw [← HT2.out] at hI
      clear HC HT2
      go_wp2_with fail
      go_roundw
      case rel => exact ⟨k + 1, by omega, by go_num, hI.out⟩
      case measure => simp [intOf]; omega
theorem enters_sig10 : Enters 60 := enters_of Try.func60 (by kernel_rfl) rfl
set_option maxHeartbeats 1000000 in
theorem sig10_any (K : List (BitVec 8)) (w : World) (hK : K.length = 64) :
    Calls Try.prog 60 #[.agg (K.map b8).toArray] w fun e w' => ∃ v', e = .returned v' ∧ S5 w v' K w' := by
  go_enter Try.func60, Try.ntmps60
  go_upto_region 0 with fail; refine wp_region_lit ?_
  refine wpList_val (run_boxL8 (vs := K.map b8) rfl rfl) rfl ?_; (try simp only [Act.put, List.setIfInBounds_toArray, List.set_cons_zero, List.set_cons_succ])
  (repeat ((first | refine wpList_val (run_mv (v := b32 _) rfl rfl) rfl ?_ | refine wpList_val (run_mv (v := b64 _) rfl rfl) rfl ?_ | refine wpList_val (run_mv (v := b8 _) rfl rfl) rfl ?_ | refine wpList_val (run_mv (v := .int _ _) rfl rfl) rfl ?_ | refine wpList_val (run_mv (v := .bool _) rfl rfl) rfl ?_ | refine wpList_val (run_mv (v := .slice (some _) _ _) rfl rfl) rfl ?_ | refine wpList_val (run_mv (v := .slice _ _ _) rfl rfl) rfl ?_ | refine wpList_val (run_mv (v := .pointer (some _)) rfl rfl) rfl ?_ | refine wpList_val (run_mv (v := .agg _) rfl rfl) rfl ?_ | refine wpList_val (run_asg (v := b32 _) rfl rfl) rfl ?_ | refine wpList_val (run_asg (v := b64 _) rfl rfl) rfl ?_ | refine wpList_val (run_asg (v := b8 _) rfl rfl) rfl ?_ | refine wpList_val (run_asg (v := .int _ _) rfl rfl) rfl ?_ | refine wpList_val (run_asg (v := .bool _) rfl rfl) rfl ?_ | refine wpList_val (run_asg (v := .slice (some _) _ _) rfl rfl) rfl ?_ | refine wpList_val (run_asg (v := .slice _ _ _) rfl rfl) rfl ?_ | refine wpList_val (run_asg (v := .pointer (some _)) rfl rfl) rfl ?_ | refine wpList_val (run_asg (v := .agg _) rfl rfl) rfl ?_ | refine wpList_val (run_mv rfl rfl) rfl ?_ | refine wpList_val (run_asg rfl rfl) rfl ?_ | refine wpList_val (run_xor32 rfl rfl rfl) rfl ?_ | refine wpList_val (run_and32 rfl rfl rfl) rfl ?_ | refine wpList_val (run_or32 rfl rfl rfl) rfl ?_ | refine wpList_val (run_add32 rfl rfl rfl) rfl ?_ | refine wpList_val (run_not32 rfl rfl) rfl ?_ | refine wpList_val (run_xor64 rfl rfl rfl) rfl ?_ | refine wpList_val (run_and64 rfl rfl rfl) rfl ?_ | refine wpList_val (run_or64 rfl rfl rfl) rfl ?_ | refine wpList_val (run_add64 rfl rfl rfl) rfl ?_ | refine wpList_val (run_not64 rfl rfl) rfl ?_ | refine wpList_val (run_xor8 rfl rfl rfl) rfl ?_ | refine wpList_val (run_and8 rfl rfl rfl) rfl ?_ | refine wpList_val (run_or8 rfl rfl rfl) rfl ?_ | refine wpList_val (run_add8 rfl rfl rfl) rfl ?_ | refine wpList_val (run_not8 rfl rfl) rfl ?_ | refine wpList_val (run_cv64_32 rfl rfl) rfl ?_ | refine wpList_val (run_cv8_32 rfl rfl) rfl ?_ | refine wpList_val (run_cv8_64 rfl rfl) rfl ?_ | refine wpList_val (run_cv32_8 rfl rfl) rfl ?_ | refine wpList_val (run_cv64_8 rfl rfl) rfl ?_); (try simp only [Act.put, List.setIfInBounds_toArray, List.set_cons_zero, List.set_cons_succ])))
  refine wpList_end ?_
  have HK := Lib.hid (Arr.new w (K.map b8) 38)
  have bl : Below w.heap.size w (w.alloc (.cells (K.map b8).toArray 38)) := (Below.refl _ _).alloc (Nat.le_refl _) _
  generalize w.alloc (.cells (K.map b8).toArray 38) = r at *
  have hI : Hid (S5 r (.slice none 0 0) (K.take 0) r) := Lib.hid ⟨Below.refl _ _, World.ownsRow_nil _ _ _ _⟩
  go_upto_region 1 with fail; refine wp_region_lit ?_
  (repeat ((first | refine wpList_val (run_mv (v := b32 _) rfl rfl) rfl ?_ | refine wpList_val (run_mv (v := b64 _) rfl rfl) rfl ?_ | refine wpList_val (run_mv (v := b8 _) rfl rfl) rfl ?_ | refine wpList_val (run_mv (v := .int _ _) rfl rfl) rfl ?_ | refine wpList_val (run_mv (v := .bool _) rfl rfl) rfl ?_ | refine wpList_val (run_mv (v := .slice (some _) _ _) rfl rfl) rfl ?_ | refine wpList_val (run_mv (v := .slice _ _ _) rfl rfl) rfl ?_ | refine wpList_val (run_mv (v := .pointer (some _)) rfl rfl) rfl ?_ | refine wpList_val (run_mv (v := .agg _) rfl rfl) rfl ?_ | refine wpList_val (run_asg (v := b32 _) rfl rfl) rfl ?_ | refine wpList_val (run_asg (v := b64 _) rfl rfl) rfl ?_ | refine wpList_val (run_asg (v := b8 _) rfl rfl) rfl ?_ | refine wpList_val (run_asg (v := .int _ _) rfl rfl) rfl ?_ | refine wpList_val (run_asg (v := .bool _) rfl rfl) rfl ?_ | refine wpList_val (run_asg (v := .slice (some _) _ _) rfl rfl) rfl ?_ | refine wpList_val (run_asg (v := .slice _ _ _) rfl rfl) rfl ?_ | refine wpList_val (run_asg (v := .pointer (some _)) rfl rfl) rfl ?_ | refine wpList_val (run_asg (v := .agg _) rfl rfl) rfl ?_ | refine wpList_val (run_mv rfl rfl) rfl ?_ | refine wpList_val (run_asg rfl rfl) rfl ?_ | refine wpList_val (run_xor32 rfl rfl rfl) rfl ?_ | refine wpList_val (run_and32 rfl rfl rfl) rfl ?_ | refine wpList_val (run_or32 rfl rfl rfl) rfl ?_ | refine wpList_val (run_add32 rfl rfl rfl) rfl ?_ | refine wpList_val (run_not32 rfl rfl) rfl ?_ | refine wpList_val (run_xor64 rfl rfl rfl) rfl ?_ | refine wpList_val (run_and64 rfl rfl rfl) rfl ?_ | refine wpList_val (run_or64 rfl rfl rfl) rfl ?_ | refine wpList_val (run_add64 rfl rfl rfl) rfl ?_ | refine wpList_val (run_not64 rfl rfl) rfl ?_ | refine wpList_val (run_xor8 rfl rfl rfl) rfl ?_ | refine wpList_val (run_and8 rfl rfl rfl) rfl ?_ | refine wpList_val (run_or8 rfl rfl rfl) rfl ?_ | refine wpList_val (run_add8 rfl rfl rfl) rfl ?_ | refine wpList_val (run_not8 rfl rfl) rfl ?_ | refine wpList_val (run_cv64_32 rfl rfl) rfl ?_ | refine wpList_val (run_cv8_32 rfl rfl) rfl ?_ | refine wpList_val (run_cv8_64 rfl rfl) rfl ?_ | refine wpList_val (run_cv32_8 rfl rfl) rfl ?_ | refine wpList_val (run_cv64_8 rfl rfl) rfl ?_); (try simp only [Act.put, List.setIfInBounds_toArray, List.set_cons_zero, List.set_cons_succ])))
  refine wpList_end ?_
  go_upto_region 2 with fail; refine wp_region_lit ?_
  (repeat ((first | refine wpList_val (run_mv (v := b32 _) rfl rfl) rfl ?_ | refine wpList_val (run_mv (v := b64 _) rfl rfl) rfl ?_ | refine wpList_val (run_mv (v := b8 _) rfl rfl) rfl ?_ | refine wpList_val (run_mv (v := .int _ _) rfl rfl) rfl ?_ | refine wpList_val (run_mv (v := .bool _) rfl rfl) rfl ?_ | refine wpList_val (run_mv (v := .slice (some _) _ _) rfl rfl) rfl ?_ | refine wpList_val (run_mv (v := .slice _ _ _) rfl rfl) rfl ?_ | refine wpList_val (run_mv (v := .pointer (some _)) rfl rfl) rfl ?_ | refine wpList_val (run_mv (v := .agg _) rfl rfl) rfl ?_ | refine wpList_val (run_asg (v := b32 _) rfl rfl) rfl ?_ | refine wpList_val (run_asg (v := b64 _) rfl rfl) rfl ?_ | refine wpList_val (run_asg (v := b8 _) rfl rfl) rfl ?_ | refine wpList_val (run_asg (v := .int _ _) rfl rfl) rfl ?_ | refine wpList_val (run_asg (v := .bool _) rfl rfl) rfl ?_ | refine wpList_val (run_asg (v := .slice (some _) _ _) rfl rfl) rfl ?_ | refine wpList_val (run_asg (v := .slice _ _ _) rfl rfl) rfl ?_ | refine wpList_val (run_asg (v := .pointer (some _)) rfl rfl) rfl ?_ | refine wpList_val (run_asg (v := .agg _) rfl rfl) rfl ?_ | refine wpList_val (run_mv rfl rfl) rfl ?_ | refine wpList_val (run_asg rfl rfl) rfl ?_ | refine wpList_val (run_xor32 rfl rfl rfl) rfl ?_ | refine wpList_val (run_and32 rfl rfl rfl) rfl ?_ | refine wpList_val (run_or32 rfl rfl rfl) rfl ?_ | refine wpList_val (run_add32 rfl rfl rfl) rfl ?_ | refine wpList_val (run_not32 rfl rfl) rfl ?_ | refine wpList_val (run_xor64 rfl rfl rfl) rfl ?_ | refine wpList_val (run_and64 rfl rfl rfl) rfl ?_ | refine wpList_val (run_or64 rfl rfl rfl) rfl ?_ | refine wpList_val (run_add64 rfl rfl rfl) rfl ?_ | refine wpList_val (run_not64 rfl rfl) rfl ?_ | refine wpList_val (run_xor8 rfl rfl rfl) rfl ?_ | refine wpList_val (run_and8 rfl rfl rfl) rfl ?_ | refine wpList_val (run_or8 rfl rfl rfl) rfl ?_ | refine wpList_val (run_add8 rfl rfl rfl) rfl ?_ | refine wpList_val (run_not8 rfl rfl) rfl ?_ | refine wpList_val (run_cv64_32 rfl rfl) rfl ?_ | refine wpList_val (run_cv8_32 rfl rfl) rfl ?_ | refine wpList_val (run_cv8_64 rfl rfl) rfl ?_ | refine wpList_val (run_cv32_8 rfl rfl) rfl ?_ | refine wpList_val (run_cv64_8 rfl rfl) rfl ?_); (try simp only [Act.put, List.setIfInBounds_toArray, List.set_cons_zero, List.set_cons_succ])))
  refine wpList_end ?_
  go_wp2_with fail
  go_loopw [3, 4] (fun s3 s4 u => ∃ k : Nat, k ≤ 64 ∧ s4 = .int .i64 (k : Int) ∧ S5 r s3 (K.take k) u) (fun _ s4 _ => (64 - intOf s4).toNat)
  case atStart => exact ⟨0, by omega, rfl, hI.out⟩
  case round v3 v4 _ =>
    obtain ⟨k, hk, rfl, hJ⟩ := hrel
    replace hI := Lib.hid hJ
    clear hJ
    by_cases hlt : k = 64
    · subst hlt
      have hk1 : ¬ (((64 : Nat) : Int) < 64) := by omega
      rw [List.take_of_length_le (by omega)] at hI
      go_upto_region 6 with fail; refine wp_region_lit ?_
      refine wpList_val (run_mv (v := u3) rfl rfl) rfl ?_; (try simp only [Act.put, List.setIfInBounds_toArray, List.set_cons_zero, List.set_cons_succ])
      refine wpList_val (run_asg (v := u3) rfl rfl) rfl ?_; (try simp only [Act.put, List.setIfInBounds_toArray, List.set_cons_zero, List.set_cons_succ])
      refine wpList_end ?_
      go_wp2_with fail
      exact bodyPost_ret (results_tmp Try.results60 _ _ _) rfl ⟨_, rfl, hI.out.mono bl⟩
    · have hk1 : (k : Int) < 64 := by omega
      have hk2 : k < 64 := by omega
      have HT2 := Lib.hid (take_snoc8 K k (by omega))
      have htl : (K.take k).length = k := by rw [List.length_take]; omega
      have HC : Hid (wr.cell? ⟨w.heap.size, k, none⟩ = some (b8 (K.getD k 0))) := Lib.hid ((HK.out.below hI.out.bl).c k _ (get_map b8 0 (by omega)))
      generalize K.getD k 0 = x at *
      generalize hP : K.take k = P at *
      clear hP
      go_upto_region 5 with fail; refine wp_region_lit ?_
      refine wpList_val (run_mv (v := u3) rfl rfl) rfl ?_; (try simp only [Act.put, List.setIfInBounds_toArray, List.set_cons_zero, List.set_cons_succ])
      refine wpList_val (run_mv (v := .int _ _) rfl rfl) rfl ?_; (try simp only [Act.put, List.setIfInBounds_toArray, List.set_cons_zero, List.set_cons_succ])
      refine wpList_val (run_ix0 rfl Try.underlying38 (by kernel_rfl) rfl rfl hk2) rfl ?_; (try simp only [Act.put, List.setIfInBounds_toArray, List.set_cons_zero, List.set_cons_succ])
      refine wpList_val (run_ld8 rfl rfl HC.out) rfl ?_; (try simp only [Act.put, List.setIfInBounds_toArray, List.set_cons_zero, List.set_cons_succ])
      refine wpList_val (run_bsl (cells := #[b8 (x)]) (z := .int .u8 0) rfl Try.underlying22 (by kernel_rfl) (by omega) (by omega) (by kernel_rfl)) rfl ?_; (try simp only [Act.put, List.setIfInBounds_toArray, List.set_cons_zero, List.set_cons_succ]); have hb2 : Below wr.heap.size wr (wr.alloc (.cells #[b8 (x)] 5)) := (Below.refl _ _).alloc (Nat.le_refl _) _; have A2 : Hid (Arr wr.heap.size ([x].map b8) (wr.alloc (.cells #[b8 (x)] 5))) := Lib.hid (Arr.new wr _ _); replace hI := Lib.hid (hI.out.below hb2); clear hb2; generalize wr.alloc (.cells #[b8 (x)] 5) = ua at *; refine wpList_app (f := b8) (fun _ => rfl) (l := P) (m := [x]) (bw := 1) (z := .int .u8 0) rfl rfl Try.underlying22 (by kernel_rfl) rfl (by omega) rfl hI.out.O rfl A2.out.range (by rw [htl]; show k + 1 ≤ _; omega) hI.out.bl.size (fun v5 z5 h3 hb3 => ?_); (try simp only [Act.put, List.setIfInBounds_toArray, List.set_cons_zero, List.set_cons_succ]); replace hI : Hid (S5 _ v5 (P ++ [x]) z5) := Lib.hid ⟨hI.out.bl.trans hb3, by rw [List.length_append]; exact h3⟩; clear h3 hb3 A2; clear ua; refine wpList_val (run_asg (v := v5) rfl rfl) rfl ?_; (try simp only [Act.put, List.setIfInBounds_toArray, List.set_cons_zero, List.set_cons_succ]); refine wpList_end ?_
      rw [← HT2.out] at hI
      clear HC HT2
      go_wp2_with fail
      go_roundw
      case rel => exact ⟨k + 1, by omega, by go_num, hI.out⟩
      case measure => simp [intOf]; omega
theorem enters_truth10 : Enters 61 := enters_of Try.func61 (by kernel_rfl) rfl
def trB (b : Bool) : List (BitVec 8) := [if b then 1 else 0]
theorem one_row (w : World) (x : BitVec 8) : Tl w (.slice (some ⟨w.heap.size, 0, none⟩) 1 1) [x] (w.alloc (.cells #[b8 x] 5)) :=
  ⟨(Below.refl _ _).alloc (Nat.le_refl _) _, Sl.arr (Arr.new w ([x].map b8) 5) (Nat.le_refl _)⟩
set_option maxHeartbeats 4000000 in
theorem truth10_any (b : Bool) (w : World) : Calls Try.prog 61 #[.bool b] w fun e w' => ∃ v', e = .returned v' ∧ Tl w v' (trB b) w' := by
  go_enter Try.func61, Try.ntmps61
  go_upto_region 0 with fail; refine wp_region_lit ?_
  refine wpList_val (run_asg (v := .slice none 0 0) rfl rfl) rfl ?_; (try simp only [Act.put, List.setIfInBounds_toArray, List.set_cons_zero, List.set_cons_succ])
  refine wpList_end ?_
  go_upto_region 1 with fail; refine wp_region_lit ?_
  refine wpList_val (run_mv (v := .bool _) rfl rfl) rfl ?_; (try simp only [Act.put, List.setIfInBounds_toArray, List.set_cons_zero, List.set_cons_succ])
  refine wpList_end ?_
  cases b
  · go_upto_region 3 with fail; refine wp_region_lit ?_
    refine wpList_val (run_bsl (cells := #[b8 0]) (z := .int .u8 0) rfl Try.underlying22 (by kernel_rfl) (by omega) (by omega) (by kernel_rfl)) rfl ?_; (try simp only [Act.put, List.setIfInBounds_toArray, List.set_cons_zero, List.set_cons_succ])
    refine wpList_val (run_asg (v := .slice (some _) _ _) rfl rfl) rfl ?_; (try simp only [Act.put, List.setIfInBounds_toArray, List.set_cons_zero, List.set_cons_succ])
    refine wpList_end ?_
    go_wp2_with fail
    exact bodyPost_ret (results_tmp Try.results61 _ _ _) rfl ⟨_, rfl, one_row w 0⟩
  · go_upto_region 2 with fail; refine wp_region_lit ?_
    refine wpList_val (run_bsl (cells := #[b8 1]) (z := .int .u8 0) rfl Try.underlying22 (by kernel_rfl) (by omega) (by omega) (by kernel_rfl)) rfl ?_; (try simp only [Act.put, List.setIfInBounds_toArray, List.set_cons_zero, List.set_cons_succ])
    refine wpList_val (run_asg (v := .slice (some _) _ _) rfl rfl) rfl ?_; (try simp only [Act.put, List.setIfInBounds_toArray, List.set_cons_zero, List.set_cons_succ])
    refine wpList_end ?_
    go_wp2_with fail
    exact bodyPost_ret (results_tmp Try.results61 _ _ _) rfl ⟨_, rfl, one_row w 1⟩
end Go.Proofs.Ytgioojahadlmhaa
