/- What scalar's rest answers. -/
import Derived.Test.YtfdjmdfaidiliaaDoorScLess
import Derived.Test.YtfdjmdfaidiliaaDoorScShift
namespace Go.Proofs.YtfdjmdfaidiliaaDoor
open Go.RowKit
set_option maxRecDepth 20000

/-- What is left, from bit k on. -/
def rstW (N k : Nat) : List (BitVec 64) := wd (N / 2 ^ k % ell) 4
theorem rstW_len (N k : Nat) : (rstW N k).length = 4 := wd_len _ _
theorem ell_half : 2 * ell + 2 < 2 ^ 256 := by decide +kernel
theorem twice_arith {x b e M : Nat} (hx : x < e) (hb : b < 2) (h : 2 * e + 2 < M) : (2 * (x % M) + b) % M = 2 * x + b := by
  rw [Nat.mod_eq_of_lt (show x < M by omega), Nat.mod_eq_of_lt (by omega)]
theorem rstW_step (N i : Nat) {b : BitVec 64} (hb : b.toNat = N / 2 ^ i % 2) : wd (lessN (lv (shl (rstW N (i + 1)) b))) 4 = rstW N i := by
  have hb2 : b.toNat < 2 := by rw [hb]; exact Nat.mod_lt _ (by omega)
  have hx : N / 2 ^ (i + 1) % ell < ell := Nat.mod_lt _ ell_pos
  rw [lv_shl _ _ (by omega), rstW_len, rstW, lv_wd, show 64 * 4 = 256 by rfl, twice_arith hx hb2 ell_half]
  unfold rstW lessN
  rw [left_step N i rfl (by rw [hb])]
theorem div_part {a b c M : Nat} (h : a = b + M * c) (hb : b < M) : a / M = c := by
  rw [h, Nat.add_mul_div_left _ _ (by omega), Nat.div_eq_of_lt hb, Nat.zero_add]
theorem rstW_start {l : List (BitVec 64)} (hl : l.length = 8) : (l.drop 5) ++ [0] = rstW (lv l) (64 * 5) := by
  unfold rstW
  refine wd_eq (by rw [List.length_append, List.length_drop, hl]; rfl) ?_
  have h1 := lv_drop l 5 (by omega)
  have h2 := lv_lt (l.take 5)
  have h3 := lv_lt (l.drop 5)
  rw [List.length_take, hl, show min 5 8 = 5 by rfl] at h2
  rw [List.length_drop, hl] at h3
  have e := div_part h1 h2
  have h4 : 2 ^ (64 * (8 - 5)) < ell := by decide +kernel
  rw [e, Nat.mod_eq_of_lt (Nat.lt_trans h3 h4), lv_append]
  simp [lv]
theorem rstW_end (N : Nat) : rstW N 0 = wd (N % ell) 4 := by unfold rstW; rw [Nat.pow_zero, Nat.div_one]
set_option maxHeartbeats 8000000 in
theorem srest_any (l : List (BitVec 64)) (w : World) (hl : l.length = 8) (hG : SG w) : Calls Tryd.prog 44 #[.agg (l.map b64).toArray] w fun e w' => e = .returned (.agg ((wd (lv l % ell) 4).map b64).toArray) ∧ Below w.heap.size w w' := by
  have HG := Lib.hid hG; clear hG
  obtain ⟨T, hT⟩ : ∃ T, T = rstW (lv l) := ⟨_, rfl⟩
  have TL : Hid (∀ i, (T i).length = 4) := Lib.hid (by rw [hT]; exact rstW_len _)
  have TS : Hid (∀ i, wd (lessN (lv (shl (T (i + 1)) (l.getD (i / 64) 0 >>> (i % 64) &&& 1#64)))) 4 = T i) := Lib.hid (by rw [hT]; exact fun i => rstW_step _ i (bitW_of l i))
  have T0 : Hid (T 320 = (l.drop 5) ++ [0]) := Lib.hid (by rw [hT, rstW_start hl])
  have TE : Hid (T 0 = wd (lv l % ell) 4) := Lib.hid (by rw [hT, rstW_end])
  clear hT
  rw [← TE.out]
  clear TE
  have E0 : Hid ((z64 4).take 0 ++ ((l.drop 5).map b64 ++ (z64 4).drop (0 + ((l.drop 5).map b64).length)) = (T 320).map b64) := Lib.hid (by
    rw [T0.out, List.length_map, List.length_drop, hl, List.map_append]; rfl)
  have LD : Hid (((l.drop 5).map b64).length = 3) := Lib.hid (by rw [List.length_map, List.length_drop, hl])
  have RD : Hid (∀ (V : World) (g : Nat), Arr g (l.map b64) V → V.rangeAt g (0 + 5) ((l.drop 5).map b64)) := Lib.hid fun V g h => by rw [List.map_drop]; exact rangeAt_drop h.range
  have OD := Lib.hid (one64v (l.drop 5))
  generalize (l.drop 5).map b64 = D at *
  clear T0
  have hM := Lib.hid (Mv.nil w)
  go_enter Tryd.func44, Tryd.ntmps44
  go_upto_region 0 with fail; refine wp_region_lit ?_
  refine wpList_val (run_boxL8 (vs := l.map b64) rfl rfl) rfl ?_; (try simp only [Act.put, List.setIfInBounds_toArray, List.set_cons_zero, List.set_cons_succ]); replace hM := Lib.hid (hM.out.new (l.map b64) 70); generalize w.alloc (.cells (l.map b64).toArray 70) = a1 at *; generalize w.heap.size = g1 at *
  refine wpList_val (run_alc (vs := z64 4) rfl (by kernel_rfl)) rfl ?_; (try simp only [Act.put, List.setIfInBounds_toArray, List.set_cons_zero, List.set_cons_succ]); replace hM := Lib.hid (hM.out.new (z64 4) 54); generalize a1.alloc (.cells (z64 4).toArray 54) = a2 at *; generalize a1.heap.size = g2 at *
  refine wpList_end ?_
  go_upto_region 1 with fail; refine wp_region_lit ?_
  refine wpList_val (run_alc (vs := z64 4) rfl (by kernel_rfl)) rfl ?_; (try simp only [Act.put, List.setIfInBounds_toArray, List.set_cons_zero, List.set_cons_succ]); replace hM := Lib.hid (hM.out.new (z64 4) 54); generalize a2.alloc (.cells (z64 4).toArray 54) = a3 at *; generalize a2.heap.size = g3 at *
  refine wpList_end ?_
  go_upto_region 2 with fail; refine wp_region_calm 2 (by kernel_rfl) (by kernel_rfl) ?_
  refine wpCalm_step _ (fun V hV => calm_run (run_slW rfl Tryd.underlying54 (by kernel_rfl) rfl)) ?_; (try simp only [Act.put, List.setIfInBounds_toArray, List.set_cons_zero, List.set_cons_succ])
  refine wpCalm_step _ (fun V hV => calm_run (run_slWl (l := 5) rfl Tryd.underlying70 (by kernel_rfl) rfl rfl (by omega))) ?_; (try simp only [Act.put, List.setIfInBounds_toArray, List.set_cons_zero, List.set_cons_succ])
  refine wpCalm_done ?_; intro a4 hb; simp only [List.drop_succ_cons, List.drop_zero]
  replace hM := Lib.hid (hM.out.below hb)
  clear hb
  refine wpList_val (run_cpyV (vs := D) (l := z64 4) rfl Tryd.underlying87 (by kernel_rfl) rfl rfl (RD.out _ _ (hM.out.get (i := 2) rfl)) (by rw [LD.out]; rfl) (hM.out.get (i := 0) rfl) (by rw [LD.out, z64_len]; omega) OD.out) rfl ?_; (try simp only [Act.put, List.setIfInBounds_toArray, List.set_cons_zero, List.set_cons_succ])
  refine wpList_end ?_
  replace hM := Lib.hid (hM.out.mid 0 rfl (f := 0) (m := D) (by rw [LD.out, z64_len]; omega))
  rw [E0.out] at hM
  generalize a4.setCells g3 0 D = a5 at *
  go_upto_region 3 with fail; refine wp_region_lit ?_
  (repeat ((first | refine wpList_val (run_mv (v := b32 _) rfl rfl) rfl ?_ | refine wpList_val (run_mv (v := b64 _) rfl rfl) rfl ?_ | refine wpList_val (run_mv (v := b8 _) rfl rfl) rfl ?_ | refine wpList_val (run_mv (v := .int _ _) rfl rfl) rfl ?_ | refine wpList_val (run_mv (v := .bool _) rfl rfl) rfl ?_ | refine wpList_val (run_mv (v := .slice (some _) _ _) rfl rfl) rfl ?_ | refine wpList_val (run_mv (v := .slice _ _ _) rfl rfl) rfl ?_ | refine wpList_val (run_mv (v := .pointer (some _)) rfl rfl) rfl ?_ | refine wpList_val (run_mv (v := .agg _) rfl rfl) rfl ?_ | refine wpList_val (run_asg (v := b32 _) rfl rfl) rfl ?_ | refine wpList_val (run_asg (v := b64 _) rfl rfl) rfl ?_ | refine wpList_val (run_asg (v := b8 _) rfl rfl) rfl ?_ | refine wpList_val (run_asg (v := .int _ _) rfl rfl) rfl ?_ | refine wpList_val (run_asg (v := .bool _) rfl rfl) rfl ?_ | refine wpList_val (run_asg (v := .slice (some _) _ _) rfl rfl) rfl ?_ | refine wpList_val (run_asg (v := .slice _ _ _) rfl rfl) rfl ?_ | refine wpList_val (run_asg (v := .pointer (some _)) rfl rfl) rfl ?_ | refine wpList_val (run_asg (v := .agg _) rfl rfl) rfl ?_ | refine wpList_val (run_mv rfl rfl) rfl ?_ | refine wpList_val (run_asg rfl rfl) rfl ?_ | refine wpList_val (run_xor32 rfl rfl rfl) rfl ?_ | refine wpList_val (run_and32 rfl rfl rfl) rfl ?_ | refine wpList_val (run_or32 rfl rfl rfl) rfl ?_ | refine wpList_val (run_add32 rfl rfl rfl) rfl ?_ | refine wpList_val (run_not32 rfl rfl) rfl ?_ | refine wpList_val (run_xor64 rfl rfl rfl) rfl ?_ | refine wpList_val (run_and64 rfl rfl rfl) rfl ?_ | refine wpList_val (run_or64 rfl rfl rfl) rfl ?_ | refine wpList_val (run_add64 rfl rfl rfl) rfl ?_ | refine wpList_val (run_not64 rfl rfl) rfl ?_ | refine wpList_val (run_xor8 rfl rfl rfl) rfl ?_ | refine wpList_val (run_and8 rfl rfl rfl) rfl ?_ | refine wpList_val (run_or8 rfl rfl rfl) rfl ?_ | refine wpList_val (run_add8 rfl rfl rfl) rfl ?_ | refine wpList_val (run_not8 rfl rfl) rfl ?_ | refine wpList_val (run_cv64_32 rfl rfl) rfl ?_ | refine wpList_val (run_cv8_32 rfl rfl) rfl ?_ | refine wpList_val (run_cv8_64 rfl rfl) rfl ?_ | refine wpList_val (run_cv32_8 rfl rfl) rfl ?_ | refine wpList_val (run_cv64_8 rfl rfl) rfl ?_); (try simp only [Act.put, List.setIfInBounds_toArray, List.set_cons_zero, List.set_cons_succ])))
  refine wpList_end ?_
  go_wp2_with fail
  go_loopw [4] (fun s u => ∃ k : Nat, k ≤ 320 ∧ s = .int .i64 ((k : Int) - 1) ∧ Mv w [(g3, (T k).map b64), (g2, z64 4), (g1, l.map b64)] u) (fun s _ => (intOf s + 1).toNat)
  case atStart => exact ⟨320, by omega, rfl, hM.out⟩
  case round =>
    obtain ⟨k, hk, rfl, hJ⟩ := hrel
    replace hM := Lib.hid hJ
    clear hJ
    rcases Nat.eq_zero_or_pos k with rfl | hpos
    · have hk1 : ¬ ((0 : Int) ≤ ((0 : Nat) : Int) - 1) := by omega
      have SZ := Lib.hid (szS4 (TL.out 0))
      have L1 : Hid (((T 0).map b64).length = (z64 4).length) := Lib.hid (by rw [List.length_map, TL.out]; rfl)
      go_upto_region 8 with fail; refine wp_region_lit ?_
      refine wpList_val (run_ldM (vs := (T 0).map b64) rfl Tryd.underlying54 rfl SZ.out rfl ((hM.out.get (i := 0) rfl).range)) rfl ?_; (try simp only [Act.put, List.setIfInBounds_toArray, List.set_cons_zero, List.set_cons_succ])
      refine wpList_skip (run_stM (vs := (T 0).map b64) rfl SZ.out rfl rfl (one64s _) (by rw [L1.out]; exact (hM.out.get (i := 1) rfl).there)) rfl rfl ?_; replace hM := Lib.hid (hM.out.put 1 rfl (m := (T 0).map b64) (L1.out))
      refine wpList_end ?_; go_wp2_with fail; refine bodyPost_ret (v := .agg ((T 0).map b64).toArray) (results_rowB Tryd.results44 rfl Tryd.underlying54 rfl SZ.out (hM.out.get (i := 1) rfl).range) rfl ⟨rfl, hM.out.bl⟩
    · obtain ⟨i, rfl⟩ : ∃ i, k = i + 1 := ⟨k - 1, by omega⟩
      have hk1 : (0 : Int) ≤ ((i + 1 : Nat) : Int) - 1 := by omega
      have ei : ((i + 1 : Nat) : Int) - 1 = (i : Int) := by omega
      have hi : i < 320 := by omega
      have HL := Lib.hid (get_map b64 0 (l := l) (i := i / 64) (by omega))
      have TN := Lib.hid (TS.out i)
      have hT1 := TL.out (i + 1)
      have hT0 := TL.out i
      generalize T (i + 1) = X at *
      generalize hTi : T i = Y at *
      have ETi := Lib.hid hTi
      clear hTi
      generalize l.getD (i / 64) 0 = x at *
      have hXl : (shl X (x >>> (i % 64) &&& 1#64)).length = 4 := by rw [shl_len, hT1]
      have LX : Hid (((shl X (x >>> (i % 64) &&& 1#64)).map b64).length = (X.map b64).length) := Lib.hid (by rw [List.length_map, List.length_map, shl_len])
      have SX := Lib.hid (szS4 hXl)
      have SY := Lib.hid (szS4 hT0)
      have LY : Hid ((Y.map b64).length = ((shl X (x >>> (i % 64) &&& 1#64)).map b64).length) := Lib.hid (by rw [List.length_map, List.length_map, hT0, hXl])
      have CL : Hid (∀ u : World, SG u → Calls Tryd.prog 74 #[.agg ((shl X (x >>> (i % 64) &&& 1#64)).map b64).toArray] u fun e w' => e = .returned (.agg (Y.map b64).toArray) ∧ Below u.heap.size u w') := Lib.hid fun u h => by rw [← TN.out]; exact sless_any _ u hXl h
      rw [ei]
      go_upto_region 6 with fail
      refine wp_region_noPanic ?_; refine wp_region_late (S := Till 9 (fun V => Below wr.heap.size wr V)) (by kernel_rfl) (.inr (Below.refl _ _).drew) (fun _ => ?_); have hS : Below wr.heap.size wr wr.drew := (Below.refl _ _).drew
      refine wpAnyD_take 0 rfl rfl (by kernel_rfl) (by kernel_rfl) (by kernel_rfl) (by kernel_rfl) (by kernel_rfl) (fun _ _ _ h => h) rfl (fun V hV => run_slW rfl Tryd.underlying54 (by kernel_rfl) rfl) hS ?_; (try simp only [Act.put, List.setIfInBounds_toArray, List.set_cons_zero, List.set_cons_succ])
      refine wpAnyD_take 1 rfl rfl (by kernel_rfl) (by kernel_rfl) (by kernel_rfl) (by kernel_rfl) (by kernel_rfl) (fun _ _ _ h => h) rfl (fun V hV => run_mv (v := .int _ _) rfl rfl) hS ?_; (try simp only [Act.put, List.setIfInBounds_toArray, List.set_cons_zero, List.set_cons_succ])
      refine wpAnyD_take 2 rfl rfl (by kernel_rfl) (by kernel_rfl) (by kernel_rfl) (by kernel_rfl) (by kernel_rfl) (fun _ _ _ h => h) rfl (fun V hV => run_quoN (a := i) (b := 64) rfl rfl rfl (by omega) (by omega)) hS ?_; (try simp only [Act.put, List.setIfInBounds_toArray, List.set_cons_zero, List.set_cons_succ])
      refine wpAnyD_take 3 rfl rfl (by kernel_rfl) (by kernel_rfl) (by kernel_rfl) (by kernel_rfl) (by kernel_rfl) (fun _ _ _ h => h) rfl (fun V hV => run_ix0 (i := i / 64) rfl Tryd.underlying70 (by kernel_rfl) rfl rfl (by omega)) hS ?_; (try simp only [Act.put, List.setIfInBounds_toArray, List.set_cons_zero, List.set_cons_succ])
      refine wpAnyD_take 4 rfl rfl (by kernel_rfl) (by kernel_rfl) (by kernel_rfl) (by kernel_rfl) (by kernel_rfl) (fun _ _ _ h => h) rfl (fun V hV => run_ld64 rfl rfl (((hM.out.below hV).get (i := 2) rfl).c _ _ HL.out)) hS ?_; (try simp only [Act.put, List.setIfInBounds_toArray, List.set_cons_zero, List.set_cons_succ])
      refine wpAnyD_take 5 rfl rfl (by kernel_rfl) (by kernel_rfl) (by kernel_rfl) (by kernel_rfl) (by kernel_rfl) (fun _ _ _ h => h) rfl (fun V hV => run_mv (v := .int _ _) rfl rfl) hS ?_; (try simp only [Act.put, List.setIfInBounds_toArray, List.set_cons_zero, List.set_cons_succ])
      refine wpAnyD_take 6 rfl rfl (by kernel_rfl) (by kernel_rfl) (by kernel_rfl) (by kernel_rfl) (by kernel_rfl) (fun _ _ _ h => h) rfl (fun V hV => run_remN (a := i) (b := 64) rfl rfl rfl (by omega)) hS ?_; (try simp only [Act.put, List.setIfInBounds_toArray, List.set_cons_zero, List.set_cons_succ])
      refine wpAnyD_take 7 rfl rfl (by kernel_rfl) (by kernel_rfl) (by kernel_rfl) (by kernel_rfl) (by kernel_rfl) (fun _ _ _ h => h) rfl (fun V hV => run_shrW (n := i % 64) rfl rfl rfl (by omega)) hS ?_; (try simp only [Act.put, List.setIfInBounds_toArray, List.set_cons_zero, List.set_cons_succ])
      refine wpAnyD_take 8 rfl rfl (by kernel_rfl) (by kernel_rfl) (by kernel_rfl) (by kernel_rfl) (by kernel_rfl) (fun _ _ _ h => h) rfl (fun V hV => run_and64 (b := 1#64) rfl rfl rfl) hS ?_; (try simp only [Act.put, List.setIfInBounds_toArray, List.set_cons_zero, List.set_cons_succ])
      replace hM := Lib.hid (hM.out.below hS)
      generalize wr.drew = a6 at *
      refine wpAnyD_callD 9 (by kernel_rfl) rfl rfl rfl (run_call2 enters_shift rfl rfl rfl rfl) (shift_any X _ _ 4 _ hT1 (by omega) (hM.out.get (i := 0) rfl)) (by kernel_rfl) (fun v9 a7 hR => ?_); (try simp only [Act.put, List.setIfInBounds_toArray, List.set_cons_zero, List.set_cons_succ])
      refine wpAnyL_done (by kernel_rfl) ?_ _; refine NoPanic.normal ?_
      generalize shl X (x >>> (i % 64) &&& 1#64) = Z at *
      subst hR
      replace hM := Lib.hid (hM.out.put 0 rfl (m := Z.map b64) LX.out)
      generalize a6.setCells g3 0 (Z.map b64) = a7 at *
      clear hS
      go_upto_region 7 with fail; refine wp_region_lit ?_
      refine wpList_val (run_ldM (vs := Z.map b64) rfl Tryd.underlying54 rfl SX.out rfl ((hM.out.get (i := 0) rfl).range)) rfl ?_; (try simp only [Act.put, List.setIfInBounds_toArray, List.set_cons_zero, List.set_cons_succ])
      refine wpList_enter (run_call1 enters_sless rfl rfl rfl) rfl (CL.out _ (HG.out.below hM.out.bl)) (fun a8 hb => ?_); (try simp only [Act.put, List.setIfInBounds_toArray, List.set_cons_zero, List.set_cons_succ]); replace hM := Lib.hid (hM.out.below hb); clear hb
      refine wpList_skip (run_stM (vs := Y.map b64) rfl SY.out rfl rfl (one64s _) (by rw [LY.out]; exact (hM.out.get (i := 0) rfl).there)) rfl rfl ?_; replace hM := Lib.hid (hM.out.put 0 rfl (m := Y.map b64) (LY.out))
      refine wpList_end ?_
      generalize a8.setCells g3 0 (Y.map b64) = a9 at *
      go_wp2_with fail
      exact ⟨⟨i, by omega, by go_num, by rw [ETi.out]; exact hM.out⟩, by simp [intOf]⟩
theorem enters_srest : Enters 44 := enters_of Tryd.func44 (by kernel_rfl) rfl
end Go.Proofs.YtfdjmdfaidiliaaDoor
