/- What scalar's Order, Reduce, Canon and Mad answer. -/
import Derived.Test.YtfdjmdfaidiliaaDoorScOps
import Derived.Test.YtfdjmdfaidiliaaDoorScLess
import Derived.Test.YtfdjmdfaidiliaaDoorLateT
namespace Go.Proofs.YtfdjmdfaidiliaaDoor
open Go.RowKit
set_option maxRecDepth 20000

/-- The first words are written. -/
theorem shift_cell {g : Nat} {l : List (BitVec 64)} {w : World} (hA : Arr g (l.map b64) w) (vs : List Value) {i : Nat} (hv : vs.length = i) (hi : i < l.length) : (w.setCells g 0 vs).cell? ⟨g, i, none⟩ = some (b64 (l.getD i 0)) := by
  rw [cell_setCells_behind _ _ _ _ _ (by omega)]
  exact hA.c i _ (get_map b64 0 hi)
theorem shift_froz {g : Nat} {l : List (BitVec 64)} {w : World} (hA : Arr g (l.map b64) w) (vs : List Value) (i : Nat) : (w.setCells g 0 vs).frozen? ⟨g, i, none⟩ = false := by
  rw [frozen_setCells]; exact hA.f i
set_option maxHeartbeats 4000000 in
theorem shift_any (l : List (BitVec 64)) (b : BitVec 64) (g n : Nat) (w : World) (hn : l.length = n) (hn8 : n ≤ 8) (hA : Arr g (l.map b64) w) : Calls Tryd.prog 73 #[.slice (some ⟨g, 0, none⟩) n n, b64 b] w fun e w' => ∃ v, e = .returned v ∧ w' = w.setCells g 0 ((shl l b).map b64) := by
  have HA := Lib.hid hA; clear hA
  have HT : Hid (∀ i, i < n → ((shl l b).take (i + 1)).map b64 = ((shl l b).take i).map b64 ++ [b64 (l.getD i 0 <<< 1 ||| shb l b i)]) := Lib.hid fun i hi => by rw [shl_take l b (by omega), List.map_append]; rfl
  have HL : Hid (∀ i, i ≤ n → (((shl l b).take i).map b64).length = i) := Lib.hid fun i hi => by rw [List.length_map, List.length_take, shl_len]; omega
  have HE : Hid (((shl l b).take n).map b64 = (shl l b).map b64) := Lib.hid (by rw [List.take_of_length_le (by rw [shl_len]; omega)])
  obtain ⟨T, hT⟩ : ∃ T : Nat → List Value, T = fun i => ((shl l b).take i).map b64 := ⟨_, rfl⟩
  have HT' : Hid (∀ i, i < n → T (i + 1) = T i ++ [b64 (l.getD i 0 <<< 1 ||| shb l b i)]) := Lib.hid (by rw [hT]; exact HT.out)
  have HL' : Hid (∀ i, i ≤ n → (T i).length = i) := Lib.hid (by rw [hT]; exact HL.out)
  have HE' : Hid (T n = (shl l b).map b64) := Lib.hid (by rw [hT]; exact HE.out)
  have H0 : Hid (T 0 = []) := Lib.hid (by rw [hT]; rfl)
  have HB : Hid (∀ i, shb l b (i + 1) = l.getD i 0 >>> 63) := Lib.hid fun i => rfl
  have HB0 : Hid (shb l b 0 = b) := Lib.hid rfl
  clear hT HT HL HE
  generalize (shl l b).map b64 = X at *
  obtain ⟨B, hB⟩ : ∃ B, B = shb l b := ⟨_, rfl⟩
  rw [← hB] at HT' HB HB0
  clear hB
  go_enter Tryd.func73, Tryd.ntmps73
  go_upto_region 0 with fail; refine wp_region_lit ?_
  refine wpList_val (run_mv (v := .slice (some _) _ _) rfl rfl) rfl ?_; (try simp only [Act.put, List.setIfInBounds_toArray, List.set_cons_zero, List.set_cons_succ])
  refine wpList_val (run_len rfl Tryd.underlying87 rfl) rfl ?_; (try simp only [Act.put, List.setIfInBounds_toArray, List.set_cons_zero, List.set_cons_succ])
  refine wpList_val (run_mv (v := .int _ _) rfl rfl) rfl ?_; (try simp only [Act.put, List.setIfInBounds_toArray, List.set_cons_zero, List.set_cons_succ])
  refine wpList_end ?_
  go_wp2_with fail
  go_loopw [1, 8] (fun s1 s u => ∃ i : Nat, i ≤ n ∧ s1 = b64 (B i) ∧ s = .int .i64 (i : Int) ∧ u = w.setCells g 0 (T i)) (fun _ s _ => ((n : Int) - intOf s).toNat)
  case atStart => exact ⟨0, by omega, by rw [HB0.out], rfl, by rw [H0.out]; rfl⟩
  case round =>
    obtain ⟨i, hi, rfl, rfl, rfl⟩ := hrel
    by_cases hlt : i = n
    · subst hlt
      have hk1 : ¬ ((i : Int) < (i : Int)) := by omega
      go_wp2_with fail
      exact ⟨rfl, .tuple #[], by simp [results, Tryd.results73, go_sem], ⟨_, rfl⟩, by rw [HE'.out]⟩
    · have hk1 : (i : Int) < (n : Int) := by omega
      have hi2 : i < n := by omega
      have C1 := Lib.hid (shift_cell HA.out (T i) (HL'.out i hi) (by omega))
      have F1 := Lib.hid (shift_froz HA.out (T i) i)
      have SN := Lib.hid (setCells_snoc g (b64 (l.getD i 0 <<< 1 ||| B i)) (T i) 0 w)
      rw [← HT'.out i hi2, HL'.out i hi, Nat.zero_add] at SN
      generalize w.setCells g 0 (T i) = u1 at *
      have E1 := Lib.hid (HB.out i)
      generalize B i = bi at *
      go_upto_region 2 with fail; refine wp_region_lit ?_
      refine wpList_val (run_mv (v := .int _ _) rfl rfl) rfl ?_; (try simp only [Act.put, List.setIfInBounds_toArray, List.set_cons_zero, List.set_cons_succ])
      refine wpList_val (run_ixs (i := i) rfl Tryd.underlying87 (by kernel_rfl) rfl rfl hi2) rfl ?_; (try simp only [Act.put, List.setIfInBounds_toArray, List.set_cons_zero, List.set_cons_succ])
      rw [Nat.zero_add]
      refine wpList_val (run_ld64 rfl rfl C1.out) rfl ?_; (try simp only [Act.put, List.setIfInBounds_toArray, List.set_cons_zero, List.set_cons_succ])
      refine wpList_val (run_asg (v := .int _ _) rfl rfl) rfl ?_; (try simp only [Act.put, List.setIfInBounds_toArray, List.set_cons_zero, List.set_cons_succ]); refine wpList_val (run_asg (v := b64 _) rfl rfl) rfl ?_; (try simp only [Act.put, List.setIfInBounds_toArray, List.set_cons_zero, List.set_cons_succ])
      refine wpList_end ?_
      go_upto_region 3 with fail; refine wp_region_lit ?_
      refine wpList_val (run_mv (v := .slice (some _) _ _) rfl rfl) rfl ?_; (try simp only [Act.put, List.setIfInBounds_toArray, List.set_cons_zero, List.set_cons_succ]); refine wpList_val (run_mv (v := .int _ _) rfl rfl) rfl ?_; (try simp only [Act.put, List.setIfInBounds_toArray, List.set_cons_zero, List.set_cons_succ]); refine wpList_val (run_mv (v := b64 _) rfl rfl) rfl ?_; (try simp only [Act.put, List.setIfInBounds_toArray, List.set_cons_zero, List.set_cons_succ])
      refine wpList_val (run_shl64 (n := 1) rfl rfl rfl (by omega)) rfl ?_; (try simp only [Act.put, List.setIfInBounds_toArray, List.set_cons_zero, List.set_cons_succ])
      refine wpList_val (run_mv (v := b64 _) rfl rfl) rfl ?_; (try simp only [Act.put, List.setIfInBounds_toArray, List.set_cons_zero, List.set_cons_succ]); refine wpList_val (run_or64 rfl rfl rfl) rfl ?_; (try simp only [Act.put, List.setIfInBounds_toArray, List.set_cons_zero, List.set_cons_succ])
      refine wpList_val (run_ixs (i := i) rfl Tryd.underlying87 (by kernel_rfl) rfl rfl hi2) rfl ?_; (try simp only [Act.put, List.setIfInBounds_toArray, List.set_cons_zero, List.set_cons_succ])
      rw [Nat.zero_add]
      refine wpList_skip (run_st64 rfl rfl rfl C1.out F1.out) rfl rfl ?_
      rw [SN.out]
      refine wpList_end ?_
      go_upto_region 4 with fail; refine wp_region_lit ?_
      refine wpList_val (run_mv (v := b64 _) rfl rfl) rfl ?_; (try simp only [Act.put, List.setIfInBounds_toArray, List.set_cons_zero, List.set_cons_succ])
      refine wpList_val (run_shr64 (n := 63) rfl rfl rfl (by omega)) rfl ?_; (try simp only [Act.put, List.setIfInBounds_toArray, List.set_cons_zero, List.set_cons_succ])
      rw [← E1.out]
      refine wpList_val (run_asg (v := b64 _) rfl rfl) rfl ?_; (try simp only [Act.put, List.setIfInBounds_toArray, List.set_cons_zero, List.set_cons_succ])
      refine wpList_end ?_
      go_wp2_with fail
      exact ⟨⟨i + 1, by omega, rfl, by go_num, rfl⟩, by simp [intOf]; omega⟩
theorem enters_shift : Enters 73 := enters_of Tryd.func73 (by kernel_rfl) rfl
end Go.Proofs.YtfdjmdfaidiliaaDoor
namespace Go.Proofs.YtfdjmdfaidiliaaDoor
open Go.RowKit
set_option maxRecDepth 20000

/-- What is left, from bit k on. -/
def rstW (N k : Nat) : List (BitVec 64) := wd (N / 2 ^ k % ell) 4
theorem rstW_len (N k : Nat) : (rstW N k).length = 4 := wd_len _ _
theorem ell_half : 2 * ell + 2 < 2 ^ 256 := by decide +kernel
theorem twice_arith {x b e M : Nat} (hx : x < e) (hb : b < 2) (h : 2 * e + 2 < M) : (2 * (x % M) + b) % M = 2 * x + b := by
  rw [Nat.mod_eq_of_lt (show x < M by omega), Nat.mod_eq_of_lt (by omega)]
theorem rstW_step (N i : Nat) {b : BitVec 64} (hb : b.toNat = N / 2 ^ i % 2) : wd (lessN (lv (shl (rstW N (i + 1)) b))) 4 = rstW N i := by
  have hb2 : b.toNat < 2 := by rw [hb]; exact Nat.mod_lt _ (by omega)
  have hx : N / 2 ^ (i + 1) % ell < ell := Nat.mod_lt _ ell_pos
  rw [lv_shl _ _ (by omega), rstW_len, rstW, lv_wd, show 64 * 4 = 256 by rfl, twice_arith hx hb2 ell_half]
  unfold rstW lessN
  rw [left_step N i rfl (by rw [hb])]
theorem div_part {a b c M : Nat} (h : a = b + M * c) (hb : b < M) : a / M = c := by
  rw [h, Nat.add_mul_div_left _ _ (by omega), Nat.div_eq_of_lt hb, Nat.zero_add]
theorem rstW_start {l : List (BitVec 64)} (hl : l.length = 8) : (l.drop 5) ++ [0] = rstW (lv l) (64 * 5) := by
  unfold rstW
  refine wd_eq (by rw [List.length_append, List.length_drop, hl]; rfl) ?_
  have h1 := lv_drop l 5 (by omega)
  have h2 := lv_lt (l.take 5)
  have h3 := lv_lt (l.drop 5)
  rw [List.length_take, hl, show min 5 8 = 5 by rfl] at h2
  rw [List.length_drop, hl] at h3
  have e := div_part h1 h2
  have h4 : 2 ^ (64 * (8 - 5)) < ell := by decide +kernel
  rw [e, Nat.mod_eq_of_lt (Nat.lt_trans h3 h4), lv_append]
  simp [lv]
theorem rstW_end (N : Nat) : rstW N 0 = wd (N % ell) 4 := by unfold rstW; rw [Nat.pow_zero, Nat.div_one]
set_option maxHeartbeats 8000000 in
theorem srest_any (l : List (BitVec 64)) (w : World) (hl : l.length = 8) (hG : SG w) : Calls Tryd.prog 44 #[.agg (l.map b64).toArray] w fun e w' => e = .returned (.agg ((wd (lv l % ell) 4).map b64).toArray) ∧ Below w.heap.size w w' := by
  have HG := Lib.hid hG; clear hG
  obtain ⟨T, hT⟩ : ∃ T, T = rstW (lv l) := ⟨_, rfl⟩
  have TL : Hid (∀ i, (T i).length = 4) := Lib.hid (by rw [hT]; exact rstW_len _)
  have TS : Hid (∀ i, wd (lessN (lv (shl (T (i + 1)) (l.getD (i / 64) 0 >>> (i % 64) &&& 1#64)))) 4 = T i) := Lib.hid (by rw [hT]; exact fun i => rstW_step _ i (bitW_of l i))
  have T0 : Hid (T 320 = (l.drop 5) ++ [0]) := Lib.hid (by rw [hT, rstW_start hl])
  have TE : Hid (T 0 = wd (lv l % ell) 4) := Lib.hid (by rw [hT, rstW_end])
  clear hT
  rw [← TE.out]
  clear TE
  have E0 : Hid ((z64 4).take 0 ++ ((l.drop 5).map b64 ++ (z64 4).drop (0 + ((l.drop 5).map b64).length)) = (T 320).map b64) := Lib.hid (by
    rw [T0.out, List.length_map, List.length_drop, hl, List.map_append]; rfl)
  have LD : Hid (((l.drop 5).map b64).length = 3) := Lib.hid (by rw [List.length_map, List.length_drop, hl])
  have RD : Hid (∀ (V : World) (g : Nat), Arr g (l.map b64) V → V.rangeAt g (0 + 5) ((l.drop 5).map b64)) := Lib.hid fun V g h => by rw [List.map_drop]; exact rangeAt_drop h.range
  have OD := Lib.hid (one64v (l.drop 5))
  generalize (l.drop 5).map b64 = D at *
  clear T0
  have hM := Lib.hid (Mv.nil w)
  go_enter Tryd.func44, Tryd.ntmps44
  go_upto_region 0 with fail; refine wp_region_lit ?_
  refine wpList_val (run_boxL8 (vs := l.map b64) rfl rfl) rfl ?_; (try simp only [Act.put, List.setIfInBounds_toArray, List.set_cons_zero, List.set_cons_succ]); replace hM := Lib.hid (hM.out.new (l.map b64) 70); generalize w.alloc (.cells (l.map b64).toArray 70) = a1 at *; generalize w.heap.size = g1 at *
  refine wpList_val (run_alc (vs := z64 4) rfl (by kernel_rfl)) rfl ?_; (try simp only [Act.put, List.setIfInBounds_toArray, List.set_cons_zero, List.set_cons_succ]); replace hM := Lib.hid (hM.out.new (z64 4) 54); generalize a1.alloc (.cells (z64 4).toArray 54) = a2 at *; generalize a1.heap.size = g2 at *
  refine wpList_end ?_
  go_upto_region 1 with fail; refine wp_region_lit ?_
  refine wpList_val (run_alc (vs := z64 4) rfl (by kernel_rfl)) rfl ?_; (try simp only [Act.put, List.setIfInBounds_toArray, List.set_cons_zero, List.set_cons_succ]); replace hM := Lib.hid (hM.out.new (z64 4) 54); generalize a2.alloc (.cells (z64 4).toArray 54) = a3 at *; generalize a2.heap.size = g3 at *
  refine wpList_end ?_
  go_upto_region 2 with fail; refine wp_region_calm 2 (by kernel_rfl) (by kernel_rfl) ?_
  refine wpCalm_step _ (fun V hV => calm_run (run_slW rfl Tryd.underlying54 (by kernel_rfl) rfl)) ?_; (try simp only [Act.put, List.setIfInBounds_toArray, List.set_cons_zero, List.set_cons_succ])
  refine wpCalm_step _ (fun V hV => calm_run (run_slWl (l := 5) rfl Tryd.underlying70 (by kernel_rfl) rfl rfl (by omega))) ?_; (try simp only [Act.put, List.setIfInBounds_toArray, List.set_cons_zero, List.set_cons_succ])
  refine wpCalm_done ?_; intro a4 hb; simp only [List.drop_succ_cons, List.drop_zero]
  replace hM := Lib.hid (hM.out.below hb)
  clear hb
  refine wpList_val (run_cpyV (vs := D) (l := z64 4) rfl Tryd.underlying87 (by kernel_rfl) rfl rfl (RD.out _ _ (hM.out.get (i := 2) rfl)) (by rw [LD.out]; rfl) (hM.out.get (i := 0) rfl) (by rw [LD.out, z64_len]; omega) OD.out) rfl ?_; (try simp only [Act.put, List.setIfInBounds_toArray, List.set_cons_zero, List.set_cons_succ])
  refine wpList_end ?_
  replace hM := Lib.hid (hM.out.mid 0 rfl (f := 0) (m := D) (by rw [LD.out, z64_len]; omega))
  rw [E0.out] at hM
  generalize a4.setCells g3 0 D = a5 at *
  go_upto_region 3 with fail; refine wp_region_lit ?_
  refine wpList_val (run_asg (v := .int _ _) rfl rfl) rfl ?_; (try simp only [Act.put, List.setIfInBounds_toArray, List.set_cons_zero, List.set_cons_succ])
  refine wpList_end ?_
  go_wp2_with fail
  go_loopw [4] (fun s u => ∃ k : Nat, k ≤ 320 ∧ s = .int .i64 ((k : Int) - 1) ∧ Mv w [(g3, (T k).map b64), (g2, z64 4), (g1, l.map b64)] u) (fun s _ => (intOf s + 1).toNat)
  case atStart => exact ⟨320, by omega, rfl, hM.out⟩
  case round =>
    obtain ⟨k, hk, rfl, hJ⟩ := hrel
    replace hM := Lib.hid hJ
    clear hJ
    rcases Nat.eq_zero_or_pos k with rfl | hpos
    · have hk1 : ¬ ((0 : Int) ≤ ((0 : Nat) : Int) - 1) := by omega
      have SZ := Lib.hid (szS4 (TL.out 0))
      have L1 : Hid (((T 0).map b64).length = (z64 4).length) := Lib.hid (by rw [List.length_map, TL.out]; rfl)
      go_upto_region 8 with fail; refine wp_region_lit ?_
      refine wpList_val (run_ldM (vs := (T 0).map b64) rfl Tryd.underlying54 rfl SZ.out rfl ((hM.out.get (i := 0) rfl).range)) rfl ?_; (try simp only [Act.put, List.setIfInBounds_toArray, List.set_cons_zero, List.set_cons_succ])
      refine wpList_skip (run_stM (vs := (T 0).map b64) rfl SZ.out rfl rfl (one64s _) (by rw [L1.out]; exact (hM.out.get (i := 1) rfl).there)) rfl rfl ?_; replace hM := Lib.hid (hM.out.put 1 rfl (m := (T 0).map b64) (L1.out))
      refine wpList_end ?_; go_wp2_with fail; refine bodyPost_ret (v := .agg ((T 0).map b64).toArray) (results_rowB Tryd.results44 rfl Tryd.underlying54 rfl SZ.out (hM.out.get (i := 1) rfl).range) rfl ⟨rfl, hM.out.bl⟩
    · obtain ⟨i, rfl⟩ : ∃ i, k = i + 1 := ⟨k - 1, by omega⟩
      have hk1 : (0 : Int) ≤ ((i + 1 : Nat) : Int) - 1 := by omega
      have ei : ((i + 1 : Nat) : Int) - 1 = (i : Int) := by omega
      have hi : i < 320 := by omega
      have HL := Lib.hid (get_map b64 0 (l := l) (i := i / 64) (by omega))
      have TN := Lib.hid (TS.out i)
      have hT1 := TL.out (i + 1)
      have hT0 := TL.out i
      generalize T (i + 1) = X at *
      generalize hTi : T i = Y at *
      have ETi := Lib.hid hTi
      clear hTi
      generalize l.getD (i / 64) 0 = x at *
      have hXl : (shl X (x >>> (i % 64) &&& 1#64)).length = 4 := by rw [shl_len, hT1]
      have LX : Hid (((shl X (x >>> (i % 64) &&& 1#64)).map b64).length = (X.map b64).length) := Lib.hid (by rw [List.length_map, List.length_map, shl_len])
      have SX := Lib.hid (szS4 hXl)
      have SY := Lib.hid (szS4 hT0)
      have LY : Hid ((Y.map b64).length = ((shl X (x >>> (i % 64) &&& 1#64)).map b64).length) := Lib.hid (by rw [List.length_map, List.length_map, hT0, hXl])
      have CL : Hid (∀ u : World, SG u → Calls Tryd.prog 74 #[.agg ((shl X (x >>> (i % 64) &&& 1#64)).map b64).toArray] u fun e w' => e = .returned (.agg (Y.map b64).toArray) ∧ Below u.heap.size u w') := Lib.hid fun u h => by rw [← TN.out]; exact sless_any _ u hXl h
      rw [ei]
      go_upto_region 6 with fail
      refine wp_region_noPanic ?_; refine wp_region_late (S := Till 9 (fun V => Below wr.heap.size wr V)) (by kernel_rfl) (.inr (Below.refl _ _).drew) (fun _ => ?_); have hS : Below wr.heap.size wr wr.drew := (Below.refl _ _).drew
      refine wpAnyD_take 0 rfl rfl (by kernel_rfl) (by kernel_rfl) (by kernel_rfl) (by kernel_rfl) (by kernel_rfl) (fun _ _ _ h => h) rfl (fun V hV => run_slW rfl Tryd.underlying54 (by kernel_rfl) rfl) hS ?_; (try simp only [Act.put, List.setIfInBounds_toArray, List.set_cons_zero, List.set_cons_succ])
      refine wpAnyD_take 1 rfl rfl (by kernel_rfl) (by kernel_rfl) (by kernel_rfl) (by kernel_rfl) (by kernel_rfl) (fun _ _ _ h => h) rfl (fun V hV => run_mv (v := .int _ _) rfl rfl) hS ?_; (try simp only [Act.put, List.setIfInBounds_toArray, List.set_cons_zero, List.set_cons_succ])
      refine wpAnyD_take 2 rfl rfl (by kernel_rfl) (by kernel_rfl) (by kernel_rfl) (by kernel_rfl) (by kernel_rfl) (fun _ _ _ h => h) rfl (fun V hV => run_quoN (a := i) (b := 64) rfl rfl rfl (by omega) (by omega)) hS ?_; (try simp only [Act.put, List.setIfInBounds_toArray, List.set_cons_zero, List.set_cons_succ])
      refine wpAnyD_take 3 rfl rfl (by kernel_rfl) (by kernel_rfl) (by kernel_rfl) (by kernel_rfl) (by kernel_rfl) (fun _ _ _ h => h) rfl (fun V hV => run_ix0 (i := i / 64) rfl Tryd.underlying70 (by kernel_rfl) rfl rfl (by omega)) hS ?_; (try simp only [Act.put, List.setIfInBounds_toArray, List.set_cons_zero, List.set_cons_succ])
      refine wpAnyD_take 4 rfl rfl (by kernel_rfl) (by kernel_rfl) (by kernel_rfl) (by kernel_rfl) (by kernel_rfl) (fun _ _ _ h => h) rfl (fun V hV => run_ld64 rfl rfl (((hM.out.below hV).get (i := 2) rfl).c _ _ HL.out)) hS ?_; (try simp only [Act.put, List.setIfInBounds_toArray, List.set_cons_zero, List.set_cons_succ])
      refine wpAnyD_take 5 rfl rfl (by kernel_rfl) (by kernel_rfl) (by kernel_rfl) (by kernel_rfl) (by kernel_rfl) (fun _ _ _ h => h) rfl (fun V hV => run_mv (v := .int _ _) rfl rfl) hS ?_; (try simp only [Act.put, List.setIfInBounds_toArray, List.set_cons_zero, List.set_cons_succ])
      refine wpAnyD_take 6 rfl rfl (by kernel_rfl) (by kernel_rfl) (by kernel_rfl) (by kernel_rfl) (by kernel_rfl) (fun _ _ _ h => h) rfl (fun V hV => run_remN (a := i) (b := 64) rfl rfl rfl (by omega)) hS ?_; (try simp only [Act.put, List.setIfInBounds_toArray, List.set_cons_zero, List.set_cons_succ])
      refine wpAnyD_take 7 rfl rfl (by kernel_rfl) (by kernel_rfl) (by kernel_rfl) (by kernel_rfl) (by kernel_rfl) (fun _ _ _ h => h) rfl (fun V hV => run_shrW (n := i % 64) rfl rfl rfl (by omega)) hS ?_; (try simp only [Act.put, List.setIfInBounds_toArray, List.set_cons_zero, List.set_cons_succ])
      refine wpAnyD_take 8 rfl rfl (by kernel_rfl) (by kernel_rfl) (by kernel_rfl) (by kernel_rfl) (by kernel_rfl) (fun _ _ _ h => h) rfl (fun V hV => run_and64 (b := 1#64) rfl rfl rfl) hS ?_; (try simp only [Act.put, List.setIfInBounds_toArray, List.set_cons_zero, List.set_cons_succ])
      replace hM := Lib.hid (hM.out.below hS)
      generalize wr.drew = a6 at *
      refine wpAnyD_callD 9 (by kernel_rfl) rfl rfl rfl (run_call2 enters_shift rfl rfl rfl rfl) (shift_any X _ _ 4 _ hT1 (by omega) (hM.out.get (i := 0) rfl)) (by kernel_rfl) (fun v9 a7 hR => ?_); (try simp only [Act.put, List.setIfInBounds_toArray, List.set_cons_zero, List.set_cons_succ])
      refine wpAnyL_done (by kernel_rfl) ?_ _; refine NoPanic.normal ?_
      generalize shl X (x >>> (i % 64) &&& 1#64) = Z at *
      subst hR
      replace hM := Lib.hid (hM.out.put 0 rfl (m := Z.map b64) LX.out)
      generalize a6.setCells g3 0 (Z.map b64) = a7 at *
      clear hS
      go_upto_region 7 with fail; refine wp_region_lit ?_
      refine wpList_val (run_ldM (vs := Z.map b64) rfl Tryd.underlying54 rfl SX.out rfl ((hM.out.get (i := 0) rfl).range)) rfl ?_; (try simp only [Act.put, List.setIfInBounds_toArray, List.set_cons_zero, List.set_cons_succ])
      refine wpList_enter (run_call1 enters_sless rfl rfl rfl) rfl (CL.out _ (HG.out.below hM.out.bl)) (fun a8 hb => ?_); (try simp only [Act.put, List.setIfInBounds_toArray, List.set_cons_zero, List.set_cons_succ]); replace hM := Lib.hid (hM.out.below hb); clear hb
      refine wpList_skip (run_stM (vs := Y.map b64) rfl SY.out rfl rfl (one64s _) (by rw [LY.out]; exact (hM.out.get (i := 0) rfl).there)) rfl rfl ?_; replace hM := Lib.hid (hM.out.put 0 rfl (m := Y.map b64) (LY.out))
      refine wpList_end ?_
      generalize a8.setCells g3 0 (Y.map b64) = a9 at *
      go_wp2_with fail
      exact ⟨⟨i, by omega, by go_num, by rw [ETi.out]; exact hM.out⟩, by simp [intOf]⟩
theorem enters_srest : Enters 44 := enters_of Tryd.func44 (by kernel_rfl) rfl
end Go.Proofs.YtfdjmdfaidiliaaDoor
namespace Go.Proofs.YtfdjmdfaidiliaaDoor
open Go.RowKit
set_option maxRecDepth 20000

set_option maxHeartbeats 4000000 in
theorem sjoin_any (l m : List (BitVec 64)) (w : World) (hl : l.length = 4) (hm : m.length = 4) : Calls Tryd.prog 42 #[.agg (l.map b64).toArray, .agg (m.map b64).toArray] w fun e w' => e = .returned (.agg ((l ++ m).map b64).toArray) ∧ Below w.heap.size w w' := by
  have hM := Lib.hid (Mv.nil w)
  have hlm : (l ++ m).length = 8 := by rw [List.length_append, hl, hm]
  have LL : Hid ((l.map b64).length = 4) := Lib.hid (by rw [List.length_map, hl])
  have LM : Hid ((m.map b64).length = 4) := Lib.hid (by rw [List.length_map, hm])
  have LX : Hid (((l ++ m).map b64).length = 8) := Lib.hid (by rw [List.length_map, hlm])
  have E1 : Hid ((z64 8).take 0 ++ (l.map b64 ++ (z64 8).drop (0 + (l.map b64).length)) = l.map b64 ++ z64 4) := Lib.hid (by rw [LL.out]; rfl)
  have E2 : Hid ((l.map b64 ++ z64 4).take 4 ++ (m.map b64 ++ (l.map b64 ++ z64 4).drop (4 + (m.map b64).length)) = (l ++ m).map b64) := Lib.hid (by
    rw [LM.out, List.take_left' LL.out, List.drop_of_length_le (by rw [List.length_append, LL.out, z64_len]; exact Nat.le_refl _), List.append_nil, List.map_append])
  have OL := Lib.hid (one64v l)
  have OM := Lib.hid (one64v m)
  have SZ := Lib.hid (szS8 hlm)
  have OX := Lib.hid (one64s (l ++ m))
  generalize l.map b64 = L at *
  generalize m.map b64 = M at *
  generalize (l ++ m).map b64 = X at *
  go_enter Tryd.func42, Tryd.ntmps42
  go_upto_region 0 with fail; refine wp_region_lit ?_
  refine wpList_val (run_boxL8 (vs := L) rfl rfl) rfl ?_; (try simp only [Act.put, List.setIfInBounds_toArray, List.set_cons_zero, List.set_cons_succ]); replace hM := Lib.hid (hM.out.new (L) 54); generalize w.alloc (.cells (L).toArray 54) = a1 at *; generalize w.heap.size = g1 at *
  refine wpList_val (run_boxL8 (vs := M) rfl rfl) rfl ?_; (try simp only [Act.put, List.setIfInBounds_toArray, List.set_cons_zero, List.set_cons_succ]); replace hM := Lib.hid (hM.out.new (M) 54); generalize a1.alloc (.cells (M).toArray 54) = a2 at *; generalize a1.heap.size = g2 at *
  refine wpList_val (run_alc (vs := z64 8) rfl (by kernel_rfl)) rfl ?_; (try simp only [Act.put, List.setIfInBounds_toArray, List.set_cons_zero, List.set_cons_succ]); replace hM := Lib.hid (hM.out.new (z64 8) 70); generalize a2.alloc (.cells (z64 8).toArray 70) = a3 at *; generalize a2.heap.size = g3 at *
  refine wpList_end ?_
  go_upto_region 1 with fail; refine wp_region_lit ?_
  refine wpList_val (run_alc (vs := z64 8) rfl (by kernel_rfl)) rfl ?_; (try simp only [Act.put, List.setIfInBounds_toArray, List.set_cons_zero, List.set_cons_succ]); replace hM := Lib.hid (hM.out.new (z64 8) 70); generalize a3.alloc (.cells (z64 8).toArray 70) = a4 at *; generalize a3.heap.size = g4 at *
  refine wpList_end ?_
  go_upto_region 2 with fail; refine wp_region_calm 2 (by kernel_rfl) (by kernel_rfl) ?_
  refine wpCalm_step _ (fun V hV => calm_run (run_slW rfl Tryd.underlying70 (by kernel_rfl) rfl)) ?_; (try simp only [Act.put, List.setIfInBounds_toArray, List.set_cons_zero, List.set_cons_succ])
  refine wpCalm_step _ (fun V hV => calm_run (run_slW rfl Tryd.underlying54 (by kernel_rfl) rfl)) ?_; (try simp only [Act.put, List.setIfInBounds_toArray, List.set_cons_zero, List.set_cons_succ])
  refine wpCalm_done ?_; intro a5 hb; simp only [List.drop_succ_cons, List.drop_zero]
  replace hM := Lib.hid (hM.out.below hb)
  clear hb
  refine wpList_val (run_cpyV (vs := L) (l := z64 8) rfl Tryd.underlying87 (by kernel_rfl) rfl rfl (hM.out.get (i := 3) rfl).range (by rw [LL.out]; rfl) (hM.out.get (i := 0) rfl) (by rw [LL.out, z64_len]; omega) OL.out) rfl ?_; (try simp only [Act.put, List.setIfInBounds_toArray, List.set_cons_zero, List.set_cons_succ])
  refine wpList_end ?_
  replace hM := Lib.hid (hM.out.mid 0 rfl (f := 0) (m := L) (by rw [LL.out, z64_len]; omega))
  rw [E1.out] at hM
  generalize a5.setCells g4 0 L = a6 at *
  go_upto_region 3 with fail; refine wp_region_calm 2 (by kernel_rfl) (by kernel_rfl) ?_
  refine wpCalm_step _ (fun V hV => calm_run (run_slWl (l := 4) rfl Tryd.underlying70 (by kernel_rfl) rfl rfl (by omega))) ?_; (try simp only [Act.put, List.setIfInBounds_toArray, List.set_cons_zero, List.set_cons_succ])
  refine wpCalm_step _ (fun V hV => calm_run (run_slW rfl Tryd.underlying54 (by kernel_rfl) rfl)) ?_; (try simp only [Act.put, List.setIfInBounds_toArray, List.set_cons_zero, List.set_cons_succ])
  refine wpCalm_done ?_; intro a7 hb; simp only [List.drop_succ_cons, List.drop_zero]
  replace hM := Lib.hid (hM.out.below hb)
  clear hb
  refine wpList_val (run_cpyV (f := 4) (vs := M) (l := L ++ z64 4) rfl Tryd.underlying87 (by kernel_rfl) rfl rfl (hM.out.get (i := 2) rfl).range (by rw [LM.out]; rfl) (hM.out.get (i := 0) rfl) (by rw [LM.out, List.length_append, LL.out, z64_len]; omega) OM.out) rfl ?_; (try simp only [Act.put, List.setIfInBounds_toArray, List.set_cons_zero, List.set_cons_succ])
  refine wpList_end ?_
  replace hM := Lib.hid (hM.out.mid 0 rfl (f := 4) (m := M) (by rw [LM.out, List.length_append, LL.out, z64_len]; omega))
  rw [E2.out] at hM
  generalize a7.setCells g4 4 M = a8 at *
  go_upto_region 4 with fail; refine wp_region_lit ?_
  refine wpList_val (run_ldM (vs := X) rfl Tryd.underlying70 rfl SZ.out rfl ((hM.out.get (i := 0) rfl).range)) rfl ?_; (try simp only [Act.put, List.setIfInBounds_toArray, List.set_cons_zero, List.set_cons_succ])
  refine wpList_skip (run_stM (vs := X) rfl SZ.out rfl rfl OX.out (by rw [LX.out.trans (z64_len 8).symm]; exact (hM.out.get (i := 1) rfl).there)) rfl rfl ?_; replace hM := Lib.hid (hM.out.put 1 rfl (m := X) (LX.out.trans (z64_len 8).symm))
  refine wpList_end ?_; go_wp2_with fail; refine bodyPost_ret (v := .agg (X).toArray) (results_rowB Tryd.results42 rfl Tryd.underlying70 rfl SZ.out (hM.out.get (i := 1) rfl).range) rfl ⟨rfl, hM.out.bl⟩
theorem enters_sjoin : Enters 42 := enters_of Tryd.func42 (by kernel_rfl) rfl
end Go.Proofs.YtfdjmdfaidiliaaDoor
namespace Go.Proofs.YtfdjmdfaidiliaaDoor
open Go.RowKit
set_option maxRecDepth 20000

/-- What has been added up to bit i, and what is added next. -/
def tmN (n a b i : Nat) : List (BitVec 64) := wd ((n + a * (b % 2 ^ i)) % 2 ^ 512) 8
def tmS (a i : Nat) : List (BitVec 64) := wd (a * 2 ^ i % 2 ^ 512) 8
theorem tm_mod {n a b i M : Nat} : ((n + a * (b % 2 ^ i)) % M % M + b / 2 ^ i % 2 * (a * 2 ^ i % M % M)) % M = (n + a * (b % 2 ^ (i + 1))) % M := by
  rw [Nat.mod_mod, Nat.mod_mod, Nat.mod_add_mod, ← Nat.add_mod_mod, Nat.mul_mod_mod, Nat.add_mod_mod]
  congr 1
  rw [Nat.pow_succ, Nat.mod_mul, Nat.mul_add, Nat.add_assoc, Nat.mul_comm (b / 2 ^ i % 2), Nat.mul_assoc]
theorem tmN_step (n a b i : Nat) {bt : BitVec 64} (hb : bt.toNat = b / 2 ^ i % 2) {r : List (BitVec 64)} {c : BitVec 64} (h : AddI (tmN n a b i) ((tmS a i).map (· &&& -bt)) 8 r c) : r = tmN n a b (i + 1) := by
  have hl : (tmN n a b i).length = 8 := wd_len _ _
  rw [← hl] at h
  have hd := h.done (by rw [List.length_map, hl]; exact wd_len _ _)
  refine wd_eq (by rw [h.len, hl]) ?_
  have hle : bt.toNat ≤ 1 := by rw [hb]; have := Nat.mod_lt (b / 2 ^ i) (show 2 > 0 by omega); omega
  rw [hd, hl, lv_mask _ hle, hb, tmN, tmS, lv_wd, lv_wd, show 64 * 8 = 512 by rfl, tm_mod]
theorem tmS_step (a i : Nat) : shl (tmS a i) 0 = tmS a (i + 1) := by
  have hl : (tmS a i).length = 8 := wd_len _ _
  refine wd_eq (by rw [shl_len, hl]) ?_
  have e : a * 2 ^ (i + 1) = 2 * (a * 2 ^ i) := by rw [Nat.pow_succ, ← Nat.mul_assoc, Nat.mul_comm]
  rw [lv_shl _ _ (by decide), hl, tmS, lv_wd, show 64 * 8 = 512 by rfl, Nat.mod_mod, show (0 : BitVec 64).toNat = 0 by rfl, Nat.add_zero, Nat.mul_mod_mod, e]
theorem tmN_zero {l : List (BitVec 64)} (hl : l.length = 8) (a b : Nat) : tmN (lv l) a b 0 = l := by
  have h := lv_lt l
  rw [hl, show 64 * 8 = 512 by rfl] at h
  unfold tmN
  rw [show b % 2 ^ 0 = 0 from Nat.mod_one b, Nat.mul_zero, Nat.add_zero, Nat.mod_eq_of_lt h, wd_of hl]
theorem pow_up {x a b : Nat} (h : x < 2 ^ a) (hab : a < b) : x < 2 ^ b := Nat.lt_trans h (Nat.pow_lt_pow_right (by omega) hab)
theorem tmS_zeroE {l : List (BitVec 64)} (hl : l.length = 4) {E : Nat} (hE : 64 * 4 < E) : l ++ List.replicate 4 0 = wd (lv l * 2 ^ 0 % 2 ^ E) 8 := by
  have h := lv_lt l
  rw [hl] at h
  refine wd_eq (by rw [List.length_append, hl]; rfl) ?_
  rw [lv_append, show lv (List.replicate 4 0) = 0 by decide, Nat.mul_zero, Nat.add_zero, Nat.pow_zero, Nat.mul_one, Nat.mod_eq_of_lt (pow_up h hE)]
theorem tmS_zero {l : List (BitVec 64)} (hl : l.length = 4) : tmS (lv l) 0 = l ++ List.replicate 4 0 := by
  unfold tmS
  exact (tmS_zeroE (E := 512) hl (by decide)).symm
theorem tmN_end {l : List (BitVec 64)} (hl : l.length = 4) (n a : Nat) : tmN n a (lv l) 256 = wd ((n + a * lv l) % 2 ^ 512) 8 := by
  have h := lv_lt l
  rw [hl, show 64 * 4 = 256 by rfl] at h
  unfold tmN
  rw [Nat.mod_eq_of_lt h]
theorem getD_and (L : List (BitVec 64)) (k : BitVec 64) {j : Nat} (h : j < L.length) : (L.map (· &&& k)).getD j 0 = L.getD j 0 &&& k := by simp [h]
theorem build4 : Tryd.prog.built 54 [] = some ((List.replicate 4 (0 : BitVec 64)).map b64).toArray := by kernel_rfl
set_option maxHeartbeats 8000000 in
theorem stimes_any (l m p : List (BitVec 64)) (w : World) (hl : l.length = 8) (hm : m.length = 4) (hp : p.length = 4) : Calls Tryd.prog 43 #[.agg (l.map b64).toArray, .agg (m.map b64).toArray, .agg (p.map b64).toArray] w fun e w' => e = .returned (.agg ((wd ((lv l + lv m * lv p) % 2 ^ 512) 8).map b64).toArray) ∧ Below w.heap.size w w' := by
  obtain ⟨N, hN⟩ : ∃ N, N = tmN (lv l) (lv m) (lv p) := ⟨_, rfl⟩
  obtain ⟨A, hA⟩ : ∃ A, A = tmS (lv m) := ⟨_, rfl⟩
  have NL : Hid (∀ i, (N i).length = 8) := Lib.hid (by rw [hN]; exact fun i => wd_len _ _)
  have AL : Hid (∀ i, (A i).length = 8) := Lib.hid (by rw [hA]; exact fun i => wd_len _ _)
  have NS : Hid (∀ i r c, AddI (N i) ((A i).map (· &&& -(p.getD (i / 64) 0 >>> (i % 64) &&& 1#64))) 8 r c → r = N (i + 1)) := Lib.hid (by rw [hN, hA]; exact fun i r c h => tmN_step _ _ _ i (bitW_of p i) h)
  have AS : Hid (∀ i, shl (A i) 0 = A (i + 1)) := Lib.hid (by rw [hA]; exact fun i => tmS_step _ i)
  have N0 : Hid (N 0 = l) := Lib.hid (by rw [hN, tmN_zero hl])
  have A0 : Hid ((m ++ List.replicate 4 0) = A 0) := Lib.hid (by rw [hA, tmS_zero hm])
  have NE : Hid (N 256 = wd ((lv l + lv m * lv p) % 2 ^ 512) 8) := Lib.hid (by rw [hN, tmN_end hp])
  clear hN hA
  rw [← NE.out]
  clear NE
  have CJ : Hid (∀ u : World, Calls Tryd.prog 42 #[.agg (m.map b64).toArray, .agg ((List.replicate 4 (0 : BitVec 64)).map b64).toArray] u fun e w' => e = .returned (.agg ((A 0).map b64).toArray) ∧ Below u.heap.size u w') := Lib.hid fun u => by rw [← A0.out]; exact sjoin_any m (List.replicate 4 0) u hm rfl
  clear A0
  have SM := Lib.hid (szS4 hm)
  have SA := Lib.hid (szS8 (AL.out 0))
  have LA : Hid (((A 0).map b64).length = (z64 8).length) := Lib.hid (by rw [List.length_map, AL.out, z64_len])
  have BD := Lib.hid build4
  generalize (List.replicate 4 (0 : BitVec 64)).map b64 = Z4 at *
  have hM := Lib.hid (Mv.nil w)
  go_enter Tryd.func43, Tryd.ntmps43
  go_upto_region 0 with fail; refine wp_region_lit ?_
  refine wpList_val (run_boxL8 (vs := l.map b64) rfl rfl) rfl ?_; (try simp only [Act.put, List.setIfInBounds_toArray, List.set_cons_zero, List.set_cons_succ]); replace hM := Lib.hid (hM.out.new (l.map b64) 70); generalize w.alloc (.cells (l.map b64).toArray 70) = a1 at *; generalize w.heap.size = g1 at *
  refine wpList_val (run_boxL8 (vs := m.map b64) rfl rfl) rfl ?_; (try simp only [Act.put, List.setIfInBounds_toArray, List.set_cons_zero, List.set_cons_succ]); replace hM := Lib.hid (hM.out.new (m.map b64) 54); generalize a1.alloc (.cells (m.map b64).toArray 54) = a2 at *; generalize a1.heap.size = g2 at *
  refine wpList_val (run_boxL8 (vs := p.map b64) rfl rfl) rfl ?_; (try simp only [Act.put, List.setIfInBounds_toArray, List.set_cons_zero, List.set_cons_succ]); replace hM := Lib.hid (hM.out.new (p.map b64) 54); generalize a2.alloc (.cells (p.map b64).toArray 54) = a3 at *; generalize a2.heap.size = g3 at *
  refine wpList_val (run_alc (vs := z64 8) rfl (by kernel_rfl)) rfl ?_; (try simp only [Act.put, List.setIfInBounds_toArray, List.set_cons_zero, List.set_cons_succ]); replace hM := Lib.hid (hM.out.new (z64 8) 70); generalize a3.alloc (.cells (z64 8).toArray 70) = a4 at *; generalize a3.heap.size = g4 at *
  refine wpList_end ?_
  go_upto_region 1 with fail; refine wp_region_lit ?_
  refine wpList_val (run_ldM (vs := m.map b64) rfl Tryd.underlying54 rfl SM.out rfl ((hM.out.get (i := 2) rfl).range)) rfl ?_; (try simp only [Act.put, List.setIfInBounds_toArray, List.set_cons_zero, List.set_cons_succ])
  refine wpList_val (run_bldW0 (cells := Z4.toArray) rfl BD.out) rfl ?_; (try simp only [Act.put, List.setIfInBounds_toArray, List.set_cons_zero, List.set_cons_succ])
  refine wpList_enter (run_call2 enters_sjoin rfl rfl rfl rfl) rfl (CJ.out _) (fun a5 hb => ?_); (try simp only [Act.put, List.setIfInBounds_toArray, List.set_cons_zero, List.set_cons_succ]); replace hM := Lib.hid (hM.out.below hb); clear hb
  refine wpList_val (run_alc (vs := z64 8) rfl (by kernel_rfl)) rfl ?_; (try simp only [Act.put, List.setIfInBounds_toArray, List.set_cons_zero, List.set_cons_succ]); replace hM := Lib.hid (hM.out.new (z64 8) 70); generalize a5.alloc (.cells (z64 8).toArray 70) = a6 at *; generalize a5.heap.size = g5 at *
  refine wpList_skip (run_stM (vs := (A 0).map b64) rfl SA.out rfl rfl (one64s _) (by rw [LA.out]; exact (hM.out.get (i := 0) rfl).there)) rfl rfl ?_; replace hM := Lib.hid (hM.out.put 0 rfl (m := (A 0).map b64) (LA.out))
  refine wpList_end ?_
  generalize a6.setCells g5 0 ((A 0).map b64) = a7 at *
  rw [← N0.out] at hM
  clear N0 CJ SM SA LA BD
  go_upto_region 2 with fail; refine wp_region_lit ?_
  refine wpList_val (run_mv (v := .int _ _) rfl rfl) rfl ?_; (try simp only [Act.put, List.setIfInBounds_toArray, List.set_cons_zero, List.set_cons_succ])
  refine wpList_end ?_
  go_wp2_with fail
  go_loopw [15] (fun s u => ∃ i : Nat, i ≤ 256 ∧ s = .int .i64 (i : Int) ∧ Mv w [(g5, (A i).map b64), (g4, z64 8), (g3, p.map b64), (g2, m.map b64), (g1, (N i).map b64)] u) (fun s _ => (256 - intOf s).toNat)
  case atStart => exact ⟨0, by omega, rfl, hM.out⟩
  case round =>
    obtain ⟨i, hi, rfl, hJ⟩ := hrel
    replace hM := Lib.hid hJ
    clear hJ
    by_cases hlt : i = 256
    · subst hlt
      have hk1 : ¬ (((256 : Nat) : Int) < 256) := by omega
      have SZ := Lib.hid (szS8 (NL.out 256))
      have L1 : Hid (((N 256).map b64).length = (z64 8).length) := Lib.hid (by rw [List.length_map, NL.out, z64_len])
      go_upto_region 14 with fail; refine wp_region_lit ?_
      refine wpList_val (run_ldM (vs := (N 256).map b64) rfl Tryd.underlying70 rfl SZ.out rfl ((hM.out.get (i := 4) rfl).range)) rfl ?_; (try simp only [Act.put, List.setIfInBounds_toArray, List.set_cons_zero, List.set_cons_succ])
      refine wpList_skip (run_stM (vs := (N 256).map b64) rfl SZ.out rfl rfl (one64s _) (by rw [L1.out]; exact (hM.out.get (i := 1) rfl).there)) rfl rfl ?_; replace hM := Lib.hid (hM.out.put 1 rfl (m := (N 256).map b64) (L1.out))
      refine wpList_end ?_; go_wp2_with fail; refine bodyPost_ret (v := .agg ((N 256).map b64).toArray) (results_rowB Tryd.results43 rfl Tryd.underlying70 rfl SZ.out (hM.out.get (i := 1) rfl).range) rfl ⟨rfl, hM.out.bl⟩
    · have hk1 : (i : Int) < 256 := by omega
      have hi2 : i < 256 := by omega
      have HL := Lib.hid (get_map b64 0 (l := p) (i := i / 64) (by omega))
      have NX := Lib.hid (NS.out i)
      have AX := Lib.hid (AS.out i)
      have hNl := NL.out i
      have hAl := AL.out i
      have R0 := Lib.hid (AddI.start (N i) ((A i).map (· &&& -(p.getD (i / 64) 0 >>> (i % 64) &&& 1#64))))
      have RS : Hid (∀ (j : Nat) (r : List (BitVec 64)) (c : BitVec 64), AddI (N i) ((A i).map (· &&& -(p.getD (i / 64) 0 >>> (i % 64) &&& 1#64))) j r c → j < 8 → AddI (N i) ((A i).map (· &&& -(p.getD (i / 64) 0 >>> (i % 64) &&& 1#64))) (j + 1) (r.set j (adw (r.getD j 0) ((A i).getD j 0 &&& -(p.getD (i / 64) 0 >>> (i % 64) &&& 1#64)) c)) (adc (r.getD j 0) ((A i).getD j 0 &&& -(p.getD (i / 64) 0 >>> (i % 64) &&& 1#64)) c)) := Lib.hid fun j r c h hj => by
        have h2 := h.step (by rw [List.length_map, hNl, hAl]) (by omega)
        rw [getD_and _ _ (by omega)] at h2
        exact h2
      generalize hmk : (A i).map (· &&& -(p.getD (i / 64) 0 >>> (i % 64) &&& 1#64)) = MK at *
      clear hmk
      generalize hNi : N i = Ni at *
      clear hNi
      generalize hAi : A i = Ai at *
      clear hAi
      have EN : Hid (∀ r c, AddI Ni MK 8 r c → r.map b64 = (N (i + 1)).map b64) := Lib.hid fun r c h => by rw [NX.out r c h]
      have EA : Hid ((shl Ai 0).map b64 = (A (i + 1)).map b64) := Lib.hid (by rw [AX.out])
      generalize hNn : (N (i + 1)).map b64 = Nn at *
      generalize hAn : (A (i + 1)).map b64 = An at *
      have ENn := Lib.hid hNn
      have EAn := Lib.hid hAn
      clear hNn hAn
      clear NX AX
      generalize p.getD (i / 64) 0 = x at *
      go_upto_region 4 with fail; refine wp_region_lit ?_
      refine wpList_val (run_mv (v := .int _ _) rfl rfl) rfl ?_; (try simp only [Act.put, List.setIfInBounds_toArray, List.set_cons_zero, List.set_cons_succ]); refine wpList_val (run_asg (v := .int _ _) rfl rfl) rfl ?_; (try simp only [Act.put, List.setIfInBounds_toArray, List.set_cons_zero, List.set_cons_succ])
      refine wpList_end ?_
      go_upto_region 5 with fail; refine wp_region_lit ?_
      refine wpList_val (run_mv (v := .int _ _) rfl rfl) rfl ?_; (try simp only [Act.put, List.setIfInBounds_toArray, List.set_cons_zero, List.set_cons_succ])
      refine wpList_val (run_quoN (a := i) (b := 64) rfl rfl rfl (by omega) (by omega)) rfl ?_; (try simp only [Act.put, List.setIfInBounds_toArray, List.set_cons_zero, List.set_cons_succ])
      refine wpList_val (run_ix0 (i := i / 64) rfl Tryd.underlying54 (by kernel_rfl) rfl rfl (by omega)) rfl ?_; (try simp only [Act.put, List.setIfInBounds_toArray, List.set_cons_zero, List.set_cons_succ])
      refine wpList_val (run_ld64 rfl rfl ((hM.out.get (i := 2) rfl).c _ _ HL.out)) rfl ?_; (try simp only [Act.put, List.setIfInBounds_toArray, List.set_cons_zero, List.set_cons_succ])
      refine wpList_val (run_mv (v := .int _ _) rfl rfl) rfl ?_; (try simp only [Act.put, List.setIfInBounds_toArray, List.set_cons_zero, List.set_cons_succ])
      refine wpList_val (run_remN (a := i) (b := 64) rfl rfl rfl (by omega)) rfl ?_; (try simp only [Act.put, List.setIfInBounds_toArray, List.set_cons_zero, List.set_cons_succ])
      refine wpList_val (run_shrW (n := i % 64) rfl rfl rfl (by omega)) rfl ?_; (try simp only [Act.put, List.setIfInBounds_toArray, List.set_cons_zero, List.set_cons_succ])
      refine wpList_val (run_and64 (b := 1#64) rfl rfl rfl) rfl ?_; (try simp only [Act.put, List.setIfInBounds_toArray, List.set_cons_zero, List.set_cons_succ])
      refine wpList_val (run_negW rfl rfl) rfl ?_; (try simp only [Act.put, List.setIfInBounds_toArray, List.set_cons_zero, List.set_cons_succ])
      generalize -(x >>> (i % 64) &&& 1#64) = mk at *
      clear HL
      refine wpList_val (run_asg (v := b64 _) rfl rfl) rfl ?_; (try simp only [Act.put, List.setIfInBounds_toArray, List.set_cons_zero, List.set_cons_succ])
      refine wpList_end ?_
      go_upto_region 6 with fail; refine wp_region_lit ?_
      refine wpList_val (run_asg (v := b64 0) rfl rfl) rfl ?_; (try simp only [Act.put, List.setIfInBounds_toArray, List.set_cons_zero, List.set_cons_succ])
      refine wpList_end ?_
      go_upto_region 7 with fail; refine wp_region_lit ?_
      refine wpList_val (run_mv (v := .int _ _) rfl rfl) rfl ?_; (try simp only [Act.put, List.setIfInBounds_toArray, List.set_cons_zero, List.set_cons_succ])
      refine wpList_end ?_
      go_wp2_with fail
      go_loopw [10, 27] (fun s6 s u => ∃ (j : Nat) (r : List (BitVec 64)) (c : BitVec 64), j ≤ 8 ∧ s6 = b64 c ∧ s = .int .i64 (j : Int) ∧ AddI Ni MK j r c ∧ Mv w [(g5, Ai.map b64), (g4, z64 8), (g3, p.map b64), (g2, m.map b64), (g1, r.map b64)] u) (fun _ s _ => (8 - intOf s).toNat)
      case atStart => exact ⟨0, Ni, 0, by omega, rfl, rfl, R0.out, hM.out⟩
      case round =>
        obtain ⟨j, r, c, hj, rfl, rfl, hR, hJ⟩ := hrel
        replace hM := Lib.hid hJ
        have hrl : r.length = 8 := by rw [hR.len, hNl]
        have hc := hR.bit
        have HR := Lib.hid hR
        clear hJ hR
        by_cases hlt2 : j = 8
        · subst hlt2
          have hk2 : ¬ (((8 : Nat) : Int) < 8) := by omega
          rw [EN.out r c HR.out] at hM
          have LX : Hid (((shl Ai 0).map b64).length = (Ai.map b64).length) := Lib.hid (by rw [List.length_map, List.length_map, shl_len])
          rw [EA.out] at LX
          go_upto_region 12 with fail; refine wp_region_lit ?_
          refine wpList_val (run_slW rfl Tryd.underlying70 (by kernel_rfl) rfl) rfl ?_; (try simp only [Act.put, List.setIfInBounds_toArray, List.set_cons_zero, List.set_cons_succ])
          refine wpList_callR (run_call2 enters_shift rfl rfl rfl rfl) rfl (shift_any Ai 0 _ 8 _ hAl (by omega) (hM.out.get (i := 0) rfl)) (fun v9 a9 hR => ?_)
          (try simp only [Act.put, List.setIfInBounds_toArray, List.set_cons_zero, List.set_cons_succ])
          rw [EA.out] at hR
          subst hR
          replace hM := Lib.hid (hM.out.put 0 rfl (m := An) LX.out)
          refine wpList_end ?_
          go_wp2_with fail
          exact ⟨⟨i + 1, by omega, by go_num, by rw [ENn.out, EAn.out]; exact hM.out⟩, by simp [intOf]; omega⟩
        · have hk2 : (j : Int) < 8 := by omega
          have hj2 : j < 8 := by omega
          have HL := Lib.hid (get_map b64 0 (l := r) (i := j) (by omega))
          have HB := Lib.hid (get_map b64 0 (l := Ai) (i := j) (by omega))
          have FL : Hid (j < (r.map b64).length) := Lib.hid (by rw [List.length_map]; omega)
          have NX := Lib.hid (RS.out j r c HR.out hj2)
          generalize r.getD j 0 = x1 at *
          generalize Ai.getD j 0 = y1 at *
          go_upto_region 9 with fail; refine wp_region_lit ?_
          refine wpList_val (run_mv (v := .int _ _) rfl rfl) rfl ?_; (try simp only [Act.put, List.setIfInBounds_toArray, List.set_cons_zero, List.set_cons_succ]); refine wpList_val (run_asg (v := .int _ _) rfl rfl) rfl ?_; (try simp only [Act.put, List.setIfInBounds_toArray, List.set_cons_zero, List.set_cons_succ])
          refine wpList_end ?_
          go_upto_region 10 with fail
          refine wp_region_noPanic ?_; refine wp_region_late (S := Till 15 (fun V => Below wr.heap.size wr V)) (by kernel_rfl) (.inr (Below.refl _ _).drew) (fun _ => ?_); have hS : Below wr.heap.size wr wr.drew := (Below.refl _ _).drew
          refine wpAnyD_take 0 rfl rfl (by kernel_rfl) (by kernel_rfl) (by kernel_rfl) (by kernel_rfl) (by kernel_rfl) (fun _ _ _ h => h) rfl (fun V hV => run_mv (v := .int _ _) rfl rfl) hS ?_; (try simp only [Act.put, List.setIfInBounds_toArray, List.set_cons_zero, List.set_cons_succ])
          refine wpAnyD_take 1 rfl rfl (by kernel_rfl) (by kernel_rfl) (by kernel_rfl) (by kernel_rfl) (by kernel_rfl) (fun _ _ _ h => h) rfl (fun V hV => run_mv (v := .int _ _) rfl rfl) hS ?_; (try simp only [Act.put, List.setIfInBounds_toArray, List.set_cons_zero, List.set_cons_succ])
          refine wpAnyD_take 2 rfl rfl (by kernel_rfl) (by kernel_rfl) (by kernel_rfl) (by kernel_rfl) (by kernel_rfl) (fun _ _ _ h => h) rfl (fun V hV => run_ix0 (i := j) rfl Tryd.underlying70 (by kernel_rfl) rfl rfl hj2) hS ?_; (try simp only [Act.put, List.setIfInBounds_toArray, List.set_cons_zero, List.set_cons_succ])
          refine wpAnyD_take 3 rfl rfl (by kernel_rfl) (by kernel_rfl) (by kernel_rfl) (by kernel_rfl) (by kernel_rfl) (fun _ _ _ h => h) rfl (fun V hV => run_ld64 rfl rfl (((hM.out.below hV).get (i := 4) rfl).c _ _ HL.out)) hS ?_; (try simp only [Act.put, List.setIfInBounds_toArray, List.set_cons_zero, List.set_cons_succ])
          refine wpAnyD_take 4 rfl rfl (by kernel_rfl) (by kernel_rfl) (by kernel_rfl) (by kernel_rfl) (by kernel_rfl) (fun _ _ _ h => h) rfl (fun V hV => run_mv (v := .int _ _) rfl rfl) hS ?_; (try simp only [Act.put, List.setIfInBounds_toArray, List.set_cons_zero, List.set_cons_succ])
          refine wpAnyD_take 5 rfl rfl (by kernel_rfl) (by kernel_rfl) (by kernel_rfl) (by kernel_rfl) (by kernel_rfl) (fun _ _ _ h => h) rfl (fun V hV => run_ix0 (i := j) rfl Tryd.underlying70 (by kernel_rfl) rfl rfl hj2) hS ?_; (try simp only [Act.put, List.setIfInBounds_toArray, List.set_cons_zero, List.set_cons_succ])
          refine wpAnyD_take 6 rfl rfl (by kernel_rfl) (by kernel_rfl) (by kernel_rfl) (by kernel_rfl) (by kernel_rfl) (fun _ _ _ h => h) rfl (fun V hV => run_ld64 rfl rfl (((hM.out.below hV).get (i := 0) rfl).c _ _ HB.out)) hS ?_; (try simp only [Act.put, List.setIfInBounds_toArray, List.set_cons_zero, List.set_cons_succ])
          refine wpAnyD_take 7 rfl rfl (by kernel_rfl) (by kernel_rfl) (by kernel_rfl) (by kernel_rfl) (by kernel_rfl) (fun _ _ _ h => h) rfl (fun V hV => run_mv (v := b64 _) rfl rfl) hS ?_; (try simp only [Act.put, List.setIfInBounds_toArray, List.set_cons_zero, List.set_cons_succ])
          refine wpAnyD_take 8 rfl rfl (by kernel_rfl) (by kernel_rfl) (by kernel_rfl) (by kernel_rfl) (by kernel_rfl) (fun _ _ _ h => h) rfl (fun V hV => run_and64 rfl rfl rfl) hS ?_; (try simp only [Act.put, List.setIfInBounds_toArray, List.set_cons_zero, List.set_cons_succ])
          refine wpAnyD_take 9 rfl rfl (by kernel_rfl) (by kernel_rfl) (by kernel_rfl) (by kernel_rfl) (by kernel_rfl) (fun _ _ _ h => h) rfl (fun V hV => run_mv (v := b64 _) rfl rfl) hS ?_; (try simp only [Act.put, List.setIfInBounds_toArray, List.set_cons_zero, List.set_cons_succ])
          refine wpAnyD_take 10 rfl rfl (by kernel_rfl) (by kernel_rfl) (by kernel_rfl) (by kernel_rfl) (by kernel_rfl) (fun _ _ _ h => h) rfl (fun V hV => run_addW hc rfl rfl rfl rfl rfl) hS ?_; (try simp only [Act.put, List.setIfInBounds_toArray, List.set_cons_zero, List.set_cons_succ])
          refine wpAnyD_take 11 rfl rfl (by kernel_rfl) (by kernel_rfl) (by kernel_rfl) (by kernel_rfl) (by kernel_rfl) (fun _ _ _ h => h) rfl (fun V hV => run_mv (v := .tuple _) rfl rfl) hS ?_; (try simp only [Act.put, List.setIfInBounds_toArray, List.set_cons_zero, List.set_cons_succ])
          refine wpAnyD_take 12 rfl rfl (by kernel_rfl) (by kernel_rfl) (by kernel_rfl) (by kernel_rfl) (by kernel_rfl) (fun _ _ _ h => h) rfl (fun V hV => run_xtr (v := b64 (adw x1 (y1 &&& mk) c)) rfl rfl rfl) hS ?_; (try simp only [Act.put, List.setIfInBounds_toArray, List.set_cons_zero, List.set_cons_succ])
          refine wpAnyD_free 13 rfl rfl (by kernel_rfl) (by kernel_rfl) (by kernel_rfl) (by kernel_rfl) (fun _ _ _ h => h) rfl (fun V => run_xtr (v := b64 (adc x1 (y1 &&& mk) c)) rfl rfl rfl) hS ?_; (try simp only [Act.put, List.setIfInBounds_toArray, List.set_cons_zero, List.set_cons_succ])
          refine wpAnyD_take 14 rfl rfl (by kernel_rfl) (by kernel_rfl) (by kernel_rfl) (by kernel_rfl) (by kernel_rfl) (fun _ _ _ h => h) rfl (fun V hV => run_ix0 (i := j) rfl Tryd.underlying70 (by kernel_rfl) rfl rfl hj2) hS ?_; (try simp only [Act.put, List.setIfInBounds_toArray, List.set_cons_zero, List.set_cons_succ])
          replace hM := Lib.hid (hM.out.below hS)
          generalize wr.drew = b4 at *
          refine wpAnyL_skip 15 (by kernel_rfl) rfl rfl rfl (run_st64 rfl rfl rfl ((hM.out.get (i := 4) rfl).c _ _ HL.out) ((hM.out.get (i := 4) rfl).f _)) (.inl rfl) ?_
          refine wpAnyD_val 16 (by kernel_rfl) rfl rfl rfl (run_asg (v := b64 _) rfl rfl) (.inl rfl) ?_; (try simp only [Act.put, List.setIfInBounds_toArray, List.set_cons_zero, List.set_cons_succ])
          refine wpAnyL_done (by kernel_rfl) ?_ _; refine NoPanic.normal ?_
          have hM2 := Lib.hid (hM.out.set 4 rfl FL.out (b64 (adw x1 (y1 &&& mk) c)))
          rw [set_map] at hM2
          generalize b4.setCell ⟨g1, j, none⟩ (b64 (adw x1 (y1 &&& mk) c)) = b5 at *
          clear hM HL HB FL hS
          go_wp2_with fail
          exact ⟨⟨j + 1, r.set j (adw x1 (y1 &&& mk) c), adc x1 (y1 &&& mk) c, by omega, rfl, by go_num, NX.out, hM2.out⟩, by simp [intOf]; omega⟩
theorem enters_stimes : Enters 43 := enters_of Tryd.func43 (by kernel_rfl) rfl
end Go.Proofs.YtfdjmdfaidiliaaDoor
namespace Go.Proofs.YtfdjmdfaidiliaaDoor
open Go.RowKit
set_option maxRecDepth 20000

set_option maxHeartbeats 4000000 in
theorem sread_any (k : List (BitVec 8)) (w : World) (hk : k.length = 32) : Calls Tryd.prog 28 #[.agg (k.map b8).toArray] w fun e w' => e = .returned (.agg ((wd (leB k) 4).map b64).toArray) ∧ Below w.heap.size w w' := by
  have HS : Hid (∀ (i : Nat) (l : List (BitVec 64)), RdI k i l → i < 32 → RdI k (i + 1) (l.set (i / 8) (l.getD (i / 8) 0 ||| (k.getD i 0).setWidth 64 <<< (i % 8 * 8)))) := Lib.hid fun i l h hi => h.step hk hi
  have HD : Hid (∀ l, RdI k 32 l → l = wd (leB k) 4) := Lib.hid fun l h => h.done hk
  have R0 := Lib.hid (RdI.start k)
  generalize wd (leB k) 4 = R at *
  have hM := Lib.hid (Mv.nil w)
  go_enter Tryd.func28, Tryd.ntmps28
  go_upto_region 0 with fail; refine wp_region_lit ?_
  refine wpList_val (run_boxL8 (vs := k.map b8) rfl rfl) rfl ?_; (try simp only [Act.put, List.setIfInBounds_toArray, List.set_cons_zero, List.set_cons_succ]); replace hM := Lib.hid (hM.out.new (k.map b8) 23); generalize w.alloc (.cells (k.map b8).toArray 23) = a1 at *; generalize w.heap.size = g1 at *
  refine wpList_val (run_alc (vs := z64 4) rfl (by kernel_rfl)) rfl ?_; (try simp only [Act.put, List.setIfInBounds_toArray, List.set_cons_zero, List.set_cons_succ]); replace hM := Lib.hid (hM.out.new (z64 4) 54); generalize a1.alloc (.cells (z64 4).toArray 54) = a2 at *; generalize a1.heap.size = g2 at *
  refine wpList_end ?_
  go_upto_region 1 with fail; refine wp_region_lit ?_
  refine wpList_val (run_alc (vs := z64 4) rfl (by kernel_rfl)) rfl ?_; (try simp only [Act.put, List.setIfInBounds_toArray, List.set_cons_zero, List.set_cons_succ]); replace hM := Lib.hid (hM.out.new (z64 4) 54); generalize a2.alloc (.cells (z64 4).toArray 54) = a3 at *; generalize a2.heap.size = g3 at *
  refine wpList_end ?_
  go_upto_region 2 with fail; refine wp_region_lit ?_
  refine wpList_val (run_ldM (vs := k.map b8) rfl Tryd.underlying23 rfl (szKy hk) rfl ((hM.out.get (i := 2) rfl).range)) rfl ?_; (try simp only [Act.put, List.setIfInBounds_toArray, List.set_cons_zero, List.set_cons_succ])
  refine wpList_val (run_mv (v := .int _ _) rfl rfl) rfl ?_; (try simp only [Act.put, List.setIfInBounds_toArray, List.set_cons_zero, List.set_cons_succ])
  refine wpList_end ?_
  go_wp2_with fail
  go_loopw [7] (fun s u => ∃ (n : Nat) (l : List (BitVec 64)), n ≤ 32 ∧ s = .int .i64 (n : Int) ∧ RdI k n l ∧ Mv w [(g3, l.map b64), (g2, z64 4), (g1, k.map b8)] u) (fun s _ => (32 - intOf s).toNat)
  case atStart => exact ⟨0, List.replicate 4 0, by omega, rfl, R0.out, hM.out⟩
  case round =>
    obtain ⟨n, l, hn, rfl, hR, hJ⟩ := hrel
    replace hM := Lib.hid hJ
    have hll : l.length = 4 := hR.len
    have HR := Lib.hid hR
    clear hJ hR
    by_cases hlt : n = 32
    · subst hlt
      have hk1 : ¬ (((32 : Nat) : Int) < 32) := by omega
      have E := Lib.hid (HD.out l HR.out)
      have SZ := Lib.hid (szS4 hll)
      have L1 : Hid ((l.map b64).length = (z64 4).length) := Lib.hid (by rw [List.length_map, hll]; rfl)
      go_upto_region 7 with fail; refine wp_region_lit ?_
      refine wpList_val (run_ldM (vs := l.map b64) rfl Tryd.underlying54 rfl SZ.out rfl ((hM.out.get (i := 0) rfl).range)) rfl ?_; (try simp only [Act.put, List.setIfInBounds_toArray, List.set_cons_zero, List.set_cons_succ])
      refine wpList_skip (run_stM (vs := l.map b64) rfl SZ.out rfl rfl (one64s _) (by rw [L1.out]; exact (hM.out.get (i := 1) rfl).there)) rfl rfl ?_; replace hM := Lib.hid (hM.out.put 1 rfl (m := l.map b64) (L1.out))
      refine wpList_end ?_; go_wp2_with fail; refine bodyPost_ret (v := .agg (l.map b64).toArray) (results_rowB Tryd.results28 rfl Tryd.underlying54 rfl SZ.out (hM.out.get (i := 1) rfl).range) rfl ⟨by rw [E.out], hM.out.bl⟩
    · have hk1 : (n : Int) < 32 := by omega
      have hn2 : n < 32 := by omega
      have HG := Lib.hid (get_map b8 0 (l := k) (i := n) (by omega))
      have HL := Lib.hid (get_map b64 0 (l := l) (i := n / 8) (by omega))
      have FL : Hid (n / 8 < (l.map b64).length) := Lib.hid (by rw [List.length_map]; omega)
      have NX := Lib.hid (HS.out n l HR.out hn2)
      go_upto_region 4 with fail; refine wp_region_lit ?_
      refine wpList_val (run_mv (v := .int _ _) rfl rfl) rfl ?_; (try simp only [Act.put, List.setIfInBounds_toArray, List.set_cons_zero, List.set_cons_succ])
      refine wpList_val (run_ixv (i := n) rfl Tryd.underlying23 (by kernel_rfl) (by rfl) rfl rfl hn2 HG.out) rfl ?_; (try simp only [Act.put, List.setIfInBounds_toArray, List.set_cons_zero, List.set_cons_succ])
      refine wpList_val (run_asg (v := .int _ _) rfl rfl) rfl ?_; (try simp only [Act.put, List.setIfInBounds_toArray, List.set_cons_zero, List.set_cons_succ]); refine wpList_val (run_asg (v := b8 _) rfl rfl) rfl ?_; (try simp only [Act.put, List.setIfInBounds_toArray, List.set_cons_zero, List.set_cons_succ])
      refine wpList_end ?_
      go_upto_region 5 with fail; refine wp_region_calm 12 (by kernel_rfl) (by kernel_rfl) ?_
      refine wpCalm_step _ (fun V hV => calm_run (run_mv (v := .int _ _) rfl rfl)) ?_; (try simp only [Act.put, List.setIfInBounds_toArray, List.set_cons_zero, List.set_cons_succ])
      refine wpCalm_step _ (fun V hV => calm_run (run_quoN (a := n) (b := 8) rfl rfl rfl (by omega) (by omega))) ?_; (try simp only [Act.put, List.setIfInBounds_toArray, List.set_cons_zero, List.set_cons_succ])
      refine wpCalm_step _ (fun V hV => calm_run (run_ix0 (i := n / 8) rfl Tryd.underlying54 (by kernel_rfl) rfl rfl (by omega))) ?_; (try simp only [Act.put, List.setIfInBounds_toArray, List.set_cons_zero, List.set_cons_succ])
      refine wpCalm_step _ (fun V hV => calm_run (run_ld64 rfl rfl (((hM.out.below hV).get (i := 0) rfl).c _ _ HL.out))) ?_; (try simp only [Act.put, List.setIfInBounds_toArray, List.set_cons_zero, List.set_cons_succ])
      refine wpCalm_step _ (fun V hV => calm_run (run_mv (v := b8 _) rfl rfl)) ?_; (try simp only [Act.put, List.setIfInBounds_toArray, List.set_cons_zero, List.set_cons_succ]); refine wpCalm_step _ (fun V hV => calm_run (run_cv8_64 rfl rfl)) ?_; (try simp only [Act.put, List.setIfInBounds_toArray, List.set_cons_zero, List.set_cons_succ]); refine wpCalm_step _ (fun V hV => calm_run (run_mv (v := .int _ _) rfl rfl)) ?_; (try simp only [Act.put, List.setIfInBounds_toArray, List.set_cons_zero, List.set_cons_succ])
      refine wpCalm_step _ (fun V hV => calm_run (run_remN (a := n) (b := 8) rfl rfl rfl (by omega))) ?_; (try simp only [Act.put, List.setIfInBounds_toArray, List.set_cons_zero, List.set_cons_succ])
      refine wpCalm_step _ (fun V hV => calm_run (run_mulN (a := n % 8) (b := 8) rfl rfl rfl (by omega))) ?_; (try simp only [Act.put, List.setIfInBounds_toArray, List.set_cons_zero, List.set_cons_succ])
      refine wpCalm_step _ (fun V hV => calm_run (run_shlW (n := n % 8 * 8) rfl rfl rfl (by omega))) ?_; (try simp only [Act.put, List.setIfInBounds_toArray, List.set_cons_zero, List.set_cons_succ])
      refine wpCalm_step _ (fun V hV => calm_run (run_or64 rfl rfl rfl)) ?_; (try simp only [Act.put, List.setIfInBounds_toArray, List.set_cons_zero, List.set_cons_succ])
      refine wpCalm_step _ (fun V hV => calm_run (run_ix0 (i := n / 8) rfl Tryd.underlying54 (by kernel_rfl) rfl rfl (by omega))) ?_; (try simp only [Act.put, List.setIfInBounds_toArray, List.set_cons_zero, List.set_cons_succ])
      refine wpCalm_done ?_; intro a4 hb; simp only [List.drop_succ_cons, List.drop_zero]
      replace hM := Lib.hid (hM.out.below hb)
      clear hb
      refine wpList_skip (run_st64 rfl rfl rfl ((hM.out.get (i := 0) rfl).c _ _ HL.out) ((hM.out.get (i := 0) rfl).f _)) rfl rfl ?_
      refine wpList_end ?_
      generalize hx : l.getD (n / 8) 0 ||| (k.getD n 0).setWidth 64 <<< (n % 8 * 8) = x at *
      clear hx
      have hM2 := Lib.hid (hM.out.set 0 rfl FL.out (b64 x))
      rw [set_map] at hM2
      generalize a4.setCell ⟨g3, n / 8, none⟩ (b64 x) = a5 at *
      clear hM HG HL FL
      go_wp2_with fail
      exact ⟨⟨n + 1, l.set (n / 8) x, by omega, by go_num, NX.out, hM2.out⟩, by simp [intOf]; omega⟩
theorem enters_sread : Enters 28 := enters_of Tryd.func28 (by kernel_rfl) rfl

set_option maxHeartbeats 4000000 in
theorem sbytes_any (l : List (BitVec 64)) (w : World) (hl : l.length = 4) : Calls Tryd.prog 45 #[.agg (l.map b64).toArray] w fun e w' => e = .returned (.agg ((sk (lv l)).map b8).toArray) ∧ Below w.heap.size w w' := by
  have HK : Hid (∀ i, i < 32 → ((l.getD (i / 8) 0) >>> (i % 8 * 8)).setWidth 8 = (sk (lv l)).getD i 0) := Lib.hid fun i hi => by rw [byteW_of, sk_get _ hi]
  have hkl := sk_len (lv l)
  generalize sk (lv l) = kb at *
  have hM := Lib.hid (Mv.nil w)
  go_enter Tryd.func45, Tryd.ntmps45
  go_upto_region 0 with fail; refine wp_region_lit ?_
  refine wpList_val (run_boxL8 (vs := l.map b64) rfl rfl) rfl ?_; (try simp only [Act.put, List.setIfInBounds_toArray, List.set_cons_zero, List.set_cons_succ]); replace hM := Lib.hid (hM.out.new (l.map b64) 54); generalize w.alloc (.cells (l.map b64).toArray 54) = a1 at *; generalize w.heap.size = g1 at *
  refine wpList_val (run_alc (vs := z8 32) rfl (by kernel_rfl)) rfl ?_; (try simp only [Act.put, List.setIfInBounds_toArray, List.set_cons_zero, List.set_cons_succ]); replace hM := Lib.hid (hM.out.new (z8 32) 23); generalize a1.alloc (.cells (z8 32).toArray 23) = a2 at *; generalize a1.heap.size = g2 at *
  refine wpList_end ?_
  go_upto_region 1 with fail; refine wp_region_lit ?_
  refine wpList_val (run_alc (vs := z8 32) rfl (by kernel_rfl)) rfl ?_; (try simp only [Act.put, List.setIfInBounds_toArray, List.set_cons_zero, List.set_cons_succ]); replace hM := Lib.hid (hM.out.new (z8 32) 23); generalize a2.alloc (.cells (z8 32).toArray 23) = a3 at *; generalize a2.heap.size = g3 at *
  refine wpList_end ?_
  go_upto_region 2 with fail; refine wp_region_lit ?_
  refine wpList_val (run_mv (v := .int _ _) rfl rfl) rfl ?_; (try simp only [Act.put, List.setIfInBounds_toArray, List.set_cons_zero, List.set_cons_succ])
  refine wpList_end ?_
  go_wp2_with fail
  go_loopw [5] (fun s u => ∃ n : Nat, n ≤ 32 ∧ s = .int .i64 (n : Int) ∧ Mv w [(g3, (flB kb n).map b8), (g2, z8 32), (g1, l.map b64)] u) (fun s _ => (32 - intOf s).toNat)
  case atStart => exact ⟨0, by omega, rfl, by rw [flB_zero]; exact hM.out⟩
  case round =>
    obtain ⟨n, hn, rfl, hJ⟩ := hrel
    replace hM := Lib.hid hJ
    clear hJ
    by_cases hlt : n = 32
    · subst hlt
      have hk1 : ¬ (((32 : Nat) : Int) < 32) := by omega
      rw [flB_all hkl] at hM
      have SZ := Lib.hid (szKy hkl)
      have L1 : Hid ((kb.map b8).length = (z8 32).length) := Lib.hid (by rw [z8_32, List.length_map, hkl])
      go_upto_region 7 with fail; refine wp_region_lit ?_
      refine wpList_val (run_ldM (vs := kb.map b8) rfl Tryd.underlying23 rfl SZ.out rfl ((hM.out.get (i := 0) rfl).range)) rfl ?_; (try simp only [Act.put, List.setIfInBounds_toArray, List.set_cons_zero, List.set_cons_succ])
      refine wpList_skip (run_stM (vs := kb.map b8) rfl SZ.out rfl rfl (one8s _) (by rw [L1.out]; exact (hM.out.get (i := 1) rfl).there)) rfl rfl ?_; replace hM := Lib.hid (hM.out.put 1 rfl (m := kb.map b8) (L1.out))
      refine wpList_end ?_; go_wp2_with fail; refine bodyPost_ret (v := .agg (kb.map b8).toArray) (results_rowB Tryd.results45 rfl Tryd.underlying23 rfl SZ.out (hM.out.get (i := 1) rfl).range) rfl ⟨rfl, hM.out.bl⟩
    · have hk1 : (n : Int) < 32 := by omega
      have hn2 : n < 32 := by omega
      have E1 := Lib.hid (HK.out n hn2)
      have FS := Lib.hid (flB_set hkl (n := n) hn2)
      have FL : Hid (n < ((flB kb n).map b8).length) := Lib.hid (by rw [List.length_map, flB_len hkl hn]; omega)
      have HG := Lib.hid (get_map b8 0 (l := flB kb n) (i := n) (by rw [flB_len hkl hn]; omega))
      have HL := Lib.hid (get_map b64 0 (l := l) (i := n / 8) (by omega))
      go_upto_region 4 with fail; refine wp_region_lit ?_
      refine wpList_val (run_mv (v := .int _ _) rfl rfl) rfl ?_; (try simp only [Act.put, List.setIfInBounds_toArray, List.set_cons_zero, List.set_cons_succ]); refine wpList_val (run_asg (v := .int _ _) rfl rfl) rfl ?_; (try simp only [Act.put, List.setIfInBounds_toArray, List.set_cons_zero, List.set_cons_succ])
      refine wpList_end ?_
      go_upto_region 5 with fail; refine wp_region_lit ?_
      refine wpList_val (run_mv (v := .int _ _) rfl rfl) rfl ?_; (try simp only [Act.put, List.setIfInBounds_toArray, List.set_cons_zero, List.set_cons_succ]); refine wpList_val (run_mv (v := .int _ _) rfl rfl) rfl ?_; (try simp only [Act.put, List.setIfInBounds_toArray, List.set_cons_zero, List.set_cons_succ])
      refine wpList_val (run_quoN (a := n) (b := 8) rfl rfl rfl (by omega) (by omega)) rfl ?_; (try simp only [Act.put, List.setIfInBounds_toArray, List.set_cons_zero, List.set_cons_succ])
      refine wpList_val (run_ix0 (i := n / 8) rfl Tryd.underlying54 (by kernel_rfl) rfl rfl (by omega)) rfl ?_; (try simp only [Act.put, List.setIfInBounds_toArray, List.set_cons_zero, List.set_cons_succ])
      refine wpList_val (run_ld64 rfl rfl ((hM.out.get (i := 2) rfl).c _ _ HL.out)) rfl ?_; (try simp only [Act.put, List.setIfInBounds_toArray, List.set_cons_zero, List.set_cons_succ])
      refine wpList_val (run_mv (v := .int _ _) rfl rfl) rfl ?_; (try simp only [Act.put, List.setIfInBounds_toArray, List.set_cons_zero, List.set_cons_succ])
      refine wpList_val (run_remN (a := n) (b := 8) rfl rfl rfl (by omega)) rfl ?_; (try simp only [Act.put, List.setIfInBounds_toArray, List.set_cons_zero, List.set_cons_succ])
      refine wpList_val (run_mulN (a := n % 8) (b := 8) rfl rfl rfl (by omega)) rfl ?_; (try simp only [Act.put, List.setIfInBounds_toArray, List.set_cons_zero, List.set_cons_succ])
      refine wpList_val (run_shrW (n := n % 8 * 8) rfl rfl rfl (by omega)) rfl ?_; (try simp only [Act.put, List.setIfInBounds_toArray, List.set_cons_zero, List.set_cons_succ])
      refine wpList_val (run_cv64_8 rfl rfl) rfl ?_; (try simp only [Act.put, List.setIfInBounds_toArray, List.set_cons_zero, List.set_cons_succ])
      rw [E1.out]
      refine wpList_val (run_ix0 (i := n) rfl Tryd.underlying23 (by kernel_rfl) rfl rfl (by omega)) rfl ?_; (try simp only [Act.put, List.setIfInBounds_toArray, List.set_cons_zero, List.set_cons_succ])
      refine wpList_skip (run_st8 rfl rfl rfl ((hM.out.get (i := 0) rfl).c n _ HG.out) ((hM.out.get (i := 0) rfl).f n)) rfl rfl ?_
      refine wpList_end ?_
      have hM2 := Lib.hid (hM.out.set 0 rfl FL.out (b8 (kb.getD n 0)))
      rw [FS.out] at hM2
      generalize wr.setCell ⟨g3, n, none⟩ (b8 (kb.getD n 0)) = a8 at *
      clear hM HG FL FS HL
      go_wp2_with fail
      exact ⟨⟨n + 1, by omega, by go_num, hM2.out⟩, by simp [intOf]; omega⟩
theorem enters_sbytes : Enters 45 := enters_of Tryd.func45 (by kernel_rfl) rfl
end Go.Proofs.YtfdjmdfaidiliaaDoor
namespace Go.Proofs.YtfdjmdfaidiliaaDoor
open Go.RowKit
set_option maxRecDepth 20000

theorem lv_key {k : List (BitVec 8)} (hk : k.length = 32) : lv (wd (leB k) 4) = leB k := by
  have h := leB_lt k
  rw [hk] at h
  have e : (256 : Nat) ^ 32 = 2 ^ (64 * 4) := by decide +kernel
  rw [lv_wd, Nat.mod_eq_of_lt (by rw [← e]; exact h)]
theorem sk_word {n : Nat} (h : n < ell) : sk (lv (wd n 4)) = sk n := by
  have e : (256 : Nat) ^ 32 = 2 ^ (64 * 4) := by decide +kernel
  rw [lv_wd, Nat.mod_eq_of_lt (by rw [← e]; exact Nat.lt_trans h ell_lt)]
theorem mad_fits {a b c X : Nat} (ha : a < X) (hb : b < X) (hc : c < X) : c + a * b < X * X := by
  have h1 : a * b ≤ (X - 1) * (X - 1) := Nat.mul_le_mul (by omega) (by omega)
  obtain ⟨x, rfl⟩ : ∃ x, X = x + 1 := ⟨X - 1, by omega⟩
  have e : (x + 1) * (x + 1) = x * x + 2 * x + 1 := by rw [Nat.add_mul, Nat.mul_add]; omega
  rw [Nat.add_sub_cancel] at h1
  omega
theorem mad_pow {n k e : Nat} (h : n < 2 ^ e * 2 ^ e) (hk : 64 * k = e + e) : n < 2 ^ (64 * k) := by
  rw [hk, Nat.pow_add]; exact h
theorem pow_256 (m : Nat) : 256 ^ m = 2 ^ (8 * m) := by rw [Nat.pow_mul]
theorem mad_wd {n k E : Nat} (h : n < 2 ^ (64 * k)) (hE : E = 64 * k) : lv (wd (n % 2 ^ E) k) = n := by
  subst hE
  rw [Nat.mod_eq_of_lt h, lv_wd, Nat.mod_eq_of_lt h]
theorem mad_wordsE (a b c : List (BitVec 8)) {m k E : Nat} (ha : a.length = m) (hb : b.length = m) (hc : c.length = m) (hk : 64 * k = 8 * m + 8 * m) (hE : E = 64 * k) : lv (wd ((leB c + leB a * leB b) % 2 ^ E) k) = leB a * leB b + leB c := by
  have h1 := leB_lt a
  have h2 := leB_lt b
  have h3 := leB_lt c
  rw [ha, pow_256] at h1
  rw [hb, pow_256] at h2
  rw [hc, pow_256] at h3
  rw [Nat.add_comm (leB a * leB b)]
  exact mad_wd (mad_pow (mad_fits h1 h2 h3) hk) hE
theorem mad_words (a b c : List (BitVec 8)) (ha : a.length = 32) (hb : b.length = 32) (hc : c.length = 32) : lv (wd ((leB c + leB a * leB b) % 2 ^ 512) 8) = leB a * leB b + leB c :=
  mad_wordsE (m := 32) (k := 8) (E := 512) a b c ha hb hc (by decide) (by decide)

set_option maxHeartbeats 8000000 in
theorem scanon_any (k : List (BitVec 8)) (w : World) (hk : k.length = 32) (hG : SG w) : Calls Tryd.prog 10 #[.agg (k.map b8).toArray] w fun e w' => e = .returned (.bool (decide (leB k < ell))) ∧ Below w.heap.size w w' := by
  have HG := Lib.hid hG; clear hG
  have hkl := wd_len (leB k) 4
  have hol := wd_len ell 4
  have CR : Hid (∀ u : World, Calls Tryd.prog 28 #[.agg (k.map b8).toArray] u fun e w' => e = .returned (.agg ((wd (leB k) 4).map b64).toArray) ∧ Below u.heap.size u w') := Lib.hid fun u => sread_any k u hk
  have CM : Hid (∀ u : World, Calls Tryd.prog 29 #[.agg ((wd (leB k) 4).map b64).toArray, .agg ((wd ell 4).map b64).toArray] u fun e w' => e = .returned (.tuple #[.agg ((wd ((lv (wd (leB k) 4) + 2 ^ 256 - lv (wd ell 4)) % 2 ^ 256) 4).map b64).toArray, b64 (if lv (wd (leB k) 4) < lv (wd ell 4) then 1 else 0)]) ∧ Below u.heap.size u w') := Lib.hid fun u => sminus_any _ _ u hkl hol
  rw [lv_ell, lv_key hk] at CM
  have HE : Hid (decide ((if leB k < ell then (1 : BitVec 64) else 0) = 1) = decide (leB k < ell)) := Lib.hid (by
    by_cases h : leB k < ell
    · simp [h]
    · simp [h])
  have hRl := wd_len ((leB k + 2 ^ 256 - ell) % 2 ^ 256) 4
  have RO : Hid (∀ V, SG V → V.rangeAt 0 0 ((wd ell 4).map b64)) := Lib.hid fun V h => h.r
  generalize wd ((leB k + 2 ^ 256 - ell) % 2 ^ 256) 4 = R at *
  generalize wd ell 4 = O at *
  generalize wd (leB k) 4 = K at *
  generalize (if leB k < ell then (1 : BitVec 64) else 0) = C at *
  generalize decide (leB k < ell) = res at *
  have SO := Lib.hid (szS4 hol)
  have SR := Lib.hid (szS4 hRl)
  have SK := Lib.hid (szKy hk)
  have LR : Hid ((R.map b64).length = (z64 4).length) := Lib.hid (by rw [List.length_map, hRl]; rfl)
  have hM := Lib.hid (Mv.nil w)
  go_enter Tryd.func10, Tryd.ntmps10
  go_upto_region 0 with fail; refine wp_region_lit ?_
  refine wpList_val (run_boxL8 (vs := k.map b8) rfl rfl) rfl ?_; (try simp only [Act.put, List.setIfInBounds_toArray, List.set_cons_zero, List.set_cons_succ]); replace hM := Lib.hid (hM.out.new (k.map b8) 23); generalize w.alloc (.cells (k.map b8).toArray 23) = a1 at *; generalize w.heap.size = g1 at *
  refine wpList_val (run_asg (v := .bool _) rfl rfl) rfl ?_; (try simp only [Act.put, List.setIfInBounds_toArray, List.set_cons_zero, List.set_cons_succ])
  refine wpList_end ?_
  go_upto_region 1 with fail
  go_cut [4] (fun s4 u => s4 = b64 C ∧ Below w.heap.size w u)
  case first =>
    have hD : Hid (∀ V, Below a1.heap.size a1 V → V.rangeAt 0 0 (O.map b64)) := Lib.hid fun V hV => RO.out _ (HG.out.below (hM.out.below hV).bl)
    refine wp_region_noPanic ?_; refine wp_region_late (S := fun _ V => Below a1.heap.size a1 V) (by kernel_rfl) ((Below.refl _ _).drew) (fun hS => ?_)
    refine wpAnyL_take 0 rfl rfl (by kernel_rfl) (by kernel_rfl) (by kernel_rfl) (fun _ _ _ h => h) rfl (fun V hV => run_ldM (vs := k.map b8) rfl Tryd.underlying23 rfl SK.out rfl ((hM.out.below hV).get (i := 0) rfl).range) hS ?_; (try simp only [Act.put, List.setIfInBounds_toArray, List.set_cons_zero, List.set_cons_succ])
    refine wpAnyL_take 2 rfl rfl (by kernel_rfl) (by kernel_rfl) (by kernel_rfl) (fun _ _ _ h => h) rfl (fun V hV => run_ldM (vs := O.map b64) rfl Tryd.underlying54 rfl SO.out rfl (hD.out V hV)) hS ?_; (try simp only [Act.put, List.setIfInBounds_toArray, List.set_cons_zero, List.set_cons_succ])
    generalize a1.drew = aX at *
    refine wpAnyL_two 1 7 (by kernel_rfl) ?_ ?_
    · refine wpOp_call 1 rfl rfl rfl (run_call1 enters_sread rfl rfl rfl) (calls_eq (CR.out _)) (fun v c1 hR => ?_); (try simp only [Act.put, List.setIfInBounds_toArray, List.set_cons_zero, List.set_cons_succ])
      obtain ⟨rfl, hb⟩ := hR
      replace hS := hS.trans (hb.mono hS.size)
      clear hb
      refine ⟨hS, ?_⟩
      refine wpAnyL_two 3 7 (by kernel_rfl) ?_ ?_
      · refine wpOp_call 3 rfl rfl rfl (run_call2 enters_sminus rfl rfl rfl rfl) (calls_eq (CM.out _)) (fun v c2 hR => ?_); (try simp only [Act.put, List.setIfInBounds_toArray, List.set_cons_zero, List.set_cons_succ])
        obtain ⟨rfl, hb⟩ := hR
        replace hS := hS.trans (hb.mono hS.size)
        clear hb
        refine ⟨hS, ?_⟩
        refine wpAnyL_take 4 rfl rfl (by kernel_rfl) (by kernel_rfl) (by kernel_rfl) (fun _ _ _ h => h) rfl (fun V hV => run_mv (v := .tuple #[.agg (R.map b64).toArray, b64 C]) rfl rfl) hS ?_; (try simp only [Act.put, List.setIfInBounds_toArray, List.set_cons_zero, List.set_cons_succ])
        refine wpAnyL_take 5 rfl rfl (by kernel_rfl) (by kernel_rfl) (by kernel_rfl) (fun _ _ _ h => h) rfl (fun V hV => run_xtr (v := .agg (R.map b64).toArray) rfl rfl rfl) hS ?_; (try simp only [Act.put, List.setIfInBounds_toArray, List.set_cons_zero, List.set_cons_succ])
        refine wpAnyL_take 6 rfl rfl (by kernel_rfl) (by kernel_rfl) (by kernel_rfl) (fun _ _ _ h => h) rfl (fun V hV => run_xtr (v := b64 C) rfl rfl rfl) hS ?_; (try simp only [Act.put, List.setIfInBounds_toArray, List.set_cons_zero, List.set_cons_succ])
        refine wpAnyL_val 7 (by kernel_rfl) rfl rfl rfl (run_alc (vs := z64 4) rfl (by kernel_rfl)) (hS.alloc hS.size _) ?_; (try simp only [Act.put, List.setIfInBounds_toArray, List.set_cons_zero, List.set_cons_succ])
        have A1 := Lib.hid (Arr.new c2 (z64 4) 54)
        have hg := hS.size
        replace hS := hS.alloc hg (.cells (z64 4).toArray 54)
        generalize c2.alloc (.cells (z64 4).toArray 54) = d_c2 at *
        generalize c2.heap.size = g at *
        refine wpAnyL_skip 8 (by kernel_rfl) rfl rfl rfl (run_stM (vs := R.map b64) rfl SR.out rfl rfl (one64s _) (by rw [LR.out]; exact A1.out.there)) (below_setCells hg _ _ hS) ?_
        replace hS := below_setCells hg (R.map b64) 0 hS
        refine wpAnyL_take 9 rfl rfl (by kernel_rfl) (by kernel_rfl) (by kernel_rfl) (fun _ _ _ h => h) rfl (fun V hV => run_asg (v := b64 C) rfl rfl) hS ?_; (try simp only [Act.put, List.setIfInBounds_toArray, List.set_cons_zero, List.set_cons_succ])
        refine wpAnyL_done (by kernel_rfl) ?_ _; refine NoPanic.normal ?_
        go_wp2_with fail
        go_meet
        exact ⟨rfl, hM.out.bl.trans (hS.mono hM.out.bl.size)⟩
      · refine wpOp_val 7 rfl rfl rfl (run_alc (vs := z64 4) rfl (by kernel_rfl)) ?_; (try simp only [Act.put, List.setIfInBounds_toArray, List.set_cons_zero, List.set_cons_succ])
        have A1 := Lib.hid (Arr.new c1 (z64 4) 54)
        have hg := hS.size
        replace hS := hS.alloc hg (.cells (z64 4).toArray 54)
        generalize c1.alloc (.cells (z64 4).toArray 54) = d_c1 at *
        generalize c1.heap.size = g at *
        refine ⟨hS, ?_⟩
        refine wpAnyL_call 3 (by kernel_rfl) rfl rfl rfl (run_call2 enters_sminus rfl rfl rfl rfl) (calls_eq (CM.out _)) (fun v w h => hS.trans (h.2.mono hS.size)) (fun v c3 hR => ?_); (try simp only [Act.put, List.setIfInBounds_toArray, List.set_cons_zero, List.set_cons_succ])
        obtain ⟨rfl, hb⟩ := hR
        replace hS := hS.trans (hb.mono hS.size)
        replace A1 := Lib.hid (A1.out.below hb)
        clear hb
        refine wpAnyL_take 4 rfl rfl (by kernel_rfl) (by kernel_rfl) (by kernel_rfl) (fun _ _ _ h => h) rfl (fun V hV => run_mv (v := .tuple #[.agg (R.map b64).toArray, b64 C]) rfl rfl) hS ?_; (try simp only [Act.put, List.setIfInBounds_toArray, List.set_cons_zero, List.set_cons_succ])
        refine wpAnyL_take 5 rfl rfl (by kernel_rfl) (by kernel_rfl) (by kernel_rfl) (fun _ _ _ h => h) rfl (fun V hV => run_xtr (v := .agg (R.map b64).toArray) rfl rfl rfl) hS ?_; (try simp only [Act.put, List.setIfInBounds_toArray, List.set_cons_zero, List.set_cons_succ])
        refine wpAnyL_take 6 rfl rfl (by kernel_rfl) (by kernel_rfl) (by kernel_rfl) (fun _ _ _ h => h) rfl (fun V hV => run_xtr (v := b64 C) rfl rfl rfl) hS ?_; (try simp only [Act.put, List.setIfInBounds_toArray, List.set_cons_zero, List.set_cons_succ])
        refine wpAnyL_skip 8 (by kernel_rfl) rfl rfl rfl (run_stM (vs := R.map b64) rfl SR.out rfl rfl (one64s _) (by rw [LR.out]; exact A1.out.there)) (below_setCells hg _ _ hS) ?_
        replace hS := below_setCells hg (R.map b64) 0 hS
        refine wpAnyL_take 9 rfl rfl (by kernel_rfl) (by kernel_rfl) (by kernel_rfl) (fun _ _ _ h => h) rfl (fun V hV => run_asg (v := b64 C) rfl rfl) hS ?_; (try simp only [Act.put, List.setIfInBounds_toArray, List.set_cons_zero, List.set_cons_succ])
        refine wpAnyL_done (by kernel_rfl) ?_ _; refine NoPanic.normal ?_
        go_wp2_with fail
        go_meet
        exact ⟨rfl, hM.out.bl.trans (hS.mono hM.out.bl.size)⟩
    · refine wpOp_val 7 rfl rfl rfl (run_alc (vs := z64 4) rfl (by kernel_rfl)) ?_; (try simp only [Act.put, List.setIfInBounds_toArray, List.set_cons_zero, List.set_cons_succ])
      have A1 := Lib.hid (Arr.new aX (z64 4) 54)
      have hg := hS.size
      replace hS := hS.alloc hg (.cells (z64 4).toArray 54)
      generalize aX.alloc (.cells (z64 4).toArray 54) = d_aX at *
      generalize aX.heap.size = g at *
      refine ⟨hS, ?_⟩
      refine wpAnyL_call 1 (by kernel_rfl) rfl rfl rfl (run_call1 enters_sread rfl rfl rfl) (calls_eq (CR.out _)) (fun v w h => hS.trans (h.2.mono hS.size)) (fun v c4 hR => ?_); (try simp only [Act.put, List.setIfInBounds_toArray, List.set_cons_zero, List.set_cons_succ])
      obtain ⟨rfl, hb⟩ := hR
      replace hS := hS.trans (hb.mono hS.size)
      replace A1 := Lib.hid (A1.out.below hb)
      clear hb
      refine wpAnyL_call 3 (by kernel_rfl) rfl rfl rfl (run_call2 enters_sminus rfl rfl rfl rfl) (calls_eq (CM.out _)) (fun v w h => hS.trans (h.2.mono hS.size)) (fun v c5 hR => ?_); (try simp only [Act.put, List.setIfInBounds_toArray, List.set_cons_zero, List.set_cons_succ])
      obtain ⟨rfl, hb⟩ := hR
      replace hS := hS.trans (hb.mono hS.size)
      replace A1 := Lib.hid (A1.out.below hb)
      clear hb
      refine wpAnyL_take 4 rfl rfl (by kernel_rfl) (by kernel_rfl) (by kernel_rfl) (fun _ _ _ h => h) rfl (fun V hV => run_mv (v := .tuple #[.agg (R.map b64).toArray, b64 C]) rfl rfl) hS ?_; (try simp only [Act.put, List.setIfInBounds_toArray, List.set_cons_zero, List.set_cons_succ])
      refine wpAnyL_take 5 rfl rfl (by kernel_rfl) (by kernel_rfl) (by kernel_rfl) (fun _ _ _ h => h) rfl (fun V hV => run_xtr (v := .agg (R.map b64).toArray) rfl rfl rfl) hS ?_; (try simp only [Act.put, List.setIfInBounds_toArray, List.set_cons_zero, List.set_cons_succ])
      refine wpAnyL_take 6 rfl rfl (by kernel_rfl) (by kernel_rfl) (by kernel_rfl) (fun _ _ _ h => h) rfl (fun V hV => run_xtr (v := b64 C) rfl rfl rfl) hS ?_; (try simp only [Act.put, List.setIfInBounds_toArray, List.set_cons_zero, List.set_cons_succ])
      refine wpAnyL_skip 8 (by kernel_rfl) rfl rfl rfl (run_stM (vs := R.map b64) rfl SR.out rfl rfl (one64s _) (by rw [LR.out]; exact A1.out.there)) (below_setCells hg _ _ hS) ?_
      replace hS := below_setCells hg (R.map b64) 0 hS
      refine wpAnyL_take 9 rfl rfl (by kernel_rfl) (by kernel_rfl) (by kernel_rfl) (fun _ _ _ h => h) rfl (fun V hV => run_asg (v := b64 C) rfl rfl) hS ?_; (try simp only [Act.put, List.setIfInBounds_toArray, List.set_cons_zero, List.set_cons_succ])
      refine wpAnyL_done (by kernel_rfl) ?_ _; refine NoPanic.normal ?_
      go_wp2_with fail
      go_meet
      exact ⟨rfl, hM.out.bl.trans (hS.mono hM.out.bl.size)⟩
  case rest =>
    obtain ⟨rfl, bl⟩ := hcut
    generalize hw7 : wc = a7 at *
    clear hw7
    go_upto_region 2 with fail; refine wp_region_lit ?_
    refine wpList_val (run_mv (v := b64 _) rfl rfl) rfl ?_; (try simp only [Act.put, List.setIfInBounds_toArray, List.set_cons_zero, List.set_cons_succ])
    refine wpList_val (run_eqW rfl rfl rfl HE.out) rfl ?_; (try simp only [Act.put, List.setIfInBounds_toArray, List.set_cons_zero, List.set_cons_succ])
    refine wpList_val (run_asg (v := .bool _) rfl rfl) rfl ?_; (try simp only [Act.put, List.setIfInBounds_toArray, List.set_cons_zero, List.set_cons_succ])
    refine wpList_end ?_
    go_wp2_with fail
    go_ret
    exact ⟨rfl, bl⟩
theorem enters_scanon : Enters 10 := enters_of Tryd.func10 (by kernel_rfl) rfl

set_option maxHeartbeats 8000000 in
theorem smad_any (a b c : List (BitVec 8)) (w : World) (ha : a.length = 32) (hb : b.length = 32) (hc : c.length = 32) (hG : SG w) : Calls Tryd.prog 18 #[.agg (a.map b8).toArray, .agg (b.map b8).toArray, .agg (c.map b8).toArray] w fun e w' => e = .returned (.agg ((sk ((leB a * leB b + leB c) % ell)).map b8).toArray) ∧ Below w.heap.size w w' := by
  have HG := Lib.hid hG; clear hG
  obtain ⟨A, hA⟩ : ∃ A, A = wd (leB a) 4 := ⟨_, rfl⟩
  obtain ⟨B, hB⟩ : ∃ B, B = wd (leB b) 4 := ⟨_, rfl⟩
  obtain ⟨C, hC⟩ : ∃ C, C = wd (leB c) 4 := ⟨_, rfl⟩
  have lA : A.length = 4 := by rw [hA]; exact wd_len _ _
  have lB : B.length = 4 := by rw [hB]; exact wd_len _ _
  have lC : C.length = 4 := by rw [hC]; exact wd_len _ _
  have CA : Hid (∀ u : World, Calls Tryd.prog 28 #[.agg (a.map b8).toArray] u fun e w' => e = .returned (.agg (A.map b64).toArray) ∧ Below u.heap.size u w') := Lib.hid fun u => by rw [hA]; exact sread_any a u ha
  have CB : Hid (∀ u : World, Calls Tryd.prog 28 #[.agg (b.map b8).toArray] u fun e w' => e = .returned (.agg (B.map b64).toArray) ∧ Below u.heap.size u w') := Lib.hid fun u => by rw [hB]; exact sread_any b u hb
  have CC : Hid (∀ u : World, Calls Tryd.prog 28 #[.agg (c.map b8).toArray] u fun e w' => e = .returned (.agg (C.map b64).toArray) ∧ Below u.heap.size u w') := Lib.hid fun u => by rw [hC]; exact sread_any c u hc
  have lJ : (C ++ List.replicate 4 0).length = 8 := by rw [List.length_append, lC]; rfl
  have CJ : Hid (∀ u : World, Calls Tryd.prog 42 #[.agg (C.map b64).toArray, .agg ((List.replicate 4 (0 : BitVec 64)).map b64).toArray] u fun e w' => e = .returned (.agg ((C ++ List.replicate 4 0).map b64).toArray) ∧ Below u.heap.size u w') := Lib.hid fun u => sjoin_any C (List.replicate 4 0) u lC rfl
  have eJ : lv (C ++ List.replicate 4 0) = leB c := by rw [lv_append, show lv (List.replicate 4 0) = 0 by decide, Nat.mul_zero, Nat.add_zero, hC, lv_key hc]
  have eN : lv (wd ((leB c + leB a * leB b) % 2 ^ 512) 8) = leB a * leB b + leB c := mad_words a b c ha hb hc
  have CT : Hid (∀ u : World, Calls Tryd.prog 43 #[.agg ((C ++ List.replicate 4 0).map b64).toArray, .agg (A.map b64).toArray, .agg (B.map b64).toArray] u fun e w' => e = .returned (.agg ((wd ((leB c + leB a * leB b) % 2 ^ 512) 8).map b64).toArray) ∧ Below u.heap.size u w') := Lib.hid fun u => by
    have h := stimes_any (C ++ List.replicate 4 0) A B u lJ lA lB
    rwa [eJ, hA, hB, lv_key ha, lv_key hb, ← hA, ← hB] at h
  have CR : Hid (∀ u : World, SG u → Calls Tryd.prog 44 #[.agg ((wd ((leB c + leB a * leB b) % 2 ^ 512) 8).map b64).toArray] u fun e w' => e = .returned (.agg ((wd ((leB a * leB b + leB c) % ell) 4).map b64).toArray) ∧ Below u.heap.size u w') := Lib.hid fun u h => by
    have h := srest_any (wd ((leB c + leB a * leB b) % 2 ^ 512) 8) u (wd_len _ _) h
    rwa [eN] at h
  have CY : Hid (∀ u : World, Calls Tryd.prog 45 #[.agg ((wd ((leB a * leB b + leB c) % ell) 4).map b64).toArray] u fun e w' => e = .returned (.agg ((sk ((leB a * leB b + leB c) % ell)).map b8).toArray) ∧ Below u.heap.size u w') := Lib.hid fun u => by
    have h := sbytes_any (wd ((leB a * leB b + leB c) % ell) 4) u (wd_len _ _)
    rwa [sk_word (Nat.mod_lt _ ell_pos)] at h
  have hkl := sk_len ((leB a * leB b + leB c) % ell)
  clear hA hB hC eJ eN lJ
  generalize sk ((leB a * leB b + leB c) % ell) = kb at *
  generalize wd ((leB a * leB b + leB c) % ell) 4 = Y at *
  generalize wd ((leB c + leB a * leB b) % 2 ^ 512) 8 = N at *
  generalize C ++ List.replicate 4 0 = J at *
  have BD := Lib.hid build4
  generalize (List.replicate 4 (0 : BitVec 64)).map b64 = Z4 at *
  have SA := Lib.hid (szKy ha)
  have SB := Lib.hid (szKy hb)
  have SC := Lib.hid (szKy hc)
  have SZ := Lib.hid (szKy hkl)
  have L1 : Hid ((kb.map b8).length = (z8 32).length) := Lib.hid (by rw [z8_32, List.length_map, hkl])
  have hM := Lib.hid (Mv.nil w)
  go_enter Tryd.func18, Tryd.ntmps18
  go_upto_region 0 with fail; refine wp_region_lit ?_
  refine wpList_val (run_boxL8 (vs := a.map b8) rfl rfl) rfl ?_; (try simp only [Act.put, List.setIfInBounds_toArray, List.set_cons_zero, List.set_cons_succ]); replace hM := Lib.hid (hM.out.new (a.map b8) 23); generalize w.alloc (.cells (a.map b8).toArray 23) = a1 at *; generalize w.heap.size = g1 at *
  refine wpList_val (run_boxL8 (vs := b.map b8) rfl rfl) rfl ?_; (try simp only [Act.put, List.setIfInBounds_toArray, List.set_cons_zero, List.set_cons_succ]); replace hM := Lib.hid (hM.out.new (b.map b8) 23); generalize a1.alloc (.cells (b.map b8).toArray 23) = a2 at *; generalize a1.heap.size = g2 at *
  refine wpList_val (run_boxL8 (vs := c.map b8) rfl rfl) rfl ?_; (try simp only [Act.put, List.setIfInBounds_toArray, List.set_cons_zero, List.set_cons_succ]); replace hM := Lib.hid (hM.out.new (c.map b8) 23); generalize a2.alloc (.cells (c.map b8).toArray 23) = a3 at *; generalize a2.heap.size = g3 at *
  refine wpList_val (run_alc (vs := z8 32) rfl (by kernel_rfl)) rfl ?_; (try simp only [Act.put, List.setIfInBounds_toArray, List.set_cons_zero, List.set_cons_succ]); replace hM := Lib.hid (hM.out.new (z8 32) 23); generalize a3.alloc (.cells (z8 32).toArray 23) = a4 at *; generalize a3.heap.size = g4 at *
  refine wpList_end ?_
  have hD : Hid (∀ V, Below a4.heap.size a4 V → SG V) := Lib.hid fun V hV => HG.out.below (hM.out.below hV).bl
  go_upto_region 1 with fail; refine wp_region_calm 11 (by kernel_rfl) (by kernel_rfl) ?_
  refine wpCalm_step _ (fun V hV => calm_run (run_ldM (vs := c.map b8) rfl Tryd.underlying23 rfl SC.out rfl (((hM.out.below hV).get (i := 1) rfl).range))) ?_; (try simp only [Act.put, List.setIfInBounds_toArray, List.set_cons_zero, List.set_cons_succ])
  refine wpCalm_step _ (fun V hV => calm_enter (run_call1 enters_sread rfl rfl rfl) (CC.out V)) ?_; (try simp only [Act.put, List.setIfInBounds_toArray, List.set_cons_zero, List.set_cons_succ])
  refine wpCalm_step _ (fun V hV => calm_run (run_bldW0 (cells := Z4.toArray) rfl BD.out)) ?_; (try simp only [Act.put, List.setIfInBounds_toArray, List.set_cons_zero, List.set_cons_succ])
  refine wpCalm_step _ (fun V hV => calm_enter (run_call2 enters_sjoin rfl rfl rfl rfl) (CJ.out V)) ?_; (try simp only [Act.put, List.setIfInBounds_toArray, List.set_cons_zero, List.set_cons_succ])
  refine wpCalm_step _ (fun V hV => calm_run (run_ldM (vs := a.map b8) rfl Tryd.underlying23 rfl SA.out rfl (((hM.out.below hV).get (i := 3) rfl).range))) ?_; (try simp only [Act.put, List.setIfInBounds_toArray, List.set_cons_zero, List.set_cons_succ])
  refine wpCalm_step _ (fun V hV => calm_enter (run_call1 enters_sread rfl rfl rfl) (CA.out V)) ?_; (try simp only [Act.put, List.setIfInBounds_toArray, List.set_cons_zero, List.set_cons_succ])
  refine wpCalm_step _ (fun V hV => calm_run (run_ldM (vs := b.map b8) rfl Tryd.underlying23 rfl SB.out rfl (((hM.out.below hV).get (i := 2) rfl).range))) ?_; (try simp only [Act.put, List.setIfInBounds_toArray, List.set_cons_zero, List.set_cons_succ])
  refine wpCalm_step _ (fun V hV => calm_enter (run_call1 enters_sread rfl rfl rfl) (CB.out V)) ?_; (try simp only [Act.put, List.setIfInBounds_toArray, List.set_cons_zero, List.set_cons_succ])
  refine wpCalm_step _ (fun V hV => calm_enter (run_call3 enters_stimes rfl rfl rfl rfl rfl) (CT.out V)) ?_; (try simp only [Act.put, List.setIfInBounds_toArray, List.set_cons_zero, List.set_cons_succ])
  refine wpCalm_step _ (fun V hV => calm_enter (run_call1 enters_srest rfl rfl rfl) (CR.out V (hD.out V hV))) ?_; (try simp only [Act.put, List.setIfInBounds_toArray, List.set_cons_zero, List.set_cons_succ])
  refine wpCalm_step _ (fun V hV => calm_enter (run_call1 enters_sbytes rfl rfl rfl) (CY.out V)) ?_; (try simp only [Act.put, List.setIfInBounds_toArray, List.set_cons_zero, List.set_cons_succ])
  refine wpCalm_done ?_; intro a5 hb; simp only [List.drop_succ_cons, List.drop_zero]
  replace hM := Lib.hid (hM.out.below hb)
  clear hb
  refine wpList_skip (run_stM (vs := kb.map b8) rfl SZ.out rfl rfl (one8s _) (by rw [L1.out]; exact (hM.out.get (i := 0) rfl).there)) rfl rfl ?_; replace hM := Lib.hid (hM.out.put 0 rfl (m := kb.map b8) (L1.out))
  refine wpList_end ?_; go_wp2_with fail; refine bodyPost_ret (v := .agg (kb.map b8).toArray) (results_rowB Tryd.results18 rfl Tryd.underlying23 rfl SZ.out (hM.out.get (i := 0) rfl).range) rfl ⟨rfl, hM.out.bl⟩
theorem enters_smad : Enters 18 := enters_of Tryd.func18 (by kernel_rfl) rfl

set_option maxHeartbeats 8000000 in
theorem sreduce_any (s : List (BitVec 8)) (w : World) (hs : s.length = 64) (hG : SG w) : Calls Tryd.prog 41 #[.agg (s.map b8).toArray] w fun e w' => e = .returned (.agg ((sk (leB s % ell)).map b8).toArray) ∧ Below w.heap.size w w' := by
  have HG := Lib.hid hG; clear hG
  obtain ⟨a, ha⟩ : ∃ a, a = s.take 32 := ⟨_, rfl⟩
  obtain ⟨b, hb⟩ : ∃ b, b = s.drop 32 := ⟨_, rfl⟩
  have la : a.length = 32 := by rw [ha, List.length_take, hs]; rfl
  have lb : b.length = 32 := by rw [hb, List.length_drop, hs]
  have es : s = a ++ b := by rw [ha, hb, List.take_append_drop]
  have R1 : Hid (∀ (V : World) (g : Nat), Arr g (s.map b8) V → V.rangeAt g 0 (a.map b8)) := Lib.hid fun V g h => by rw [ha, List.map_take]; exact rangeAt_take h.range
  have R2 : Hid (∀ (V : World) (g : Nat), Arr g (s.map b8) V → V.rangeAt g (0 + 32) (b.map b8)) := Lib.hid fun V g h => by rw [hb, List.map_drop]; exact rangeAt_drop h.range
  have eV : leB s = lv (wd (leB a) 4 ++ wd (leB b) 4) := by
    have e : (256 : Nat) ^ 32 = 2 ^ (64 * 4) := by decide +kernel
    rw [es, leB_append, la, lv_append, wd_len, lv_key la, lv_key lb, e]
  clear ha hb es
  rw [eV]
  clear eV
  have CA : Hid (∀ u : World, Calls Tryd.prog 28 #[.agg (a.map b8).toArray] u fun e w' => e = .returned (.agg ((wd (leB a) 4).map b64).toArray) ∧ Below u.heap.size u w') := Lib.hid fun u => sread_any a u la
  have CB : Hid (∀ u : World, Calls Tryd.prog 28 #[.agg (b.map b8).toArray] u fun e w' => e = .returned (.agg ((wd (leB b) 4).map b64).toArray) ∧ Below u.heap.size u w') := Lib.hid fun u => sread_any b u lb
  have l1 := wd_len (leB a) 4
  have l2 := wd_len (leB b) 4
  generalize wd (leB a) 4 = A at *
  generalize wd (leB b) 4 = B at *
  have CJ : Hid (∀ u : World, Calls Tryd.prog 42 #[.agg (A.map b64).toArray, .agg (B.map b64).toArray] u fun e w' => e = .returned (.agg ((A ++ B).map b64).toArray) ∧ Below u.heap.size u w') := Lib.hid fun u => sjoin_any A B u l1 l2
  have lJ : (A ++ B).length = 8 := by rw [List.length_append, l1, l2]
  generalize A ++ B = J at *
  have CR : Hid (∀ u : World, SG u → Calls Tryd.prog 44 #[.agg (J.map b64).toArray] u fun e w' => e = .returned (.agg ((wd (lv J % ell) 4).map b64).toArray) ∧ Below u.heap.size u w') := Lib.hid fun u h => srest_any J u lJ h
  have CY : Hid (∀ u : World, Calls Tryd.prog 45 #[.agg ((wd (lv J % ell) 4).map b64).toArray] u fun e w' => e = .returned (.agg ((sk (lv J % ell)).map b8).toArray) ∧ Below u.heap.size u w') := Lib.hid fun u => by
    have h := sbytes_any (wd (lv J % ell) 4) u (wd_len _ _)
    rwa [sk_word (Nat.mod_lt _ ell_pos)] at h
  have hkl := sk_len (lv J % ell)
  generalize sk (lv J % ell) = kb at *
  generalize wd (lv J % ell) 4 = Y at *
  have SA := Lib.hid (szKy la)
  have SB := Lib.hid (szKy lb)
  have SZ := Lib.hid (szKy hkl)
  have L1 : Hid ((kb.map b8).length = (z8 32).length) := Lib.hid (by rw [z8_32, List.length_map, hkl])
  have hM := Lib.hid (Mv.nil w)
  go_enter Tryd.func41, Tryd.ntmps41
  go_upto_region 0 with fail; refine wp_region_lit ?_
  refine wpList_val (run_boxL8 (vs := s.map b8) rfl rfl) rfl ?_; (try simp only [Act.put, List.setIfInBounds_toArray, List.set_cons_zero, List.set_cons_succ]); replace hM := Lib.hid (hM.out.new (s.map b8) 27); generalize w.alloc (.cells (s.map b8).toArray 27) = a1 at *; generalize w.heap.size = g1 at *
  refine wpList_val (run_alc (vs := z8 32) rfl (by kernel_rfl)) rfl ?_; (try simp only [Act.put, List.setIfInBounds_toArray, List.set_cons_zero, List.set_cons_succ]); replace hM := Lib.hid (hM.out.new (z8 32) 23); generalize a1.alloc (.cells (z8 32).toArray 23) = a2 at *; generalize a1.heap.size = g2 at *
  refine wpList_end ?_
  have hD : Hid (∀ V, Below a2.heap.size a2 V → SG V) := Lib.hid fun V hV => HG.out.below (hM.out.below hV).bl
  go_upto_region 1 with fail; refine wp_region_calm 11 (by kernel_rfl) (by kernel_rfl) ?_
  refine wpCalm_step _ (fun V hV => calm_run (run_slWh (h := 32) rfl Tryd.underlying27 (by kernel_rfl) rfl rfl (by omega))) ?_; (try simp only [Act.put, List.setIfInBounds_toArray, List.set_cons_zero, List.set_cons_succ])
  refine wpCalm_step _ (fun V hV => calm_run (run_s2a rfl Tryd.underlying23 rfl (by omega))) ?_; (try simp only [Act.put, List.setIfInBounds_toArray, List.set_cons_zero, List.set_cons_succ])
  refine wpCalm_step _ (fun V hV => calm_run (run_ldM (vs := a.map b8) rfl Tryd.underlying23 rfl SA.out rfl (R1.out _ _ ((hM.out.below hV).get (i := 1) rfl)))) ?_; (try simp only [Act.put, List.setIfInBounds_toArray, List.set_cons_zero, List.set_cons_succ])
  refine wpCalm_step _ (fun V hV => calm_enter (run_call1 enters_sread rfl rfl rfl) (CA.out V)) ?_; (try simp only [Act.put, List.setIfInBounds_toArray, List.set_cons_zero, List.set_cons_succ])
  refine wpCalm_step _ (fun V hV => calm_run (run_slWl (l := 32) rfl Tryd.underlying27 (by kernel_rfl) rfl rfl (by omega))) ?_; (try simp only [Act.put, List.setIfInBounds_toArray, List.set_cons_zero, List.set_cons_succ])
  refine wpCalm_step _ (fun V hV => calm_run (run_s2a rfl Tryd.underlying23 rfl (by omega))) ?_; (try simp only [Act.put, List.setIfInBounds_toArray, List.set_cons_zero, List.set_cons_succ])
  refine wpCalm_step _ (fun V hV => calm_run (run_ldM (vs := b.map b8) rfl Tryd.underlying23 rfl SB.out rfl (R2.out _ _ ((hM.out.below hV).get (i := 1) rfl)))) ?_; (try simp only [Act.put, List.setIfInBounds_toArray, List.set_cons_zero, List.set_cons_succ])
  refine wpCalm_step _ (fun V hV => calm_enter (run_call1 enters_sread rfl rfl rfl) (CB.out V)) ?_; (try simp only [Act.put, List.setIfInBounds_toArray, List.set_cons_zero, List.set_cons_succ])
  refine wpCalm_step _ (fun V hV => calm_enter (run_call2 enters_sjoin rfl rfl rfl rfl) (CJ.out V)) ?_; (try simp only [Act.put, List.setIfInBounds_toArray, List.set_cons_zero, List.set_cons_succ])
  refine wpCalm_step _ (fun V hV => calm_enter (run_call1 enters_srest rfl rfl rfl) (CR.out V (hD.out V hV))) ?_; (try simp only [Act.put, List.setIfInBounds_toArray, List.set_cons_zero, List.set_cons_succ])
  refine wpCalm_step _ (fun V hV => calm_enter (run_call1 enters_sbytes rfl rfl rfl) (CY.out V)) ?_; (try simp only [Act.put, List.setIfInBounds_toArray, List.set_cons_zero, List.set_cons_succ])
  refine wpCalm_done ?_; intro a5 hb; simp only [List.drop_succ_cons, List.drop_zero]
  replace hM := Lib.hid (hM.out.below hb)
  clear hb
  refine wpList_skip (run_stM (vs := kb.map b8) rfl SZ.out rfl rfl (one8s _) (by rw [L1.out]; exact (hM.out.get (i := 0) rfl).there)) rfl rfl ?_; replace hM := Lib.hid (hM.out.put 0 rfl (m := kb.map b8) (L1.out))
  refine wpList_end ?_; go_wp2_with fail; refine bodyPost_ret (v := .agg (kb.map b8).toArray) (results_rowB Tryd.results41 rfl Tryd.underlying23 rfl SZ.out (hM.out.get (i := 0) rfl).range) rfl ⟨rfl, hM.out.bl⟩
theorem enters_sreduce : Enters 41 := enters_of Tryd.func41 (by kernel_rfl) rfl
end Go.Proofs.YtfdjmdfaidiliaaDoor
