/- What scalar's Order, Reduce, Canon and Mad answer. -/
import Derived.Test.YtefaihdhnnldmaaDoorScRest
import Derived.Test.YtefaihdhnnldmaaDoorScTimes
import Derived.Test.YtefaihdhnnldmaaDoorScRead
namespace Go.Proofs.YtefaihdhnnldmaaDoor
open Go.RowKit
set_option maxRecDepth 20000

theorem lv_key {k : List (BitVec 8)} (hk : k.length = 32) : lv (wd (leB k) 4) = leB k := by
  have h := leB_lt k
  rw [hk] at h
  have e : (256 : Nat) ^ 32 = 2 ^ (64 * 4) := by decide +kernel
  rw [lv_wd, Nat.mod_eq_of_lt (by rw [← e]; exact h)]
theorem sk_word {n : Nat} (h : n < ell) : sk (lv (wd n 4)) = sk n := by
  have e : (256 : Nat) ^ 32 = 2 ^ (64 * 4) := by decide +kernel
  rw [lv_wd, Nat.mod_eq_of_lt (by rw [← e]; exact Nat.lt_trans h ell_lt)]
theorem mad_fits {a b c X : Nat} (ha : a < X) (hb : b < X) (hc : c < X) : c + a * b < X * X := by
  have h1 : a * b ≤ (X - 1) * (X - 1) := Nat.mul_le_mul (by omega) (by omega)
  obtain ⟨x, rfl⟩ : ∃ x, X = x + 1 := ⟨X - 1, by omega⟩
  have e : (x + 1) * (x + 1) = x * x + 2 * x + 1 := by rw [Nat.add_mul, Nat.mul_add]; omega
  rw [Nat.add_sub_cancel] at h1
  omega
theorem mad_pow {n k e : Nat} (h : n < 2 ^ e * 2 ^ e) (hk : 64 * k = e + e) : n < 2 ^ (64 * k) := by
  rw [hk, Nat.pow_add]; exact h
theorem pow_256 (m : Nat) : 256 ^ m = 2 ^ (8 * m) := by rw [Nat.pow_mul]
theorem mad_wd {n k E : Nat} (h : n < 2 ^ (64 * k)) (hE : E = 64 * k) : lv (wd (n % 2 ^ E) k) = n := by
  subst hE
  rw [Nat.mod_eq_of_lt h, lv_wd, Nat.mod_eq_of_lt h]
theorem mad_wordsE (a b c : List (BitVec 8)) {m k E : Nat} (ha : a.length = m) (hb : b.length = m) (hc : c.length = m) (hk : 64 * k = 8 * m + 8 * m) (hE : E = 64 * k) : lv (wd ((leB c + leB a * leB b) % 2 ^ E) k) = leB a * leB b + leB c := by
  have h1 := leB_lt a
  have h2 := leB_lt b
  have h3 := leB_lt c
  rw [ha, pow_256] at h1
  rw [hb, pow_256] at h2
  rw [hc, pow_256] at h3
  rw [Nat.add_comm (leB a * leB b)]
  exact mad_wd (mad_pow (mad_fits h1 h2 h3) hk) hE
theorem mad_words (a b c : List (BitVec 8)) (ha : a.length = 32) (hb : b.length = 32) (hc : c.length = 32) : lv (wd ((leB c + leB a * leB b) % 2 ^ 512) 8) = leB a * leB b + leB c :=
  mad_wordsE (m := 32) (k := 8) (E := 512) a b c ha hb hc (by decide) (by decide)
set_option maxHeartbeats 4000000 in
theorem sorder_any (w : World) (hG : SG w) : Calls Tryd.prog 15 #[] w fun e w' => e = .returned (.agg ((sk ell).map b8).toArray) ∧ Below w.heap.size w w' := by
  have HG := Lib.hid hG; clear hG
  have hol := wd_len ell 4
  have hkl := sk_len ell
  have CB : Hid (∀ u : World, Calls Tryd.prog 26 #[.agg ((wd ell 4).map b64).toArray] u fun e w' => e = .returned (.agg ((sk ell).map b8).toArray) ∧ Below u.heap.size u w') := Lib.hid fun u => by
    have h := sbytes_any (wd ell 4) u hol
    rwa [lv_ell] at h
  have RO : Hid (∀ V, SG V → V.rangeAt 0 0 ((wd ell 4).map b64)) := Lib.hid fun V h => h.r
  generalize wd ell 4 = O at *
  generalize sk ell = kb at *
  have SO := Lib.hid (szS4 hol)
  have SZ := Lib.hid (szKy hkl)
  have L1 : Hid ((kb.map b8).length = (z8 32).length) := Lib.hid (by rw [z8_32, List.length_map, hkl])
  have hM := Lib.hid (Mv.nil w)
  go_enter Tryd.func15, Tryd.ntmps15
  go_upto_region 0 with fail; refine wp_region_lit ?_
  refine wpList_val (run_alc (vs := z8 32) rfl (by kernel_rfl)) rfl ?_; (try simp only [Act.put, List.setIfInBounds_toArray, List.set_cons_zero]); replace hM := Lib.hid (hM.out.new (z8 32) 24); generalize w.alloc (.cells (z8 32).toArray 24) = a1 at *; generalize w.heap.size = g1 at *
  refine wpList_end ?_
  go_upto_region 1 with fail; refine wp_region_lit ?_
  refine wpList_val (run_ldM (vs := O.map b64) rfl Tryd.underlying48 rfl SO.out rfl (RO.out _ (HG.out.below hM.out.bl))) rfl ?_; (try simp only [Act.put, List.setIfInBounds_toArray, List.set_cons_zero, List.set_cons_succ])
  refine wpList_enter (run_call1 enters_sbytes rfl rfl rfl) rfl (CB.out _) (fun a2 hb => ?_); (try simp only [Act.put, List.setIfInBounds_toArray, List.set_cons_zero, List.set_cons_succ]); replace hM := Lib.hid (hM.out.below hb); clear hb
  refine wpList_skip (run_stM (vs := kb.map b8) rfl SZ.out rfl rfl (one8s _) (by rw [L1.out]; exact (hM.out.get (i := 0) rfl).there)) rfl rfl ?_; replace hM := Lib.hid (hM.out.put 0 rfl (m := kb.map b8) (L1.out))
  refine wpList_end ?_; go_wp2_with fail; refine bodyPost_ret (v := .agg (kb.map b8).toArray) (results_rowB Tryd.results15 rfl Tryd.underlying24 rfl SZ.out (hM.out.get (i := 0) rfl).range) rfl ⟨rfl, hM.out.bl⟩
theorem enters_sorder : Enters 15 := enters_of Tryd.func15 (by kernel_rfl) rfl

set_option maxHeartbeats 8000000 in
theorem scanon_any (k : List (BitVec 8)) (w : World) (hk : k.length = 32) (hG : SG w) : Calls Tryd.prog 13 #[.agg (k.map b8).toArray] w fun e w' => e = .returned (.bool (decide (leB k < ell))) ∧ Below w.heap.size w w' := by
  have HG := Lib.hid hG; clear hG
  have hkl := wd_len (leB k) 4
  have hol := wd_len ell 4
  have CR : Hid (∀ u : World, Calls Tryd.prog 23 #[.agg (k.map b8).toArray] u fun e w' => e = .returned (.agg ((wd (leB k) 4).map b64).toArray) ∧ Below u.heap.size u w') := Lib.hid fun u => sread_any k u hk
  have CM : Hid (∀ u : World, Calls Tryd.prog 29 #[.agg ((wd (leB k) 4).map b64).toArray, .agg ((wd ell 4).map b64).toArray] u fun e w' => e = .returned (.tuple #[.agg ((wd ((lv (wd (leB k) 4) + 2 ^ 256 - lv (wd ell 4)) % 2 ^ 256) 4).map b64).toArray, b64 (if lv (wd (leB k) 4) < lv (wd ell 4) then 1 else 0)]) ∧ Below u.heap.size u w') := Lib.hid fun u => sminus_any _ _ u hkl hol
  rw [lv_ell, lv_key hk] at CM
  have HE : Hid (decide ((if leB k < ell then (1 : BitVec 64) else 0) = 1) = decide (leB k < ell)) := Lib.hid (by
    by_cases h : leB k < ell
    · simp [h]
    · simp [h])
  have hRl := wd_len ((leB k + 2 ^ 256 - ell) % 2 ^ 256) 4
  have RO : Hid (∀ V, SG V → V.rangeAt 0 0 ((wd ell 4).map b64)) := Lib.hid fun V h => h.r
  generalize wd ((leB k + 2 ^ 256 - ell) % 2 ^ 256) 4 = R at *
  generalize wd ell 4 = O at *
  generalize wd (leB k) 4 = K at *
  generalize (if leB k < ell then (1 : BitVec 64) else 0) = C at *
  generalize decide (leB k < ell) = res at *
  have SO := Lib.hid (szS4 hol)
  have SR := Lib.hid (szS4 hRl)
  have SK := Lib.hid (szKy hk)
  have LR : Hid ((R.map b64).length = (z64 4).length) := Lib.hid (by rw [List.length_map, hRl]; rfl)
  have hM := Lib.hid (Mv.nil w)
  go_enter Tryd.func13, Tryd.ntmps13
  go_upto_region 0 with fail; refine wp_region_lit ?_
  refine wpList_val (run_boxL8 (vs := k.map b8) rfl rfl) rfl ?_; (try simp only [Act.put, List.setIfInBounds_toArray, List.set_cons_zero, List.set_cons_succ]); replace hM := Lib.hid (hM.out.new (k.map b8) 24); generalize w.alloc (.cells (k.map b8).toArray 24) = a1 at *; generalize w.heap.size = g1 at *
  (repeat ((first | refine wpList_val (run_mv (v := b32 _) rfl rfl) rfl ?_ | refine wpList_val (run_mv (v := b64 _) rfl rfl) rfl ?_ | refine wpList_val (run_mv (v := b8 _) rfl rfl) rfl ?_ | refine wpList_val (run_mv (v := .int _ _) rfl rfl) rfl ?_ | refine wpList_val (run_mv (v := .bool _) rfl rfl) rfl ?_ | refine wpList_val (run_mv (v := .slice (some _) _ _) rfl rfl) rfl ?_ | refine wpList_val (run_mv (v := .slice _ _ _) rfl rfl) rfl ?_ | refine wpList_val (run_mv (v := .pointer (some _)) rfl rfl) rfl ?_ | refine wpList_val (run_mv (v := .agg _) rfl rfl) rfl ?_ | refine wpList_val (run_asg (v := b32 _) rfl rfl) rfl ?_ | refine wpList_val (run_asg (v := b64 _) rfl rfl) rfl ?_ | refine wpList_val (run_asg (v := b8 _) rfl rfl) rfl ?_ | refine wpList_val (run_asg (v := .int _ _) rfl rfl) rfl ?_ | refine wpList_val (run_asg (v := .bool _) rfl rfl) rfl ?_ | refine wpList_val (run_asg (v := .slice (some _) _ _) rfl rfl) rfl ?_ | refine wpList_val (run_asg (v := .slice _ _ _) rfl rfl) rfl ?_ | refine wpList_val (run_asg (v := .pointer (some _)) rfl rfl) rfl ?_ | refine wpList_val (run_asg (v := .agg _) rfl rfl) rfl ?_ | refine wpList_val (run_mv rfl rfl) rfl ?_ | refine wpList_val (run_asg rfl rfl) rfl ?_ | refine wpList_val (run_xor32 rfl rfl rfl) rfl ?_ | refine wpList_val (run_and32 rfl rfl rfl) rfl ?_ | refine wpList_val (run_or32 rfl rfl rfl) rfl ?_ | refine wpList_val (run_add32 rfl rfl rfl) rfl ?_ | refine wpList_val (run_not32 rfl rfl) rfl ?_ | refine wpList_val (run_xor64 rfl rfl rfl) rfl ?_ | refine wpList_val (run_and64 rfl rfl rfl) rfl ?_ | refine wpList_val (run_or64 rfl rfl rfl) rfl ?_ | refine wpList_val (run_add64 rfl rfl rfl) rfl ?_ | refine wpList_val (run_not64 rfl rfl) rfl ?_ | refine wpList_val (run_xor8 rfl rfl rfl) rfl ?_ | refine wpList_val (run_and8 rfl rfl rfl) rfl ?_ | refine wpList_val (run_or8 rfl rfl rfl) rfl ?_ | refine wpList_val (run_add8 rfl rfl rfl) rfl ?_ | refine wpList_val (run_not8 rfl rfl) rfl ?_ | refine wpList_val (run_cv64_32 rfl rfl) rfl ?_ | refine wpList_val (run_cv8_32 rfl rfl) rfl ?_ | refine wpList_val (run_cv8_64 rfl rfl) rfl ?_ | refine wpList_val (run_cv32_8 rfl rfl) rfl ?_ | refine wpList_val (run_cv64_8 rfl rfl) rfl ?_); (try simp only [Act.put, List.setIfInBounds_toArray, List.set_cons_zero, List.set_cons_succ])))
  refine wpList_end ?_
  go_upto_region 1 with fail
  go_cut [4] (fun s4 u => s4 = b64 C ∧ Below w.heap.size w u)
  case first =>
    have hD : Hid (∀ V, Below a1.heap.size a1 V → V.rangeAt 0 0 (O.map b64)) := Lib.hid fun V hV => RO.out _ (HG.out.below (hM.out.below hV).bl)
    refine wp_region_noPanic ?_; refine wp_region_late (S := fun _ V => Below a1.heap.size a1 V) (by kernel_rfl) ((Below.refl _ _).drew) (fun hS => ?_)
    refine wpAnyL_take 0 rfl rfl (by kernel_rfl) (by kernel_rfl) (by kernel_rfl) (fun _ _ _ h => h) rfl (fun V hV => run_ldM (vs := k.map b8) rfl Tryd.underlying24 rfl SK.out rfl ((hM.out.below hV).get (i := 0) rfl).range) hS ?_; (try simp only [Act.put, List.setIfInBounds_toArray, List.set_cons_zero, List.set_cons_succ])
    refine wpAnyL_take 2 rfl rfl (by kernel_rfl) (by kernel_rfl) (by kernel_rfl) (fun _ _ _ h => h) rfl (fun V hV => run_ldM (vs := O.map b64) rfl Tryd.underlying48 rfl SO.out rfl (hD.out V hV)) hS ?_; (try simp only [Act.put, List.setIfInBounds_toArray, List.set_cons_zero, List.set_cons_succ])
    generalize a1.drew = aX at *
    refine wpAnyL_two 1 7 (by kernel_rfl) ?_ ?_
    · refine wpOp_call 1 rfl rfl rfl (run_call1 enters_sread rfl rfl rfl) (calls_eq (CR.out _)) (fun v c1 hR => ?_); (try simp only [Act.put, List.setIfInBounds_toArray, List.set_cons_zero, List.set_cons_succ])
      obtain ⟨rfl, hb⟩ := hR
      replace hS := hS.trans (hb.mono hS.size)
      clear hb
      refine ⟨hS, ?_⟩
      refine wpAnyL_two 3 7 (by kernel_rfl) ?_ ?_
      · refine wpOp_call 3 rfl rfl rfl (run_call2 enters_sminus rfl rfl rfl rfl) (calls_eq (CM.out _)) (fun v c2 hR => ?_); (try simp only [Act.put, List.setIfInBounds_toArray, List.set_cons_zero, List.set_cons_succ])
        obtain ⟨rfl, hb⟩ := hR
        replace hS := hS.trans (hb.mono hS.size)
        clear hb
        refine ⟨hS, ?_⟩
        refine wpAnyL_take 4 rfl rfl (by kernel_rfl) (by kernel_rfl) (by kernel_rfl) (fun _ _ _ h => h) rfl (fun V hV => run_mv (v := .tuple #[.agg (R.map b64).toArray, b64 C]) rfl rfl) hS ?_; (try simp only [Act.put, List.setIfInBounds_toArray, List.set_cons_zero, List.set_cons_succ])
        refine wpAnyL_take 5 rfl rfl (by kernel_rfl) (by kernel_rfl) (by kernel_rfl) (fun _ _ _ h => h) rfl (fun V hV => run_xtr (v := .agg (R.map b64).toArray) rfl rfl rfl) hS ?_; (try simp only [Act.put, List.setIfInBounds_toArray, List.set_cons_zero, List.set_cons_succ])
        refine wpAnyL_take 6 rfl rfl (by kernel_rfl) (by kernel_rfl) (by kernel_rfl) (fun _ _ _ h => h) rfl (fun V hV => run_xtr (v := b64 C) rfl rfl rfl) hS ?_; (try simp only [Act.put, List.setIfInBounds_toArray, List.set_cons_zero, List.set_cons_succ])
        refine wpAnyL_val 7 (by kernel_rfl) rfl rfl rfl (run_alc (vs := z64 4) rfl (by kernel_rfl)) (hS.alloc hS.size _) ?_; (try simp only [Act.put, List.setIfInBounds_toArray, List.set_cons_zero, List.set_cons_succ])
        have A1 := Lib.hid (Arr.new c2 (z64 4) 48)
        have hg := hS.size
        replace hS := hS.alloc hg (.cells (z64 4).toArray 48)
        generalize c2.alloc (.cells (z64 4).toArray 48) = d_c2 at *
        generalize c2.heap.size = g at *
        refine wpAnyL_skip 8 (by kernel_rfl) rfl rfl rfl (run_stM (vs := R.map b64) rfl SR.out rfl rfl (one64s _) (by rw [LR.out]; exact A1.out.there)) (below_setCells hg _ _ hS) ?_
        replace hS := below_setCells hg (R.map b64) 0 hS
        refine wpAnyL_take 9 rfl rfl (by kernel_rfl) (by kernel_rfl) (by kernel_rfl) (fun _ _ _ h => h) rfl (fun V hV => run_asg (v := b64 C) rfl rfl) hS ?_; (try simp only [Act.put, List.setIfInBounds_toArray, List.set_cons_zero, List.set_cons_succ])
        refine wpAnyL_done (by kernel_rfl) ?_ _; refine NoPanic.normal ?_
        go_wp2_with fail
        go_meet
        exact ⟨rfl, hM.out.bl.trans (hS.mono hM.out.bl.size)⟩
      · refine wpOp_val 7 rfl rfl rfl (run_alc (vs := z64 4) rfl (by kernel_rfl)) ?_; (try simp only [Act.put, List.setIfInBounds_toArray, List.set_cons_zero, List.set_cons_succ])
        have A1 := Lib.hid (Arr.new c1 (z64 4) 48)
        have hg := hS.size
        replace hS := hS.alloc hg (.cells (z64 4).toArray 48)
        generalize c1.alloc (.cells (z64 4).toArray 48) = d_c1 at *
        generalize c1.heap.size = g at *
        refine ⟨hS, ?_⟩
        refine wpAnyL_call 3 (by kernel_rfl) rfl rfl rfl (run_call2 enters_sminus rfl rfl rfl rfl) (calls_eq (CM.out _)) (fun v w h => hS.trans (h.2.mono hS.size)) (fun v c3 hR => ?_); (try simp only [Act.put, List.setIfInBounds_toArray, List.set_cons_zero, List.set_cons_succ])
        obtain ⟨rfl, hb⟩ := hR
        replace hS := hS.trans (hb.mono hS.size)
        replace A1 := Lib.hid (A1.out.below hb)
        clear hb
        refine wpAnyL_take 4 rfl rfl (by kernel_rfl) (by kernel_rfl) (by kernel_rfl) (fun _ _ _ h => h) rfl (fun V hV => run_mv (v := .tuple #[.agg (R.map b64).toArray, b64 C]) rfl rfl) hS ?_; (try simp only [Act.put, List.setIfInBounds_toArray, List.set_cons_zero, List.set_cons_succ])
        refine wpAnyL_take 5 rfl rfl (by kernel_rfl) (by kernel_rfl) (by kernel_rfl) (fun _ _ _ h => h) rfl (fun V hV => run_xtr (v := .agg (R.map b64).toArray) rfl rfl rfl) hS ?_; (try simp only [Act.put, List.setIfInBounds_toArray, List.set_cons_zero, List.set_cons_succ])
        refine wpAnyL_take 6 rfl rfl (by kernel_rfl) (by kernel_rfl) (by kernel_rfl) (fun _ _ _ h => h) rfl (fun V hV => run_xtr (v := b64 C) rfl rfl rfl) hS ?_; (try simp only [Act.put, List.setIfInBounds_toArray, List.set_cons_zero, List.set_cons_succ])
        refine wpAnyL_skip 8 (by kernel_rfl) rfl rfl rfl (run_stM (vs := R.map b64) rfl SR.out rfl rfl (one64s _) (by rw [LR.out]; exact A1.out.there)) (below_setCells hg _ _ hS) ?_
        replace hS := below_setCells hg (R.map b64) 0 hS
        refine wpAnyL_take 9 rfl rfl (by kernel_rfl) (by kernel_rfl) (by kernel_rfl) (fun _ _ _ h => h) rfl (fun V hV => run_asg (v := b64 C) rfl rfl) hS ?_; (try simp only [Act.put, List.setIfInBounds_toArray, List.set_cons_zero, List.set_cons_succ])
        refine wpAnyL_done (by kernel_rfl) ?_ _; refine NoPanic.normal ?_
        go_wp2_with fail
        go_meet
        exact ⟨rfl, hM.out.bl.trans (hS.mono hM.out.bl.size)⟩
    · refine wpOp_val 7 rfl rfl rfl (run_alc (vs := z64 4) rfl (by kernel_rfl)) ?_; (try simp only [Act.put, List.setIfInBounds_toArray, List.set_cons_zero, List.set_cons_succ])
      have A1 := Lib.hid (Arr.new aX (z64 4) 48)
      have hg := hS.size
      replace hS := hS.alloc hg (.cells (z64 4).toArray 48)
      generalize aX.alloc (.cells (z64 4).toArray 48) = d_aX at *
      generalize aX.heap.size = g at *
      refine ⟨hS, ?_⟩
      refine wpAnyL_call 1 (by kernel_rfl) rfl rfl rfl (run_call1 enters_sread rfl rfl rfl) (calls_eq (CR.out _)) (fun v w h => hS.trans (h.2.mono hS.size)) (fun v c4 hR => ?_); (try simp only [Act.put, List.setIfInBounds_toArray, List.set_cons_zero, List.set_cons_succ])
      obtain ⟨rfl, hb⟩ := hR
      replace hS := hS.trans (hb.mono hS.size)
      replace A1 := Lib.hid (A1.out.below hb)
      clear hb
      refine wpAnyL_call 3 (by kernel_rfl) rfl rfl rfl (run_call2 enters_sminus rfl rfl rfl rfl) (calls_eq (CM.out _)) (fun v w h => hS.trans (h.2.mono hS.size)) (fun v c5 hR => ?_); (try simp only [Act.put, List.setIfInBounds_toArray, List.set_cons_zero, List.set_cons_succ])
      obtain ⟨rfl, hb⟩ := hR
      replace hS := hS.trans (hb.mono hS.size)
      replace A1 := Lib.hid (A1.out.below hb)
      clear hb
      refine wpAnyL_take 4 rfl rfl (by kernel_rfl) (by kernel_rfl) (by kernel_rfl) (fun _ _ _ h => h) rfl (fun V hV => run_mv (v := .tuple #[.agg (R.map b64).toArray, b64 C]) rfl rfl) hS ?_; (try simp only [Act.put, List.setIfInBounds_toArray, List.set_cons_zero, List.set_cons_succ])
      refine wpAnyL_take 5 rfl rfl (by kernel_rfl) (by kernel_rfl) (by kernel_rfl) (fun _ _ _ h => h) rfl (fun V hV => run_xtr (v := .agg (R.map b64).toArray) rfl rfl rfl) hS ?_; (try simp only [Act.put, List.setIfInBounds_toArray, List.set_cons_zero, List.set_cons_succ])
      refine wpAnyL_take 6 rfl rfl (by kernel_rfl) (by kernel_rfl) (by kernel_rfl) (fun _ _ _ h => h) rfl (fun V hV => run_xtr (v := b64 C) rfl rfl rfl) hS ?_; (try simp only [Act.put, List.setIfInBounds_toArray, List.set_cons_zero, List.set_cons_succ])
      refine wpAnyL_skip 8 (by kernel_rfl) rfl rfl rfl (run_stM (vs := R.map b64) rfl SR.out rfl rfl (one64s _) (by rw [LR.out]; exact A1.out.there)) (below_setCells hg _ _ hS) ?_
      replace hS := below_setCells hg (R.map b64) 0 hS
      refine wpAnyL_take 9 rfl rfl (by kernel_rfl) (by kernel_rfl) (by kernel_rfl) (fun _ _ _ h => h) rfl (fun V hV => run_asg (v := b64 C) rfl rfl) hS ?_; (try simp only [Act.put, List.setIfInBounds_toArray, List.set_cons_zero, List.set_cons_succ])
      refine wpAnyL_done (by kernel_rfl) ?_ _; refine NoPanic.normal ?_
      go_wp2_with fail
      go_meet
      exact ⟨rfl, hM.out.bl.trans (hS.mono hM.out.bl.size)⟩
  case rest =>
    obtain ⟨rfl, bl⟩ := hcut
    generalize hw7 : wc = a7 at *
    clear hw7
    go_upto_region 2 with fail; refine wp_region_lit ?_
    (repeat ((first | refine wpList_val (run_mv (v := b32 _) rfl rfl) rfl ?_ | refine wpList_val (run_mv (v := b64 _) rfl rfl) rfl ?_ | refine wpList_val (run_mv (v := b8 _) rfl rfl) rfl ?_ | refine wpList_val (run_mv (v := .int _ _) rfl rfl) rfl ?_ | refine wpList_val (run_mv (v := .bool _) rfl rfl) rfl ?_ | refine wpList_val (run_mv (v := .slice (some _) _ _) rfl rfl) rfl ?_ | refine wpList_val (run_mv (v := .slice _ _ _) rfl rfl) rfl ?_ | refine wpList_val (run_mv (v := .pointer (some _)) rfl rfl) rfl ?_ | refine wpList_val (run_mv (v := .agg _) rfl rfl) rfl ?_ | refine wpList_val (run_asg (v := b32 _) rfl rfl) rfl ?_ | refine wpList_val (run_asg (v := b64 _) rfl rfl) rfl ?_ | refine wpList_val (run_asg (v := b8 _) rfl rfl) rfl ?_ | refine wpList_val (run_asg (v := .int _ _) rfl rfl) rfl ?_ | refine wpList_val (run_asg (v := .bool _) rfl rfl) rfl ?_ | refine wpList_val (run_asg (v := .slice (some _) _ _) rfl rfl) rfl ?_ | refine wpList_val (run_asg (v := .slice _ _ _) rfl rfl) rfl ?_ | refine wpList_val (run_asg (v := .pointer (some _)) rfl rfl) rfl ?_ | refine wpList_val (run_asg (v := .agg _) rfl rfl) rfl ?_ | refine wpList_val (run_mv rfl rfl) rfl ?_ | refine wpList_val (run_asg rfl rfl) rfl ?_ | refine wpList_val (run_xor32 rfl rfl rfl) rfl ?_ | refine wpList_val (run_and32 rfl rfl rfl) rfl ?_ | refine wpList_val (run_or32 rfl rfl rfl) rfl ?_ | refine wpList_val (run_add32 rfl rfl rfl) rfl ?_ | refine wpList_val (run_not32 rfl rfl) rfl ?_ | refine wpList_val (run_xor64 rfl rfl rfl) rfl ?_ | refine wpList_val (run_and64 rfl rfl rfl) rfl ?_ | refine wpList_val (run_or64 rfl rfl rfl) rfl ?_ | refine wpList_val (run_add64 rfl rfl rfl) rfl ?_ | refine wpList_val (run_not64 rfl rfl) rfl ?_ | refine wpList_val (run_xor8 rfl rfl rfl) rfl ?_ | refine wpList_val (run_and8 rfl rfl rfl) rfl ?_ | refine wpList_val (run_or8 rfl rfl rfl) rfl ?_ | refine wpList_val (run_add8 rfl rfl rfl) rfl ?_ | refine wpList_val (run_not8 rfl rfl) rfl ?_ | refine wpList_val (run_cv64_32 rfl rfl) rfl ?_ | refine wpList_val (run_cv8_32 rfl rfl) rfl ?_ | refine wpList_val (run_cv8_64 rfl rfl) rfl ?_ | refine wpList_val (run_cv32_8 rfl rfl) rfl ?_ | refine wpList_val (run_cv64_8 rfl rfl) rfl ?_); (try simp only [Act.put, List.setIfInBounds_toArray, List.set_cons_zero, List.set_cons_succ])))
    refine wpList_val (run_eqW rfl rfl rfl HE.out) rfl ?_; (try simp only [Act.put, List.setIfInBounds_toArray, List.set_cons_zero, List.set_cons_succ])
    (repeat ((first | refine wpList_val (run_mv (v := b32 _) rfl rfl) rfl ?_ | refine wpList_val (run_mv (v := b64 _) rfl rfl) rfl ?_ | refine wpList_val (run_mv (v := b8 _) rfl rfl) rfl ?_ | refine wpList_val (run_mv (v := .int _ _) rfl rfl) rfl ?_ | refine wpList_val (run_mv (v := .bool _) rfl rfl) rfl ?_ | refine wpList_val (run_mv (v := .slice (some _) _ _) rfl rfl) rfl ?_ | refine wpList_val (run_mv (v := .slice _ _ _) rfl rfl) rfl ?_ | refine wpList_val (run_mv (v := .pointer (some _)) rfl rfl) rfl ?_ | refine wpList_val (run_mv (v := .agg _) rfl rfl) rfl ?_ | refine wpList_val (run_asg (v := b32 _) rfl rfl) rfl ?_ | refine wpList_val (run_asg (v := b64 _) rfl rfl) rfl ?_ | refine wpList_val (run_asg (v := b8 _) rfl rfl) rfl ?_ | refine wpList_val (run_asg (v := .int _ _) rfl rfl) rfl ?_ | refine wpList_val (run_asg (v := .bool _) rfl rfl) rfl ?_ | refine wpList_val (run_asg (v := .slice (some _) _ _) rfl rfl) rfl ?_ | refine wpList_val (run_asg (v := .slice _ _ _) rfl rfl) rfl ?_ | refine wpList_val (run_asg (v := .pointer (some _)) rfl rfl) rfl ?_ | refine wpList_val (run_asg (v := .agg _) rfl rfl) rfl ?_ | refine wpList_val (run_mv rfl rfl) rfl ?_ | refine wpList_val (run_asg rfl rfl) rfl ?_ | refine wpList_val (run_xor32 rfl rfl rfl) rfl ?_ | refine wpList_val (run_and32 rfl rfl rfl) rfl ?_ | refine wpList_val (run_or32 rfl rfl rfl) rfl ?_ | refine wpList_val (run_add32 rfl rfl rfl) rfl ?_ | refine wpList_val (run_not32 rfl rfl) rfl ?_ | refine wpList_val (run_xor64 rfl rfl rfl) rfl ?_ | refine wpList_val (run_and64 rfl rfl rfl) rfl ?_ | refine wpList_val (run_or64 rfl rfl rfl) rfl ?_ | refine wpList_val (run_add64 rfl rfl rfl) rfl ?_ | refine wpList_val (run_not64 rfl rfl) rfl ?_ | refine wpList_val (run_xor8 rfl rfl rfl) rfl ?_ | refine wpList_val (run_and8 rfl rfl rfl) rfl ?_ | refine wpList_val (run_or8 rfl rfl rfl) rfl ?_ | refine wpList_val (run_add8 rfl rfl rfl) rfl ?_ | refine wpList_val (run_not8 rfl rfl) rfl ?_ | refine wpList_val (run_cv64_32 rfl rfl) rfl ?_ | refine wpList_val (run_cv8_32 rfl rfl) rfl ?_ | refine wpList_val (run_cv8_64 rfl rfl) rfl ?_ | refine wpList_val (run_cv32_8 rfl rfl) rfl ?_ | refine wpList_val (run_cv64_8 rfl rfl) rfl ?_); (try simp only [Act.put, List.setIfInBounds_toArray, List.set_cons_zero, List.set_cons_succ])))
    refine wpList_end ?_
    go_wp2_with fail
    go_ret
    exact ⟨rfl, bl⟩
theorem enters_scanon : Enters 13 := enters_of Tryd.func13 (by kernel_rfl) rfl

set_option maxHeartbeats 8000000 in
theorem smad_any (a b c : List (BitVec 8)) (w : World) (ha : a.length = 32) (hb : b.length = 32) (hc : c.length = 32) (hG : SG w) : Calls Tryd.prog 8 #[.agg (a.map b8).toArray, .agg (b.map b8).toArray, .agg (c.map b8).toArray] w fun e w' => e = .returned (.agg ((sk ((leB a * leB b + leB c) % ell)).map b8).toArray) ∧ Below w.heap.size w w' := by
  have HG := Lib.hid hG; clear hG
  obtain ⟨A, hA⟩ : ∃ A, A = wd (leB a) 4 := ⟨_, rfl⟩
  obtain ⟨B, hB⟩ : ∃ B, B = wd (leB b) 4 := ⟨_, rfl⟩
  obtain ⟨C, hC⟩ : ∃ C, C = wd (leB c) 4 := ⟨_, rfl⟩
  have lA : A.length = 4 := by rw [hA]; exact wd_len _ _
  have lB : B.length = 4 := by rw [hB]; exact wd_len _ _
  have lC : C.length = 4 := by rw [hC]; exact wd_len _ _
  have CA : Hid (∀ u : World, Calls Tryd.prog 23 #[.agg (a.map b8).toArray] u fun e w' => e = .returned (.agg (A.map b64).toArray) ∧ Below u.heap.size u w') := Lib.hid fun u => by rw [hA]; exact sread_any a u ha
  have CB : Hid (∀ u : World, Calls Tryd.prog 23 #[.agg (b.map b8).toArray] u fun e w' => e = .returned (.agg (B.map b64).toArray) ∧ Below u.heap.size u w') := Lib.hid fun u => by rw [hB]; exact sread_any b u hb
  have CC : Hid (∀ u : World, Calls Tryd.prog 23 #[.agg (c.map b8).toArray] u fun e w' => e = .returned (.agg (C.map b64).toArray) ∧ Below u.heap.size u w') := Lib.hid fun u => by rw [hC]; exact sread_any c u hc
  have lJ : (C ++ List.replicate 4 0).length = 8 := by rw [List.length_append, lC]; rfl
  have CJ : Hid (∀ u : World, Calls Tryd.prog 22 #[.agg (C.map b64).toArray, .agg ((List.replicate 4 (0 : BitVec 64)).map b64).toArray] u fun e w' => e = .returned (.agg ((C ++ List.replicate 4 0).map b64).toArray) ∧ Below u.heap.size u w') := Lib.hid fun u => sjoin_any C (List.replicate 4 0) u lC rfl
  have eJ : lv (C ++ List.replicate 4 0) = leB c := by rw [lv_append, show lv (List.replicate 4 0) = 0 by decide, Nat.mul_zero, Nat.add_zero, hC, lv_key hc]
  have eN : lv (wd ((leB c + leB a * leB b) % 2 ^ 512) 8) = leB a * leB b + leB c := mad_words a b c ha hb hc
  have CT : Hid (∀ u : World, Calls Tryd.prog 24 #[.agg ((C ++ List.replicate 4 0).map b64).toArray, .agg (A.map b64).toArray, .agg (B.map b64).toArray] u fun e w' => e = .returned (.agg ((wd ((leB c + leB a * leB b) % 2 ^ 512) 8).map b64).toArray) ∧ Below u.heap.size u w') := Lib.hid fun u => by
    have h := stimes_any (C ++ List.replicate 4 0) A B u lJ lA lB
    rwa [eJ, hA, hB, lv_key ha, lv_key hb, ← hA, ← hB] at h
  have CR : Hid (∀ u : World, SG u → Calls Tryd.prog 25 #[.agg ((wd ((leB c + leB a * leB b) % 2 ^ 512) 8).map b64).toArray] u fun e w' => e = .returned (.agg ((wd ((leB a * leB b + leB c) % ell) 4).map b64).toArray) ∧ Below u.heap.size u w') := Lib.hid fun u h => by
    have h := srest_any (wd ((leB c + leB a * leB b) % 2 ^ 512) 8) u (wd_len _ _) h
    rwa [eN] at h
  have CY : Hid (∀ u : World, Calls Tryd.prog 26 #[.agg ((wd ((leB a * leB b + leB c) % ell) 4).map b64).toArray] u fun e w' => e = .returned (.agg ((sk ((leB a * leB b + leB c) % ell)).map b8).toArray) ∧ Below u.heap.size u w') := Lib.hid fun u => by
    have h := sbytes_any (wd ((leB a * leB b + leB c) % ell) 4) u (wd_len _ _)
    rwa [sk_word (Nat.mod_lt _ ell_pos)] at h
  have hkl := sk_len ((leB a * leB b + leB c) % ell)
  clear hA hB hC eJ eN lJ
  generalize sk ((leB a * leB b + leB c) % ell) = kb at *
  generalize wd ((leB a * leB b + leB c) % ell) 4 = Y at *
  generalize wd ((leB c + leB a * leB b) % 2 ^ 512) 8 = N at *
  generalize C ++ List.replicate 4 0 = J at *
  have BD := Lib.hid build4
  generalize (List.replicate 4 (0 : BitVec 64)).map b64 = Z4 at *
  have SA := Lib.hid (szKy ha)
  have SB := Lib.hid (szKy hb)
  have SC := Lib.hid (szKy hc)
  have SZ := Lib.hid (szKy hkl)
  have L1 : Hid ((kb.map b8).length = (z8 32).length) := Lib.hid (by rw [z8_32, List.length_map, hkl])
  have hM := Lib.hid (Mv.nil w)
  go_enter Tryd.func8, Tryd.ntmps8
  go_upto_region 0 with fail; refine wp_region_lit ?_
  refine wpList_val (run_boxL8 (vs := a.map b8) rfl rfl) rfl ?_; (try simp only [Act.put, List.setIfInBounds_toArray, List.set_cons_zero, List.set_cons_succ]); replace hM := Lib.hid (hM.out.new (a.map b8) 24); generalize w.alloc (.cells (a.map b8).toArray 24) = a1 at *; generalize w.heap.size = g1 at *
  refine wpList_val (run_boxL8 (vs := b.map b8) rfl rfl) rfl ?_; (try simp only [Act.put, List.setIfInBounds_toArray, List.set_cons_zero, List.set_cons_succ]); replace hM := Lib.hid (hM.out.new (b.map b8) 24); generalize a1.alloc (.cells (b.map b8).toArray 24) = a2 at *; generalize a1.heap.size = g2 at *
  refine wpList_val (run_boxL8 (vs := c.map b8) rfl rfl) rfl ?_; (try simp only [Act.put, List.setIfInBounds_toArray, List.set_cons_zero, List.set_cons_succ]); replace hM := Lib.hid (hM.out.new (c.map b8) 24); generalize a2.alloc (.cells (c.map b8).toArray 24) = a3 at *; generalize a2.heap.size = g3 at *
  refine wpList_val (run_alc (vs := z8 32) rfl (by kernel_rfl)) rfl ?_; (try simp only [Act.put, List.setIfInBounds_toArray, List.set_cons_zero, List.set_cons_succ]); replace hM := Lib.hid (hM.out.new (z8 32) 24); generalize a3.alloc (.cells (z8 32).toArray 24) = a4 at *; generalize a3.heap.size = g4 at *
  refine wpList_end ?_
  have hD : Hid (∀ V, Below a4.heap.size a4 V → SG V) := Lib.hid fun V hV => HG.out.below (hM.out.below hV).bl
  go_upto_region 1 with fail; refine wp_region_calm 11 (by kernel_rfl) (by kernel_rfl) ?_
  refine wpCalm_step _ (fun V hV => calm_run (run_ldM (vs := c.map b8) rfl Tryd.underlying24 rfl SC.out rfl (((hM.out.below hV).get (i := 1) rfl).range))) ?_; (try simp only [Act.put, List.setIfInBounds_toArray, List.set_cons_zero, List.set_cons_succ])
  refine wpCalm_step _ (fun V hV => calm_enter (run_call1 enters_sread rfl rfl rfl) (CC.out V)) ?_; (try simp only [Act.put, List.setIfInBounds_toArray, List.set_cons_zero, List.set_cons_succ])
  refine wpCalm_step _ (fun V hV => calm_run (run_bldW0 (cells := Z4.toArray) rfl BD.out)) ?_; (try simp only [Act.put, List.setIfInBounds_toArray, List.set_cons_zero, List.set_cons_succ])
  refine wpCalm_step _ (fun V hV => calm_enter (run_call2 enters_sjoin rfl rfl rfl rfl) (CJ.out V)) ?_; (try simp only [Act.put, List.setIfInBounds_toArray, List.set_cons_zero, List.set_cons_succ])
  refine wpCalm_step _ (fun V hV => calm_run (run_ldM (vs := a.map b8) rfl Tryd.underlying24 rfl SA.out rfl (((hM.out.below hV).get (i := 3) rfl).range))) ?_; (try simp only [Act.put, List.setIfInBounds_toArray, List.set_cons_zero, List.set_cons_succ])
  refine wpCalm_step _ (fun V hV => calm_enter (run_call1 enters_sread rfl rfl rfl) (CA.out V)) ?_; (try simp only [Act.put, List.setIfInBounds_toArray, List.set_cons_zero, List.set_cons_succ])
  refine wpCalm_step _ (fun V hV => calm_run (run_ldM (vs := b.map b8) rfl Tryd.underlying24 rfl SB.out rfl (((hM.out.below hV).get (i := 2) rfl).range))) ?_; (try simp only [Act.put, List.setIfInBounds_toArray, List.set_cons_zero, List.set_cons_succ])
  refine wpCalm_step _ (fun V hV => calm_enter (run_call1 enters_sread rfl rfl rfl) (CB.out V)) ?_; (try simp only [Act.put, List.setIfInBounds_toArray, List.set_cons_zero, List.set_cons_succ])
  refine wpCalm_step _ (fun V hV => calm_enter (run_call3 enters_stimes rfl rfl rfl rfl rfl) (CT.out V)) ?_; (try simp only [Act.put, List.setIfInBounds_toArray, List.set_cons_zero, List.set_cons_succ])
  refine wpCalm_step _ (fun V hV => calm_enter (run_call1 enters_srest rfl rfl rfl) (CR.out V (hD.out V hV))) ?_; (try simp only [Act.put, List.setIfInBounds_toArray, List.set_cons_zero, List.set_cons_succ])
  refine wpCalm_step _ (fun V hV => calm_enter (run_call1 enters_sbytes rfl rfl rfl) (CY.out V)) ?_; (try simp only [Act.put, List.setIfInBounds_toArray, List.set_cons_zero, List.set_cons_succ])
  refine wpCalm_done ?_; intro a5 hb; simp only [List.drop_succ_cons, List.drop_zero]
  replace hM := Lib.hid (hM.out.below hb)
  clear hb
  refine wpList_skip (run_stM (vs := kb.map b8) rfl SZ.out rfl rfl (one8s _) (by rw [L1.out]; exact (hM.out.get (i := 0) rfl).there)) rfl rfl ?_; replace hM := Lib.hid (hM.out.put 0 rfl (m := kb.map b8) (L1.out))
  refine wpList_end ?_; go_wp2_with fail; refine bodyPost_ret (v := .agg (kb.map b8).toArray) (results_rowB Tryd.results8 rfl Tryd.underlying24 rfl SZ.out (hM.out.get (i := 0) rfl).range) rfl ⟨rfl, hM.out.bl⟩
theorem enters_smad : Enters 8 := enters_of Tryd.func8 (by kernel_rfl) rfl

set_option maxHeartbeats 8000000 in
theorem sreduce_any (s : List (BitVec 8)) (w : World) (hs : s.length = 64) (hG : SG w) : Calls Tryd.prog 11 #[.agg (s.map b8).toArray] w fun e w' => e = .returned (.agg ((sk (leB s % ell)).map b8).toArray) ∧ Below w.heap.size w w' := by
  have HG := Lib.hid hG; clear hG
  obtain ⟨a, ha⟩ : ∃ a, a = s.take 32 := ⟨_, rfl⟩
  obtain ⟨b, hb⟩ : ∃ b, b = s.drop 32 := ⟨_, rfl⟩
  have la : a.length = 32 := by rw [ha, List.length_take, hs]; rfl
  have lb : b.length = 32 := by rw [hb, List.length_drop, hs]
  have es : s = a ++ b := by rw [ha, hb, List.take_append_drop]
  have R1 : Hid (∀ (V : World) (g : Nat), Arr g (s.map b8) V → V.rangeAt g 0 (a.map b8)) := Lib.hid fun V g h => by rw [ha, List.map_take]; exact rangeAt_take h.range
  have R2 : Hid (∀ (V : World) (g : Nat), Arr g (s.map b8) V → V.rangeAt g (0 + 32) (b.map b8)) := Lib.hid fun V g h => by rw [hb, List.map_drop]; exact rangeAt_drop h.range
  have eV : leB s = lv (wd (leB a) 4 ++ wd (leB b) 4) := by
    have e : (256 : Nat) ^ 32 = 2 ^ (64 * 4) := by decide +kernel
    rw [es, leB_append, la, lv_append, wd_len, lv_key la, lv_key lb, e]
  clear ha hb es
  rw [eV]
  clear eV
  have CA : Hid (∀ u : World, Calls Tryd.prog 23 #[.agg (a.map b8).toArray] u fun e w' => e = .returned (.agg ((wd (leB a) 4).map b64).toArray) ∧ Below u.heap.size u w') := Lib.hid fun u => sread_any a u la
  have CB : Hid (∀ u : World, Calls Tryd.prog 23 #[.agg (b.map b8).toArray] u fun e w' => e = .returned (.agg ((wd (leB b) 4).map b64).toArray) ∧ Below u.heap.size u w') := Lib.hid fun u => sread_any b u lb
  have l1 := wd_len (leB a) 4
  have l2 := wd_len (leB b) 4
  generalize wd (leB a) 4 = A at *
  generalize wd (leB b) 4 = B at *
  have CJ : Hid (∀ u : World, Calls Tryd.prog 22 #[.agg (A.map b64).toArray, .agg (B.map b64).toArray] u fun e w' => e = .returned (.agg ((A ++ B).map b64).toArray) ∧ Below u.heap.size u w') := Lib.hid fun u => sjoin_any A B u l1 l2
  have lJ : (A ++ B).length = 8 := by rw [List.length_append, l1, l2]
  generalize A ++ B = J at *
  have CR : Hid (∀ u : World, SG u → Calls Tryd.prog 25 #[.agg (J.map b64).toArray] u fun e w' => e = .returned (.agg ((wd (lv J % ell) 4).map b64).toArray) ∧ Below u.heap.size u w') := Lib.hid fun u h => srest_any J u lJ h
  have CY : Hid (∀ u : World, Calls Tryd.prog 26 #[.agg ((wd (lv J % ell) 4).map b64).toArray] u fun e w' => e = .returned (.agg ((sk (lv J % ell)).map b8).toArray) ∧ Below u.heap.size u w') := Lib.hid fun u => by
    have h := sbytes_any (wd (lv J % ell) 4) u (wd_len _ _)
    rwa [sk_word (Nat.mod_lt _ ell_pos)] at h
  have hkl := sk_len (lv J % ell)
  generalize sk (lv J % ell) = kb at *
  generalize wd (lv J % ell) 4 = Y at *
  have SA := Lib.hid (szKy la)
  have SB := Lib.hid (szKy lb)
  have SZ := Lib.hid (szKy hkl)
  have L1 : Hid ((kb.map b8).length = (z8 32).length) := Lib.hid (by rw [z8_32, List.length_map, hkl])
  have hM := Lib.hid (Mv.nil w)
  go_enter Tryd.func11, Tryd.ntmps11
  go_upto_region 0 with fail; refine wp_region_lit ?_
  refine wpList_val (run_boxL8 (vs := s.map b8) rfl rfl) rfl ?_; (try simp only [Act.put, List.setIfInBounds_toArray, List.set_cons_zero, List.set_cons_succ]); replace hM := Lib.hid (hM.out.new (s.map b8) 30); generalize w.alloc (.cells (s.map b8).toArray 30) = a1 at *; generalize w.heap.size = g1 at *
  refine wpList_val (run_alc (vs := z8 32) rfl (by kernel_rfl)) rfl ?_; (try simp only [Act.put, List.setIfInBounds_toArray, List.set_cons_zero, List.set_cons_succ]); replace hM := Lib.hid (hM.out.new (z8 32) 24); generalize a1.alloc (.cells (z8 32).toArray 24) = a2 at *; generalize a1.heap.size = g2 at *
  refine wpList_end ?_
  have hD : Hid (∀ V, Below a2.heap.size a2 V → SG V) := Lib.hid fun V hV => HG.out.below (hM.out.below hV).bl
  go_upto_region 1 with fail; refine wp_region_calm 11 (by kernel_rfl) (by kernel_rfl) ?_
  refine wpCalm_step _ (fun V hV => calm_run (run_slWh (h := 32) rfl Tryd.underlying30 (by kernel_rfl) rfl rfl (by omega))) ?_; (try simp only [Act.put, List.setIfInBounds_toArray, List.set_cons_zero, List.set_cons_succ])
  refine wpCalm_step _ (fun V hV => calm_run (run_s2a rfl Tryd.underlying24 rfl (by omega))) ?_; (try simp only [Act.put, List.setIfInBounds_toArray, List.set_cons_zero, List.set_cons_succ])
  refine wpCalm_step _ (fun V hV => calm_run (run_ldM (vs := a.map b8) rfl Tryd.underlying24 rfl SA.out rfl (R1.out _ _ ((hM.out.below hV).get (i := 1) rfl)))) ?_; (try simp only [Act.put, List.setIfInBounds_toArray, List.set_cons_zero, List.set_cons_succ])
  refine wpCalm_step _ (fun V hV => calm_enter (run_call1 enters_sread rfl rfl rfl) (CA.out V)) ?_; (try simp only [Act.put, List.setIfInBounds_toArray, List.set_cons_zero, List.set_cons_succ])
  refine wpCalm_step _ (fun V hV => calm_run (run_slWl (l := 32) rfl Tryd.underlying30 (by kernel_rfl) rfl rfl (by omega))) ?_; (try simp only [Act.put, List.setIfInBounds_toArray, List.set_cons_zero, List.set_cons_succ])
  refine wpCalm_step _ (fun V hV => calm_run (run_s2a rfl Tryd.underlying24 rfl (by omega))) ?_; (try simp only [Act.put, List.setIfInBounds_toArray, List.set_cons_zero, List.set_cons_succ])
  refine wpCalm_step _ (fun V hV => calm_run (run_ldM (vs := b.map b8) rfl Tryd.underlying24 rfl SB.out rfl (R2.out _ _ ((hM.out.below hV).get (i := 1) rfl)))) ?_; (try simp only [Act.put, List.setIfInBounds_toArray, List.set_cons_zero, List.set_cons_succ])
  refine wpCalm_step _ (fun V hV => calm_enter (run_call1 enters_sread rfl rfl rfl) (CB.out V)) ?_; (try simp only [Act.put, List.setIfInBounds_toArray, List.set_cons_zero, List.set_cons_succ])
  refine wpCalm_step _ (fun V hV => calm_enter (run_call2 enters_sjoin rfl rfl rfl rfl) (CJ.out V)) ?_; (try simp only [Act.put, List.setIfInBounds_toArray, List.set_cons_zero, List.set_cons_succ])
  refine wpCalm_step _ (fun V hV => calm_enter (run_call1 enters_srest rfl rfl rfl) (CR.out V (hD.out V hV))) ?_; (try simp only [Act.put, List.setIfInBounds_toArray, List.set_cons_zero, List.set_cons_succ])
  refine wpCalm_step _ (fun V hV => calm_enter (run_call1 enters_sbytes rfl rfl rfl) (CY.out V)) ?_; (try simp only [Act.put, List.setIfInBounds_toArray, List.set_cons_zero, List.set_cons_succ])
  refine wpCalm_done ?_; intro a5 hb; simp only [List.drop_succ_cons, List.drop_zero]
  replace hM := Lib.hid (hM.out.below hb)
  clear hb
  refine wpList_skip (run_stM (vs := kb.map b8) rfl SZ.out rfl rfl (one8s _) (by rw [L1.out]; exact (hM.out.get (i := 0) rfl).there)) rfl rfl ?_; replace hM := Lib.hid (hM.out.put 0 rfl (m := kb.map b8) (L1.out))
  refine wpList_end ?_; go_wp2_with fail; refine bodyPost_ret (v := .agg (kb.map b8).toArray) (results_rowB Tryd.results11 rfl Tryd.underlying24 rfl SZ.out (hM.out.get (i := 0) rfl).range) rfl ⟨rfl, hM.out.bl⟩
theorem enters_sreduce : Enters 11 := enters_of Tryd.func11 (by kernel_rfl) rfl
end Go.Proofs.YtefaihdhnnldmaaDoor
