/- What keywardref07.Mul answers. -/
import Derived.Test.YtfdjmdfaidiliaaGreatDoorRefEd1
import Derived.Test.YtfdjmdfaidiliaaGreatDoorEdMul2
namespace Go.Proofs.YtfdjmdfaidiliaaGreatDoor
open Go.RowKit
set_option maxRecDepth 20000

section
variable {w : World} {ρ : Operand → Value} {o : Oper} {t t' : TypeId} {x y : Operand}
theorem run_rem8b {a : BitVec 8} {c : Nat} (ho : o.op = .binOp .rem t x y t') (hx : ρ x = b8 a) (hy : ρ y = .int .u8 2) (hc : a.toNat % 2 = c) : (execOp ρ o).run Tryz.prog w = .ok (.value (.int .u8 (c : Int))) w := by
  obtain ⟨dst, op, type, pos, after, guard⟩ := o
  subst ho
  unfold b8 at hx
  have e : ((a.toNat : Int)).tmod 2 = (c : Int) := by rw [Int.tmod_eq_emod_of_nonneg (by omega)]; omega
  go_simp
  try exact e
end
theorem bit_leB {l : List (BitVec 8)} (hl : l.length = 32) {i : Nat} (hi : i < 256) : (l.getD (i / 8) 0 >>> (i % 8)).toNat % 2 = leB l / 2 ^ i % 2 := by
  have h := dv_bit (l.map (·.toNat)) (dg_bytes l) i
  have e : (l.map (·.toNat)).getD (i / 8) 0 = (l.getD (i / 8) 0).toNat := by
    rw [List.getD_eq_getElem?_getD, List.getD_eq_getElem?_getD, List.getElem?_map, List.getElem?_eq_getElem (by omega)]; rfl
  rw [e, ← leB_dv] at h
  rw [BitVec.toNat_ushiftRight, Nat.shiftRight_eq_div_pow, h]
theorem half_num (n j : Nat) : n / 2 ^ j = n / 2 ^ (j + 1) + n / 2 ^ (j + 1) + n / 2 ^ j % 2 := by
  rw [Nat.pow_succ, ← Nat.div_div_eq_div_mul]; omega
theorem mul_endT {p : Pt} (h : onB p = true) {n : Nat} {W : Tr} (hW : W.Rep (pmul p.can n)) : tto W = mulP n p := by
  unfold mulP
  rw [h, if_pos rfl]
  exact tto_eq hW (pmul_ok _ _)
theorem none_rep3 : (tof nonePt).Rep nonePt := by have := tof_rep nonePt; rwa [can_id none_ok] at this
set_option maxHeartbeats 16000000 in
theorem emulP_any (l : List (BitVec 8)) (p : Pt) (w : World) (hl : l.length = 32) (hp : p.Nm) : Calls Tryz.prog 36 #[.agg (l.map b8).toArray, .agg (ptL p).toArray] w fun e w' => e = .returned (.agg (ptL (mulP (leB l) p)).toArray) ∧ Below w.heap.size w w' := by
  have hM := Lib.hid (Mv.nil w)
  have H1 : Hid (onB p = false → mulP (leB l) p = nonePt) := Lib.hid fun h => by unfold mulP; rw [h]; rfl
  have H2 : Hid (onB p = true → ∀ W : Tr, W.Rep (pmul p.can (leB l)) → tto W = mulP (leB l) p) := Lib.hid fun h W hW => mul_endT h hW
  have BL : Hid (∀ i, i < 256 → (l.getD (i / 8) 0 >>> (i % 8)).toNat % 2 = leB l / 2 ^ i % 2) := Lib.hid fun i hi => bit_leB hl hi
  have TP : Hid (leB l / 2 ^ 256 = 0) := Lib.hid (Nat.div_eq_of_lt (by
    have := leB_lt l
    rw [hl, show (256 : Nat) ^ 32 = 2 ^ 256 by decide +kernel] at this
    exact this))
  have HH : Hid (∀ j, leB l / 2 ^ j = leB l / 2 ^ (j + 1) + leB l / 2 ^ (j + 1) + leB l / 2 ^ j % 2) := Lib.hid (half_num (leB l))
  obtain ⟨nj, hnj⟩ : ∃ nj : Nat → Nat, nj = fun j => leB l / 2 ^ j := ⟨_, rfl⟩
  have B2 : Hid (∀ i, i < 256 → (l.getD (i / 8) 0 >>> (i % 8)).toNat % 2 = nj i % 2) := Lib.hid (by rw [hnj]; exact BL.out)
  have N0 : Hid (nj 256 = 0) := Lib.hid (by rw [hnj]; exact TP.out)
  have NE : Hid (nj 0 = leB l) := Lib.hid (by rw [hnj]; show leB l / 2 ^ 0 = leB l; rw [Nat.pow_zero, Nat.div_one])
  have NH : Hid (∀ j, nj j = nj (j + 1) + nj (j + 1) + nj j % 2) := Lib.hid (by rw [hnj]; exact HH.out)
  clear hnj BL TP HH
  generalize mulP (leB l) p = R at *
  obtain ⟨b1, hb1⟩ : ∃ b, b = onB p := ⟨_, rfl⟩
  have C1 : Hid (∀ u, Calls Tryz.prog 65 #[.agg (ptL p).toArray] u fun e w' => e = .returned (.bool b1) ∧ Below u.heap.size u w') := Lib.hid fun u => by rw [hb1]; exact eon_any p u hp
  have HO : Hid (b1 = true → p.can.On) := Lib.hid fun h => can_on ((onB_iff p).1 (by rw [← hb1, h]))
  rw [← hb1] at H1 H2
  clear hb1
  go_enter Tryz.func36, Tryz.ntmps36
  go_upto_region 0 with fail; refine wp_region_lit ?_
  refine wpList_val (run_boxL (vs := l.map b8) rfl rfl) rfl ?_; (try simp only [Act.put, List.setIfInBounds_toArray, List.set_cons_zero, List.set_cons_succ]); replace hM := Lib.hid (hM.out.new (l.map b8) 23); generalize w.alloc (.cells (l.map b8).toArray 23) = a1 at *; generalize w.heap.size = g1 at *
  refine wpList_val (run_boxL (vs := ptL p) rfl rfl) rfl ?_; (try simp only [Act.put, List.setIfInBounds_toArray, List.set_cons_zero, List.set_cons_succ]); replace hM := Lib.hid (hM.out.new (ptL p) 49); generalize a1.alloc (.cells (ptL p).toArray 49) = a2 at *; generalize a1.heap.size = g2 at *
  refine wpList_val (run_alc (vs := zq 8) rfl (by kernel_rfl)) rfl ?_; (try simp only [Act.put, List.setIfInBounds_toArray, List.set_cons_zero, List.set_cons_succ]); replace hM := Lib.hid (hM.out.new (zq 8) 49); generalize a2.alloc (.cells (zq 8).toArray 49) = a3 at *; generalize a2.heap.size = g3 at *
  refine wpList_end ?_
  go_upto_region 1 with fail; refine wp_region_lit ?_
  refine wpList_val (run_ldM (vs := ptL p) rfl Tryz.underlying49 rfl (szPt _) rfl ((hM.out.get (i := 1) rfl).range)) rfl ?_; (try simp only [Act.put, List.setIfInBounds_toArray, List.set_cons_zero, List.set_cons_succ])
  refine wpList_enter (run_call1 enters_eon rfl rfl rfl) rfl (C1.out _) (fun a4 hb => ?_); (try simp only [Act.put, List.setIfInBounds_toArray, List.set_cons_zero, List.set_cons_succ]); replace hM := Lib.hid (hM.out.below hb); clear hb
  cases b1
  · have e := H1.out rfl
    subst e
    refine wpList_val (run_notB rfl rfl) rfl ?_; (try simp only [Act.put, List.setIfInBounds_toArray, List.set_cons_zero, List.set_cons_succ])
    refine wpList_end ?_
    go_upto_region 2 with fail; refine wp_region_lit ?_
    refine wpList_enter (run_call0 enters_enone rfl rfl) rfl (enone_any _) (fun a5 hb => ?_); (try simp only [Act.put, List.setIfInBounds_toArray, List.set_cons_zero, List.set_cons_succ]); replace hM := Lib.hid (hM.out.below hb); clear hb
    refine wpList_skip (run_stM (vs := ptL nonePt) rfl (szPt _) rfl rfl (onePt _) ((hM.out.get (i := 0) rfl).there)) rfl rfl ?_; replace hM := Lib.hid (hM.out.put 0 rfl (m := ptL nonePt) rfl); generalize a5.setCells g3 0 (ptL nonePt) = a6 at *
    refine wpList_end ?_; go_wp2_with fail; refine bodyPost_ret (v := .agg (ptL nonePt).toArray) (results_rowB Tryz.results36 rfl Tryz.underlying49 rfl (szPt _) (hM.out.get (i := 0) rfl).range) rfl ⟨rfl, hM.out.bl⟩
  · refine wpList_val (run_notB rfl rfl) rfl ?_; (try simp only [Act.put, List.setIfInBounds_toArray, List.set_cons_zero, List.set_cons_succ])
    refine wpList_end ?_
    have hO := HO.out rfl
    replace H2 := Lib.hid (H2.out rfl)
    have TR := Lib.hid (tof_rep p)
    have TN := tof_nm p
    have CO : Hid (∀ u, Calls Tryz.prog 67 #[.agg (ptL p).toArray] u fun e w' => e = .returned (.agg (trL (tof p)).toArray) ∧ Below u.heap.size u w') := Lib.hid fun u => eof_any p u hp
    have Z0 := Lib.hid none_rep3
    have ZN := tof_nm nonePt
    have CZ : Hid (∀ u, Calls Tryz.prog 67 #[.agg (ptL nonePt).toArray] u fun e w' => e = .returned (.agg (trL (tof nonePt)).toArray) ∧ Below u.heap.size u w') := Lib.hid fun u => eof_any nonePt u none_nm
    obtain ⟨P, hP⟩ : ∃ P : Nat → Pt, P = fun i => pmul p.can i := ⟨_, rfl⟩
    have PO : Hid (∀ i, (P i).On) := Lib.hid (by rw [hP]; exact pmul_on hO)
    have PA : Hid (∀ m n, padd (P m) (P n) = P (m + n)) := Lib.hid (by rw [hP]; exact fun m n => (pmul_add hO m n).symm)
    have P1 : Hid (∀ n, padd (P n) p.can = P (n + 1)) := Lib.hid (by rw [hP]; exact fun n => rfl)
    have PZ : Hid ((tof nonePt).Rep (P 0)) := Lib.hid (by rw [hP]; exact Z0.out)
    have HE : Hid (∀ W : Tr, W.Rep (P (leB l)) → tto W = R) := Lib.hid (by rw [hP]; exact H2.out)
    have PC : Hid p.can.On := Lib.hid hO
    clear hP H2 H1 HO C1 Z0 hO
    generalize tof p = Q at *
    generalize tof nonePt = Z at *
    go_upto_region 3 with fail; refine wp_region_lit ?_
    refine wpList_enter (run_call0 enters_enone rfl rfl) rfl (enone_any _) (fun a5 hb => ?_); (try simp only [Act.put, List.setIfInBounds_toArray, List.set_cons_zero, List.set_cons_succ]); replace hM := Lib.hid (hM.out.below hb); clear hb
    refine wpList_enter (run_call1 enters_eof rfl rfl rfl) rfl (CZ.out _) (fun a6 hb => ?_); (try simp only [Act.put, List.setIfInBounds_toArray, List.set_cons_zero, List.set_cons_succ]); replace hM := Lib.hid (hM.out.below hb); clear hb
    refine wpList_val (run_alc (vs := zq 12) rfl (by kernel_rfl)) rfl ?_; (try simp only [Act.put, List.setIfInBounds_toArray, List.set_cons_zero, List.set_cons_succ]); replace hM := Lib.hid (hM.out.new (zq 12) 94); generalize a6.alloc (.cells (zq 12).toArray 94) = a7 at *; generalize a6.heap.size = g4 at *
    refine wpList_skip (run_stM (vs := trL Z) rfl (szTr _) rfl rfl (oneTr _) ((hM.out.get (i := 0) rfl).there)) rfl rfl ?_; replace hM := Lib.hid (hM.out.put 0 rfl (m := trL Z) rfl); generalize a7.setCells g4 0 (trL Z) = a8 at *
    refine wpList_end ?_
    go_upto_region 4 with fail; refine wp_region_lit ?_
    refine wpList_val (run_ldM (vs := ptL p) rfl Tryz.underlying49 rfl (szPt _) rfl ((hM.out.get (i := 2) rfl).range)) rfl ?_; (try simp only [Act.put, List.setIfInBounds_toArray, List.set_cons_zero, List.set_cons_succ])
    refine wpList_enter (run_call1 enters_eof rfl rfl rfl) rfl (CO.out _) (fun a9 hb => ?_); (try simp only [Act.put, List.setIfInBounds_toArray, List.set_cons_zero, List.set_cons_succ]); replace hM := Lib.hid (hM.out.below hb); clear hb
    refine wpList_val (run_alc (vs := zq 12) rfl (by kernel_rfl)) rfl ?_; (try simp only [Act.put, List.setIfInBounds_toArray, List.set_cons_zero, List.set_cons_succ]); replace hM := Lib.hid (hM.out.new (zq 12) 94); generalize a9.alloc (.cells (zq 12).toArray 94) = a10 at *; generalize a9.heap.size = g5 at *
    refine wpList_skip (run_stM (vs := trL Q) rfl (szTr _) rfl rfl (oneTr _) ((hM.out.get (i := 0) rfl).there)) rfl rfl ?_; replace hM := Lib.hid (hM.out.put 0 rfl (m := trL Q) rfl); generalize a10.setCells g5 0 (trL Q) = a11 at *
    refine wpList_end ?_
    go_upto_region 5 with fail; refine wp_region_lit ?_
    (repeat ((first | refine wpList_val (run_mv (v := b32 _) rfl rfl) rfl ?_ | refine wpList_val (run_mv (v := b64 _) rfl rfl) rfl ?_ | refine wpList_val (run_mv (v := b8 _) rfl rfl) rfl ?_ | refine wpList_val (run_mv (v := .int _ _) rfl rfl) rfl ?_ | refine wpList_val (run_mv (v := .bool _) rfl rfl) rfl ?_ | refine wpList_val (run_mv (v := .slice (some _) _ _) rfl rfl) rfl ?_ | refine wpList_val (run_mv (v := .slice _ _ _) rfl rfl) rfl ?_ | refine wpList_val (run_mv (v := .pointer (some _)) rfl rfl) rfl ?_ | refine wpList_val (run_mv (v := .agg _) rfl rfl) rfl ?_ | refine wpList_val (run_asg (v := b32 _) rfl rfl) rfl ?_ | refine wpList_val (run_asg (v := b64 _) rfl rfl) rfl ?_ | refine wpList_val (run_asg (v := b8 _) rfl rfl) rfl ?_ | refine wpList_val (run_asg (v := .int _ _) rfl rfl) rfl ?_ | refine wpList_val (run_asg (v := .bool _) rfl rfl) rfl ?_ | refine wpList_val (run_asg (v := .slice (some _) _ _) rfl rfl) rfl ?_ | refine wpList_val (run_asg (v := .slice _ _ _) rfl rfl) rfl ?_ | refine wpList_val (run_asg (v := .pointer (some _)) rfl rfl) rfl ?_ | refine wpList_val (run_asg (v := .agg _) rfl rfl) rfl ?_ | refine wpList_val (run_mv rfl rfl) rfl ?_ | refine wpList_val (run_asg rfl rfl) rfl ?_ | refine wpList_val (run_xor32 rfl rfl rfl) rfl ?_ | refine wpList_val (run_and32 rfl rfl rfl) rfl ?_ | refine wpList_val (run_or32 rfl rfl rfl) rfl ?_ | refine wpList_val (run_add32 rfl rfl rfl) rfl ?_ | refine wpList_val (run_not32 rfl rfl) rfl ?_ | refine wpList_val (run_xor64 rfl rfl rfl) rfl ?_ | refine wpList_val (run_and64 rfl rfl rfl) rfl ?_ | refine wpList_val (run_or64 rfl rfl rfl) rfl ?_ | refine wpList_val (run_add64 rfl rfl rfl) rfl ?_ | refine wpList_val (run_not64 rfl rfl) rfl ?_ | refine wpList_val (run_xor8 rfl rfl rfl) rfl ?_ | refine wpList_val (run_and8 rfl rfl rfl) rfl ?_ | refine wpList_val (run_or8 rfl rfl rfl) rfl ?_ | refine wpList_val (run_add8 rfl rfl rfl) rfl ?_ | refine wpList_val (run_not8 rfl rfl) rfl ?_ | refine wpList_val (run_cv64_32 rfl rfl) rfl ?_ | refine wpList_val (run_cv8_32 rfl rfl) rfl ?_ | refine wpList_val (run_cv8_64 rfl rfl) rfl ?_ | refine wpList_val (run_cv32_8 rfl rfl) rfl ?_ | refine wpList_val (run_cv64_8 rfl rfl) rfl ?_); (try simp only [Act.put, List.setIfInBounds_toArray, List.set_cons_zero, List.set_cons_succ])))
    refine wpList_end ?_
    go_wp2_with fail
    go_loopw [7] (fun s u => ∃ (j : Nat) (W : Tr), j ≤ 256 ∧ s = .int .i64 ((j : Int) - 1) ∧ W.Nm ∧ W.Rep (P (nj j)) ∧ Mv w [(g5, trL Q), (g4, trL W), (g3, zq 8), (g2, ptL p), (g1, l.map b8)] u) (fun s _ => (intOf s + 1).toNat)
    case atStart => exact ⟨256, Z, by omega, rfl, ZN, by rw [N0.out]; exact PZ.out, hM.out⟩
    case round =>
      obtain ⟨j, W, hj, rfl, hWn, hWr, hJ⟩ := hrel
      replace hM := Lib.hid hJ
      have HR := Lib.hid hWr
      clear hJ hWr
      rcases Nat.eq_zero_or_pos j with rfl | hpos
      · have hk1 : ¬ ((0 : Int) ≤ ((0 : Nat) : Int) - 1) := by omega
        rw [NE.out] at HR
        have hw := HE.out W HR.out
        go_upto_region 11 with fail; refine wp_region_lit ?_
        refine wpList_val (run_ldM (vs := trL W) rfl Tryz.underlying94 rfl (szTr _) rfl ((hM.out.get (i := 1) rfl).range)) rfl ?_; (try simp only [Act.put, List.setIfInBounds_toArray, List.set_cons_zero, List.set_cons_succ])
        refine wpList_enter (run_call1 enters_eto rfl rfl rfl) rfl (eto_any W _ hWn) (fun b1 hb => ?_); (try simp only [Act.put, List.setIfInBounds_toArray, List.set_cons_zero, List.set_cons_succ]); replace hM := Lib.hid (hM.out.below hb); clear hb
        rw [hw]
        refine wpList_skip (run_stM (vs := ptL R) rfl (szPt _) rfl rfl (onePt _) ((hM.out.get (i := 2) rfl).there)) rfl rfl ?_; replace hM := Lib.hid (hM.out.put 2 rfl (m := ptL R) rfl); generalize b1.setCells g3 0 (ptL R) = b2 at *
        refine wpList_end ?_; go_wp2_with fail; refine bodyPost_ret (v := .agg (ptL R).toArray) (results_rowB Tryz.results36 rfl Tryz.underlying49 rfl (szPt _) (hM.out.get (i := 2) rfl).range) rfl ⟨rfl, hM.out.bl⟩
      · obtain ⟨i, rfl⟩ : ∃ i, j = i + 1 := ⟨j - 1, by omega⟩
        have hk1 : (0 : Int) ≤ ((i + 1 : Nat) : Int) - 1 := by omega
        have ei : ((i + 1 : Nat) : Int) - 1 = (i : Int) := by omega
        rw [ei] at hk1 ⊢
        clear ei
        have HN := Lib.hid (NH.out i)
        have HB := Lib.hid (B2.out i (by omega))
        have hx8 : i / 8 < l.length := by rw [hl]; omega
        have HG := Lib.hid (get_map b8 0 (l := l) (i := i / 8) hx8)
        have hb2 : nj i % 2 = 0 ∨ nj i % 2 = 1 := by omega
        generalize l.getD (i / 8) 0 = lb8 at *
        generalize nj (i + 1) = k at *
        generalize hbt : nj i % 2 = bt at *
        go_upto_region 8 with fail; refine wp_region_lit ?_
        refine wpList_val (run_ldM (vs := trL W) rfl Tryz.underlying94 rfl (szTr _) rfl ((hM.out.get (i := 1) rfl).range)) rfl ?_; (try simp only [Act.put, List.setIfInBounds_toArray, List.set_cons_zero, List.set_cons_succ])
        refine wpList_val (run_ldM (vs := trL W) rfl Tryz.underlying94 rfl (szTr _) rfl ((hM.out.get (i := 1) rfl).range)) rfl ?_; (try simp only [Act.put, List.setIfInBounds_toArray, List.set_cons_zero, List.set_cons_succ])
        refine wpList_enter (run_call2 enters_esum rfl rfl rfl rfl) rfl (esum_any W W _ hWn hWn) (fun b1 hb => ?_); (try simp only [Act.put, List.setIfInBounds_toArray, List.set_cons_zero, List.set_cons_succ]); replace hM := Lib.hid (hM.out.below hb); clear hb
        have hD : Hid ((tsum W W).Rep (P (k + k))) := Lib.hid (by
          have := rep_tsum HR.out HR.out (PO.out _) (PO.out _)
          rwa [PA.out] at this)
        have hDn := tsum_nm W W
        generalize tsum W W = D at *
        refine wpList_skip (run_stM (vs := trL D) rfl (szTr _) rfl rfl (oneTr _) ((hM.out.get (i := 1) rfl).there)) rfl rfl ?_; replace hM := Lib.hid (hM.out.put 1 rfl (m := trL D) rfl); generalize b1.setCells g4 0 (trL D) = b2 at *
        refine wpList_end ?_
        clear hbt
        go_upto_region 9 with fail; refine wp_region_lit ?_
        (repeat ((first | refine wpList_val (run_mv (v := b32 _) rfl rfl) rfl ?_ | refine wpList_val (run_mv (v := b64 _) rfl rfl) rfl ?_ | refine wpList_val (run_mv (v := b8 _) rfl rfl) rfl ?_ | refine wpList_val (run_mv (v := .int _ _) rfl rfl) rfl ?_ | refine wpList_val (run_mv (v := .bool _) rfl rfl) rfl ?_ | refine wpList_val (run_mv (v := .slice (some _) _ _) rfl rfl) rfl ?_ | refine wpList_val (run_mv (v := .slice _ _ _) rfl rfl) rfl ?_ | refine wpList_val (run_mv (v := .pointer (some _)) rfl rfl) rfl ?_ | refine wpList_val (run_mv (v := .agg _) rfl rfl) rfl ?_ | refine wpList_val (run_asg (v := b32 _) rfl rfl) rfl ?_ | refine wpList_val (run_asg (v := b64 _) rfl rfl) rfl ?_ | refine wpList_val (run_asg (v := b8 _) rfl rfl) rfl ?_ | refine wpList_val (run_asg (v := .int _ _) rfl rfl) rfl ?_ | refine wpList_val (run_asg (v := .bool _) rfl rfl) rfl ?_ | refine wpList_val (run_asg (v := .slice (some _) _ _) rfl rfl) rfl ?_ | refine wpList_val (run_asg (v := .slice _ _ _) rfl rfl) rfl ?_ | refine wpList_val (run_asg (v := .pointer (some _)) rfl rfl) rfl ?_ | refine wpList_val (run_asg (v := .agg _) rfl rfl) rfl ?_ | refine wpList_val (run_mv rfl rfl) rfl ?_ | refine wpList_val (run_asg rfl rfl) rfl ?_ | refine wpList_val (run_xor32 rfl rfl rfl) rfl ?_ | refine wpList_val (run_and32 rfl rfl rfl) rfl ?_ | refine wpList_val (run_or32 rfl rfl rfl) rfl ?_ | refine wpList_val (run_add32 rfl rfl rfl) rfl ?_ | refine wpList_val (run_not32 rfl rfl) rfl ?_ | refine wpList_val (run_xor64 rfl rfl rfl) rfl ?_ | refine wpList_val (run_and64 rfl rfl rfl) rfl ?_ | refine wpList_val (run_or64 rfl rfl rfl) rfl ?_ | refine wpList_val (run_add64 rfl rfl rfl) rfl ?_ | refine wpList_val (run_not64 rfl rfl) rfl ?_ | refine wpList_val (run_xor8 rfl rfl rfl) rfl ?_ | refine wpList_val (run_and8 rfl rfl rfl) rfl ?_ | refine wpList_val (run_or8 rfl rfl rfl) rfl ?_ | refine wpList_val (run_add8 rfl rfl rfl) rfl ?_ | refine wpList_val (run_not8 rfl rfl) rfl ?_ | refine wpList_val (run_cv64_32 rfl rfl) rfl ?_ | refine wpList_val (run_cv8_32 rfl rfl) rfl ?_ | refine wpList_val (run_cv8_64 rfl rfl) rfl ?_ | refine wpList_val (run_cv32_8 rfl rfl) rfl ?_ | refine wpList_val (run_cv64_8 rfl rfl) rfl ?_); (try simp only [Act.put, List.setIfInBounds_toArray, List.set_cons_zero, List.set_cons_succ])))
        refine wpList_val (run_quoN (a := i) (b := 8) rfl rfl rfl (by omega) (by omega)) rfl ?_; (try simp only [Act.put, List.setIfInBounds_toArray, List.set_cons_zero, List.set_cons_succ])
        refine wpList_val (run_ix0 (i := i / 8) rfl Tryz.underlying23 (by kernel_rfl) rfl rfl (by omega)) rfl ?_; (try simp only [Act.put, List.setIfInBounds_toArray, List.set_cons_zero, List.set_cons_succ])
        refine wpList_val (run_ld8 rfl rfl ((hM.out.get (i := 4) rfl).c _ _ HG.out)) rfl ?_; (try simp only [Act.put, List.setIfInBounds_toArray, List.set_cons_zero, List.set_cons_succ])
        (repeat ((first | refine wpList_val (run_mv (v := b32 _) rfl rfl) rfl ?_ | refine wpList_val (run_mv (v := b64 _) rfl rfl) rfl ?_ | refine wpList_val (run_mv (v := b8 _) rfl rfl) rfl ?_ | refine wpList_val (run_mv (v := .int _ _) rfl rfl) rfl ?_ | refine wpList_val (run_mv (v := .bool _) rfl rfl) rfl ?_ | refine wpList_val (run_mv (v := .slice (some _) _ _) rfl rfl) rfl ?_ | refine wpList_val (run_mv (v := .slice _ _ _) rfl rfl) rfl ?_ | refine wpList_val (run_mv (v := .pointer (some _)) rfl rfl) rfl ?_ | refine wpList_val (run_mv (v := .agg _) rfl rfl) rfl ?_ | refine wpList_val (run_asg (v := b32 _) rfl rfl) rfl ?_ | refine wpList_val (run_asg (v := b64 _) rfl rfl) rfl ?_ | refine wpList_val (run_asg (v := b8 _) rfl rfl) rfl ?_ | refine wpList_val (run_asg (v := .int _ _) rfl rfl) rfl ?_ | refine wpList_val (run_asg (v := .bool _) rfl rfl) rfl ?_ | refine wpList_val (run_asg (v := .slice (some _) _ _) rfl rfl) rfl ?_ | refine wpList_val (run_asg (v := .slice _ _ _) rfl rfl) rfl ?_ | refine wpList_val (run_asg (v := .pointer (some _)) rfl rfl) rfl ?_ | refine wpList_val (run_asg (v := .agg _) rfl rfl) rfl ?_ | refine wpList_val (run_mv rfl rfl) rfl ?_ | refine wpList_val (run_asg rfl rfl) rfl ?_ | refine wpList_val (run_xor32 rfl rfl rfl) rfl ?_ | refine wpList_val (run_and32 rfl rfl rfl) rfl ?_ | refine wpList_val (run_or32 rfl rfl rfl) rfl ?_ | refine wpList_val (run_add32 rfl rfl rfl) rfl ?_ | refine wpList_val (run_not32 rfl rfl) rfl ?_ | refine wpList_val (run_xor64 rfl rfl rfl) rfl ?_ | refine wpList_val (run_and64 rfl rfl rfl) rfl ?_ | refine wpList_val (run_or64 rfl rfl rfl) rfl ?_ | refine wpList_val (run_add64 rfl rfl rfl) rfl ?_ | refine wpList_val (run_not64 rfl rfl) rfl ?_ | refine wpList_val (run_xor8 rfl rfl rfl) rfl ?_ | refine wpList_val (run_and8 rfl rfl rfl) rfl ?_ | refine wpList_val (run_or8 rfl rfl rfl) rfl ?_ | refine wpList_val (run_add8 rfl rfl rfl) rfl ?_ | refine wpList_val (run_not8 rfl rfl) rfl ?_ | refine wpList_val (run_cv64_32 rfl rfl) rfl ?_ | refine wpList_val (run_cv8_32 rfl rfl) rfl ?_ | refine wpList_val (run_cv8_64 rfl rfl) rfl ?_ | refine wpList_val (run_cv32_8 rfl rfl) rfl ?_ | refine wpList_val (run_cv64_8 rfl rfl) rfl ?_); (try simp only [Act.put, List.setIfInBounds_toArray, List.set_cons_zero, List.set_cons_succ])))
        refine wpList_val (run_remN (a := i) (b := 8) rfl rfl rfl (by omega)) rfl ?_; (try simp only [Act.put, List.setIfInBounds_toArray, List.set_cons_zero, List.set_cons_succ])
        refine wpList_val (run_cviuN (n := i % 8) rfl rfl (by omega)) rfl ?_; (try simp only [Act.put, List.setIfInBounds_toArray, List.set_cons_zero, List.set_cons_succ])
        refine wpList_val (run_shr8 (n := i % 8) rfl rfl rfl (by omega)) rfl ?_; (try simp only [Act.put, List.setIfInBounds_toArray, List.set_cons_zero, List.set_cons_succ])
        refine wpList_val (run_rem8b (c := bt) rfl rfl rfl HB.out) rfl ?_; (try simp only [Act.put, List.setIfInBounds_toArray, List.set_cons_zero, List.set_cons_succ])
        rcases hb2 with rfl | rfl
        · refine wpList_val (run_eqlb (k := .u8) (c := false) rfl rfl rfl rfl) rfl ?_; (try simp only [Act.put, List.setIfInBounds_toArray, List.set_cons_zero, List.set_cons_succ])
          refine wpList_end ?_
          rw [Nat.add_zero] at HN
          have hF : Hid (D.Rep (P (nj i))) := Lib.hid (by rw [HN.out]; exact hD.out)
          clear HB HG hx8
          go_wp2_with fail
          exact ⟨⟨i, D, by omega, by go_num, hDn, hF.out, hM.out⟩, by simp [intOf]⟩
        · refine wpList_val (run_eqlb (k := .u8) (c := true) rfl rfl rfl rfl) rfl ?_; (try simp only [Act.put, List.setIfInBounds_toArray, List.set_cons_zero, List.set_cons_succ])
          refine wpList_end ?_
          go_upto_region 10 with fail; refine wp_region_lit ?_
          refine wpList_val (run_ldM (vs := trL D) rfl Tryz.underlying94 rfl (szTr _) rfl ((hM.out.get (i := 1) rfl).range)) rfl ?_; (try simp only [Act.put, List.setIfInBounds_toArray, List.set_cons_zero, List.set_cons_succ])
          refine wpList_val (run_ldM (vs := trL Q) rfl Tryz.underlying94 rfl (szTr _) rfl ((hM.out.get (i := 0) rfl).range)) rfl ?_; (try simp only [Act.put, List.setIfInBounds_toArray, List.set_cons_zero, List.set_cons_succ])
          refine wpList_enter (run_call2 enters_esum rfl rfl rfl rfl) rfl (esum_any D Q _ hDn TN) (fun b3 hb => ?_); (try simp only [Act.put, List.setIfInBounds_toArray, List.set_cons_zero, List.set_cons_succ]); replace hM := Lib.hid (hM.out.below hb); clear hb
          have hF : Hid ((tsum D Q).Rep (P (nj i))) := Lib.hid (by
            have := rep_tsum hD.out TR.out (PO.out _) PC.out
            rw [P1.out] at this
            rw [HN.out]
            exact this)
          have hFn := tsum_nm D Q
          generalize tsum D Q = F at *
          refine wpList_skip (run_stM (vs := trL F) rfl (szTr _) rfl rfl (oneTr _) ((hM.out.get (i := 1) rfl).there)) rfl rfl ?_; replace hM := Lib.hid (hM.out.put 1 rfl (m := trL F) rfl); generalize b3.setCells g4 0 (trL F) = b4 at *
          refine wpList_end ?_
          clear HB HG hx8
          go_wp2_with fail
          exact ⟨⟨i, F, by omega, by go_num, hFn, hF.out, hM.out⟩, by simp [intOf]⟩
theorem enters_emulP : Enters 36 := enters_of Tryz.func36 (by kernel_rfl) rfl
end Go.Proofs.YtfdjmdfaidiliaaGreatDoor
