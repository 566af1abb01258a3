/- What mac.Same does. -/
import Derived.Test.YtobpgolchlgpfaaDoorMacDef
import Derived.Test.YtobpgolchlgpfaaDoorOps64
namespace Go.Proofs.YtobpgolchlgpfaaDoor
open Go.RowKit
set_option maxRecDepth 20000

/-- The sum of what is not alike. -/
def smB (a b : List (BitVec 8)) : Nat → BitVec 64
  | 0 => 0
  | i + 1 => smB a b i + (a.getD i 0 ^^^ b.getD i 0).setWidth 64
def smN (a b : List (BitVec 8)) : Nat → Nat
  | 0 => 0
  | i + 1 => smN a b i + (a.getD i 0 ^^^ b.getD i 0).toNat
theorem smN_le (a b : List (BitVec 8)) : ∀ i, smN a b i ≤ 255 * i
  | 0 => Nat.le_refl _
  | i + 1 => by
    have := smN_le a b i
    have h := (a.getD i 0 ^^^ b.getD i 0).isLt
    rw [smN]; omega
theorem smB_eq (a b : List (BitVec 8)) : ∀ i, i ≤ 16777216 → (smB a b i).toNat = smN a b i
  | 0, _ => rfl
  | i + 1, h => by
    have h1 := smN_le a b i
    have h2 := (a.getD i 0 ^^^ b.getD i 0).isLt
    rw [smB, smN, BitVec.toNat_add, smB_eq a b i (by omega), BitVec.toNat_setWidth, Nat.mod_eq_of_lt (show (a.getD i 0 ^^^ b.getD i 0).toNat < 2 ^ 64 by omega), Nat.mod_eq_of_lt (by omega)]
theorem smN_zero (a b : List (BitVec 8)) : ∀ i, smN a b i = 0 ↔ ∀ j, j < i → a.getD j 0 = b.getD j 0
  | 0 => ⟨fun _ j h => absurd h (Nat.not_lt_zero _), fun _ => rfl⟩
  | i + 1 => by
    rw [smN]
    constructor
    · intro h j hj
      by_cases e : j = i
      · subst e
        have h2 : (a.getD j 0 ^^^ b.getD j 0).toNat = 0 := by omega
        have h3 : a.getD j 0 ^^^ b.getD j 0 = 0#8 := BitVec.eq_of_toNat_eq h2
        exact BitVec.xor_eq_zero_iff.1 h3
      · exact (smN_zero a b i).1 (by omega) j (by omega)
    · intro h
      rw [(smN_zero a b i).2 fun j hj => h j (by omega), h i (by omega), BitVec.xor_self]
      rfl
theorem sm_same {a b : List (BitVec 8)} (hl : a.length = b.length) (hn : a.length ≤ 16777216) : decide (smB a b a.length = 0) = decide (a = b) := by
  rw [decide_eq_decide]
  have h1 : smB a b a.length = 0 ↔ smN a b a.length = 0 := by
    rw [← smB_eq a b _ hn]
    exact ⟨fun h => by rw [h]; rfl, fun h => BitVec.eq_of_toNat_eq h⟩
  rw [h1, smN_zero]
  constructor
  · intro h
    apply List.ext_getElem hl
    intro i h2 h3
    have := h i h2
    simpa [h2, h3] using this
  · intro h j _
    rw [h]
theorem enters_same : Enters 23 := enters_of Tryd.func23 (by kernel_rfl) rfl
set_option maxHeartbeats 1000000 in
theorem same_any (va : Value) (a : List (BitVec 8)) (vb : Value) (b : List (BitVec 8)) (w : World) (ha : Sl va a w) (hb : Sl vb b w) (hn : a.length ≤ 16777216) :
    Calls Tryd.prog 23 #[va, vb] w fun e w' => e = .returned (.bool (decide (a = b))) ∧ Below w.heap.size w w' := by
  have HA := Lib.hid ha
  have HB := Lib.hid hb
  obtain ⟨ao, c, rfl, -, -⟩ := ha
  obtain ⟨ao', c', rfl, -, -⟩ := hb
  go_enter Tryd.func23, Tryd.ntmps23
  go_upto_region 1 with fail; refine wp_region_lit ?_
  refine wpList_val (run_mv (v := .slice _ _ _) rfl rfl) rfl ?_; (try simp only [Act.put, List.setIfInBounds_toArray, List.set_cons_zero, List.set_cons_succ])
  refine wpList_val (run_len rfl Tryd.underlying30 rfl) rfl ?_; (try simp only [Act.put, List.setIfInBounds_toArray, List.set_cons_zero, List.set_cons_succ])
  refine wpList_val (run_mv (v := .slice _ _ _) rfl rfl) rfl ?_; (try simp only [Act.put, List.setIfInBounds_toArray, List.set_cons_zero, List.set_cons_succ])
  refine wpList_val (run_len rfl Tryd.underlying30 rfl) rfl ?_; (try simp only [Act.put, List.setIfInBounds_toArray, List.set_cons_zero, List.set_cons_succ])
  by_cases hl : a.length = b.length
  · refine wpList_val (run_neqb (c := false) rfl rfl rfl (by rw [hl]; simp)) rfl ?_; (try simp only [Act.put, List.setIfInBounds_toArray, List.set_cons_zero, List.set_cons_succ])
    refine wpList_end ?_
    have HE := Lib.hid (sm_same hl hn)
    go_upto_region 3 with fail; refine wp_region_lit ?_
    refine wpList_val (run_asg (v := .int _ _) rfl rfl) rfl ?_; (try simp only [Act.put, List.setIfInBounds_toArray, List.set_cons_zero, List.set_cons_succ])
    refine wpList_end ?_
    go_upto_region 4 with fail; refine wp_region_lit ?_
    refine wpList_val (run_mv (v := .slice _ _ _) rfl rfl) rfl ?_; (try simp only [Act.put, List.setIfInBounds_toArray, List.set_cons_zero, List.set_cons_succ])
    refine wpList_val (run_len rfl Tryd.underlying30 rfl) rfl ?_; (try simp only [Act.put, List.setIfInBounds_toArray, List.set_cons_zero, List.set_cons_succ])
    refine wpList_val (run_mv (v := .int _ _) rfl rfl) rfl ?_; (try simp only [Act.put, List.setIfInBounds_toArray, List.set_cons_zero, List.set_cons_succ])
    refine wpList_end ?_
    go_wp2_with fail
    go_loopw [5, 14] (fun s5 s u => ∃ i : Nat, i ≤ a.length ∧ s = .int .i64 (i : Int) ∧ s5 = b64 (smB a b i) ∧ Below w.heap.size w u) (fun _ s _ => (a.length - intOf s).toNat)
    case atStart => exact ⟨0, by omega, rfl, rfl, Below.refl _ _⟩
    case round =>
      obtain ⟨i, hi, rfl, rfl, bl⟩ := hrel
      by_cases hlt : i = a.length
      · subst hlt
        have hk1 : ¬ (((a.length : Nat) : Int) < (a.length : Int)) := by omega
        go_upto_region 9 with fail; refine wp_region_lit ?_
        refine wpList_val (run_mv (v := b64 _) rfl rfl) rfl ?_; (try simp only [Act.put, List.setIfInBounds_toArray, List.set_cons_zero, List.set_cons_succ])
        refine wpList_val (run_eqb64 (b := 0) rfl rfl rfl) rfl ?_; (try simp only [Act.put, List.setIfInBounds_toArray, List.set_cons_zero, List.set_cons_succ])
        rw [HE.out]
        generalize hr : decide (a = b) = r at *
        have ER := Lib.hid hr; clear hr HE
        refine wpList_val (run_asg (v := .bool r) rfl rfl) rfl ?_; (try simp only [Act.put, List.setIfInBounds_toArray, List.set_cons_zero, List.set_cons_succ])
        refine wpList_end ?_
        go_wp2_with fail
        go_ret
        exact ⟨by rw [ER.out]; rfl, bl⟩
      · have hk1 : (i : Int) < (a.length : Int) := by omega
        have hk2 : i < a.length := by omega
        obtain ⟨g, f, c1, e1, hg, hr⟩ := HA.out.adr (by omega)
        obtain ⟨g', f', c2, e2, hg', hr'⟩ := HB.out.adr (by omega)
        injection e1 with e1 _ e1'
        injection e2 with e2 _ e2'
        subst e1 e1' e2 e2'
        have HC : Hid (∀ V, Below wr.heap.size wr V → V.cell? ⟨g, f + i, none⟩ = some (b8 (a.getD i 0))) := Lib.hid fun V hV => rangeAt_below hr hg (bl.trans (hV.mono bl.size)) _ _ (get_map b8 0 hk2)
        have HC' : Hid (∀ V, Below wr.heap.size wr V → V.cell? ⟨g', f' + i, none⟩ = some (b8 (b.getD i 0))) := Lib.hid fun V hV => rangeAt_below hr' hg' (bl.trans (hV.mono bl.size)) _ _ (get_map b8 0 (by omega))
        clear hr hr'
        go_upto_region 6 with fail; refine wp_region_lit ?_
        refine wpList_val (run_mv (v := .int _ _) rfl rfl) rfl ?_; (try simp only [Act.put, List.setIfInBounds_toArray, List.set_cons_zero, List.set_cons_succ]); refine wpList_val (run_asg (v := .int _ _) rfl rfl) rfl ?_; (try simp only [Act.put, List.setIfInBounds_toArray, List.set_cons_zero, List.set_cons_succ])
        refine wpList_end ?_
        go_upto_region 7 with fail; refine wp_region_calm 12 (by kernel_rfl) (by kernel_rfl) ?_
        refine wpCalm_step _ (fun V hV => calm_run (run_mv (v := b64 _) rfl rfl)) ?_; (try simp only [Act.put, List.setIfInBounds_toArray, List.set_cons_zero, List.set_cons_succ]); refine wpCalm_step _ (fun V hV => calm_run (run_mv (v := .slice (some _) _ _) rfl rfl)) ?_; (try simp only [Act.put, List.setIfInBounds_toArray, List.set_cons_zero, List.set_cons_succ]); refine wpCalm_step _ (fun V hV => calm_run (run_mv (v := .int _ _) rfl rfl)) ?_; (try simp only [Act.put, List.setIfInBounds_toArray, List.set_cons_zero, List.set_cons_succ])
        refine wpCalm_step _ (fun V hV => calm_run (run_ixs rfl Tryd.underlying30 (by kernel_rfl) rfl rfl hk2)) ?_; (try simp only [Act.put, List.setIfInBounds_toArray, List.set_cons_zero, List.set_cons_succ])
        refine wpCalm_step _ (fun V hV => calm_run (run_ld8 rfl rfl (HC.out V hV))) ?_; (try simp only [Act.put, List.setIfInBounds_toArray, List.set_cons_zero, List.set_cons_succ])
        refine wpCalm_step _ (fun V hV => calm_run (run_mv (v := .slice (some _) _ _) rfl rfl)) ?_; (try simp only [Act.put, List.setIfInBounds_toArray, List.set_cons_zero, List.set_cons_succ]); refine wpCalm_step _ (fun V hV => calm_run (run_mv (v := .int _ _) rfl rfl)) ?_; (try simp only [Act.put, List.setIfInBounds_toArray, List.set_cons_zero, List.set_cons_succ])
        refine wpCalm_step _ (fun V hV => calm_run (run_ixs rfl Tryd.underlying30 (by kernel_rfl) rfl rfl (by omega))) ?_; (try simp only [Act.put, List.setIfInBounds_toArray, List.set_cons_zero, List.set_cons_succ])
        refine wpCalm_step _ (fun V hV => calm_run (run_ld8 rfl rfl (HC'.out V hV))) ?_; (try simp only [Act.put, List.setIfInBounds_toArray, List.set_cons_zero, List.set_cons_succ])
        refine wpCalm_step _ (fun V hV => calm_run (run_xor8 rfl rfl rfl)) ?_; (try simp only [Act.put, List.setIfInBounds_toArray, List.set_cons_zero, List.set_cons_succ]); refine wpCalm_step _ (fun V hV => calm_run (run_cv8_64 rfl rfl)) ?_; (try simp only [Act.put, List.setIfInBounds_toArray, List.set_cons_zero, List.set_cons_succ]); refine wpCalm_step _ (fun V hV => calm_run (run_add64 rfl rfl rfl)) ?_; (try simp only [Act.put, List.setIfInBounds_toArray, List.set_cons_zero, List.set_cons_succ])
        refine wpCalm_done ?_; intro u1 hb1; simp only [List.drop_succ_cons, List.drop_zero]
        refine wpList_val (run_asg (v := b64 _) rfl rfl) rfl ?_; (try simp only [Act.put, List.setIfInBounds_toArray, List.set_cons_zero, List.set_cons_succ])
        refine wpList_end ?_
        replace bl := bl.trans (hb1.mono bl.size)
        clear HC HC' hb1
        have HS : Hid (smB a b i + (a.getD i 0 ^^^ b.getD i 0).setWidth 64 = smB a b (i + 1)) := Lib.hid rfl
        rw [HS.out]
        go_wp2_with fail
        go_roundw
        case rel => exact ⟨i + 1, by omega, by go_num, rfl, bl⟩
        case measure => simp [intOf]; omega
  · refine wpList_val (run_neqb (c := true) rfl rfl rfl (by rw [beq_eq_false_iff_ne.2 (by omega)]; rfl)) rfl ?_; (try simp only [Act.put, List.setIfInBounds_toArray, List.set_cons_zero, List.set_cons_succ])
    refine wpList_end ?_
    have E : Hid (decide (a = b) = false) := Lib.hid (decide_eq_false fun h => hl (by rw [h]))
    go_wp2_with fail
    go_ret
    exact ⟨by rw [E.out]; rfl, Below.refl _ _⟩
end Go.Proofs.YtobpgolchlgpfaaDoor
