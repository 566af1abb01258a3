/- What keywardref01's Small, Add, less, Sub and Neg answer. -/
import Derived.Test.YtfdjmdfaidiliaaDoorRefMul0
import Derived.Test.YtfdjmdfaidiliaaDoorEdOps
namespace Go.Proofs.YtfdjmdfaidiliaaDoor
open Go.RowKit
set_option maxRecDepth 20000

section
variable {w : World} {ρ : Operand → Value} {o : Oper} {t t' : TypeId} {x y : Operand} {a b : Int}
theorem run_addU (ho : o.op = .binOp .add t x y t') (hx : ρ x = .int .u64 a) (hy : ρ y = .int .u64 b) (h0 : 0 ≤ a + b) (h1 : a + b < 18446744073709551616) : (execOp ρ o).run Tryd.prog w = .ok (.value (.int .u64 (a + b))) w := by
  obtain ⟨dst, op, type, pos, after, guard⟩ := o
  subst ho
  have e : IntKind.u64.wrap (a + b) = a + b := by rw [wrap64]; omega
  go_simp
theorem run_subU (ho : o.op = .binOp .sub t x y t') (hx : ρ x = .int .u64 a) (hy : ρ y = .int .u64 b) (h0 : 0 ≤ a - b) (h1 : a - b < 18446744073709551616) : (execOp ρ o).run Tryd.prog w = .ok (.value (.int .u64 (a - b))) w := by
  obtain ⟨dst, op, type, pos, after, guard⟩ := o
  subst ho
  have e : IntKind.u64.wrap (a - b) = a - b := by rw [wrap64]; omega
  go_simp
theorem run_remU (ho : o.op = .binOp .rem t x y t') (hx : ρ x = .int .u64 a) (hy : ρ y = .int .u64 b) (h0 : 0 ≤ a) (h1 : 0 < b) : (execOp ρ o).run Tryd.prog w = .ok (.value (.int .u64 (a % b))) w := by
  obtain ⟨dst, op, type, pos, after, guard⟩ := o
  subst ho
  have hb : ¬ b = 0 := by omega
  go_simp
  rw [Int.tmod_eq_emod_of_nonneg h0]
theorem run_shrU {n : Nat} (ho : o.op = .binOp .shr t x y t') (hx : ρ x = .int .u64 a) (hy : ρ y = .int .u64 (n : Int)) (hn : n ≤ 64) : (execOp ρ o).run Tryd.prog w = .ok (.value (.int .u64 (a / 2 ^ n))) w := by
  obtain ⟨dst, op, type, pos, after, guard⟩ := o
  subst ho
  have hn0 : (0 : Int) ≤ (n : Int) := by omega
  go_simp
theorem run_stU {g i : Nat} {v : Value} (ho : o.op = .store 29 x y) (hx : ρ x = .pointer (some ⟨g, i, none⟩)) (hy : ρ y = .int .u64 a) (hc : w.cell? ⟨g, i, none⟩ = some v) (hf : w.frozen? ⟨g, i, none⟩ = false) : (execOp ρ o).run Tryd.prog w = .ok .skip (w.setCell ⟨g, i, none⟩ (.int .u64 a)) := by
  obtain ⟨dst, op, type, pos, after, guard⟩ := o
  subst ho
  go_simp
end
abbrev lL (l : List Int) : List Value := l.map (Value.int .u64)
theorem get_nth {l : List Int} {i : Nat} (h : i < l.length) : (lL l)[i]? = some (.int .u64 (nth l i)) := by
  unfold nth
  rw [List.getElem?_map, List.getElem?_eq_getElem h]; rfl
theorem set_lL (l : List Int) (i : Nat) (v : Int) : (lL l).set i (.int .u64 v) = lL (l.set i v) := by rw [← List.map_set]
theorem zq_len (n : Nat) : (zq n).length = n := List.length_replicate
theorem lL_len {l : List Int} {n : Nat} (h : l.length = n) : (lL l).length = (zq n).length := by rw [zq_len, List.length_map, h]
theorem enters_limbsF : Enters 76 := enters_of Tryd.func76 (by kernel_rfl) rfl
theorem enters_fe : Enters 75 := enters_of Tryd.func75 (by kernel_rfl) rfl

theorem feV_small {n : Int} (h0 : 0 ≤ n) (h1 : n < 4294967296) : feL n = [.int .u64 n, .int .u64 0, .int .u64 0, .int .u64 0] := by
  have e0 : w0 n = n := by unfold w0; omega
  have e1 : w1 n = 0 := by unfold w1; omega
  have e2 : w2 n = 0 := by unfold w2; omega
  have e3 : w3 n = 0 := by unfold w3; omega
  unfold feL
  rw [e0, e1, e2, e3]
theorem built_small (n : Int) : Tryd.prog.built 31 [(0, .int .u64 n), (1, .int .u64 0), (2, .int .u64 0), (3, .int .u64 0)] = some [.int .u64 n, .int .u64 0, .int .u64 0, .int .u64 0].toArray := by kernel_rfl
set_option maxHeartbeats 4000000 in
theorem rsmall_any (n : Int) (w : World) (h0 : 0 ≤ n) (h1 : n < 4294967296) : Calls Tryd.prog 50 #[.int .u32 n] w fun e w' => e = .returned (feV n) ∧ Below w.heap.size w w' := by
  have hM := Lib.hid (Mv.nil w)
  have HF := Lib.hid (feV_small h0 h1)
  have HB := Lib.hid (built_small n)
  rw [← HF.out] at HB
  go_enter Tryd.func50, Tryd.ntmps50
  go_upto_region 0 with fail; refine wp_region_lit ?_
  refine wpList_val (run_alc (vs := zq 4) rfl (by kernel_rfl)) rfl ?_; (try simp only [Act.put, List.setIfInBounds_toArray, List.set_cons_zero, List.set_cons_succ]); replace hM := Lib.hid (hM.out.new (zq 4) 31); generalize w.alloc (.cells (zq 4).toArray 31) = a1 at *; generalize w.heap.size = g1 at *
  refine wpList_end ?_
  go_upto_region 1 with fail; refine wp_region_lit ?_
  refine wpList_val (run_mv (v := .int _ _) rfl rfl) rfl ?_; (try simp only [Act.put, List.setIfInBounds_toArray, List.set_cons_zero, List.set_cons_succ])
  refine wpList_val (run_cv (k := .u64) rfl Tryd.underlying75 Tryd.underlying29 rfl) rfl ?_; (try simp only [Act.put, List.setIfInBounds_toArray, List.set_cons_zero, List.set_cons_succ])
  rw [show IntKind.u64.wrap n = n by rw [wrap64]; omega]
  refine wpList_val (run_bld4 rfl rfl rfl rfl rfl HB.out) rfl ?_; (try simp only [Act.put, List.setIfInBounds_toArray, List.set_cons_zero, List.set_cons_succ])
  refine wpList_skip (run_stM (vs := feL n) rfl (szFe _) rfl rfl (oneFe _) ((hM.out.get (i := 0) rfl).there)) rfl rfl ?_; replace hM := Lib.hid (hM.out.put 0 rfl (m := feL n) rfl); generalize a1.setCells g1 0 (feL n) = a2 at *
  refine wpList_end ?_; go_wp2_with fail; refine bodyPost_ret (v := .agg (feL n).toArray) (results_rowB Tryd.results50 rfl Tryd.underlying31 rfl (szFe _) (hM.out.get (i := 0) rfl).range) rfl ⟨rfl, hM.out.bl⟩
theorem enters_rsmall : Enters 50 := enters_of Tryd.func50 (by kernel_rfl) rfl

/-- Limbs are added up, k of them so far, by what a function says. -/
structure AdI (a f : List Int) (k : Nat) (l : List Int) : Prop where
  len : l.length = 16
  bd : ∀ x ∈ l, 0 ≤ x ∧ x ≤ 200000 * (k + 1)
  eq : lb l = lb a + lb (f.take k)
theorem AdI.start {a f : List Int} (ha : a.length = 16) (hL : Limbs a) : AdI a f 0 a := ⟨ha, fun x hx => by have := hL x hx; omega, by simp [lb]⟩
theorem AdI.step {a f : List Int} (hf : f.length = 16) (hb : ∀ x ∈ f, 0 ≤ x ∧ x ≤ 131070) {k : Nat} {l : List Int} (h : AdI a f k l) (hk : k < 16) : AdI a f (k + 1) (l.set k (nth l k + nth f k)) := by
  have hlen := h.len
  have h1 := h.bd _ (nth_mem (show k < l.length by omega))
  have h2 := hb _ (nth_mem (show k < f.length by omega))
  refine ⟨by rw [List.length_set, h.len], fun x hx => ?_, ?_⟩
  · rcases List.mem_or_eq_of_mem_set hx with h3 | h3
    · have := h.bd x h3; omega
    · rw [h3]; omega
  · rw [lb_set (by omega), h.eq, lb_take_succ (by omega)]
    rw [show nth l k + nth f k - nth l k = nth f k by omega]
    omega
theorem AdI.wides {a f : List Int} {k : Nat} {l : List Int} (h : AdI a f k l) (hk : k ≤ 16) : Wides l := fun x hx => by have := h.bd x hx; omega
theorem AdI.get {a f : List Int} {k : Nat} {l : List Int} (h : AdI a f k l) (hk : k < 16) : 0 ≤ nth l k ∧ nth l k ≤ 200000 * (k + 1) := h.bd _ (nth_mem (by have := h.len; omega))

set_option maxHeartbeats 8000000 in
theorem radd_any (X Y : Int) (w : World) (hX : Num X) (hY : Num Y) : Calls Tryd.prog 52 #[feV X, feV Y] w fun e w' => e = .returned (feV ((X + Y) % pp)) ∧ Below w.heap.size w w' := by
  have hM := Lib.hid (Mv.nil w)
  have lA := lzAll_len X
  have lB := lzAll_len Y
  have HE : Hid (∀ l, AdI (lzAll X) (lzAll Y) 16 l → lb l = X + Y) := Lib.hid fun l h => by rw [h.eq, List.take_of_length_le (by omega), lb_lzAll hX, lb_lzAll hY]
  have dB := lzAll_limbs Y
  have S0 := Lib.hid (AdI.start (f := lzAll Y) lA (lzAll_limbs X))
  have SS : Hid (∀ (k : Nat) (l : List Int), AdI (lzAll X) (lzAll Y) k l → k < 16 → AdI (lzAll X) (lzAll Y) (k + 1) (l.set k (nth l k + nth (lzAll Y) k))) := Lib.hid fun k l h hk => h.step lB (fun x hx => by have := dB x hx; omega) hk
  have BB : Hid (∀ k, k < 16 → 0 ≤ nth (lzAll Y) k ∧ nth (lzAll Y) k < 65536) := Lib.hid fun k hk => dB.nth (by omega)
  have CA : Hid (∀ u, Calls Tryd.prog 76 #[feV X] u fun e w' => e = .returned (.agg (lL (lzAll X)).toArray) ∧ Below u.heap.size u w') := Lib.hid fun u => limbs_any X u
  have CB : Hid (∀ u, Calls Tryd.prog 76 #[feV Y] u fun e w' => e = .returned (.agg (lL (lzAll Y)).toArray) ∧ Below u.heap.size u w') := Lib.hid fun u => limbs_any Y u
  clear dB
  generalize lzAll X = A at *
  generalize lzAll Y = B at *
  have SA := Lib.hid (lV_size lA)
  have SB := Lib.hid (lV_size lB)
  go_enter Tryd.func52, Tryd.ntmps52
  go_upto_region 0 with fail; refine wp_region_lit ?_
  refine wpList_val (run_boxL (vs := feL X) rfl rfl) rfl ?_; (try simp only [Act.put, List.setIfInBounds_toArray, List.set_cons_zero, List.set_cons_succ]); replace hM := Lib.hid (hM.out.new (feL X) 31); generalize w.alloc (.cells (feL X).toArray 31) = a1 at *; generalize w.heap.size = g1 at *
  refine wpList_val (run_boxL (vs := feL Y) rfl rfl) rfl ?_; (try simp only [Act.put, List.setIfInBounds_toArray, List.set_cons_zero, List.set_cons_succ]); replace hM := Lib.hid (hM.out.new (feL Y) 31); generalize a1.alloc (.cells (feL Y).toArray 31) = a2 at *; generalize a1.heap.size = g2 at *
  refine wpList_val (run_alc (vs := zq 4) rfl (by kernel_rfl)) rfl ?_; (try simp only [Act.put, List.setIfInBounds_toArray, List.set_cons_zero, List.set_cons_succ]); replace hM := Lib.hid (hM.out.new (zq 4) 31); generalize a2.alloc (.cells (zq 4).toArray 31) = a3 at *; generalize a2.heap.size = g3 at *
  refine wpList_end ?_
  go_upto_region 1 with fail; refine wp_region_lit ?_
  refine wpList_val (run_ldM (vs := feL X) rfl Tryd.underlying31 rfl (szFe _) rfl ((hM.out.get (i := 2) rfl).range)) rfl ?_; (try simp only [Act.put, List.setIfInBounds_toArray, List.set_cons_zero, List.set_cons_succ])
  refine wpList_enter (run_call1 enters_limbsF rfl rfl rfl) rfl (CA.out _) (fun a4 hb => ?_); (try simp only [Act.put, List.setIfInBounds_toArray, List.set_cons_zero, List.set_cons_succ]); replace hM := Lib.hid (hM.out.below hb); clear hb
  refine wpList_val (run_alc (vs := zq 16) rfl (by kernel_rfl)) rfl ?_; (try simp only [Act.put, List.setIfInBounds_toArray, List.set_cons_zero, List.set_cons_succ]); replace hM := Lib.hid (hM.out.new (zq 16) 91); generalize a4.alloc (.cells (zq 16).toArray 91) = a5 at *; generalize a4.heap.size = g4 at *
  refine wpList_skip (run_stM (vs := lL A) rfl SA.out rfl rfl (lV_one _) (by rw [lL_len lA]; exact (hM.out.get (i := 0) rfl).there)) rfl rfl ?_
  replace hM := Lib.hid (hM.out.put 0 rfl (m := lL A) (lL_len lA))
  generalize a5.setCells g4 0 (lL A) = a6 at *
  refine wpList_end ?_
  go_upto_region 2 with fail; refine wp_region_lit ?_
  refine wpList_val (run_ldM (vs := feL Y) rfl Tryd.underlying31 rfl (szFe _) rfl ((hM.out.get (i := 2) rfl).range)) rfl ?_; (try simp only [Act.put, List.setIfInBounds_toArray, List.set_cons_zero, List.set_cons_succ])
  refine wpList_enter (run_call1 enters_limbsF rfl rfl rfl) rfl (CB.out _) (fun a7 hb => ?_); (try simp only [Act.put, List.setIfInBounds_toArray, List.set_cons_zero, List.set_cons_succ]); replace hM := Lib.hid (hM.out.below hb); clear hb
  refine wpList_val (run_alc (vs := zq 16) rfl (by kernel_rfl)) rfl ?_; (try simp only [Act.put, List.setIfInBounds_toArray, List.set_cons_zero, List.set_cons_succ]); replace hM := Lib.hid (hM.out.new (zq 16) 91); generalize a7.alloc (.cells (zq 16).toArray 91) = a8 at *; generalize a7.heap.size = g5 at *
  refine wpList_skip (run_stM (vs := lL B) rfl SB.out rfl rfl (lV_one _) (by rw [lL_len lB]; exact (hM.out.get (i := 0) rfl).there)) rfl rfl ?_
  replace hM := Lib.hid (hM.out.put 0 rfl (m := lL B) (lL_len lB))
  generalize a8.setCells g5 0 (lL B) = a9 at *
  refine wpList_end ?_
  go_upto_region 3 with fail; refine wp_region_lit ?_
  refine wpList_val (run_asg (v := .int _ _) rfl rfl) rfl ?_; (try simp only [Act.put, List.setIfInBounds_toArray, List.set_cons_zero, List.set_cons_succ])
  refine wpList_end ?_
  go_wp2_with fail
  go_loopw [7] (fun s u => ∃ (k : Nat) (l : List Int), k ≤ 16 ∧ s = .int .i64 (k : Int) ∧ AdI A B k l ∧ Mv w [(g5, lL B), (g4, lL l), (g3, zq 4), (g2, feL Y), (g1, feL X)] u) (fun s _ => (16 - intOf s).toNat)
  case atStart => exact ⟨0, A, by omega, rfl, S0.out, hM.out⟩
  case round =>
    obtain ⟨k, l, hk, rfl, hA, hJ⟩ := hrel
    replace hM := Lib.hid hJ
    have HA := Lib.hid hA
    have hll := hA.len
    clear hJ hA
    by_cases hlt : k = 16
    · subst hlt
      have hk1 : ¬ (((16 : Nat) : Int) < 16) := by omega
      have hW := Lib.hid (HA.out.wides (Nat.le_refl _))
      have SL := Lib.hid (lV_size hll)
      have hv := HE.out l HA.out
      go_upto_region 7 with fail; refine wp_region_lit ?_
      refine wpList_val (run_ldM (vs := lL l) rfl Tryd.underlying91 rfl SL.out rfl (hM.out.get (i := 1) rfl).range) rfl ?_; (try simp only [Act.put, List.setIfInBounds_toArray, List.set_cons_zero, List.set_cons_succ])
      refine wpList_enter (run_call1 enters_fe rfl rfl rfl) rfl (fe_limbs l _ hll hW.out) (fun b1 hb => ?_); (try simp only [Act.put, List.setIfInBounds_toArray, List.set_cons_zero, List.set_cons_succ]); replace hM := Lib.hid (hM.out.below hb); clear hb
      rw [hv]
      refine wpList_skip (run_stM (vs := feL ((X + Y) % pp)) rfl (szFe _) rfl rfl (oneFe _) ((hM.out.get (i := 2) rfl).there)) rfl rfl ?_; replace hM := Lib.hid (hM.out.put 2 rfl (m := feL ((X + Y) % pp)) rfl); generalize b1.setCells g3 0 (feL ((X + Y) % pp)) = b2 at *
      refine wpList_end ?_; go_wp2_with fail; refine bodyPost_ret (v := .agg (feL ((X + Y) % pp)).toArray) (results_rowB Tryd.results52 rfl Tryd.underlying31 rfl (szFe _) (hM.out.get (i := 2) rfl).range) rfl ⟨rfl, hM.out.bl⟩
    · have hk1 : (k : Int) < 16 := by omega
      have HN := Lib.hid (SS.out k l HA.out (by omega))
      have hx := HA.out.get (show k < 16 by omega)
      have hy := BB.out k (by omega)
      have GL := Lib.hid (get_nth (l := l) (i := k) (by omega))
      have GB := Lib.hid (get_nth (l := B) (i := k) (by omega))
      generalize nth l k = x at *
      generalize nth B k = y at *
      go_upto_region 6 with fail; refine wp_region_calm 8 (by kernel_rfl) (by kernel_rfl) ?_
      refine wpCalm_step _ (fun V hV => calm_run (run_mv (v := .int _ _) rfl rfl)) ?_; (try simp only [Act.put, List.setIfInBounds_toArray, List.set_cons_zero, List.set_cons_succ])
      refine wpCalm_step _ (fun V hV => calm_run (run_ix0 (i := k) rfl Tryd.underlying91 (by kernel_rfl) rfl rfl (by omega))) ?_; (try simp only [Act.put, List.setIfInBounds_toArray, List.set_cons_zero, List.set_cons_succ])
      refine wpCalm_step _ (fun V hV => calm_run (run_ld64 rfl rfl (((hM.out.below hV).get (i := 1) rfl).c k _ GL.out))) ?_; (try simp only [Act.put, List.setIfInBounds_toArray, List.set_cons_zero, List.set_cons_succ])
      refine wpCalm_step _ (fun V hV => calm_run (run_mv (v := .int _ _) rfl rfl)) ?_; (try simp only [Act.put, List.setIfInBounds_toArray, List.set_cons_zero, List.set_cons_succ])
      refine wpCalm_step _ (fun V hV => calm_run (run_ix0 (i := k) rfl Tryd.underlying91 (by kernel_rfl) rfl rfl (by omega))) ?_; (try simp only [Act.put, List.setIfInBounds_toArray, List.set_cons_zero, List.set_cons_succ])
      refine wpCalm_step _ (fun V hV => calm_run (run_ld64 rfl rfl (((hM.out.below hV).get (i := 0) rfl).c k _ GB.out))) ?_; (try simp only [Act.put, List.setIfInBounds_toArray, List.set_cons_zero, List.set_cons_succ])
      refine wpCalm_step _ (fun V hV => calm_run (run_addU rfl rfl rfl (by omega) (by omega))) ?_; (try simp only [Act.put, List.setIfInBounds_toArray, List.set_cons_zero, List.set_cons_succ])
      refine wpCalm_step _ (fun V hV => calm_run (run_ix0 (i := k) rfl Tryd.underlying91 (by kernel_rfl) rfl rfl (by omega))) ?_; (try simp only [Act.put, List.setIfInBounds_toArray, List.set_cons_zero, List.set_cons_succ])
      refine wpCalm_done ?_; intro b1 hb; simp only [List.drop_succ_cons, List.drop_zero]
      replace hM := Lib.hid (hM.out.below hb)
      clear hb
      refine wpList_skip (run_stU rfl rfl rfl ((hM.out.get (i := 1) rfl).c k _ GL.out) ((hM.out.get (i := 1) rfl).f k)) rfl rfl ?_
      refine wpList_end ?_
      have hM2 : Hid (Mv w [(g5, lL B), (g4, lL (l.set k (x + y))), (g3, zq 4), (g2, feL Y), (g1, feL X)] (b1.setCell ⟨g4, k, none⟩ (.int .u64 (x + y)))) := Lib.hid (by
        have h := hM.out.set 1 rfl (j := k) (by rw [List.length_map]; omega) (.int .u64 (x + y))
        rw [set_lL] at h
        exact h)
      generalize b1.setCell ⟨g4, k, none⟩ (.int .u64 (x + y)) = b2 at *
      clear hM GL GB hx hy
      go_wp2_with fail
      exact ⟨⟨k + 1, l.set k (x + y), by omega, by go_num, HN.out, hM2.out⟩, by simp [intOf]; omega⟩
theorem enters_radd : Enters 52 := enters_of Tryd.func52 (by kernel_rfl) rfl
end Go.Proofs.YtfdjmdfaidiliaaDoor
