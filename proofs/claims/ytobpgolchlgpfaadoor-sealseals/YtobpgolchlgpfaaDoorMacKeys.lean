/- What mac.Keys does. -/
import Derived.Test.YtobpgolchlgpfaaDoorMacExpand
import Derived.Test.YtobpgolchlgpfaaDoorKeySl
namespace Go.Proofs.YtobpgolchlgpfaaDoor
open Go.RowKit
set_option maxRecDepth 20000

theorem enters_keys : Enters 25 := enters_of Tryd.func25 (by kernel_rfl) rfl
theorem run_call4 {w : World} {ρ : Operand → Value} {o : Oper} {f : FuncId} {x y z z' : Operand} {a b c d : Value} {ts : Array TypeId} (hE : Enters f) (ho : o.op = .call { callee := .value (.func f), args := #[x, y, z, z'], argTypes := ts }) (hf : ρ (.func f) = .func (.func f) #[] #[]) (hx : ρ x = a) (hy : ρ y = b) (hz : ρ z = c) (hz' : ρ z' = d) : (execOp ρ o).run Tryd.prog w = .ok (.enter f #[a, b, c, d]) w := by
  rw [run_call hE ho hf]
  have e : (#[x, y, z, z'] : Array Operand).map ρ = #[a, b, c, d] := by simp [hx, hy, hz, hz']
  rw [e]
def kyL (B : List (BitVec 8)) (n i : Nat) : List (BitVec 8) := B.take (32 * i) ++ List.replicate (32 * (n - i)) 0
theorem kyL_len {B : List (BitVec 8)} {n i : Nat} (hB : B.length = 32 * n) (h : i ≤ n) : (kyL B n i).length = 32 * n := by
  unfold kyL; rw [List.length_append, List.length_take, List.length_replicate]; omega
theorem kyL_step {B : List (BitVec 8)} {n i : Nat} (hB : B.length = 32 * n) (h : i < n) : (kyL B n i).take (32 * i) ++ ((B.drop (32 * i)).take 32 ++ (kyL B n i).drop (32 * i + 32)) = kyL B n (i + 1) := by
  have hl : (B.take (32 * i)).length = 32 * i := by rw [List.length_take]; omega
  unfold kyL
  rw [List.take_append_of_le_length (by omega), List.take_of_length_le (l := B.take (32 * i)) (by omega), List.drop_append, List.drop_of_length_le (l := B.take (32 * i)) (by omega), List.nil_append, List.drop_replicate, ← List.append_assoc, hl, show 32 * (n - i) - (32 * i + 32 - 32 * i) = 32 * (n - (i + 1)) by omega]
  congr 1
  rw [show 32 * (i + 1) = 32 * i + 32 by omega, List.take_add]
theorem kyL_end {B : List (BitVec 8)} {n : Nat} (hB : B.length = 32 * n) : kyL B n n = B := by
  unfold kyL; rw [Nat.sub_self, List.take_of_length_le (by omega)]; simp
structure KyI (u3 : World) (x : List Value) (u : World) : Prop where
  bl : Below u3.heap.size u3 u
  O : Arr u3.heap.size x u
theorem KyI.below {u3 u u' : World} {x : List Value} (i : KyI u3 x u) (hb : Below u.heap.size u u') : KyI u3 x u' :=
  ⟨i.bl.trans (hb.mono i.bl.size), i.O.below hb⟩
theorem KyI.mid {u3 u : World} {x vs : List Value} {f : Nat} (i : KyI u3 x u) (h : f + vs.length ≤ x.length) : KyI u3 (x.take f ++ (vs ++ x.drop (f + vs.length))) (u.setCells u3.heap.size f vs) :=
  ⟨below_setCells (Nat.le_refl _) _ _ i.bl, i.O.mid h⟩

set_option maxHeartbeats 2000000 in
theorem keys_new (vs : Value) (s : List (BitVec 8)) (vb : Value) (b : List (BitVec 8)) (vi : Value) (info : List (BitVec 8)) (n : Nat) (w : World) (hs : Sl vs s w) (hsl : s.length < 1152921504606846976) (hb : Sl vb b w) (hbl : b.length ≤ 15000000) (hi : Sl vi info w) (hil : info.length ≤ 10000000) (hn : n ≤ 255) (hT : Tabs w) :
    Calls Tryd.prog 25 #[vs, vb, vi, .int .i64 (n : Int)] w fun e w' => ∃ v', e = .returned v' ∧ ((∃ g, v' = .slice (some ⟨g, 0, none⟩) n n ∧ w.heap.size ≤ g ∧ Arr g ((expand (extract s b) info (32 * n)).map b8) w') ∧ Below w.heap.size w w') := by
  have HT := Lib.hid hT; clear hT
  have HV := Lib.hid hs; clear hs
  have HB := Lib.hid hb; clear hb
  have HI := Lib.hid hi; clear hi
  go_enter Tryd.func25, Tryd.ntmps25
  go_upto_region 1 with fail; refine wp_region_lit ?_
  refine wpList_val (run_mv (v := .int _ _) rfl rfl) rfl ?_; (try simp only [Act.put, List.setIfInBounds_toArray, List.set_cons_zero, List.set_cons_succ])
  refine wpList_val (run_lssb (c := false) rfl rfl rfl (decide_eq_false (by omega))) rfl ?_; (try simp only [Act.put, List.setIfInBounds_toArray, List.set_cons_zero, List.set_cons_succ])
  refine wpList_val (run_mv (v := .bool false) rfl rfl) rfl ?_; (try simp only [Act.put, List.setIfInBounds_toArray, List.set_cons_zero, List.set_cons_succ])
  refine wpList_valG (run_mv (v := .int _ _) rfl rfl) rfl ?_; (try simp only [Act.put, List.setIfInBounds_toArray, List.set_cons_zero, List.set_cons_succ])
  refine wpList_valG (run_gtrb (c := false) rfl rfl rfl (decide_eq_false (by omega))) rfl ?_; (try simp only [Act.put, List.setIfInBounds_toArray, List.set_cons_zero, List.set_cons_succ])
  refine wpList_val (run_pick (b := false) (v := .bool false) rfl rfl rfl) rfl ?_; (try simp only [Act.put, List.setIfInBounds_toArray, List.set_cons_zero, List.set_cons_succ])
  refine wpList_end ?_
  go_upto_region 3 with fail; refine wp_region_lit ?_
  refine wpList_val (run_mv (v := vs) rfl rfl) rfl ?_; (try simp only [Act.put, List.setIfInBounds_toArray, List.set_cons_zero, List.set_cons_succ])
  refine wpList_val (run_mv (v := vb) rfl rfl) rfl ?_; (try simp only [Act.put, List.setIfInBounds_toArray, List.set_cons_zero, List.set_cons_succ])
  refine wpList_enter (run_call2 enters_extract rfl rfl rfl rfl) rfl (extract_any vs s vb b _ HV.out hsl HB.out hbl HT.out) (fun u1 bl => ?_); (try simp only [Act.put, List.setIfInBounds_toArray, List.set_cons_zero, List.set_cons_succ])
  refine wpList_val (run_mv (v := vi) rfl rfl) rfl ?_; (try simp only [Act.put, List.setIfInBounds_toArray, List.set_cons_zero, List.set_cons_succ])
  refine wpList_val (run_mv (v := .int _ _) rfl rfl) rfl ?_; (try simp only [Act.put, List.setIfInBounds_toArray, List.set_cons_zero, List.set_cons_succ])
  refine wpList_val (run_mul rfl rfl rfl (by omega) (by omega)) rfl ?_; (try simp only [Act.put, List.setIfInBounds_toArray, List.set_cons_zero, List.set_cons_succ])
  rw [show ((n : Int) * 32) = ((32 * n : Nat) : Int) by omega]
  refine wpList_callR (run_call3 enters_expand rfl rfl rfl rfl rfl) rfl (expand_any (extract s b) vi info (32 * n) _ (extract_len s b) (HI.out.below bl) hil (by omega) (HT.out.below bl)) (fun v9 u2 hR => ?_); (try simp only [Act.put, List.setIfInBounds_toArray, List.set_cons_zero, List.set_cons_succ])
  obtain ⟨S9, hb⟩ := hR
  replace bl := bl.trans (hb.mono bl.size)
  clear hb
  have hBl := expand_len (extract s b) info (32 * n)
  generalize hB : expand (extract s b) info (32 * n) = B at *
  have EB := Lib.hid hB; clear hB
  have H9 := Lib.hid S9
  obtain ⟨ao, c, rfl, -, -⟩ := S9
  rw [hBl] at H9 ⊢
  refine wpList_val (run_asg (v := .slice _ _ _) rfl rfl) rfl ?_; (try simp only [Act.put, List.setIfInBounds_toArray, List.set_cons_zero, List.set_cons_succ])
  refine wpList_end ?_
  go_upto_region 4 with fail; refine wp_region_lit ?_
  refine wpList_val (run_mv (v := .int _ _) rfl rfl) rfl ?_; (try simp only [Act.put, List.setIfInBounds_toArray, List.set_cons_zero, List.set_cons_succ])
  refine wpList_val (run_mkK rfl rfl rfl (by omega)) rfl ?_; (try simp only [Act.put, List.setIfInBounds_toArray, List.set_cons_zero, List.set_cons_succ])
  rw [show n * 32 = 32 * n by omega]
  refine wpList_val (run_asg (v := .slice (some _) _ _) rfl rfl) rfl ?_; (try simp only [Act.put, List.setIfInBounds_toArray, List.set_cons_zero, List.set_cons_succ])
  refine wpList_end ?_
  have hI : Hid (KyI u2 ((kyL B n 0).map b8) (u2.alloc (.cells (z8 (32 * n)).toArray 29))) := Lib.hid ⟨(Below.refl _ _).alloc (Nat.le_refl _) _, Arr.new u2 (z8 (32 * n)) 29⟩
  generalize u2.alloc (.cells (z8 (32 * n)).toArray 29) = u3 at *
  go_upto_region 5 with fail; refine wp_region_lit ?_
  refine wpList_val (run_mv (v := .int _ _) rfl rfl) rfl ?_; (try simp only [Act.put, List.setIfInBounds_toArray, List.set_cons_zero, List.set_cons_succ]); refine wpList_val (run_mv (v := .int _ _) rfl rfl) rfl ?_; (try simp only [Act.put, List.setIfInBounds_toArray, List.set_cons_zero, List.set_cons_succ])
  refine wpList_end ?_
  go_wp2_with fail
  go_loopw [28] (fun s u => ∃ i : Nat, i ≤ n ∧ s = .int .i64 (i : Int) ∧ KyI u2 ((kyL B n i).map b8) u) (fun s _ => (n - intOf s).toNat)
  case atStart => exact ⟨0, by omega, rfl, hI.out⟩
  case round =>
    obtain ⟨i, hi, rfl, hJ⟩ := hrel
    replace hI := Lib.hid hJ
    clear hJ
    by_cases hlt : i = n
    · subst hlt
      have hk1 : ¬ (((i : Nat) : Int) < (i : Int)) := by omega
      rw [kyL_end hBl] at hI
      go_upto_region 10 with fail; refine wp_region_lit ?_
      refine wpList_val (run_mv (v := .slice (some _) _ _) rfl rfl) rfl ?_; (try simp only [Act.put, List.setIfInBounds_toArray, List.set_cons_zero, List.set_cons_succ]); refine wpList_val (run_asg (v := .slice (some _) _ _) rfl rfl) rfl ?_; (try simp only [Act.put, List.setIfInBounds_toArray, List.set_cons_zero, List.set_cons_succ])
      refine wpList_end ?_
      go_wp2_with fail
      exact bodyPost_ret (results_tmp Tryd.results25 _ _ _) rfl ⟨_, rfl, ⟨_, rfl, bl.size, by rw [EB.out]; exact hI.out.O⟩, bl.trans (hI.out.bl.mono bl.size)⟩
    · have hk1 : (i : Int) < (n : Int) := by omega
      have hk2 : i < n := by omega
      have hxl := kyL_len hBl (Nat.le_of_lt hk2)
      have HX := Lib.hid (kyL_step hBl hk2)
      generalize kyL B n i = X at *
      have hdl : ((B.drop (32 * i)).take 32).length = 32 := by rw [List.length_take, List.length_drop]; omega
      go_upto_region 7 with fail; refine wp_region_lit ?_
      refine wpList_val (run_mv (v := .int _ _) rfl rfl) rfl ?_; (try simp only [Act.put, List.setIfInBounds_toArray, List.set_cons_zero, List.set_cons_succ]); refine wpList_val (run_asg (v := .int _ _) rfl rfl) rfl ?_; (try simp only [Act.put, List.setIfInBounds_toArray, List.set_cons_zero, List.set_cons_succ])
      refine wpList_end ?_
      go_upto_region 8 with fail; refine wp_region_calm 8 (by kernel_rfl) (by kernel_rfl) ?_
      refine wpCalm_step _ (fun V hV => calm_run (run_mv (v := .slice (some _) _ _) rfl rfl)) ?_; (try simp only [Act.put, List.setIfInBounds_toArray, List.set_cons_zero, List.set_cons_succ]); refine wpCalm_step _ (fun V hV => calm_run (run_mv (v := .int _ _) rfl rfl)) ?_; (try simp only [Act.put, List.setIfInBounds_toArray, List.set_cons_zero, List.set_cons_succ])
      refine wpCalm_step _ (fun V hV => calm_run (run_ixK rfl rfl rfl hk2)) ?_; (try simp only [Act.put, List.setIfInBounds_toArray, List.set_cons_zero, List.set_cons_succ])
      rw [show 0 + i * 32 = 32 * i by omega]
      refine wpCalm_step _ (fun V hV => calm_run (run_slA rfl Tryd.underlying29 (by kernel_rfl) rfl)) ?_; (try simp only [Act.put, List.setIfInBounds_toArray, List.set_cons_zero, List.set_cons_succ])
      refine wpCalm_step _ (fun V hV => calm_run (run_mv (v := .slice _ _ _) rfl rfl)) ?_; (try simp only [Act.put, List.setIfInBounds_toArray, List.set_cons_zero, List.set_cons_succ]); refine wpCalm_step _ (fun V hV => calm_run (run_mv (v := .int _ _) rfl rfl)) ?_; (try simp only [Act.put, List.setIfInBounds_toArray, List.set_cons_zero, List.set_cons_succ])
      refine wpCalm_step _ (fun V hV => calm_run (run_mul rfl rfl rfl (by omega) (by omega))) ?_; (try simp only [Act.put, List.setIfInBounds_toArray, List.set_cons_zero, List.set_cons_succ])
      rw [show ((i : Int) * 32) = ((32 * i : Nat) : Int) by omega]
      refine wpCalm_step _ (fun V hV => calm_run (run_cut rfl Tryd.underlying30 (by kernel_rfl) rfl rfl (by omega))) ?_; (try simp only [Act.put, List.setIfInBounds_toArray, List.set_cons_zero, List.set_cons_succ])
      refine wpCalm_done ?_; intro u4 hb; simp only [List.drop_succ_cons, List.drop_zero]
      replace hI := Lib.hid (hI.out.below hb)
      have SC : Hid (Sl (cutO ao (32 * n) c (32 * i)) (B.drop (32 * i)) u4) := Lib.hid (by
        have h1 : Sl (.slice ao B.length c) B u2 := by rw [hBl]; exact H9.out
        have := (h1.below hI.out.bl).cut (k := 32 * i) (by omega)
        rwa [hBl] at this)
      clear hb
      refine wpList_val (run_cpyG (l := B.drop (32 * i)) (m := X.map b8) rfl rfl rfl SC.out hI.out.O (by rw [hdl, List.length_map]; omega)) rfl ?_; (try simp only [Act.put, List.setIfInBounds_toArray, List.set_cons_zero, List.set_cons_succ])
      rw [hdl]
      refine wpList_end ?_
      replace hI := Lib.hid (hI.out.mid (f := 32 * i) (vs := ((B.drop (32 * i)).take 32).map b8) (by rw [List.length_map, List.length_map]; omega))
      rw [← List.map_take, ← List.map_drop, List.length_map, hdl, ← List.map_append, ← List.map_append, HX.out] at hI
      generalize u4.setCells u2.heap.size (32 * i) (((B.drop (32 * i)).take 32).map b8) = u5 at *
      clear SC HX
      go_wp2_with fail
      go_roundw
      case rel => exact ⟨i + 1, by omega, by go_num, hI.out⟩
      case measure => simp [intOf]; omega
theorem keys_any (vs : Value) (s : List (BitVec 8)) (vb : Value) (b : List (BitVec 8)) (vi : Value) (info : List (BitVec 8)) (n : Nat) (w : World) (hs : Sl vs s w) (hsl : s.length < 1152921504606846976) (hb : Sl vb b w) (hbl : b.length ≤ 15000000) (hi : Sl vi info w) (hil : info.length ≤ 10000000) (hn : n ≤ 255) (hT : Tabs w) :
    Calls Tryd.prog 25 #[vs, vb, vi, .int .i64 (n : Int)] w fun e w' => ∃ v', e = .returned v' ∧ (KS v' n (expand (extract s b) info (32 * n)) w' ∧ Below w.heap.size w w') :=
  (keys_new vs s vb b vi info n w hs hsl hb hbl hi hil hn hT).mono fun _ _ ⟨v, h1, ⟨g, h2, _, h4⟩, h5⟩ => ⟨v, h1, ⟨_, _, h2, Nat.le_refl _, expand_len _ _ _, fun _ => ⟨g, rfl, h4.lt, h4.range⟩⟩, h5⟩
theorem keys_out (vs vb vi : Value) (n : Int) (w : World) (hn : n < 0 ∨ 255 < n) :
    Calls Tryd.prog 25 #[vs, vb, vi, .int .i64 n] w fun e w' => e = .returned (.slice none 0 0) ∧ w' = w := by
  go_enter Tryd.func25, Tryd.ntmps25
  go_upto_region 1 with fail; refine wp_region_lit ?_
  refine wpList_val (run_mv (v := .int _ _) rfl rfl) rfl ?_; (try simp only [Act.put, List.setIfInBounds_toArray, List.set_cons_zero, List.set_cons_succ])
  by_cases h0 : n < 0
  · refine wpList_val (run_lssb (c := true) rfl rfl rfl (decide_eq_true h0)) rfl ?_; (try simp only [Act.put, List.setIfInBounds_toArray, List.set_cons_zero, List.set_cons_succ])
    refine wpList_val (run_mv (v := .bool true) rfl rfl) rfl ?_; (try simp only [Act.put, List.setIfInBounds_toArray, List.set_cons_zero, List.set_cons_succ])
    refine wpList_pass rfl ?_; (try simp only [Act.put, List.setIfInBounds_toArray, List.set_cons_zero, List.set_cons_succ])
    refine wpList_pass rfl ?_; (try simp only [Act.put, List.setIfInBounds_toArray, List.set_cons_zero, List.set_cons_succ])
    refine wpList_val (run_pick (b := true) (v := .bool true) rfl rfl rfl) rfl ?_; (try simp only [Act.put, List.setIfInBounds_toArray, List.set_cons_zero, List.set_cons_succ])
    refine wpList_end ?_
    go_upto_region 2 with fail; refine wp_region_lit ?_
    refine wpList_val (run_asg (v := .slice _ _ _) rfl rfl) rfl ?_; (try simp only [Act.put, List.setIfInBounds_toArray, List.set_cons_zero, List.set_cons_succ])
    refine wpList_end ?_
    go_wp2_with fail
    exact bodyPost_ret (results_tmp Tryd.results25 _ _ _) rfl ⟨rfl, rfl⟩
  · refine wpList_val (run_lssb (c := false) rfl rfl rfl (decide_eq_false h0)) rfl ?_; (try simp only [Act.put, List.setIfInBounds_toArray, List.set_cons_zero, List.set_cons_succ])
    refine wpList_val (run_mv (v := .bool false) rfl rfl) rfl ?_; (try simp only [Act.put, List.setIfInBounds_toArray, List.set_cons_zero, List.set_cons_succ])
    refine wpList_valG (run_mv (v := .int _ _) rfl rfl) rfl ?_; (try simp only [Act.put, List.setIfInBounds_toArray, List.set_cons_zero, List.set_cons_succ])
    refine wpList_valG (run_gtrb (c := true) rfl rfl rfl (decide_eq_true (by omega))) rfl ?_; (try simp only [Act.put, List.setIfInBounds_toArray, List.set_cons_zero, List.set_cons_succ])
    refine wpList_val (run_pick (b := false) (v := .bool true) rfl rfl rfl) rfl ?_; (try simp only [Act.put, List.setIfInBounds_toArray, List.set_cons_zero, List.set_cons_succ])
    refine wpList_end ?_
    go_upto_region 2 with fail; refine wp_region_lit ?_
    refine wpList_val (run_asg (v := .slice _ _ _) rfl rfl) rfl ?_; (try simp only [Act.put, List.setIfInBounds_toArray, List.set_cons_zero, List.set_cons_succ])
    refine wpList_end ?_
    go_wp2_with fail
    exact bodyPost_ret (results_tmp Tryd.results25 _ _ _) rfl ⟨rfl, rfl⟩
end Go.Proofs.YtobpgolchlgpfaaDoor
