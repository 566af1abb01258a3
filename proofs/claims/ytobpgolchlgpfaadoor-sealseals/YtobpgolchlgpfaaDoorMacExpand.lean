/- What mac.link and mac.Expand do. -/
import Derived.Test.YtobpgolchlgpfaaDoorMacHmac
namespace Go.Proofs.YtobpgolchlgpfaaDoor
open Go.RowKit
set_option maxRecDepth 20000

theorem enters_link : Enters 58 := enters_of Tryd.func58 (by kernel_rfl) rfl
theorem enters_expand : Enters 38 := enters_of Tryd.func38 (by kernel_rfl) rfl
set_option maxHeartbeats 1000000 in
theorem link_any (vl : Value) (l : List (BitVec 8)) (vi : Value) (info : List (BitVec 8)) (m : BitVec 8) (w : World) (hl : Sl vl l w) (hi : Sl vi info w) (hn : l.length + info.length ≤ 15000000) :
    Calls Tryd.prog 58 #[vl, vi, b8 m] w fun e w' => ∃ v', e = .returned v' ∧ (Sl v' ((l ++ info) ++ [m]) w' ∧ Below w.heap.size w w') := by
  have HL := Lib.hid hl
  have HI := Lib.hid hi
  obtain ⟨ao, c, rfl, -, -⟩ := hl
  obtain ⟨ao', c', rfl, -, -⟩ := hi
  go_enter Tryd.func58, Tryd.ntmps58
  go_upto_region 1 with fail; refine wp_region_lit ?_
  refine wpList_val (run_mv (v := .slice _ _ _) rfl rfl) rfl ?_; (try simp only [Act.put, List.setIfInBounds_toArray, List.set_cons_zero, List.set_cons_succ])
  refine wpList_val (run_len rfl Tryd.underlying30 rfl) rfl ?_; (try simp only [Act.put, List.setIfInBounds_toArray, List.set_cons_zero, List.set_cons_succ])
  refine wpList_val (run_mv (v := .slice _ _ _) rfl rfl) rfl ?_; (try simp only [Act.put, List.setIfInBounds_toArray, List.set_cons_zero, List.set_cons_succ])
  refine wpList_val (run_len rfl Tryd.underlying30 rfl) rfl ?_; (try simp only [Act.put, List.setIfInBounds_toArray, List.set_cons_zero, List.set_cons_succ])
  refine wpList_val (run_add rfl rfl rfl (by omega) (by omega)) rfl ?_; (try simp only [Act.put, List.setIfInBounds_toArray, List.set_cons_zero, List.set_cons_succ])
  refine wpList_val (run_add rfl rfl rfl (by omega) (by omega)) rfl ?_; (try simp only [Act.put, List.setIfInBounds_toArray, List.set_cons_zero, List.set_cons_succ])
  rw [show ((l.length : Int) + (info.length : Int) + 1) = ((l.length + info.length + 1 : Nat) : Int) by omega]
  refine wpList_val (run_mk8 rfl rfl rfl (by omega)) rfl ?_; (try simp only [Act.put, List.setIfInBounds_toArray, List.set_cons_zero, List.set_cons_succ])
  refine wpList_val (run_asg (v := .slice (some _) _ _) rfl rfl) rfl ?_; (try simp only [Act.put, List.setIfInBounds_toArray, List.set_cons_zero, List.set_cons_succ])
  refine wpList_end ?_
  have bl : Below w.heap.size w (w.alloc (.cells (z8 (l.length + info.length + 1)).toArray 5)) := (Below.refl _ _).alloc (Nat.le_refl _) _
  have HA := Lib.hid (Arr.new w (z8 (l.length + info.length + 1)) 5)
  generalize w.alloc (.cells (z8 (l.length + info.length + 1)).toArray 5) = u1 at *
  have ht1 : l.take (l.length + info.length + 1) = l := List.take_of_length_le (by omega)
  go_upto_region 2 with fail; refine wp_region_lit ?_
  refine wpList_val (run_mv (v := .slice (some _) _ _) rfl rfl) rfl ?_; (try simp only [Act.put, List.setIfInBounds_toArray, List.set_cons_zero, List.set_cons_succ]); refine wpList_val (run_mv (v := .slice _ _ _) rfl rfl) rfl ?_; (try simp only [Act.put, List.setIfInBounds_toArray, List.set_cons_zero, List.set_cons_succ])
  refine wpList_val (run_cpyG (l := l) (m := z8 (l.length + info.length + 1)) rfl rfl rfl (HL.out.below bl) HA.out (by rw [ht1, z8_len]; omega)) rfl ?_; (try simp only [Act.put, List.setIfInBounds_toArray, List.set_cons_zero, List.set_cons_succ])
  rw [ht1]
  refine wpList_end ?_
  replace HA := Lib.hid (HA.out.mid (f := 0) (vs := l.map b8) (by rw [List.length_map, z8_len]; omega))
  replace bl := below_setCells (Nat.le_refl _) (l.map b8) 0 bl
  generalize u1.setCells w.heap.size 0 (l.map b8) = u2 at *
  rw [List.take_zero, List.nil_append, Nat.zero_add, z8_app] at HA
  go_upto_region 3 with fail; refine wp_region_lit ?_
  refine wpList_val (run_mv (v := .slice (some _) _ _) rfl rfl) rfl ?_; (try simp only [Act.put, List.setIfInBounds_toArray, List.set_cons_zero, List.set_cons_succ]); refine wpList_val (run_mv (v := .slice _ _ _) rfl rfl) rfl ?_; (try simp only [Act.put, List.setIfInBounds_toArray, List.set_cons_zero, List.set_cons_succ])
  refine wpList_val (run_len rfl Tryd.underlying30 rfl) rfl ?_; (try simp only [Act.put, List.setIfInBounds_toArray, List.set_cons_zero, List.set_cons_succ])
  refine wpList_val (run_cut rfl Tryd.underlying30 (by kernel_rfl) rfl rfl (by omega)) rfl ?_; (try simp only [Act.put, List.setIfInBounds_toArray, List.set_cons_zero, List.set_cons_succ])
  have ec : cutO (some ⟨w.heap.size, 0, none⟩) (l.length + info.length + 1) (l.length + info.length + 1) l.length = .slice (some ⟨w.heap.size, l.length, none⟩) (info.length + 1) (info.length + 1) := by
    unfold cutO
    rw [show l.length + info.length + 1 - l.length = info.length + 1 by omega, if_neg (by omega), Option.map_some, Addr.add_mid, Nat.zero_add]
  rw [ec]
  clear ec
  refine wpList_val (run_mv (v := .slice _ _ _) rfl rfl) rfl ?_; (try simp only [Act.put, List.setIfInBounds_toArray, List.set_cons_zero, List.set_cons_succ])
  have ht2 : info.take (info.length + 1) = info := List.take_of_length_le (by omega)
  refine wpList_val (run_cpyG (l := info) (m := (l ++ List.replicate (l.length + info.length + 1 - l.length) 0).map b8) rfl rfl rfl (HI.out.below bl) HA.out (by rw [ht2, List.length_map, List.length_append, List.length_replicate]; omega)) rfl ?_; (try simp only [Act.put, List.setIfInBounds_toArray, List.set_cons_zero, List.set_cons_succ])
  rw [ht2]
  refine wpList_end ?_
  replace HA := Lib.hid (HA.out.mid (f := l.length) (vs := info.map b8) (by rw [List.length_map, List.length_map, List.length_append, List.length_replicate]; omega))
  replace bl := below_setCells (Nat.le_refl _) (info.map b8) l.length bl
  generalize u2.setCells w.heap.size l.length (info.map b8) = u3 at *
  have e2 : ((l ++ List.replicate (l.length + info.length + 1 - l.length) (0 : BitVec 8)).map b8).take l.length ++ (info.map b8 ++ ((l ++ List.replicate (l.length + info.length + 1 - l.length) 0).map b8).drop (l.length + (info.map b8).length)) = ((l ++ info) ++ [0]).map b8 := by
    rw [← List.map_take, List.take_left, ← List.map_drop, List.length_map, List.drop_append, List.drop_of_length_le (by omega), List.nil_append, List.drop_replicate, show l.length + info.length + 1 - l.length - (l.length + info.length - l.length) = 1 by omega, ← List.map_append, ← List.map_append, List.append_assoc]
    rfl
  rw [e2] at HA
  clear e2 ht1 ht2
  go_upto_region 4 with fail; refine wp_region_lit ?_
  refine wpList_val (run_mv (v := .slice (some _) _ _) rfl rfl) rfl ?_; (try simp only [Act.put, List.setIfInBounds_toArray, List.set_cons_zero, List.set_cons_succ]); refine wpList_val (run_mv (v := .slice _ _ _) rfl rfl) rfl ?_; (try simp only [Act.put, List.setIfInBounds_toArray, List.set_cons_zero, List.set_cons_succ])
  refine wpList_val (run_len rfl Tryd.underlying30 rfl) rfl ?_; (try simp only [Act.put, List.setIfInBounds_toArray, List.set_cons_zero, List.set_cons_succ])
  refine wpList_val (run_mv (v := .slice _ _ _) rfl rfl) rfl ?_; (try simp only [Act.put, List.setIfInBounds_toArray, List.set_cons_zero, List.set_cons_succ])
  refine wpList_val (run_len rfl Tryd.underlying30 rfl) rfl ?_; (try simp only [Act.put, List.setIfInBounds_toArray, List.set_cons_zero, List.set_cons_succ])
  refine wpList_val (run_add rfl rfl rfl (by omega) (by omega)) rfl ?_; (try simp only [Act.put, List.setIfInBounds_toArray, List.set_cons_zero, List.set_cons_succ])
  rw [show ((l.length : Int) + (info.length : Int)) = ((l.length + info.length : Nat) : Int) by omega]
  refine wpList_val (run_mv (v := b8 _) rfl rfl) rfl ?_; (try simp only [Act.put, List.setIfInBounds_toArray, List.set_cons_zero, List.set_cons_succ])
  refine wpList_val (run_ixs rfl Tryd.underlying30 (by kernel_rfl) rfl rfl (by omega)) rfl ?_; (try simp only [Act.put, List.setIfInBounds_toArray, List.set_cons_zero, List.set_cons_succ])
  rw [Nat.zero_add (l.length + info.length)]
  have hlen : ((l ++ info) ++ [(0 : BitVec 8)]).length = l.length + info.length + 1 := by rw [List.length_append, List.length_append]; rfl
  refine wpList_skip (run_st8 rfl rfl rfl (HA.out.c (l.length + info.length) _ (get_map b8 0 (by omega))) (HA.out.f _)) rfl rfl ?_
  refine wpList_end ?_
  replace HA := Lib.hid (HA.out.set (i := l.length + info.length) (by rw [List.length_map]; omega) (b8 m))
  replace bl := bl.setCell (p := ⟨w.heap.size, l.length + info.length, none⟩) (Nat.le_refl _) (b8 m)
  generalize u3.setCell ⟨w.heap.size, l.length + info.length, none⟩ (b8 m) = u4 at *
  have e3 : ((l ++ info) ++ [(0 : BitVec 8)]).set (l.length + info.length) m = (l ++ info) ++ [m] := by
    rw [List.set_append_right _ _ (by rw [List.length_append]; omega), List.length_append, Nat.sub_self]
    rfl
  rw [set_map, e3] at HA
  clear e3
  have HS : Hid (Sl (.slice (some ⟨w.heap.size, 0, none⟩) (l.length + info.length + 1) (l.length + info.length + 1)) ((l ++ info) ++ [m]) u4) := Lib.hid (by
    have hm : ((l ++ info) ++ [m]).length = l.length + info.length + 1 := by rw [List.length_append, List.length_append]; rfl
    have := Sl.arr HA.out (c := l.length + info.length + 1) (by omega)
    rwa [hm] at this)
  clear HA
  go_upto_region 5 with fail; refine wp_region_lit ?_
  refine wpList_val (run_mv (v := .slice (some _) _ _) rfl rfl) rfl ?_; (try simp only [Act.put, List.setIfInBounds_toArray, List.set_cons_zero, List.set_cons_succ]); refine wpList_val (run_asg (v := .slice (some _) _ _) rfl rfl) rfl ?_; (try simp only [Act.put, List.setIfInBounds_toArray, List.set_cons_zero, List.set_cons_succ])
  refine wpList_end ?_
  go_wp2_with fail
  exact bodyPost_ret (results_tmp Tryd.results58 _ _ _) rfl ⟨_, rfl, HS.out, bl⟩
/-- A row that was laid behind u0. -/
structure PartR (u0 : World) (T : List (BitVec 8)) (s : Value) (u : World) : Prop where
  ex : ∃ g, s = .pointer (some ⟨g, 0, none⟩) ∧ u0.heap.size ≤ g ∧ Arr g (T.map b8) u
  bl : Below u0.heap.size u0 u
def exL (k info : List (BitVec 8)) (p i : Nat) : List (BitVec 8) := expA k info i ++ List.replicate (32 * (p - i)) 0
theorem exL_len {k info : List (BitVec 8)} {p i : Nat} (h : i ≤ p) : (exL k info p i).length = 32 * p := by
  unfold exL; rw [List.length_append, expA_len, List.length_replicate]; omega
theorem exL_step {k info : List (BitVec 8)} {p i : Nat} (h : i < p) : (exL k info p i).take (32 * i) ++ (tI k info (i + 1) ++ (exL k info p i).drop (32 * i + 32)) = exL k info p (i + 1) := by
  have hl := expA_len k info i
  unfold exL
  rw [List.take_append_of_le_length (by omega), List.take_of_length_le (by omega), List.drop_append, List.drop_of_length_le (by omega), List.nil_append, List.drop_replicate, expA, List.append_assoc, hl, show 32 * (p - i) - (32 * i + 32 - 32 * i) = 32 * (p - (i + 1)) by omega]
theorem exL_end (k info : List (BitVec 8)) (p : Nat) : exL k info p p = expA k info p := by unfold exL; rw [Nat.sub_self]; simp
theorem size_k32 {l : List (BitVec 8)} (h : l.length = 32) : (Tryd.prog.info? 29).map (·.size) = some (l.map b8).length := size_d32 h

set_option maxHeartbeats 2000000 in
theorem expand_any (K : List (BitVec 8)) (vi : Value) (info : List (BitVec 8)) (n : Nat) (w : World) (hK : K.length = 32) (hi : Sl vi info w) (hil : info.length ≤ 10000000) (hn : n ≤ 8160) (hT : Tabs w) :
    Calls Tryd.prog 38 #[.agg (K.map b8).toArray, vi, .int .i64 (n : Int)] w fun e w' => ∃ v', e = .returned v' ∧ (Sl v' (expand K info n) w' ∧ Below w.heap.size w w') := by
  have HT := Lib.hid hT; clear hT
  have HI := Lib.hid hi
  obtain ⟨ao, c, rfl, -, -⟩ := hi
  have EE : Hid (expand K info n = (expA K info ((n + 31) / 32)).take n) := Lib.hid rfl
  go_enter Tryd.func38, Tryd.ntmps38
  go_upto_region 0 with fail; refine wp_region_lit ?_
  refine wpList_val (run_box rfl rfl) rfl ?_; (try simp only [Act.put, List.setIfInBounds_toArray, List.set_cons_zero, List.set_cons_succ])
  refine wpList_val (run_asg (v := .slice _ _ _) rfl rfl) rfl ?_; (try simp only [Act.put, List.setIfInBounds_toArray, List.set_cons_zero, List.set_cons_succ])
  refine wpList_end ?_
  go_upto_region 1 with fail; refine wp_region_lit ?_
  refine wpList_val (run_mv (v := .int _ _) rfl rfl) rfl ?_; (try simp only [Act.put, List.setIfInBounds_toArray, List.set_cons_zero, List.set_cons_succ])
  refine wpList_val (run_lssb (c := false) rfl rfl rfl (decide_eq_false (by omega))) rfl ?_; (try simp only [Act.put, List.setIfInBounds_toArray, List.set_cons_zero, List.set_cons_succ])
  refine wpList_val (run_mv (v := .bool false) rfl rfl) rfl ?_; (try simp only [Act.put, List.setIfInBounds_toArray, List.set_cons_zero, List.set_cons_succ])
  refine wpList_valG (run_mv (v := .int _ _) rfl rfl) rfl ?_; (try simp only [Act.put, List.setIfInBounds_toArray, List.set_cons_zero, List.set_cons_succ])
  refine wpList_valG (run_gtrb (c := false) rfl rfl rfl (decide_eq_false (by omega))) rfl ?_; (try simp only [Act.put, List.setIfInBounds_toArray, List.set_cons_zero, List.set_cons_succ])
  refine wpList_val (run_pick (b := false) (v := .bool false) rfl rfl rfl) rfl ?_; (try simp only [Act.put, List.setIfInBounds_toArray, List.set_cons_zero, List.set_cons_succ])
  refine wpList_end ?_
  go_upto_region 3 with fail; refine wp_region_lit ?_
  refine wpList_val (run_mv (v := .int _ _) rfl rfl) rfl ?_; (try simp only [Act.put, List.setIfInBounds_toArray, List.set_cons_zero, List.set_cons_succ])
  refine wpList_val (run_add rfl rfl rfl (by omega) (by omega)) rfl ?_; (try simp only [Act.put, List.setIfInBounds_toArray, List.set_cons_zero, List.set_cons_succ])
  refine wpList_val (run_sub rfl rfl rfl (by omega) (by omega)) rfl ?_; (try simp only [Act.put, List.setIfInBounds_toArray, List.set_cons_zero, List.set_cons_succ])
  refine wpList_val (run_quo rfl rfl rfl (by omega) (by omega) (by omega)) rfl ?_; (try simp only [Act.put, List.setIfInBounds_toArray, List.set_cons_zero, List.set_cons_succ])
  rw [show (((n : Int) + 32 - 1) / 32) = (((n + 31) / 32 : Nat) : Int) by omega]
  have hp : (n + 31) / 32 ≤ 255 ∧ n ≤ 32 * ((n + 31) / 32) := by omega
  generalize (n + 31) / 32 = p at *
  refine wpList_val (run_asg (v := .int _ _) rfl rfl) rfl ?_; (try simp only [Act.put, List.setIfInBounds_toArray, List.set_cons_zero, List.set_cons_succ])
  refine wpList_end ?_
  go_upto_region 4 with fail; refine wp_region_lit ?_
  refine wpList_val (run_mv (v := .int _ _) rfl rfl) rfl ?_; (try simp only [Act.put, List.setIfInBounds_toArray, List.set_cons_zero, List.set_cons_succ])
  refine wpList_val (run_mul rfl rfl rfl (by omega) (by omega)) rfl ?_; (try simp only [Act.put, List.setIfInBounds_toArray, List.set_cons_zero, List.set_cons_succ])
  rw [show ((p : Int) * 32) = ((32 * p : Nat) : Int) by omega]
  refine wpList_val (run_mk8 rfl rfl rfl (by omega)) rfl ?_; (try simp only [Act.put, List.setIfInBounds_toArray, List.set_cons_zero, List.set_cons_succ])
  refine wpList_val (run_asg (v := .slice (some _) _ _) rfl rfl) rfl ?_; (try simp only [Act.put, List.setIfInBounds_toArray, List.set_cons_zero, List.set_cons_succ])
  refine wpList_end ?_
  have hI := Lib.hid (TwoI.new w (K.map b8) (z8 (32 * p)) 29 5)
  rw [show (w.alloc (.cells (K.map b8).toArray 29)).heap.size = w.heap.size + 1 by simp]
  generalize (w.alloc (.cells (K.map b8).toArray 29)).alloc (.cells (z8 (32 * p)).toArray 5) = u1 at *
  replace hI : Hid (TwoI w (K.map b8) ((exL K info p 0).map b8) u1) := hI
  go_upto_region 5 with fail; refine wp_region_lit ?_
  refine wpList_val (run_asg (v := .slice _ _ _) rfl rfl) rfl ?_; (try simp only [Act.put, List.setIfInBounds_toArray, List.set_cons_zero, List.set_cons_succ])
  refine wpList_end ?_
  go_upto_region 6 with fail; refine wp_region_lit ?_
  refine wpList_val (run_mv (v := .int _ _) rfl rfl) rfl ?_; (try simp only [Act.put, List.setIfInBounds_toArray, List.set_cons_zero, List.set_cons_succ]); refine wpList_val (run_mv (v := .int _ _) rfl rfl) rfl ?_; (try simp only [Act.put, List.setIfInBounds_toArray, List.set_cons_zero, List.set_cons_succ])
  refine wpList_end ?_
  go_wp2_with fail
  go_loopw [9, 26] (fun s9 s u => ∃ i : Nat, i ≤ p ∧ s = .int .i64 (i : Int) ∧ Sl s9 (tI K info i) u ∧ TwoI w (K.map b8) ((exL K info p i).map b8) u) (fun _ s _ => (p - intOf s).toNat)
  case atStart => exact ⟨0, by omega, rfl, ⟨none, 0, rfl, Nat.le_refl _, fun h => absurd rfl h⟩, hI.out⟩
  case round v9 s _ =>
    obtain ⟨i, hi, rfl, hS9, hJ⟩ := hrel
    replace hI := Lib.hid hJ
    have H9 := Lib.hid hS9
    clear hJ hS9
    by_cases hlt : i = p
    · subst hlt
      have hk1 : ¬ (((i : Nat) : Int) < (i : Int)) := by omega
      rw [exL_end] at hI
      have hxl := expA_len K info i
      generalize expA K info i = X at *
      clear H9
      go_upto_region 13 with fail; refine wp_region_lit ?_
      refine wpList_val (run_mv (v := .slice (some _) _ _) rfl rfl) rfl ?_; (try simp only [Act.put, List.setIfInBounds_toArray, List.set_cons_zero, List.set_cons_succ]); refine wpList_val (run_mv (v := .int _ _) rfl rfl) rfl ?_; (try simp only [Act.put, List.setIfInBounds_toArray, List.set_cons_zero, List.set_cons_succ]); refine wpList_val (run_mv (v := .int _ _) rfl rfl) rfl ?_; (try simp only [Act.put, List.setIfInBounds_toArray, List.set_cons_zero, List.set_cons_succ])
      refine wpList_val (run_sl3 (h := n) (m := n) rfl Tryd.underlying30 (by kernel_rfl) rfl rfl rfl (Nat.le_refl _) (by omega)) rfl ?_; (try simp only [Act.put, List.setIfInBounds_toArray, List.set_cons_zero, List.set_cons_succ])
      refine wpList_val (run_asg (v := .slice (some _) _ _) rfl rfl) rfl ?_; (try simp only [Act.put, List.setIfInBounds_toArray, List.set_cons_zero, List.set_cons_succ])
      refine wpList_end ?_
      have HS : Hid (Sl (.slice (some ⟨w.heap.size + 1, 0, none⟩) n n) (X.take n) wr) := Lib.hid ⟨_, n, by rw [List.length_take, Nat.min_eq_left (by omega)], by rw [List.length_take]; omega, fun _ => ⟨_, 0, rfl, hI.out.O.lt, by rw [List.map_take]; exact rangeAt_take hI.out.O.range⟩⟩
      rw [← EE.out] at HS
      go_wp2_with fail
      exact bodyPost_ret (results_tmp Tryd.results38 _ _ _) rfl ⟨_, rfl, HS.out, hI.out.bl⟩
    · have hk1 : (i : Int) < (p : Int) := by omega
      have hk2 : i < p := by omega
      have hxl := exL_len (k := K) (info := info) (Nat.le_of_lt hk2)
      have HX := Lib.hid (exL_step (k := K) (info := info) hk2)
      have HTI : Hid (hmac K ((tI K info i ++ info) ++ [BitVec.ofNat 8 (i + 1)]) = tI K info (i + 1)) := Lib.hid rfl
      have htl := tI_len K info i
      have htle := tI_le K info i
      generalize exL K info p i = X at *
      generalize hT1 : tI K info (i + 1) = T1 at *
      have ET := Lib.hid hT1; clear hT1
      generalize tI K info i = T0 at *
      generalize hw0 : wr = u0 at *
      clear hw0
      go_upto_region 8 with fail; refine wp_region_lit ?_
      refine wpList_val (run_mv (v := .int _ _) rfl rfl) rfl ?_; (try simp only [Act.put, List.setIfInBounds_toArray, List.set_cons_zero, List.set_cons_succ]); refine wpList_val (run_asg (v := .int _ _) rfl rfl) rfl ?_; (try simp only [Act.put, List.setIfInBounds_toArray, List.set_cons_zero, List.set_cons_succ])
      refine wpList_end ?_
      go_upto_region 9 with fail
      go_cut [11] (fun s u => PartR u0 T1 s u)
      case first =>
        have HSK : Hid (∀ V, Below u0.heap.size u0 V → Sl (.slice (some ⟨w.heap.size, 0, none⟩) 32 32) K V) := Lib.hid fun V hV => by
          have := Sl.arr (hI.out.below hV).R (c := 32) (by omega)
          rwa [hK] at this
        refine wp_region_noPanic ?_; refine wp_region_late (S := fun _ V => Below u0.heap.size u0 V) (by kernel_rfl) ((Below.refl _ _).drew) (fun hS => ?_)
        refine wpAnyL_take 0 rfl rfl (by kernel_rfl) (by kernel_rfl) (by kernel_rfl) (fun _ _ _ h => h) rfl (fun V hV => run_slA rfl Tryd.underlying29 (by kernel_rfl) rfl) hS ?_; (try simp only [Act.put, List.setIfInBounds_toArray, List.set_cons_zero, List.set_cons_succ])
        refine wpAnyL_take 1 rfl rfl (by kernel_rfl) (by kernel_rfl) (by kernel_rfl) (fun _ _ _ h => h) rfl (fun V hV => run_mv (v := u9) rfl rfl) hS ?_; (try simp only [Act.put, List.setIfInBounds_toArray, List.set_cons_zero, List.set_cons_succ])
        refine wpAnyL_take 2 rfl rfl (by kernel_rfl) (by kernel_rfl) (by kernel_rfl) (fun _ _ _ h => h) rfl (fun V hV => run_mv (v := .slice _ _ _) rfl rfl) hS ?_; (try simp only [Act.put, List.setIfInBounds_toArray, List.set_cons_zero, List.set_cons_succ])
        refine wpAnyL_take 3 rfl rfl (by kernel_rfl) (by kernel_rfl) (by kernel_rfl) (fun _ _ _ h => h) rfl (fun V hV => run_mv (v := .int _ _) rfl rfl) hS ?_; (try simp only [Act.put, List.setIfInBounds_toArray, List.set_cons_zero, List.set_cons_succ])
        refine wpAnyL_take 4 rfl rfl (by kernel_rfl) (by kernel_rfl) (by kernel_rfl) (fun _ _ _ h => h) rfl (fun V hV => run_add rfl rfl rfl (by omega) (by omega)) hS ?_; (try simp only [Act.put, List.setIfInBounds_toArray, List.set_cons_zero, List.set_cons_succ])
        rw [show ((i : Int) + 1) = ((i + 1 : Nat) : Int) by omega]
        refine wpAnyL_take 5 rfl rfl (by kernel_rfl) (by kernel_rfl) (by kernel_rfl) (fun _ _ _ h => h) rfl (fun V hV => run_cvi_8 rfl rfl) hS ?_; (try simp only [Act.put, List.setIfInBounds_toArray, List.set_cons_zero, List.set_cons_succ])
        refine wpAnyL_two 6 8 (by kernel_rfl) ?_ ?_
        · refine wpOp_call 6 rfl rfl rfl (run_call3 enters_link rfl rfl rfl rfl rfl) (link_any _ T0 _ info _ _ (H9.out.below hS) (HI.out.below (hI.out.below hS).bl) (by omega)) (fun v35 u2 hR => ?_); (try simp only [Act.put, List.setIfInBounds_toArray, List.set_cons_zero, List.set_cons_succ])
          obtain ⟨S1, hb⟩ := hR
          replace hS := hS.trans (hb.mono hS.size)
          clear hb
          refine ⟨hS, ?_⟩
          refine wpAnyL_two 7 8 (by kernel_rfl) ?_ ?_
          · refine wpOp_call 7 rfl rfl rfl (run_call2 enters_hmac rfl rfl rfl rfl) (calls_eq (hmac_any _ K _ _ _ (HSK.out _ hS) (by omega) (S1) (by rw [List.length_append, List.length_append]; simp; omega) (HT.out.below (hI.out.below hS).bl))) (fun v u3 hR => ?_)
            obtain ⟨rfl, hb⟩ := hR
            rw [HTI.out]; (try simp only [Act.put, List.setIfInBounds_toArray, List.set_cons_zero, List.set_cons_succ])
            replace hS := hS.trans (hb.mono hS.size)
            clear hb S1
            refine ⟨hS, ?_⟩
            refine wpAnyL_val 8 (by kernel_rfl) rfl rfl rfl (run_alc (vs := z8 32) rfl (by kernel_rfl)) (hS.alloc hS.size _) ?_; (try simp only [Act.put, List.setIfInBounds_toArray, List.set_cons_zero, List.set_cons_succ])
            have hg := hS.size
            have A1 := Lib.hid (Arr.new u3 (z8 32) 29)
            replace hS := hS.alloc hg (.cells (z8 32).toArray 29)
            generalize u3.alloc (.cells (z8 32).toArray 29) = u4 at *
            generalize u3.heap.size = g at *
            refine wpAnyL_skip 9 (by kernel_rfl) rfl rfl rfl (run_stA (vs := T1.map b8) rfl (size_d32 htl) rfl rfl (one8 _) (by rw [List.length_map, htl, ← z8_len 32]; exact A1.out.there)) (below_setCells hg _ _ hS) ?_; refine wpAnyL_done (by kernel_rfl) ?_ _; refine NoPanic.normal ?_; go_wp2_with fail; go_meet; exact ⟨⟨_, rfl, hg, A1.out.put (by rw [List.length_map, htl, z8_len])⟩, below_setCells hg _ _ hS⟩
          · refine wpOp_val 8 rfl rfl rfl (run_alc (vs := z8 32) rfl (by kernel_rfl)) ?_; (try simp only [Act.put, List.setIfInBounds_toArray, List.set_cons_zero, List.set_cons_succ])
            have hg := hS.size
            have A1 := Lib.hid (Arr.new u2 (z8 32) 29)
            have hb : Below u2.heap.size u2 (u2.alloc (.cells (z8 32).toArray 29)) := (Below.refl _ _).alloc (Nat.le_refl _) _
            replace hS := hS.trans (hb.mono hS.size)
            replace S1 := S1.below hb
            refine ⟨hS, ?_⟩
            generalize u2.alloc (.cells (z8 32).toArray 29) = u3 at *
            generalize u2.heap.size = g at *
            clear hb
            refine wpAnyL_call 7 (by kernel_rfl) rfl rfl rfl (run_call2 enters_hmac rfl rfl rfl rfl) (calls_eq (hmac_any _ K _ _ _ (HSK.out _ hS) (by omega) S1 (by rw [List.length_append, List.length_append]; simp; omega) (HT.out.below (hI.out.below hS).bl))) (fun v w h => hS.trans (h.2.mono hS.size)) (fun v u4 hR => ?_); (try simp only [Act.put, List.setIfInBounds_toArray, List.set_cons_zero, List.set_cons_succ])
            obtain ⟨rfl, hb⟩ := hR
            rw [HTI.out]
            replace hS := hS.trans (hb.mono hS.size)
            replace A1 := Lib.hid (A1.out.below hb)
            clear hb S1
            refine wpAnyL_skip 9 (by kernel_rfl) rfl rfl rfl (run_stA (vs := T1.map b8) rfl (size_d32 htl) rfl rfl (one8 _) (by rw [List.length_map, htl, ← z8_len 32]; exact A1.out.there)) (below_setCells hg _ _ hS) ?_; refine wpAnyL_done (by kernel_rfl) ?_ _; refine NoPanic.normal ?_; go_wp2_with fail; go_meet; exact ⟨⟨_, rfl, hg, A1.out.put (by rw [List.length_map, htl, z8_len])⟩, below_setCells hg _ _ hS⟩
        · refine wpOp_val 8 rfl rfl rfl (run_alc (vs := z8 32) rfl (by kernel_rfl)) ?_; (try simp only [Act.put, List.setIfInBounds_toArray, List.set_cons_zero, List.set_cons_succ])
          have hg : u0.heap.size ≤ u0.drew.heap.size := hS.size
          have A1 := Lib.hid (Arr.new u0.drew (z8 32) 29)
          replace hS := hS.alloc hS.size (.cells (z8 32).toArray 29)
          refine ⟨hS, ?_⟩
          generalize u0.drew.alloc (.cells (z8 32).toArray 29) = u2 at *
          generalize u0.drew.heap.size = g at *
          refine wpAnyL_call 6 (by kernel_rfl) rfl rfl rfl (run_call3 enters_link rfl rfl rfl rfl rfl) (link_any _ T0 _ info _ _ (H9.out.below hS) (HI.out.below (hI.out.below hS).bl) (by omega)) (fun v w h => hS.trans (h.2.mono hS.size)) (fun v35 u3 hR => ?_); (try simp only [Act.put, List.setIfInBounds_toArray, List.set_cons_zero, List.set_cons_succ])
          obtain ⟨S1, hb⟩ := hR
          replace hS := hS.trans (hb.mono hS.size)
          replace A1 := Lib.hid (A1.out.below hb)
          clear hb
          refine wpAnyL_call 7 (by kernel_rfl) rfl rfl rfl (run_call2 enters_hmac rfl rfl rfl rfl) (calls_eq (hmac_any _ K _ _ _ (HSK.out _ hS) (by omega) S1 (by rw [List.length_append, List.length_append]; simp; omega) (HT.out.below (hI.out.below hS).bl))) (fun v w h => hS.trans (h.2.mono hS.size)) (fun v u4 hR => ?_); (try simp only [Act.put, List.setIfInBounds_toArray, List.set_cons_zero, List.set_cons_succ])
          obtain ⟨rfl, hb⟩ := hR
          rw [HTI.out]
          replace hS := hS.trans (hb.mono hS.size)
          replace A1 := Lib.hid (A1.out.below hb)
          clear hb S1
          refine wpAnyL_skip 9 (by kernel_rfl) rfl rfl rfl (run_stA (vs := T1.map b8) rfl (size_d32 htl) rfl rfl (one8 _) (by rw [List.length_map, htl, ← z8_len 32]; exact A1.out.there)) (below_setCells hg _ _ hS) ?_; refine wpAnyL_done (by kernel_rfl) ?_ _; refine NoPanic.normal ?_; go_wp2_with fail; go_meet; exact ⟨⟨_, rfl, hg, A1.out.put (by rw [List.length_map, htl, z8_len])⟩, below_setCells hg _ _ hS⟩
      case rest =>
        obtain ⟨⟨g, rfl, hg, AG⟩, hb⟩ := hcut
        have hgo : w.heap.size + 1 ≠ g := by have h1 : w.heap.size + 1 < u0.heap.size := hI.out.O.lt; clear hK; omega
        replace hI := Lib.hid (hI.out.below hb)
        have HG : Hid (∀ V, Below wc.heap.size wc V → Sl (.slice (some ⟨g, 0, none⟩) 32 32) T1 V) := Lib.hid fun V hV => by
          have := Sl.arr (AG.below hV) (c := 32) (by omega)
          rwa [htl] at this
        clear AG hb H9 HTI hg
        go_upto_region 10 with fail; refine wp_region_lit ?_
        refine wpList_val (run_mv (v := .slice (some _) _ _) rfl rfl) rfl ?_; (try simp only [Act.put, List.setIfInBounds_toArray, List.set_cons_zero, List.set_cons_succ]); refine wpList_val (run_mv (v := .int _ _) rfl rfl) rfl ?_; (try simp only [Act.put, List.setIfInBounds_toArray, List.set_cons_zero, List.set_cons_succ])
        refine wpList_val (run_mul rfl rfl rfl (by omega) (by omega)) rfl ?_; (try simp only [Act.put, List.setIfInBounds_toArray, List.set_cons_zero, List.set_cons_succ])
        refine wpList_val (run_mv (v := .int _ _) rfl rfl) rfl ?_; (try simp only [Act.put, List.setIfInBounds_toArray, List.set_cons_zero, List.set_cons_succ])
        refine wpList_val (run_add rfl rfl rfl (by omega) (by omega)) rfl ?_; (try simp only [Act.put, List.setIfInBounds_toArray, List.set_cons_zero, List.set_cons_succ])
        refine wpList_val (run_mul rfl rfl rfl (by omega) (by omega)) rfl ?_; (try simp only [Act.put, List.setIfInBounds_toArray, List.set_cons_zero, List.set_cons_succ])
        rw [show ((i : Int) * 32) = ((32 * i : Nat) : Int) by omega, show (((i : Int) + 1) * 32) = ((32 * i + 32 : Nat) : Int) by omega]
        refine wpList_val (run_slhi (lo := 32 * i) (hi := 32 * i + 32) rfl Tryd.underlying30 (by kernel_rfl) rfl rfl rfl (by omega) (by omega)) rfl ?_; (try simp only [Act.put, List.setIfInBounds_toArray, List.set_cons_zero, List.set_cons_succ])
        have ec : cutO (some ⟨w.heap.size + 1, 0, none⟩) (32 * i + 32) (32 * p) (32 * i) = .slice (some ⟨w.heap.size + 1, 32 * i, none⟩) 32 (32 * p - 32 * i) := by
          unfold cutO
          rw [show 32 * i + 32 - 32 * i = 32 by omega, if_neg (by omega), Option.map_some, Addr.add_mid, Nat.zero_add]
        rw [ec]
        clear ec
        refine wpList_val (run_asg (v := .slice (some _) _ _) rfl rfl) rfl ?_; (try simp only [Act.put, List.setIfInBounds_toArray, List.set_cons_zero, List.set_cons_succ])
        refine wpList_end ?_
        go_upto_region 11 with fail; refine wp_region_lit ?_
        refine wpList_val (run_mv (v := .slice (some _) _ _) rfl rfl) rfl ?_; (try simp only [Act.put, List.setIfInBounds_toArray, List.set_cons_zero, List.set_cons_succ])
        refine wpList_val (run_slA rfl Tryd.underlying29 (by kernel_rfl) rfl) rfl ?_; (try simp only [Act.put, List.setIfInBounds_toArray, List.set_cons_zero, List.set_cons_succ])
        have ht2 : T1.take 32 = T1 := List.take_of_length_le (by omega)
        refine wpList_val (run_cpyG (l := T1) (m := X.map b8) rfl rfl rfl (HG.out _ (Below.refl _ _)) hI.out.O (by rw [ht2, List.length_map]; omega)) rfl ?_; (try simp only [Act.put, List.setIfInBounds_toArray, List.set_cons_zero, List.set_cons_succ])
        rw [ht2]
        refine wpList_end ?_
        have HS9 : Hid (Sl (.slice (some ⟨w.heap.size + 1, 32 * i, none⟩) 32 (32 * p - 32 * i)) T1 (wc.setCells (w.heap.size + 1) (32 * i) (T1.map b8))) := Lib.hid
          ⟨_, _, by rw [htl], by omega, fun _ => ⟨_, _, rfl, by rw [size_setCells]; exact hI.out.O.lt, World.rangeAt_setCells_same _ _ _ _ (fun j hj => by
            rw [List.length_map] at hj
            rw [hI.out.O.c (32 * i + j) _ (List.getElem?_eq_getElem (by rw [List.length_map]; omega))]
            exact ⟨rfl, hI.out.O.f _⟩)⟩⟩
        replace hI := Lib.hid (hI.out.mid (f := 32 * i) (vs := T1.map b8) (by rw [List.length_map, List.length_map]; omega))
        rw [← List.map_take, ← List.map_drop, List.length_map, htl, ← List.map_append, ← List.map_append, HX.out] at hI
        generalize wc.setCells (w.heap.size + 1) (32 * i) (T1.map b8) = u5 at *
        clear HG HX ht2
        go_wp2_with fail
        go_roundw
        case rel => exact ⟨i + 1, by omega, by go_num, by rw [ET.out]; exact HS9.out, hI.out⟩
        case measure => simp [intOf]; omega
/-- Too many, or less than none. -/
theorem expand_out (va vi : Value) (K : List (BitVec 8)) (n : Int) (w : World) (hva : va = .agg (K.map b8).toArray) (hn : n < 0 ∨ 8160 < n) :
    Calls Tryd.prog 38 #[va, vi, .int .i64 n] w fun e w' => ∃ v', e = .returned v' ∧ (Sl v' [] w' ∧ Below w.heap.size w w') := by
  subst hva
  go_enter Tryd.func38, Tryd.ntmps38
  go_upto_region 0 with fail; refine wp_region_lit ?_
  refine wpList_val (run_box rfl rfl) rfl ?_; (try simp only [Act.put, List.setIfInBounds_toArray, List.set_cons_zero, List.set_cons_succ])
  refine wpList_val (run_asg (v := .slice _ _ _) rfl rfl) rfl ?_; (try simp only [Act.put, List.setIfInBounds_toArray, List.set_cons_zero, List.set_cons_succ])
  refine wpList_end ?_
  have bl : Below w.heap.size w (w.alloc (.cells (K.map b8).toArray 29)) := (Below.refl _ _).alloc (Nat.le_refl _) _
  generalize w.alloc (.cells (K.map b8).toArray 29) = u1 at *
  have HS : Hid (Sl (.slice none 0 0) [] u1) := Lib.hid ⟨none, 0, rfl, Nat.le_refl _, fun h => absurd rfl h⟩
  go_upto_region 1 with fail; refine wp_region_lit ?_
  refine wpList_val (run_mv (v := .int _ _) rfl rfl) rfl ?_; (try simp only [Act.put, List.setIfInBounds_toArray, List.set_cons_zero, List.set_cons_succ])
  by_cases h0 : n < 0
  · refine wpList_val (run_lssb (c := true) rfl rfl rfl (decide_eq_true h0)) rfl ?_; (try simp only [Act.put, List.setIfInBounds_toArray, List.set_cons_zero, List.set_cons_succ])
    refine wpList_val (run_mv (v := .bool true) rfl rfl) rfl ?_; (try simp only [Act.put, List.setIfInBounds_toArray, List.set_cons_zero, List.set_cons_succ])
    refine wpList_pass rfl ?_; (try simp only [Act.put, List.setIfInBounds_toArray, List.set_cons_zero, List.set_cons_succ])
    refine wpList_pass rfl ?_; (try simp only [Act.put, List.setIfInBounds_toArray, List.set_cons_zero, List.set_cons_succ])
    refine wpList_val (run_pick (b := true) (v := .bool true) rfl rfl rfl) rfl ?_; (try simp only [Act.put, List.setIfInBounds_toArray, List.set_cons_zero, List.set_cons_succ])
    refine wpList_end ?_
    go_upto_region 2 with fail; refine wp_region_lit ?_
    refine wpList_val (run_asg (v := .slice _ _ _) rfl rfl) rfl ?_; (try simp only [Act.put, List.setIfInBounds_toArray, List.set_cons_zero, List.set_cons_succ])
    refine wpList_end ?_
    go_wp2_with fail
    exact bodyPost_ret (results_tmp Tryd.results38 _ _ _) rfl ⟨_, rfl, HS.out, bl⟩
  · refine wpList_val (run_lssb (c := false) rfl rfl rfl (decide_eq_false h0)) rfl ?_; (try simp only [Act.put, List.setIfInBounds_toArray, List.set_cons_zero, List.set_cons_succ])
    refine wpList_val (run_mv (v := .bool false) rfl rfl) rfl ?_; (try simp only [Act.put, List.setIfInBounds_toArray, List.set_cons_zero, List.set_cons_succ])
    refine wpList_valG (run_mv (v := .int _ _) rfl rfl) rfl ?_; (try simp only [Act.put, List.setIfInBounds_toArray, List.set_cons_zero, List.set_cons_succ])
    refine wpList_valG (run_gtrb (c := true) rfl rfl rfl (decide_eq_true (by omega))) rfl ?_; (try simp only [Act.put, List.setIfInBounds_toArray, List.set_cons_zero, List.set_cons_succ])
    refine wpList_val (run_pick (b := false) (v := .bool true) rfl rfl rfl) rfl ?_; (try simp only [Act.put, List.setIfInBounds_toArray, List.set_cons_zero, List.set_cons_succ])
    refine wpList_end ?_
    go_upto_region 2 with fail; refine wp_region_lit ?_
    refine wpList_val (run_asg (v := .slice _ _ _) rfl rfl) rfl ?_; (try simp only [Act.put, List.setIfInBounds_toArray, List.set_cons_zero, List.set_cons_succ])
    refine wpList_end ?_
    go_wp2_with fail
    exact bodyPost_ret (results_tmp Tryd.results38 _ _ _) rfl ⟨_, rfl, HS.out, bl⟩
end Go.Proofs.YtobpgolchlgpfaaDoor
