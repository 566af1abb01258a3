/- The law ScalarReduces, walked. -/
import Derived.Test.YtefaihdhnnldmaaDoorScKnown
import Derived.Test.YtefaihdhnnldmaaDoorScNear
namespace Go.Proofs.YtefaihdhnnldmaaDoor
open Go.RowKit
set_option maxRecDepth 20000

theorem run_eqbc {w : World} {ρ : Operand → Value} {o : Oper} {x y : Operand} {t : TypeId} {a b c : Bool} (ho : o.op = .binOp .eql 4 x y t) (hx : ρ x = .bool a) (hy : ρ y = .bool b) (hc : (a == b) = c) : (execOp ρ o).run Tryd.prog w = .ok (.value (.bool c)) w := by
  obtain ⟨dst, op, type, pos, after, guard⟩ := o
  subst ho
  subst hc
  have hu := Tryd.underlying4
  go_simp
theorem szT (s : List (BitVec 8)) (L : List (BitVec 8)) (Z : List (BitVec 8)) (n : Nat) (hs : s.length = 64) (hL : L.length = 32) (hZ : Z.length = 32) (hn : n ≤ 32) : (mixB L (s.take 32) n ++ mixB Z (s.drop 32) n).length = 64 := by
  rw [List.length_append, mixB_len (by omega) (by rw [List.length_take]; omega), mixB_len (by omega) (by rw [List.length_drop]; omega), List.length_take, List.length_drop]
  omega
theorem mixT_zero (s L Z : List (BitVec 8)) : mixB L (s.take 32) 0 ++ mixB Z (s.drop 32) 0 = s := by rw [mixB_zero, mixB_zero, List.take_append_drop]
theorem mixT_set {s L Z : List (BitVec 8)} {n : Nat} (hs : s.length = 64) (hL : L.length = 32) (hZ : Z = List.replicate 32 0) (hn : n < 32) : (((mixB L (s.take 32) n ++ mixB Z (s.drop 32) n).set (32 + n) 0).set n (L.getD n 0)) = mixB L (s.take 32) (n + 1) ++ mixB Z (s.drop 32) (n + 1) := by
  have l1 : (s.take 32).length = 32 := by rw [List.length_take]; omega
  have l2 : (s.drop 32).length = 32 := by rw [List.length_drop]; omega
  have lZ : Z.length = 32 := by rw [hZ]; exact List.length_replicate
  have e1 := mixB_set (X := L) (l := s.take 32) (n := n) (by omega) (by omega)
  have e2 := mixB_set (X := Z) (l := s.drop 32) (n := n) (by omega) (by omega)
  have e3 : Z.getD n 0 = 0 := by rw [hZ, List.getD_eq_getElem?_getD, List.getElem?_replicate]; split <;> rfl
  rw [e3] at e2
  have m1 := mixB_len (X := L) (l := s.take 32) (n := n) (by omega) (by omega)
  rw [l1] at m1
  rw [List.set_append_right _ _ (by omega), m1, Nat.add_sub_cancel_left, e2, List.set_append_left _ _ (by omega), e1]
set_option maxHeartbeats 16000000 in
theorem scalarReduces_any (s k : List (BitVec 8)) (n : Nat) (w : World) (hs : s.length = 64) (hk : k.length = 32) (hG : SG w) : Calls Tryd.prog 4 #[.agg (s.map b8).toArray, .agg (k.map b8).toArray, .int .u8 (n : Int)] w fun e w' => e = .returned (.bool true) ∧ Below w.heap.size w w' := by
  have HG := Lib.hid hG; clear hG
  have lL := nearL_len n
  have CN : Hid (∀ u : World, Calls Tryd.prog 10 #[.int .u8 (n : Int)] u fun e w' => e = .returned (.agg ((nearL n).map b8).toArray) ∧ Below u.heap.size u w') := Lib.hid fun u => near8_any n u
  generalize nearL n = L at *
  have R1 : Hid (∀ u : World, SG u → Calls Tryd.prog 11 #[.agg (s.map b8).toArray] u fun e w' => e = .returned (.agg ((sk (leB s % ell)).map b8).toArray) ∧ Below u.heap.size u w') := Lib.hid fun u h => sreduce_any s u hs h
  have R2 : Hid (∀ u : World, Calls Tryd.prog 12 #[.agg (s.map b8).toArray] u fun e w' => e = .returned (.agg ((sk (leB s % ell)).map b8).toArray) ∧ Below u.heap.size u w') := Lib.hid fun u => rreduce_any s u hs
  have C1 : Hid (∀ u : World, SG u → Calls Tryd.prog 13 #[.agg (k.map b8).toArray] u fun e w' => e = .returned (.bool (decide (leB k < ell))) ∧ Below u.heap.size u w') := Lib.hid fun u h => scanon_any k u hk h
  have C2 : Hid (∀ u : World, Calls Tryd.prog 14 #[.agg (k.map b8).toArray] u fun e w' => e = .returned (.bool (decide (leB k < ell))) ∧ Below u.heap.size u w') := Lib.hid fun u => rcanon_any k u hk
  have C3 : Hid (∀ u : World, SG u → Calls Tryd.prog 13 #[.agg (L.map b8).toArray] u fun e w' => e = .returned (.bool (decide (leB L < ell))) ∧ Below u.heap.size u w') := Lib.hid fun u h => scanon_any L u lL h
  have C4 : Hid (∀ u : World, Calls Tryd.prog 14 #[.agg (L.map b8).toArray] u fun e w' => e = .returned (.bool (decide (leB L < ell))) ∧ Below u.heap.size u w') := Lib.hid fun u => rcanon_any L u lL
  have CO : Hid (∀ u : World, SG u → Calls Tryd.prog 15 #[] u fun e w' => e = .returned (.agg ((sk ell).map b8).toArray) ∧ Below u.heap.size u w') := Lib.hid fun u h => sorder_any u h
  have CQ : Hid (∀ u : World, Calls Tryd.prog 16 #[] u fun e w' => e = .returned (.agg ((sk ell).map b8).toArray) ∧ Below u.heap.size u w') := Lib.hid fun u => rorder_any u
  have lX := sk_len (leB s % ell)
  have lO := sk_len ell
  generalize sk (leB s % ell) = X at *
  generalize sk ell = O at *
  generalize decide (leB k < ell) = cX at *
  generalize decide (leB L < ell) = cY at *
  have RT : Hid (∀ T : List (BitVec 8), T.length = 64 → ∃ Y : List (BitVec 8), Y.length = 32 ∧ (∀ u : World, SG u → Calls Tryd.prog 11 #[.agg (T.map b8).toArray] u fun e w' => e = .returned (.agg (Y.map b8).toArray) ∧ Below u.heap.size u w') ∧ (∀ u : World, Calls Tryd.prog 12 #[.agg (T.map b8).toArray] u fun e w' => e = .returned (.agg (Y.map b8).toArray) ∧ Below u.heap.size u w')) := Lib.hid fun T hT => ⟨_, sk_len _, fun u h => sreduce_any T u hT h, fun u => rreduce_any T u hT⟩
  have SS := Lib.hid (szSg hs)
  have SK := Lib.hid (szKy hk)
  have SL := Lib.hid (szKy lL)
  have LS : Hid ((s.map b8).length = (z8 64).length) := Lib.hid (by rw [List.length_map, hs]; rfl)
  have LL : Hid ((L.map b8).length = (z8 32).length) := Lib.hid (by rw [z8_32, List.length_map, lL])
  obtain ⟨Z, hZ⟩ : ∃ Z : List (BitVec 8), Z = List.replicate 32 0 := ⟨_, rfl⟩
  have lZ : Z.length = 32 := by rw [hZ]; exact List.length_replicate
  have MS : Hid (∀ j, j < 32 → (((mixB L (s.take 32) j ++ mixB Z (s.drop 32) j).set (32 + j) 0).set j (L.getD j 0)) = mixB L (s.take 32) (j + 1) ++ mixB Z (s.drop 32) (j + 1)) := Lib.hid fun j hj => mixT_set hs lL hZ hj
  have ML : Hid (∀ j, j ≤ 32 → (mixB L (s.take 32) j ++ mixB Z (s.drop 32) j).length = 64) := Lib.hid fun j hj => szT s L Z j hs lL lZ hj
  have M0 : Hid (mixB L (s.take 32) 0 ++ mixB Z (s.drop 32) 0 = s) := Lib.hid (mixT_zero s L Z)
  obtain ⟨F, hF⟩ : ∃ F, F = fun j => mixB L (s.take 32) j ++ mixB Z (s.drop 32) j := ⟨_, rfl⟩
  have FS : Hid (∀ j, j < 32 → ((F j).set (32 + j) 0).set j (L.getD j 0) = F (j + 1)) := Lib.hid (by rw [hF]; exact MS.out)
  have FL : Hid (∀ j, j ≤ 32 → (F j).length = 64) := Lib.hid (by rw [hF]; exact ML.out)
  have F0 : Hid (F 0 = s) := Lib.hid (by rw [hF]; exact M0.out)
  clear hF hZ MS ML M0
  have hM := Lib.hid (Mv.nil w)
  go_enter Tryd.func4, Tryd.ntmps4
  go_upto_region 0 with fail; refine wp_region_lit ?_
  refine wpList_val (run_boxL8 (vs := s.map b8) rfl rfl) rfl ?_; (try simp only [Act.put, List.setIfInBounds_toArray, List.set_cons_zero, List.set_cons_succ]); replace hM := Lib.hid (hM.out.new (s.map b8) 30); generalize w.alloc (.cells (s.map b8).toArray 30) = a1 at *; generalize w.heap.size = g1 at *
  refine wpList_val (run_boxL8 (vs := k.map b8) rfl rfl) rfl ?_; (try simp only [Act.put, List.setIfInBounds_toArray, List.set_cons_zero, List.set_cons_succ]); replace hM := Lib.hid (hM.out.new (k.map b8) 24); generalize a1.alloc (.cells (k.map b8).toArray 24) = a2 at *; generalize a1.heap.size = g2 at *
  refine wpList_val (run_asg (v := .bool false) rfl rfl) rfl ?_; (try simp only [Act.put, List.setIfInBounds_toArray, List.set_cons_zero, List.set_cons_succ])
  refine wpList_end ?_
  go_upto_region 1 with fail; refine wp_region_lit ?_
  (repeat ((first | refine wpList_val (run_mv (v := b32 _) rfl rfl) rfl ?_ | refine wpList_val (run_mv (v := b64 _) rfl rfl) rfl ?_ | refine wpList_val (run_mv (v := b8 _) rfl rfl) rfl ?_ | refine wpList_val (run_mv (v := .int _ _) rfl rfl) rfl ?_ | refine wpList_val (run_mv (v := .bool _) rfl rfl) rfl ?_ | refine wpList_val (run_mv (v := .slice (some _) _ _) rfl rfl) rfl ?_ | refine wpList_val (run_mv (v := .slice _ _ _) rfl rfl) rfl ?_ | refine wpList_val (run_mv (v := .pointer (some _)) rfl rfl) rfl ?_ | refine wpList_val (run_mv (v := .agg _) rfl rfl) rfl ?_ | refine wpList_val (run_asg (v := b32 _) rfl rfl) rfl ?_ | refine wpList_val (run_asg (v := b64 _) rfl rfl) rfl ?_ | refine wpList_val (run_asg (v := b8 _) rfl rfl) rfl ?_ | refine wpList_val (run_asg (v := .int _ _) rfl rfl) rfl ?_ | refine wpList_val (run_asg (v := .bool _) rfl rfl) rfl ?_ | refine wpList_val (run_asg (v := .slice (some _) _ _) rfl rfl) rfl ?_ | refine wpList_val (run_asg (v := .slice _ _ _) rfl rfl) rfl ?_ | refine wpList_val (run_asg (v := .pointer (some _)) rfl rfl) rfl ?_ | refine wpList_val (run_asg (v := .agg _) rfl rfl) rfl ?_ | refine wpList_val (run_mv rfl rfl) rfl ?_ | refine wpList_val (run_asg rfl rfl) rfl ?_ | refine wpList_val (run_xor32 rfl rfl rfl) rfl ?_ | refine wpList_val (run_and32 rfl rfl rfl) rfl ?_ | refine wpList_val (run_or32 rfl rfl rfl) rfl ?_ | refine wpList_val (run_add32 rfl rfl rfl) rfl ?_ | refine wpList_val (run_not32 rfl rfl) rfl ?_ | refine wpList_val (run_xor64 rfl rfl rfl) rfl ?_ | refine wpList_val (run_and64 rfl rfl rfl) rfl ?_ | refine wpList_val (run_or64 rfl rfl rfl) rfl ?_ | refine wpList_val (run_add64 rfl rfl rfl) rfl ?_ | refine wpList_val (run_not64 rfl rfl) rfl ?_ | refine wpList_val (run_xor8 rfl rfl rfl) rfl ?_ | refine wpList_val (run_and8 rfl rfl rfl) rfl ?_ | refine wpList_val (run_or8 rfl rfl rfl) rfl ?_ | refine wpList_val (run_add8 rfl rfl rfl) rfl ?_ | refine wpList_val (run_not8 rfl rfl) rfl ?_ | refine wpList_val (run_cv64_32 rfl rfl) rfl ?_ | refine wpList_val (run_cv8_32 rfl rfl) rfl ?_ | refine wpList_val (run_cv8_64 rfl rfl) rfl ?_ | refine wpList_val (run_cv32_8 rfl rfl) rfl ?_ | refine wpList_val (run_cv64_8 rfl rfl) rfl ?_); (try simp only [Act.put, List.setIfInBounds_toArray, List.set_cons_zero, List.set_cons_succ])))
  refine wpList_enter (run_call1 enters_near8 rfl rfl rfl) rfl (CN.out _) (fun a3 hb => ?_); (try simp only [Act.put, List.setIfInBounds_toArray, List.set_cons_zero, List.set_cons_succ]); replace hM := Lib.hid (hM.out.below hb); clear hb
  refine wpList_val (run_alc (vs := z8 32) rfl (by kernel_rfl)) rfl ?_; (try simp only [Act.put, List.setIfInBounds_toArray, List.set_cons_zero, List.set_cons_succ]); replace hM := Lib.hid (hM.out.new (z8 32) 24); generalize a3.alloc (.cells (z8 32).toArray 24) = a4 at *; generalize a3.heap.size = g3 at *
  refine wpList_skip (run_stM (vs := L.map b8) rfl SL.out rfl rfl (one8s _) (by rw [LL.out]; exact (hM.out.get (i := 0) rfl).there)) rfl rfl ?_; replace hM := Lib.hid (hM.out.put 0 rfl (m := L.map b8) (LL.out))
  refine wpList_end ?_
  generalize a4.setCells g3 0 (L.map b8) = a5 at *
  go_upto_region 2 with fail; refine wp_region_lit ?_
  refine wpList_val (run_ldM (vs := s.map b8) rfl Tryd.underlying30 rfl SS.out rfl ((hM.out.get (i := 2) rfl).range)) rfl ?_; (try simp only [Act.put, List.setIfInBounds_toArray, List.set_cons_zero, List.set_cons_succ])
  refine wpList_val (run_alc (vs := z8 64) rfl (by kernel_rfl)) rfl ?_; (try simp only [Act.put, List.setIfInBounds_toArray, List.set_cons_zero, List.set_cons_succ]); replace hM := Lib.hid (hM.out.new (z8 64) 30); generalize a5.alloc (.cells (z8 64).toArray 30) = a6 at *; generalize a5.heap.size = g4 at *
  refine wpList_skip (run_stM (vs := s.map b8) rfl SS.out rfl rfl (one8s _) (by rw [LS.out]; exact (hM.out.get (i := 0) rfl).there)) rfl rfl ?_; replace hM := Lib.hid (hM.out.put 0 rfl (m := s.map b8) (LS.out))
  refine wpList_end ?_
  generalize a6.setCells g4 0 (s.map b8) = a7 at *
  go_upto_region 3 with fail; refine wp_region_lit ?_
  (repeat ((first | refine wpList_val (run_mv (v := b32 _) rfl rfl) rfl ?_ | refine wpList_val (run_mv (v := b64 _) rfl rfl) rfl ?_ | refine wpList_val (run_mv (v := b8 _) rfl rfl) rfl ?_ | refine wpList_val (run_mv (v := .int _ _) rfl rfl) rfl ?_ | refine wpList_val (run_mv (v := .bool _) rfl rfl) rfl ?_ | refine wpList_val (run_mv (v := .slice (some _) _ _) rfl rfl) rfl ?_ | refine wpList_val (run_mv (v := .slice _ _ _) rfl rfl) rfl ?_ | refine wpList_val (run_mv (v := .pointer (some _)) rfl rfl) rfl ?_ | refine wpList_val (run_mv (v := .agg _) rfl rfl) rfl ?_ | refine wpList_val (run_asg (v := b32 _) rfl rfl) rfl ?_ | refine wpList_val (run_asg (v := b64 _) rfl rfl) rfl ?_ | refine wpList_val (run_asg (v := b8 _) rfl rfl) rfl ?_ | refine wpList_val (run_asg (v := .int _ _) rfl rfl) rfl ?_ | refine wpList_val (run_asg (v := .bool _) rfl rfl) rfl ?_ | refine wpList_val (run_asg (v := .slice (some _) _ _) rfl rfl) rfl ?_ | refine wpList_val (run_asg (v := .slice _ _ _) rfl rfl) rfl ?_ | refine wpList_val (run_asg (v := .pointer (some _)) rfl rfl) rfl ?_ | refine wpList_val (run_asg (v := .agg _) rfl rfl) rfl ?_ | refine wpList_val (run_mv rfl rfl) rfl ?_ | refine wpList_val (run_asg rfl rfl) rfl ?_ | refine wpList_val (run_xor32 rfl rfl rfl) rfl ?_ | refine wpList_val (run_and32 rfl rfl rfl) rfl ?_ | refine wpList_val (run_or32 rfl rfl rfl) rfl ?_ | refine wpList_val (run_add32 rfl rfl rfl) rfl ?_ | refine wpList_val (run_not32 rfl rfl) rfl ?_ | refine wpList_val (run_xor64 rfl rfl rfl) rfl ?_ | refine wpList_val (run_and64 rfl rfl rfl) rfl ?_ | refine wpList_val (run_or64 rfl rfl rfl) rfl ?_ | refine wpList_val (run_add64 rfl rfl rfl) rfl ?_ | refine wpList_val (run_not64 rfl rfl) rfl ?_ | refine wpList_val (run_xor8 rfl rfl rfl) rfl ?_ | refine wpList_val (run_and8 rfl rfl rfl) rfl ?_ | refine wpList_val (run_or8 rfl rfl rfl) rfl ?_ | refine wpList_val (run_add8 rfl rfl rfl) rfl ?_ | refine wpList_val (run_not8 rfl rfl) rfl ?_ | refine wpList_val (run_cv64_32 rfl rfl) rfl ?_ | refine wpList_val (run_cv8_32 rfl rfl) rfl ?_ | refine wpList_val (run_cv8_64 rfl rfl) rfl ?_ | refine wpList_val (run_cv32_8 rfl rfl) rfl ?_ | refine wpList_val (run_cv64_8 rfl rfl) rfl ?_); (try simp only [Act.put, List.setIfInBounds_toArray, List.set_cons_zero, List.set_cons_succ])))
  refine wpList_val (run_rem8s (a := n) (b := 3) rfl rfl rfl (by omega)) rfl ?_; (try simp only [Act.put, List.setIfInBounds_toArray, List.set_cons_zero, List.set_cons_succ])
  refine wpList_val (run_eqlb (c := decide ((n % 3 : Nat) = 0)) rfl rfl rfl (by rw [Bool.eq_iff_iff]; simp; omega)) rfl ?_; (try simp only [Act.put, List.setIfInBounds_toArray, List.set_cons_zero, List.set_cons_succ])
  refine wpList_end ?_
  go_upto_if 15 with fail
  go_cut [] (fun u => ∃ T : List (BitVec 8), T.length = 64 ∧ Mv w [(g4, T.map b8), (g3, L.map b8), (g2, k.map b8), (g1, s.map b8)] u)
  case first =>
    by_cases h3 : n % 3 = 0
    · rw [decide_eq_true h3]
      go_upto_region 4 with fail; refine wp_region_lit ?_
      (repeat ((first | refine wpList_val (run_mv (v := b32 _) rfl rfl) rfl ?_ | refine wpList_val (run_mv (v := b64 _) rfl rfl) rfl ?_ | refine wpList_val (run_mv (v := b8 _) rfl rfl) rfl ?_ | refine wpList_val (run_mv (v := .int _ _) rfl rfl) rfl ?_ | refine wpList_val (run_mv (v := .bool _) rfl rfl) rfl ?_ | refine wpList_val (run_mv (v := .slice (some _) _ _) rfl rfl) rfl ?_ | refine wpList_val (run_mv (v := .slice _ _ _) rfl rfl) rfl ?_ | refine wpList_val (run_mv (v := .pointer (some _)) rfl rfl) rfl ?_ | refine wpList_val (run_mv (v := .agg _) rfl rfl) rfl ?_ | refine wpList_val (run_asg (v := b32 _) rfl rfl) rfl ?_ | refine wpList_val (run_asg (v := b64 _) rfl rfl) rfl ?_ | refine wpList_val (run_asg (v := b8 _) rfl rfl) rfl ?_ | refine wpList_val (run_asg (v := .int _ _) rfl rfl) rfl ?_ | refine wpList_val (run_asg (v := .bool _) rfl rfl) rfl ?_ | refine wpList_val (run_asg (v := .slice (some _) _ _) rfl rfl) rfl ?_ | refine wpList_val (run_asg (v := .slice _ _ _) rfl rfl) rfl ?_ | refine wpList_val (run_asg (v := .pointer (some _)) rfl rfl) rfl ?_ | refine wpList_val (run_asg (v := .agg _) rfl rfl) rfl ?_ | refine wpList_val (run_mv rfl rfl) rfl ?_ | refine wpList_val (run_asg rfl rfl) rfl ?_ | refine wpList_val (run_xor32 rfl rfl rfl) rfl ?_ | refine wpList_val (run_and32 rfl rfl rfl) rfl ?_ | refine wpList_val (run_or32 rfl rfl rfl) rfl ?_ | refine wpList_val (run_add32 rfl rfl rfl) rfl ?_ | refine wpList_val (run_not32 rfl rfl) rfl ?_ | refine wpList_val (run_xor64 rfl rfl rfl) rfl ?_ | refine wpList_val (run_and64 rfl rfl rfl) rfl ?_ | refine wpList_val (run_or64 rfl rfl rfl) rfl ?_ | refine wpList_val (run_add64 rfl rfl rfl) rfl ?_ | refine wpList_val (run_not64 rfl rfl) rfl ?_ | refine wpList_val (run_xor8 rfl rfl rfl) rfl ?_ | refine wpList_val (run_and8 rfl rfl rfl) rfl ?_ | refine wpList_val (run_or8 rfl rfl rfl) rfl ?_ | refine wpList_val (run_add8 rfl rfl rfl) rfl ?_ | refine wpList_val (run_not8 rfl rfl) rfl ?_ | refine wpList_val (run_cv64_32 rfl rfl) rfl ?_ | refine wpList_val (run_cv8_32 rfl rfl) rfl ?_ | refine wpList_val (run_cv8_64 rfl rfl) rfl ?_ | refine wpList_val (run_cv32_8 rfl rfl) rfl ?_ | refine wpList_val (run_cv64_8 rfl rfl) rfl ?_); (try simp only [Act.put, List.setIfInBounds_toArray, List.set_cons_zero, List.set_cons_succ])))
      refine wpList_end ?_
      go_wp2_with fail
      go_loopw [9] (fun z u => ∃ j : Nat, j ≤ 32 ∧ z = .int .i64 (j : Int) ∧ Mv w [(g4, (F j).map b8), (g3, L.map b8), (g2, k.map b8), (g1, s.map b8)] u) (fun z _ => (32 - intOf z).toNat)
      case atStart => exact ⟨0, by omega, rfl, by rw [F0.out]; exact hM.out⟩
      case round =>
        obtain ⟨j, hj, rfl, hJ⟩ := hrel
        replace hM := Lib.hid hJ
        clear hJ
        have hml := FL.out j hj
        by_cases hlt : j = 32
        · subst hlt
          have hk1 : ¬ (((32 : Nat) : Int) < 32) := by omega
          go_wp2_with fail
          go_meet
          exact ⟨F 32, hml, hM.out⟩
        · have hk1 : (j : Int) < 32 := by omega
          have hj2 : j < 32 := by omega
          have HL := Lib.hid (get_map b8 0 (l := F j) (i := 32 + j) (by omega))
          have HB := Lib.hid (get_map b8 0 (l := L) (i := j) (by omega))
          have HF1 : Hid (32 + j < ((F j).map b8).length) := Lib.hid (by rw [List.length_map]; omega)
          have HL2 := Lib.hid (get_map b8 0 (l := (F j).set (32 + j) 0) (i := j) (by rw [List.length_set]; omega))
          have HF2 : Hid (j < (((F j).set (32 + j) 0).map b8).length) := Lib.hid (by rw [List.length_map, List.length_set]; omega)
          have NX := Lib.hid (FS.out j hj2)
          generalize hNn : F (j + 1) = FN at *
          have ENn := Lib.hid hNn
          clear hNn
          generalize F j = Fj at *
          generalize L.getD j 0 = x at *
          go_upto_region 7 with fail; refine wp_region_lit ?_
          (repeat ((first | refine wpList_val (run_mv (v := b32 _) rfl rfl) rfl ?_ | refine wpList_val (run_mv (v := b64 _) rfl rfl) rfl ?_ | refine wpList_val (run_mv (v := b8 _) rfl rfl) rfl ?_ | refine wpList_val (run_mv (v := .int _ _) rfl rfl) rfl ?_ | refine wpList_val (run_mv (v := .bool _) rfl rfl) rfl ?_ | refine wpList_val (run_mv (v := .slice (some _) _ _) rfl rfl) rfl ?_ | refine wpList_val (run_mv (v := .slice _ _ _) rfl rfl) rfl ?_ | refine wpList_val (run_mv (v := .pointer (some _)) rfl rfl) rfl ?_ | refine wpList_val (run_mv (v := .agg _) rfl rfl) rfl ?_ | refine wpList_val (run_asg (v := b32 _) rfl rfl) rfl ?_ | refine wpList_val (run_asg (v := b64 _) rfl rfl) rfl ?_ | refine wpList_val (run_asg (v := b8 _) rfl rfl) rfl ?_ | refine wpList_val (run_asg (v := .int _ _) rfl rfl) rfl ?_ | refine wpList_val (run_asg (v := .bool _) rfl rfl) rfl ?_ | refine wpList_val (run_asg (v := .slice (some _) _ _) rfl rfl) rfl ?_ | refine wpList_val (run_asg (v := .slice _ _ _) rfl rfl) rfl ?_ | refine wpList_val (run_asg (v := .pointer (some _)) rfl rfl) rfl ?_ | refine wpList_val (run_asg (v := .agg _) rfl rfl) rfl ?_ | refine wpList_val (run_mv rfl rfl) rfl ?_ | refine wpList_val (run_asg rfl rfl) rfl ?_ | refine wpList_val (run_xor32 rfl rfl rfl) rfl ?_ | refine wpList_val (run_and32 rfl rfl rfl) rfl ?_ | refine wpList_val (run_or32 rfl rfl rfl) rfl ?_ | refine wpList_val (run_add32 rfl rfl rfl) rfl ?_ | refine wpList_val (run_not32 rfl rfl) rfl ?_ | refine wpList_val (run_xor64 rfl rfl rfl) rfl ?_ | refine wpList_val (run_and64 rfl rfl rfl) rfl ?_ | refine wpList_val (run_or64 rfl rfl rfl) rfl ?_ | refine wpList_val (run_add64 rfl rfl rfl) rfl ?_ | refine wpList_val (run_not64 rfl rfl) rfl ?_ | refine wpList_val (run_xor8 rfl rfl rfl) rfl ?_ | refine wpList_val (run_and8 rfl rfl rfl) rfl ?_ | refine wpList_val (run_or8 rfl rfl rfl) rfl ?_ | refine wpList_val (run_add8 rfl rfl rfl) rfl ?_ | refine wpList_val (run_not8 rfl rfl) rfl ?_ | refine wpList_val (run_cv64_32 rfl rfl) rfl ?_ | refine wpList_val (run_cv8_32 rfl rfl) rfl ?_ | refine wpList_val (run_cv8_64 rfl rfl) rfl ?_ | refine wpList_val (run_cv32_8 rfl rfl) rfl ?_ | refine wpList_val (run_cv64_8 rfl rfl) rfl ?_); (try simp only [Act.put, List.setIfInBounds_toArray, List.set_cons_zero, List.set_cons_succ])))
          refine wpList_val (run_addN (a := 32) (b := j) rfl rfl rfl (by omega)) rfl ?_; (try simp only [Act.put, List.setIfInBounds_toArray, List.set_cons_zero, List.set_cons_succ])
          refine wpList_val (run_ix0 (i := 32 + j) rfl Tryd.underlying30 (by kernel_rfl) rfl rfl (by omega)) rfl ?_; (try simp only [Act.put, List.setIfInBounds_toArray, List.set_cons_zero, List.set_cons_succ])
          refine wpList_skip (run_st8 (a := 0) rfl rfl rfl ((hM.out.get (i := 0) rfl).c _ _ HL.out) ((hM.out.get (i := 0) rfl).f _)) rfl rfl ?_
          refine wpList_end ?_
          replace hM := Lib.hid (hM.out.set 0 rfl HF1.out (b8 0))
          rw [set_map] at hM
          generalize wr.setCell ⟨g4, 32 + j, none⟩ (b8 0) = c1 at *
          go_upto_region 8 with fail; refine wp_region_lit ?_
          (repeat ((first | refine wpList_val (run_mv (v := b32 _) rfl rfl) rfl ?_ | refine wpList_val (run_mv (v := b64 _) rfl rfl) rfl ?_ | refine wpList_val (run_mv (v := b8 _) rfl rfl) rfl ?_ | refine wpList_val (run_mv (v := .int _ _) rfl rfl) rfl ?_ | refine wpList_val (run_mv (v := .bool _) rfl rfl) rfl ?_ | refine wpList_val (run_mv (v := .slice (some _) _ _) rfl rfl) rfl ?_ | refine wpList_val (run_mv (v := .slice _ _ _) rfl rfl) rfl ?_ | refine wpList_val (run_mv (v := .pointer (some _)) rfl rfl) rfl ?_ | refine wpList_val (run_mv (v := .agg _) rfl rfl) rfl ?_ | refine wpList_val (run_asg (v := b32 _) rfl rfl) rfl ?_ | refine wpList_val (run_asg (v := b64 _) rfl rfl) rfl ?_ | refine wpList_val (run_asg (v := b8 _) rfl rfl) rfl ?_ | refine wpList_val (run_asg (v := .int _ _) rfl rfl) rfl ?_ | refine wpList_val (run_asg (v := .bool _) rfl rfl) rfl ?_ | refine wpList_val (run_asg (v := .slice (some _) _ _) rfl rfl) rfl ?_ | refine wpList_val (run_asg (v := .slice _ _ _) rfl rfl) rfl ?_ | refine wpList_val (run_asg (v := .pointer (some _)) rfl rfl) rfl ?_ | refine wpList_val (run_asg (v := .agg _) rfl rfl) rfl ?_ | refine wpList_val (run_mv rfl rfl) rfl ?_ | refine wpList_val (run_asg rfl rfl) rfl ?_ | refine wpList_val (run_xor32 rfl rfl rfl) rfl ?_ | refine wpList_val (run_and32 rfl rfl rfl) rfl ?_ | refine wpList_val (run_or32 rfl rfl rfl) rfl ?_ | refine wpList_val (run_add32 rfl rfl rfl) rfl ?_ | refine wpList_val (run_not32 rfl rfl) rfl ?_ | refine wpList_val (run_xor64 rfl rfl rfl) rfl ?_ | refine wpList_val (run_and64 rfl rfl rfl) rfl ?_ | refine wpList_val (run_or64 rfl rfl rfl) rfl ?_ | refine wpList_val (run_add64 rfl rfl rfl) rfl ?_ | refine wpList_val (run_not64 rfl rfl) rfl ?_ | refine wpList_val (run_xor8 rfl rfl rfl) rfl ?_ | refine wpList_val (run_and8 rfl rfl rfl) rfl ?_ | refine wpList_val (run_or8 rfl rfl rfl) rfl ?_ | refine wpList_val (run_add8 rfl rfl rfl) rfl ?_ | refine wpList_val (run_not8 rfl rfl) rfl ?_ | refine wpList_val (run_cv64_32 rfl rfl) rfl ?_ | refine wpList_val (run_cv8_32 rfl rfl) rfl ?_ | refine wpList_val (run_cv8_64 rfl rfl) rfl ?_ | refine wpList_val (run_cv32_8 rfl rfl) rfl ?_ | refine wpList_val (run_cv64_8 rfl rfl) rfl ?_); (try simp only [Act.put, List.setIfInBounds_toArray, List.set_cons_zero, List.set_cons_succ])))
          refine wpList_val (run_ix0 (i := j) rfl Tryd.underlying24 (by kernel_rfl) rfl rfl hj2) rfl ?_; (try simp only [Act.put, List.setIfInBounds_toArray, List.set_cons_zero, List.set_cons_succ])
          refine wpList_val (run_ld8 rfl rfl ((hM.out.get (i := 1) rfl).c _ _ HB.out)) rfl ?_; (try simp only [Act.put, List.setIfInBounds_toArray, List.set_cons_zero, List.set_cons_succ])
          refine wpList_val (run_ix0 (i := j) rfl Tryd.underlying30 (by kernel_rfl) rfl rfl (by omega)) rfl ?_; (try simp only [Act.put, List.setIfInBounds_toArray, List.set_cons_zero, List.set_cons_succ])
          refine wpList_skip (run_st8 rfl rfl rfl ((hM.out.get (i := 0) rfl).c _ _ HL2.out) ((hM.out.get (i := 0) rfl).f _)) rfl rfl ?_
          refine wpList_end ?_
          replace hM := Lib.hid (hM.out.set 0 rfl HF2.out (b8 x))
          rw [set_map, NX.out] at hM
          generalize c1.setCell ⟨g4, j, none⟩ (b8 x) = c2 at *
          clear HL HL2 HB HF1 HF2 NX
          go_wp2_with fail
          exact ⟨⟨j + 1, by omega, by go_num, by rw [ENn.out]; exact hM.out⟩, by simp [intOf]; omega⟩
    · rw [decide_eq_false h3]
      go_wp2_with fail
      go_meet
      exact ⟨s, hs, hM.out⟩
  case rest =>
    obtain ⟨T, lT, hJ⟩ := hcut
    replace hM := Lib.hid hJ
    clear hJ
    obtain ⟨Y, lY, r3, r4⟩ := RT.out T lT
    have R3 := Lib.hid r3
    have R4 := Lib.hid r4
    clear r3 r4
    have ST := Lib.hid (szSg lT)
    generalize hw7 : wc = wX at *
    clear hw7
    go_upto_region 9 with fail
    refine wp_region_noPanic ?_; refine wp_region_late (S := fun _ V => Below wX.heap.size wX V) (by kernel_rfl) ((Below.refl _ _).drew) (fun hS => ?_)
    refine wpAnyL_call 0 (by kernel_rfl) rfl rfl rfl (run_call0 enters_known8 rfl rfl) (calls_eq (known8_any _ (HG.out.below (hM.out.below hS).bl))) (fun v w h => hS.trans (h.2.mono hS.size)) (fun v v1 hR => ?_); (try simp only [Act.put, List.setIfInBounds_toArray, List.set_cons_zero, List.set_cons_succ]); obtain ⟨rfl, hb⟩ := hR; replace hS := hS.trans (hb.mono hS.size); clear hb
    refine wpAnyL_take 1 rfl rfl (by kernel_rfl) (by kernel_rfl) (by kernel_rfl) (fun _ _ _ h => h) rfl (fun V hV => run_mv (v := .bool true) rfl rfl) hS ?_; (try simp only [Act.put, List.setIfInBounds_toArray, List.set_cons_zero, List.set_cons_succ])
    refine wpAnyL_take 2 rfl rfl (by kernel_rfl) (by kernel_rfl) (by kernel_rfl) (fun _ _ _ h => h) rfl (fun V hV => run_ldM (vs := s.map b8) rfl Tryd.underlying30 rfl SS.out rfl (((hM.out.below hV).get (i := 3) rfl).range)) hS ?_; (try simp only [Act.put, List.setIfInBounds_toArray, List.set_cons_zero, List.set_cons_succ])
    refine wpAnyL_take 4 rfl rfl (by kernel_rfl) (by kernel_rfl) (by kernel_rfl) (fun _ _ _ h => h) rfl (fun V hV => run_ldM (vs := s.map b8) rfl Tryd.underlying30 rfl SS.out rfl (((hM.out.below hV).get (i := 3) rfl).range)) hS ?_; (try simp only [Act.put, List.setIfInBounds_toArray, List.set_cons_zero, List.set_cons_succ])
    refine wpAnyL_call 3 (by kernel_rfl) rfl rfl rfl (run_call1 enters_sreduce rfl rfl rfl) (calls_eq (R1.out _ (HG.out.below (hM.out.below hS).bl))) (fun v w h => hS.trans (h.2.mono hS.size)) (fun v v2 hR => ?_); (try simp only [Act.put, List.setIfInBounds_toArray, List.set_cons_zero, List.set_cons_succ]); obtain ⟨rfl, hb⟩ := hR; replace hS := hS.trans (hb.mono hS.size); clear hb
    refine wpAnyL_call 5 (by kernel_rfl) rfl rfl rfl (run_call1 enters_rreduce rfl rfl rfl) (calls_eq (R2.out _)) (fun v w h => hS.trans (h.2.mono hS.size)) (fun v v3 hR => ?_); (try simp only [Act.put, List.setIfInBounds_toArray, List.set_cons_zero, List.set_cons_succ]); obtain ⟨rfl, hb⟩ := hR; replace hS := hS.trans (hb.mono hS.size); clear hb
    refine wpAnyL_take 6 rfl rfl (by kernel_rfl) (by kernel_rfl) (by kernel_rfl) (fun _ _ _ h => h) rfl (fun V hV => run_eqKyB (c := true) lX lX rfl rfl rfl (by simp)) hS ?_; (try simp only [Act.put, List.setIfInBounds_toArray, List.set_cons_zero, List.set_cons_succ])
    refine wpAnyL_take 7 rfl rfl (by kernel_rfl) (by kernel_rfl) (by kernel_rfl) (fun _ _ _ h => h) rfl (fun V hV => run_pick (b := true) (v := .bool true) rfl rfl rfl) hS ?_; (try simp only [Act.put, List.setIfInBounds_toArray, List.set_cons_zero, List.set_cons_succ])
    refine wpAnyL_take 8 rfl rfl (by kernel_rfl) (by kernel_rfl) (by kernel_rfl) (fun _ _ _ h => h) rfl (fun V hV => run_mv (v := .bool true) rfl rfl) hS ?_; (try simp only [Act.put, List.setIfInBounds_toArray, List.set_cons_zero, List.set_cons_succ])
    refine wpAnyL_take 9 rfl rfl (by kernel_rfl) (by kernel_rfl) (by kernel_rfl) (fun _ _ _ h => h) rfl (fun V hV => run_ldM (vs := T.map b8) rfl Tryd.underlying30 rfl ST.out rfl (((hM.out.below hV).get (i := 0) rfl).range)) hS ?_; (try simp only [Act.put, List.setIfInBounds_toArray, List.set_cons_zero, List.set_cons_succ])
    refine wpAnyL_take 11 rfl rfl (by kernel_rfl) (by kernel_rfl) (by kernel_rfl) (fun _ _ _ h => h) rfl (fun V hV => run_ldM (vs := T.map b8) rfl Tryd.underlying30 rfl ST.out rfl (((hM.out.below hV).get (i := 0) rfl).range)) hS ?_; (try simp only [Act.put, List.setIfInBounds_toArray, List.set_cons_zero, List.set_cons_succ])
    refine wpAnyL_call 10 (by kernel_rfl) rfl rfl rfl (run_call1 enters_sreduce rfl rfl rfl) (calls_eq (R3.out _ (HG.out.below (hM.out.below hS).bl))) (fun v w h => hS.trans (h.2.mono hS.size)) (fun v v4 hR => ?_); (try simp only [Act.put, List.setIfInBounds_toArray, List.set_cons_zero, List.set_cons_succ]); obtain ⟨rfl, hb⟩ := hR; replace hS := hS.trans (hb.mono hS.size); clear hb
    refine wpAnyL_call 12 (by kernel_rfl) rfl rfl rfl (run_call1 enters_rreduce rfl rfl rfl) (calls_eq (R4.out _)) (fun v w h => hS.trans (h.2.mono hS.size)) (fun v v5 hR => ?_); (try simp only [Act.put, List.setIfInBounds_toArray, List.set_cons_zero, List.set_cons_succ]); obtain ⟨rfl, hb⟩ := hR; replace hS := hS.trans (hb.mono hS.size); clear hb
    refine wpAnyL_take 13 rfl rfl (by kernel_rfl) (by kernel_rfl) (by kernel_rfl) (fun _ _ _ h => h) rfl (fun V hV => run_eqKyB (c := true) lY lY rfl rfl rfl (by simp)) hS ?_; (try simp only [Act.put, List.setIfInBounds_toArray, List.set_cons_zero, List.set_cons_succ])
    refine wpAnyL_take 14 rfl rfl (by kernel_rfl) (by kernel_rfl) (by kernel_rfl) (fun _ _ _ h => h) rfl (fun V hV => run_pick (b := true) (v := .bool true) rfl rfl rfl) hS ?_; (try simp only [Act.put, List.setIfInBounds_toArray, List.set_cons_zero, List.set_cons_succ])
    refine wpAnyL_take 15 rfl rfl (by kernel_rfl) (by kernel_rfl) (by kernel_rfl) (fun _ _ _ h => h) rfl (fun V hV => run_mv (v := .bool true) rfl rfl) hS ?_; (try simp only [Act.put, List.setIfInBounds_toArray, List.set_cons_zero, List.set_cons_succ])
    refine wpAnyL_take 16 rfl rfl (by kernel_rfl) (by kernel_rfl) (by kernel_rfl) (fun _ _ _ h => h) rfl (fun V hV => run_ldM (vs := k.map b8) rfl Tryd.underlying24 rfl SK.out rfl (((hM.out.below hV).get (i := 2) rfl).range)) hS ?_; (try simp only [Act.put, List.setIfInBounds_toArray, List.set_cons_zero, List.set_cons_succ])
    refine wpAnyL_take 18 rfl rfl (by kernel_rfl) (by kernel_rfl) (by kernel_rfl) (fun _ _ _ h => h) rfl (fun V hV => run_ldM (vs := k.map b8) rfl Tryd.underlying24 rfl SK.out rfl (((hM.out.below hV).get (i := 2) rfl).range)) hS ?_; (try simp only [Act.put, List.setIfInBounds_toArray, List.set_cons_zero, List.set_cons_succ])
    refine wpAnyL_call 17 (by kernel_rfl) rfl rfl rfl (run_call1 enters_scanon rfl rfl rfl) (calls_eq (C1.out _ (HG.out.below (hM.out.below hS).bl))) (fun v w h => hS.trans (h.2.mono hS.size)) (fun v v6 hR => ?_); (try simp only [Act.put, List.setIfInBounds_toArray, List.set_cons_zero, List.set_cons_succ]); obtain ⟨rfl, hb⟩ := hR; replace hS := hS.trans (hb.mono hS.size); clear hb
    refine wpAnyL_call 19 (by kernel_rfl) rfl rfl rfl (run_call1 enters_rcanon rfl rfl rfl) (calls_eq (C2.out _)) (fun v w h => hS.trans (h.2.mono hS.size)) (fun v v7 hR => ?_); (try simp only [Act.put, List.setIfInBounds_toArray, List.set_cons_zero, List.set_cons_succ]); obtain ⟨rfl, hb⟩ := hR; replace hS := hS.trans (hb.mono hS.size); clear hb
    refine wpAnyL_take 20 rfl rfl (by kernel_rfl) (by kernel_rfl) (by kernel_rfl) (fun _ _ _ h => h) rfl (fun V hV => run_eqbc (c := true) rfl rfl rfl (by simp)) hS ?_; (try simp only [Act.put, List.setIfInBounds_toArray, List.set_cons_zero, List.set_cons_succ])
    refine wpAnyL_take 21 rfl rfl (by kernel_rfl) (by kernel_rfl) (by kernel_rfl) (fun _ _ _ h => h) rfl (fun V hV => run_pick (b := true) (v := .bool true) rfl rfl rfl) hS ?_; (try simp only [Act.put, List.setIfInBounds_toArray, List.set_cons_zero, List.set_cons_succ])
    refine wpAnyL_take 22 rfl rfl (by kernel_rfl) (by kernel_rfl) (by kernel_rfl) (fun _ _ _ h => h) rfl (fun V hV => run_mv (v := .bool true) rfl rfl) hS ?_; (try simp only [Act.put, List.setIfInBounds_toArray, List.set_cons_zero, List.set_cons_succ])
    refine wpAnyL_take 23 rfl rfl (by kernel_rfl) (by kernel_rfl) (by kernel_rfl) (fun _ _ _ h => h) rfl (fun V hV => run_ldM (vs := L.map b8) rfl Tryd.underlying24 rfl SL.out rfl (((hM.out.below hV).get (i := 1) rfl).range)) hS ?_; (try simp only [Act.put, List.setIfInBounds_toArray, List.set_cons_zero, List.set_cons_succ])
    refine wpAnyL_take 25 rfl rfl (by kernel_rfl) (by kernel_rfl) (by kernel_rfl) (fun _ _ _ h => h) rfl (fun V hV => run_ldM (vs := L.map b8) rfl Tryd.underlying24 rfl SL.out rfl (((hM.out.below hV).get (i := 1) rfl).range)) hS ?_; (try simp only [Act.put, List.setIfInBounds_toArray, List.set_cons_zero, List.set_cons_succ])
    refine wpAnyL_call 24 (by kernel_rfl) rfl rfl rfl (run_call1 enters_scanon rfl rfl rfl) (calls_eq (C3.out _ (HG.out.below (hM.out.below hS).bl))) (fun v w h => hS.trans (h.2.mono hS.size)) (fun v v8 hR => ?_); (try simp only [Act.put, List.setIfInBounds_toArray, List.set_cons_zero, List.set_cons_succ]); obtain ⟨rfl, hb⟩ := hR; replace hS := hS.trans (hb.mono hS.size); clear hb
    refine wpAnyL_call 26 (by kernel_rfl) rfl rfl rfl (run_call1 enters_rcanon rfl rfl rfl) (calls_eq (C4.out _)) (fun v w h => hS.trans (h.2.mono hS.size)) (fun v v9 hR => ?_); (try simp only [Act.put, List.setIfInBounds_toArray, List.set_cons_zero, List.set_cons_succ]); obtain ⟨rfl, hb⟩ := hR; replace hS := hS.trans (hb.mono hS.size); clear hb
    refine wpAnyL_take 27 rfl rfl (by kernel_rfl) (by kernel_rfl) (by kernel_rfl) (fun _ _ _ h => h) rfl (fun V hV => run_eqbc (c := true) rfl rfl rfl (by simp)) hS ?_; (try simp only [Act.put, List.setIfInBounds_toArray, List.set_cons_zero, List.set_cons_succ])
    refine wpAnyL_take 28 rfl rfl (by kernel_rfl) (by kernel_rfl) (by kernel_rfl) (fun _ _ _ h => h) rfl (fun V hV => run_pick (b := true) (v := .bool true) rfl rfl rfl) hS ?_; (try simp only [Act.put, List.setIfInBounds_toArray, List.set_cons_zero, List.set_cons_succ])
    refine wpAnyL_take 29 rfl rfl (by kernel_rfl) (by kernel_rfl) (by kernel_rfl) (fun _ _ _ h => h) rfl (fun V hV => run_mv (v := .bool true) rfl rfl) hS ?_; (try simp only [Act.put, List.setIfInBounds_toArray, List.set_cons_zero, List.set_cons_succ])
    refine wpAnyL_call 30 (by kernel_rfl) rfl rfl rfl (run_call0 enters_sorder rfl rfl) (calls_eq (CO.out _ (HG.out.below (hM.out.below hS).bl))) (fun v w h => hS.trans (h.2.mono hS.size)) (fun v v10 hR => ?_); (try simp only [Act.put, List.setIfInBounds_toArray, List.set_cons_zero, List.set_cons_succ]); obtain ⟨rfl, hb⟩ := hR; replace hS := hS.trans (hb.mono hS.size); clear hb
    refine wpAnyL_call 31 (by kernel_rfl) rfl rfl rfl (run_call0 enters_rorder rfl rfl) (calls_eq (CQ.out _)) (fun v w h => hS.trans (h.2.mono hS.size)) (fun v v11 hR => ?_); (try simp only [Act.put, List.setIfInBounds_toArray, List.set_cons_zero, List.set_cons_succ]); obtain ⟨rfl, hb⟩ := hR; replace hS := hS.trans (hb.mono hS.size); clear hb
    refine wpAnyL_take 32 rfl rfl (by kernel_rfl) (by kernel_rfl) (by kernel_rfl) (fun _ _ _ h => h) rfl (fun V hV => run_eqKyB (c := true) lO lO rfl rfl rfl (by simp)) hS ?_; (try simp only [Act.put, List.setIfInBounds_toArray, List.set_cons_zero, List.set_cons_succ])
    refine wpAnyL_take 33 rfl rfl (by kernel_rfl) (by kernel_rfl) (by kernel_rfl) (fun _ _ _ h => h) rfl (fun V hV => run_pick (b := true) (v := .bool true) rfl rfl rfl) hS ?_; (try simp only [Act.put, List.setIfInBounds_toArray, List.set_cons_zero, List.set_cons_succ])
    refine wpAnyL_take 34 rfl rfl (by kernel_rfl) (by kernel_rfl) (by kernel_rfl) (fun _ _ _ h => h) rfl (fun V hV => run_asg (v := .bool true) rfl rfl) hS ?_; (try simp only [Act.put, List.setIfInBounds_toArray, List.set_cons_zero, List.set_cons_succ])
    refine wpAnyL_done (by kernel_rfl) ?_ _; refine NoPanic.normal ?_
    replace hM := Lib.hid (hM.out.below hS)
    go_wp2_with fail
    go_ret
    exact ⟨rfl, hM.out.bl⟩
end Go.Proofs.YtefaihdhnnldmaaDoor
