/- What keywardlaw04.MacSame answers: the walk. -/
import Derived.Test.YtebmcjleepnehaaDoorMacKnown
namespace Go.Proofs.YtebmcjleepnehaaDoor
open Go.RowKit

theorem same_set {a : List (BitVec 8)} {j : Nat} (hj : j < a.length) (x : BitVec 8) : decide (a = a.set j (a.getD j 0 ^^^ x)) = decide (x = 0) := by
  rw [decide_eq_decide]
  constructor
  · intro h
    have h1 := congrArg (fun l => l.getD j 0) h
    simp only [List.getD_eq_getElem?_getD, List.getElem?_set_self hj, List.getElem?_eq_getElem hj, Option.getD_some] at h1
    have h2 : a[j] ^^^ (a[j] ^^^ x) = a[j] ^^^ a[j] := by rw [← h1]
    rw [← BitVec.xor_assoc, BitVec.xor_self, BitVec.zero_xor] at h2
    exact h2
  · intro h
    subst h
    apply List.ext_getElem (by simp)
    intro i h1 h2
    rw [List.getElem_set]
    split
    · rename_i e
      subst e
      simp [h1]
    · rfl
theorem same_true (va : Value) (a : List (BitVec 8)) (vb : Value) (w : World) (ha : Sl va a w) (hb : Sl vb a w) (hn : a.length ≤ 16777216) :
    Calls Tryd.prog 20 #[va, vb] w fun e w' => e = .returned (.bool true) ∧ Below w.heap.size w w' := by
  have := same_any va a vb a w ha hb hn
  rwa [decide_eq_true (rfl : a = a)] at this
set_option maxRecDepth 100000 in
set_option maxHeartbeats 4000000 in
theorem macSame_any (va : Value) (a : List (BitVec 8)) (vb : Value) (b : List (BitVec 8)) (n : Nat) (x : BitVec 8) (w : World) (ha : Sl va a w) (hal : a.length ≤ 140737488351232) (hb : Sl vb b w) (hbl : b.length ≤ 140737488351232) (hn : n < 256) (hT : Tabs w) :
    Calls Tryd.prog 9 #[va, vb, .int .u8 (n : Int), b8 x] w fun e w' => e = .returned (.bool true) ∧ Below w.heap.size w w' := by
  have HT := Lib.hid hT; clear hT
  have HA := Lib.hid ha
  have HB := Lib.hid hb
  obtain ⟨ao, c, rfl, -, -⟩ := ha
  obtain ⟨bo, c', rfl, -, -⟩ := hb
  go_enter Tryd.func9, Tryd.ntmps9
  go_upto_region 1 with fail; refine wp_region_lit ?_
  (repeat ((first | refine wpList_val (run_mv (v := b32 _) rfl rfl) rfl ?_ | refine wpList_val (run_mv (v := b64 _) rfl rfl) rfl ?_ | refine wpList_val (run_mv (v := b8 _) rfl rfl) rfl ?_ | refine wpList_val (run_mv (v := .int _ _) rfl rfl) rfl ?_ | refine wpList_val (run_mv (v := .bool _) rfl rfl) rfl ?_ | refine wpList_val (run_mv (v := .slice (some _) _ _) rfl rfl) rfl ?_ | refine wpList_val (run_mv (v := .slice _ _ _) rfl rfl) rfl ?_ | refine wpList_val (run_mv (v := .pointer (some _)) rfl rfl) rfl ?_ | refine wpList_val (run_mv (v := .agg _) rfl rfl) rfl ?_ | refine wpList_val (run_asg (v := b32 _) rfl rfl) rfl ?_ | refine wpList_val (run_asg (v := b64 _) rfl rfl) rfl ?_ | refine wpList_val (run_asg (v := b8 _) rfl rfl) rfl ?_ | refine wpList_val (run_asg (v := .int _ _) rfl rfl) rfl ?_ | refine wpList_val (run_asg (v := .bool _) rfl rfl) rfl ?_ | refine wpList_val (run_asg (v := .slice (some _) _ _) rfl rfl) rfl ?_ | refine wpList_val (run_asg (v := .slice _ _ _) rfl rfl) rfl ?_ | refine wpList_val (run_asg (v := .pointer (some _)) rfl rfl) rfl ?_ | refine wpList_val (run_asg (v := .agg _) rfl rfl) rfl ?_ | refine wpList_val (run_mv rfl rfl) rfl ?_ | refine wpList_val (run_asg rfl rfl) rfl ?_ | refine wpList_val (run_xor32 rfl rfl rfl) rfl ?_ | refine wpList_val (run_and32 rfl rfl rfl) rfl ?_ | refine wpList_val (run_or32 rfl rfl rfl) rfl ?_ | refine wpList_val (run_add32 rfl rfl rfl) rfl ?_ | refine wpList_val (run_not32 rfl rfl) rfl ?_ | refine wpList_val (run_xor64 rfl rfl rfl) rfl ?_ | refine wpList_val (run_and64 rfl rfl rfl) rfl ?_ | refine wpList_val (run_or64 rfl rfl rfl) rfl ?_ | refine wpList_val (run_add64 rfl rfl rfl) rfl ?_ | refine wpList_val (run_not64 rfl rfl) rfl ?_ | refine wpList_val (run_xor8 rfl rfl rfl) rfl ?_ | refine wpList_val (run_and8 rfl rfl rfl) rfl ?_ | refine wpList_val (run_or8 rfl rfl rfl) rfl ?_ | refine wpList_val (run_add8 rfl rfl rfl) rfl ?_ | refine wpList_val (run_not8 rfl rfl) rfl ?_ | refine wpList_val (run_cv64_32 rfl rfl) rfl ?_ | refine wpList_val (run_cv8_32 rfl rfl) rfl ?_ | refine wpList_val (run_cv8_64 rfl rfl) rfl ?_ | refine wpList_val (run_cv32_8 rfl rfl) rfl ?_ | refine wpList_val (run_cv64_8 rfl rfl) rfl ?_); (try simp only [Act.put, List.setIfInBounds_toArray, List.set_cons_zero, List.set_cons_succ])))
  refine wpList_val (run_len rfl Tryd.underlying22 rfl) rfl ?_; (try simp only [Act.put, List.setIfInBounds_toArray, List.set_cons_zero, List.set_cons_succ])
  (repeat ((first | refine wpList_val (run_mv (v := b32 _) rfl rfl) rfl ?_ | refine wpList_val (run_mv (v := b64 _) rfl rfl) rfl ?_ | refine wpList_val (run_mv (v := b8 _) rfl rfl) rfl ?_ | refine wpList_val (run_mv (v := .int _ _) rfl rfl) rfl ?_ | refine wpList_val (run_mv (v := .bool _) rfl rfl) rfl ?_ | refine wpList_val (run_mv (v := .slice (some _) _ _) rfl rfl) rfl ?_ | refine wpList_val (run_mv (v := .slice _ _ _) rfl rfl) rfl ?_ | refine wpList_val (run_mv (v := .pointer (some _)) rfl rfl) rfl ?_ | refine wpList_val (run_mv (v := .agg _) rfl rfl) rfl ?_ | refine wpList_val (run_asg (v := b32 _) rfl rfl) rfl ?_ | refine wpList_val (run_asg (v := b64 _) rfl rfl) rfl ?_ | refine wpList_val (run_asg (v := b8 _) rfl rfl) rfl ?_ | refine wpList_val (run_asg (v := .int _ _) rfl rfl) rfl ?_ | refine wpList_val (run_asg (v := .bool _) rfl rfl) rfl ?_ | refine wpList_val (run_asg (v := .slice (some _) _ _) rfl rfl) rfl ?_ | refine wpList_val (run_asg (v := .slice _ _ _) rfl rfl) rfl ?_ | refine wpList_val (run_asg (v := .pointer (some _)) rfl rfl) rfl ?_ | refine wpList_val (run_asg (v := .agg _) rfl rfl) rfl ?_ | refine wpList_val (run_mv rfl rfl) rfl ?_ | refine wpList_val (run_asg rfl rfl) rfl ?_ | refine wpList_val (run_xor32 rfl rfl rfl) rfl ?_ | refine wpList_val (run_and32 rfl rfl rfl) rfl ?_ | refine wpList_val (run_or32 rfl rfl rfl) rfl ?_ | refine wpList_val (run_add32 rfl rfl rfl) rfl ?_ | refine wpList_val (run_not32 rfl rfl) rfl ?_ | refine wpList_val (run_xor64 rfl rfl rfl) rfl ?_ | refine wpList_val (run_and64 rfl rfl rfl) rfl ?_ | refine wpList_val (run_or64 rfl rfl rfl) rfl ?_ | refine wpList_val (run_add64 rfl rfl rfl) rfl ?_ | refine wpList_val (run_not64 rfl rfl) rfl ?_ | refine wpList_val (run_xor8 rfl rfl rfl) rfl ?_ | refine wpList_val (run_and8 rfl rfl rfl) rfl ?_ | refine wpList_val (run_or8 rfl rfl rfl) rfl ?_ | refine wpList_val (run_add8 rfl rfl rfl) rfl ?_ | refine wpList_val (run_not8 rfl rfl) rfl ?_ | refine wpList_val (run_cv64_32 rfl rfl) rfl ?_ | refine wpList_val (run_cv8_32 rfl rfl) rfl ?_ | refine wpList_val (run_cv8_64 rfl rfl) rfl ?_ | refine wpList_val (run_cv32_8 rfl rfl) rfl ?_ | refine wpList_val (run_cv64_8 rfl rfl) rfl ?_); (try simp only [Act.put, List.setIfInBounds_toArray, List.set_cons_zero, List.set_cons_succ])))
  refine wpList_val (run_len rfl Tryd.underlying22 rfl) rfl ?_; (try simp only [Act.put, List.setIfInBounds_toArray, List.set_cons_zero, List.set_cons_succ])
  refine wpList_val (run_add rfl rfl rfl (by omega) (by omega)) rfl ?_; (try simp only [Act.put, List.setIfInBounds_toArray, List.set_cons_zero, List.set_cons_succ])
  by_cases hlt : 500 < a.length + b.length
  · refine wpList_val (run_gtrb (c := true) rfl rfl rfl (decide_eq_true (by omega))) rfl ?_; (try simp only [Act.put, List.setIfInBounds_toArray, List.set_cons_zero, List.set_cons_succ])
    refine wpList_end ?_
    go_upto_region 2 with fail; refine wp_region_lit ?_; refine wpList_enter (run_call0 enters_known4 rfl rfl) rfl (known4_any _ HT.out) (fun u1 hb1 => ?_); (try simp only [Act.put, List.setIfInBounds_toArray, List.set_cons_zero, List.set_cons_succ]); refine wpList_val (run_asg (v := .bool true) rfl rfl) rfl ?_; (try simp only [Act.put, List.setIfInBounds_toArray, List.set_cons_zero, List.set_cons_succ]); refine wpList_end ?_; go_wp2_with fail; go_ret; exact ⟨rfl, hb1⟩
  · refine wpList_val (run_gtrb (c := false) rfl rfl rfl (decide_eq_false (by omega))) rfl ?_; (try simp only [Act.put, List.setIfInBounds_toArray, List.set_cons_zero, List.set_cons_succ])
    refine wpList_end ?_
    go_upto_region 3 with fail; refine wp_region_lit ?_
    (repeat ((first | refine wpList_val (run_mv (v := b32 _) rfl rfl) rfl ?_ | refine wpList_val (run_mv (v := b64 _) rfl rfl) rfl ?_ | refine wpList_val (run_mv (v := b8 _) rfl rfl) rfl ?_ | refine wpList_val (run_mv (v := .int _ _) rfl rfl) rfl ?_ | refine wpList_val (run_mv (v := .bool _) rfl rfl) rfl ?_ | refine wpList_val (run_mv (v := .slice (some _) _ _) rfl rfl) rfl ?_ | refine wpList_val (run_mv (v := .slice _ _ _) rfl rfl) rfl ?_ | refine wpList_val (run_mv (v := .pointer (some _)) rfl rfl) rfl ?_ | refine wpList_val (run_mv (v := .agg _) rfl rfl) rfl ?_ | refine wpList_val (run_asg (v := b32 _) rfl rfl) rfl ?_ | refine wpList_val (run_asg (v := b64 _) rfl rfl) rfl ?_ | refine wpList_val (run_asg (v := b8 _) rfl rfl) rfl ?_ | refine wpList_val (run_asg (v := .int _ _) rfl rfl) rfl ?_ | refine wpList_val (run_asg (v := .bool _) rfl rfl) rfl ?_ | refine wpList_val (run_asg (v := .slice (some _) _ _) rfl rfl) rfl ?_ | refine wpList_val (run_asg (v := .slice _ _ _) rfl rfl) rfl ?_ | refine wpList_val (run_asg (v := .pointer (some _)) rfl rfl) rfl ?_ | refine wpList_val (run_asg (v := .agg _) rfl rfl) rfl ?_ | refine wpList_val (run_mv rfl rfl) rfl ?_ | refine wpList_val (run_asg rfl rfl) rfl ?_ | refine wpList_val (run_xor32 rfl rfl rfl) rfl ?_ | refine wpList_val (run_and32 rfl rfl rfl) rfl ?_ | refine wpList_val (run_or32 rfl rfl rfl) rfl ?_ | refine wpList_val (run_add32 rfl rfl rfl) rfl ?_ | refine wpList_val (run_not32 rfl rfl) rfl ?_ | refine wpList_val (run_xor64 rfl rfl rfl) rfl ?_ | refine wpList_val (run_and64 rfl rfl rfl) rfl ?_ | refine wpList_val (run_or64 rfl rfl rfl) rfl ?_ | refine wpList_val (run_add64 rfl rfl rfl) rfl ?_ | refine wpList_val (run_not64 rfl rfl) rfl ?_ | refine wpList_val (run_xor8 rfl rfl rfl) rfl ?_ | refine wpList_val (run_and8 rfl rfl rfl) rfl ?_ | refine wpList_val (run_or8 rfl rfl rfl) rfl ?_ | refine wpList_val (run_add8 rfl rfl rfl) rfl ?_ | refine wpList_val (run_not8 rfl rfl) rfl ?_ | refine wpList_val (run_cv64_32 rfl rfl) rfl ?_ | refine wpList_val (run_cv8_32 rfl rfl) rfl ?_ | refine wpList_val (run_cv8_64 rfl rfl) rfl ?_ | refine wpList_val (run_cv32_8 rfl rfl) rfl ?_ | refine wpList_val (run_cv64_8 rfl rfl) rfl ?_); (try simp only [Act.put, List.setIfInBounds_toArray, List.set_cons_zero, List.set_cons_succ])))
    refine wpList_end ?_
    go_upto_region 4 with fail; refine wp_region_lit ?_
    refine wpList_val (run_mv (v := .slice _ _ _) rfl rfl) rfl ?_; (try simp only [Act.put, List.setIfInBounds_toArray, List.set_cons_zero, List.set_cons_succ])
    refine wpList_val (run_mv (v := .slice _ _ _) rfl rfl) rfl ?_; (try simp only [Act.put, List.setIfInBounds_toArray, List.set_cons_zero, List.set_cons_succ])
    refine wpList_appG (l := []) (m := a) rfl rfl rfl (World.ownsRow_nil w w.heap.size _ _) rfl HA.out (by omega) (Nat.le_refl _) (fun q9 a1 h1 bl => ?_); (try simp only [Act.put, List.setIfInBounds_toArray, List.set_cons_zero, List.set_cons_succ])
    refine wpList_val (run_asg (v := q9) rfl rfl) rfl ?_; (try simp only [Act.put, List.setIfInBounds_toArray, List.set_cons_zero, List.set_cons_succ])
    refine wpList_end ?_
    have HO : Hid (a1.ownsRow w.heap.size 5 1 q9 a.length (a.map b8)) := Lib.hid (by rwa [List.nil_append, Nat.zero_add] at h1)
    clear h1
    go_upto_region 5 with fail
    go_cut [10] (fun s u => s = .bool true ∧ Below a1.heap.size a1 u)
    case first =>
      refine wp_region_noPanic ?_; refine wp_region_late (S := fun _ V => Below a1.heap.size a1 V) (by kernel_rfl) ((Below.refl _ _).drew) (fun hS => ?_)
      refine wpAnyL_take 0 rfl rfl (by kernel_rfl) (by kernel_rfl) (by kernel_rfl) (fun _ _ _ h => h) rfl (fun V hV => run_mv (v := .slice _ _ _) rfl rfl) hS ?_; (try simp only [Act.put, List.setIfInBounds_toArray, List.set_cons_zero, List.set_cons_succ])
      refine wpAnyL_take 1 rfl rfl (by kernel_rfl) (by kernel_rfl) (by kernel_rfl) (fun _ _ _ h => h) rfl (fun V hV => run_mv (v := q9) rfl rfl) hS ?_; (try simp only [Act.put, List.setIfInBounds_toArray, List.set_cons_zero, List.set_cons_succ])
      refine wpAnyL_call (R := fun v w => v = .bool true ∧ Below a1.drew.heap.size a1.drew w) 2 (by kernel_rfl) rfl rfl rfl (run_call2 enters_same rfl rfl rfl rfl) (calls_eq (same_true _ a _ _ (HA.out.below (bl.trans (hS.mono bl.size))) (Sl.own (own_below HO.out hS)) (by omega))) (fun v w h => hS.trans (h.2.mono hS.size)) (fun v a2 h => ?_); obtain ⟨rfl, hb⟩ := h; replace hS := hS.trans (hb.mono hS.size); (try simp only [Act.put, List.setIfInBounds_toArray, List.set_cons_zero, List.set_cons_succ])
      clear hb
      refine wpAnyL_take 3 rfl rfl (by kernel_rfl) (by kernel_rfl) (by kernel_rfl) (fun _ _ _ h => h) rfl (fun V hV => run_mv (v := .bool true) rfl rfl) hS ?_; (try simp only [Act.put, List.setIfInBounds_toArray, List.set_cons_zero, List.set_cons_succ])
      refine wpAnyL_take 4 rfl rfl (by kernel_rfl) (by kernel_rfl) (by kernel_rfl) (fun _ _ _ h => h) rfl (fun V hV => run_mv (v := .slice _ _ _) rfl rfl) hS ?_; (try simp only [Act.put, List.setIfInBounds_toArray, List.set_cons_zero, List.set_cons_succ])
      refine wpAnyL_take 5 rfl rfl (by kernel_rfl) (by kernel_rfl) (by kernel_rfl) (fun _ _ _ h => h) rfl (fun V hV => run_mv (v := .slice _ _ _) rfl rfl) hS ?_; (try simp only [Act.put, List.setIfInBounds_toArray, List.set_cons_zero, List.set_cons_succ])
      refine wpAnyL_take 7 rfl rfl (by kernel_rfl) (by kernel_rfl) (by kernel_rfl) (fun _ _ _ h => h) rfl (fun V hV => run_mv (v := .slice _ _ _) rfl rfl) hS ?_; (try simp only [Act.put, List.setIfInBounds_toArray, List.set_cons_zero, List.set_cons_succ])
      refine wpAnyL_take 8 rfl rfl (by kernel_rfl) (by kernel_rfl) (by kernel_rfl) (fun _ _ _ h => h) rfl (fun V hV => run_str rfl rfl (HA.out.below (bl.trans (hV.mono bl.size)))) hS ?_; (try simp only [Act.put, List.setIfInBounds_toArray, List.set_cons_zero, List.set_cons_succ])
      refine wpAnyL_take 9 rfl rfl (by kernel_rfl) (by kernel_rfl) (by kernel_rfl) (fun _ _ _ h => h) rfl (fun V hV => run_mv (v := .slice _ _ _) rfl rfl) hS ?_; (try simp only [Act.put, List.setIfInBounds_toArray, List.set_cons_zero, List.set_cons_succ])
      refine wpAnyL_take 10 rfl rfl (by kernel_rfl) (by kernel_rfl) (by kernel_rfl) (fun _ _ _ h => h) rfl (fun V hV => run_str rfl rfl (HB.out.below (bl.trans (hV.mono bl.size)))) hS ?_; (try simp only [Act.put, List.setIfInBounds_toArray, List.set_cons_zero, List.set_cons_succ])
      refine wpAnyL_take 11 rfl rfl (by kernel_rfl) (by kernel_rfl) (by kernel_rfl) (fun _ _ _ h => h) rfl (fun V hV => run_eqstrG rfl rfl rfl) hS ?_; (try simp only [Act.put, List.setIfInBounds_toArray, List.set_cons_zero, List.set_cons_succ])
      rw [strOf_beq]
      refine wpAnyL_call (R := fun v w => v = .bool (decide (a = b)) ∧ Below a2.heap.size a2 w) 6 (by kernel_rfl) rfl rfl rfl (run_call2 enters_same rfl rfl rfl rfl) (calls_eq (same_any _ a _ b _ (HA.out.below (bl.trans (hS.mono bl.size))) (HB.out.below (bl.trans (hS.mono bl.size))) (by omega))) (fun v w h => hS.trans (h.2.mono hS.size)) (fun v a3 h => ?_); obtain ⟨rfl, hb⟩ := h; replace hS := hS.trans (hb.mono hS.size); (try simp only [Act.put, List.setIfInBounds_toArray, List.set_cons_zero, List.set_cons_succ])
      clear hb
      generalize decide (a = b) = d at *
      refine wpAnyL_take 12 rfl rfl (by kernel_rfl) (by kernel_rfl) (by kernel_rfl) (fun _ _ _ h => h) rfl (fun V hV => run_eqbl rfl rfl rfl) hS ?_; (try simp only [Act.put, List.setIfInBounds_toArray, List.set_cons_zero, List.set_cons_succ])
      rw [show (d == d) = true by cases d <;> rfl]
      refine wpAnyL_take 13 rfl rfl (by kernel_rfl) (by kernel_rfl) (by kernel_rfl) (fun _ _ _ h => h) rfl (fun V hV => run_pick (b := true) (v := .bool true) rfl rfl rfl) hS ?_; (try simp only [Act.put, List.setIfInBounds_toArray, List.set_cons_zero, List.set_cons_succ])
      refine wpAnyL_take 14 rfl rfl (by kernel_rfl) (by kernel_rfl) (by kernel_rfl) (fun _ _ _ h => h) rfl (fun V hV => run_asg (v := .bool true) rfl rfl) hS ?_; (try simp only [Act.put, List.setIfInBounds_toArray, List.set_cons_zero, List.set_cons_succ])
      refine wpAnyL_done (by kernel_rfl) ?_ _; refine NoPanic.normal ?_
      go_wp2_with fail
      go_meet
      exact ⟨rfl, hS⟩
    case rest =>
      obtain ⟨rfl, hb⟩ := hcut
      replace HO := Lib.hid (own_below HO.out hb)
      replace bl := bl.trans (hb.mono bl.size)
      clear hb
      generalize hwc : wc = a2 at *
      clear hwc
      obtain ⟨a9, c9, e9, -⟩ : ∃ a9 c9, q9 = .slice a9 a.length c9 ∧ True := by
        rcases HO.out.2 with ⟨h1, h2⟩ | ⟨g, cap, cur, h1, _, _, h2, _⟩
        · exact ⟨none, 0, by rw [h1, h2], trivial⟩
        · exact ⟨_, cap, h1, trivial⟩
      subst e9
      go_upto_region 6 with fail; refine wp_region_lit ?_
      refine wpList_val (run_mv (v := .slice _ _ _) rfl rfl) rfl ?_; (try simp only [Act.put, List.setIfInBounds_toArray, List.set_cons_zero, List.set_cons_succ])
      refine wpList_val (run_len rfl Tryd.underlying22 rfl) rfl ?_; (try simp only [Act.put, List.setIfInBounds_toArray, List.set_cons_zero, List.set_cons_succ])
      refine wpList_val (run_gtr rfl rfl rfl) rfl ?_; (try simp only [Act.put, List.setIfInBounds_toArray, List.set_cons_zero, List.set_cons_succ])
      refine wpList_end ?_
      go_upto_if 37 with fail
      go_cut [9] (fun s u => ∃ l', Sl s l' u ∧ l'.length ≤ 500 ∧ decide (a = l') = (decide (x = 0) || decide (a.length = 0)) ∧ Below w.heap.size w u)
      case first =>
        by_cases h0 : 0 < a.length
        · rw [decide_eq_true (show (0 : Int) < (a.length : Int) by omega)]
          obtain ⟨g, c8, e8, hc8, hg8, A8⟩ := own_arr HO.out h0
          injection e8 with e8 _ e8'
          subst e8 e8'
          have HA8 := Lib.hid A8; clear A8
          have hj : n % a.length < a.length := Nat.mod_lt _ h0
          have HCE : Hid (((n : Int) % (a.length : Int)) = ((n % a.length : Nat) : Int)) := Lib.hid (Int.natCast_emod n a.length).symm
          generalize n % a.length = j at *
          go_upto_region 7 with fail; refine wp_region_calm 17 (by kernel_rfl) (by kernel_rfl) ?_
          refine wpCalm_step _ (fun V hV => calm_run (run_mv (v := .slice (some _) _ _) rfl rfl)) ?_; (try simp only [Act.put, List.setIfInBounds_toArray, List.set_cons_zero, List.set_cons_succ])
          refine wpCalm_step _ (fun V hV => calm_run (run_mv (v := .int _ _) rfl rfl)) ?_; (try simp only [Act.put, List.setIfInBounds_toArray, List.set_cons_zero, List.set_cons_succ])
          refine wpCalm_step _ (fun V hV => calm_run (run_cv8n rfl rfl (by omega) (by omega))) ?_; (try simp only [Act.put, List.setIfInBounds_toArray, List.set_cons_zero, List.set_cons_succ])
          refine wpCalm_step _ (fun V hV => calm_run (run_mv (v := .slice (some _) _ _) rfl rfl)) ?_; (try simp only [Act.put, List.setIfInBounds_toArray, List.set_cons_zero, List.set_cons_succ])
          refine wpCalm_step _ (fun V hV => calm_run (run_len rfl Tryd.underlying22 rfl)) ?_; (try simp only [Act.put, List.setIfInBounds_toArray, List.set_cons_zero, List.set_cons_succ])
          refine wpCalm_step _ (fun V hV => calm_run (run_rem rfl rfl rfl (by omega) (by omega))) ?_; (try simp only [Act.put, List.setIfInBounds_toArray, List.set_cons_zero, List.set_cons_succ])
          refine wpCalm_step _ (fun V hV => calm_run (run_mv (v := .slice (some _) _ _) rfl rfl)) ?_; (try simp only [Act.put, List.setIfInBounds_toArray, List.set_cons_zero, List.set_cons_succ])
          refine wpCalm_step _ (fun V hV => calm_run (run_mv (v := .int _ _) rfl rfl)) ?_; (try simp only [Act.put, List.setIfInBounds_toArray, List.set_cons_zero, List.set_cons_succ])
          refine wpCalm_step _ (fun V hV => calm_run (run_cv8n rfl rfl (by omega) (by omega))) ?_; (try simp only [Act.put, List.setIfInBounds_toArray, List.set_cons_zero, List.set_cons_succ])
          refine wpCalm_step _ (fun V hV => calm_run (run_mv (v := .slice (some _) _ _) rfl rfl)) ?_; (try simp only [Act.put, List.setIfInBounds_toArray, List.set_cons_zero, List.set_cons_succ])
          refine wpCalm_step _ (fun V hV => calm_run (run_len rfl Tryd.underlying22 rfl)) ?_; (try simp only [Act.put, List.setIfInBounds_toArray, List.set_cons_zero, List.set_cons_succ])
          refine wpCalm_step _ (fun V hV => calm_run (run_rem rfl rfl rfl (by omega) (by omega))) ?_; (try simp only [Act.put, List.setIfInBounds_toArray, List.set_cons_zero, List.set_cons_succ])
          rw [HCE.out]
          refine wpCalm_step _ (fun V hV => calm_run (run_ixs rfl Tryd.underlying22 (by kernel_rfl) rfl rfl hj)) ?_; (try simp only [Act.put, List.setIfInBounds_toArray, List.set_cons_zero, List.set_cons_succ])
          rw [Nat.zero_add j]
          refine wpCalm_step _ (fun V hV => calm_run (run_ld8 rfl rfl ((HA8.out.below hV).c j _ (get_map b8 0 hj)))) ?_; (try simp only [Act.put, List.setIfInBounds_toArray, List.set_cons_zero, List.set_cons_succ])
          (repeat ((first | refine wpCalm_step _ (fun V hV => calm_run (run_mv (v := b32 _) rfl rfl)) ?_ | refine wpCalm_step _ (fun V hV => calm_run (run_mv (v := b64 _) rfl rfl)) ?_ | refine wpCalm_step _ (fun V hV => calm_run (run_mv (v := b8 _) rfl rfl)) ?_ | refine wpCalm_step _ (fun V hV => calm_run (run_mv (v := .int _ _) rfl rfl)) ?_ | refine wpCalm_step _ (fun V hV => calm_run (run_mv (v := .bool _) rfl rfl)) ?_ | refine wpCalm_step _ (fun V hV => calm_run (run_mv (v := .slice (some _) _ _) rfl rfl)) ?_ | refine wpCalm_step _ (fun V hV => calm_run (run_mv (v := .slice _ _ _) rfl rfl)) ?_ | refine wpCalm_step _ (fun V hV => calm_run (run_mv (v := .pointer (some _)) rfl rfl)) ?_ | refine wpCalm_step _ (fun V hV => calm_run (run_mv (v := .agg _) rfl rfl)) ?_ | refine wpCalm_step _ (fun V hV => calm_run (run_asg (v := b32 _) rfl rfl)) ?_ | refine wpCalm_step _ (fun V hV => calm_run (run_asg (v := b64 _) rfl rfl)) ?_ | refine wpCalm_step _ (fun V hV => calm_run (run_asg (v := b8 _) rfl rfl)) ?_ | refine wpCalm_step _ (fun V hV => calm_run (run_asg (v := .int _ _) rfl rfl)) ?_ | refine wpCalm_step _ (fun V hV => calm_run (run_asg (v := .bool _) rfl rfl)) ?_ | refine wpCalm_step _ (fun V hV => calm_run (run_asg (v := .slice (some _) _ _) rfl rfl)) ?_ | refine wpCalm_step _ (fun V hV => calm_run (run_asg (v := .slice _ _ _) rfl rfl)) ?_ | refine wpCalm_step _ (fun V hV => calm_run (run_asg (v := .pointer (some _)) rfl rfl)) ?_ | refine wpCalm_step _ (fun V hV => calm_run (run_asg (v := .agg _) rfl rfl)) ?_ | refine wpCalm_step _ (fun V hV => calm_run (run_mv rfl rfl)) ?_ | refine wpCalm_step _ (fun V hV => calm_run (run_asg rfl rfl)) ?_ | refine wpCalm_step _ (fun V hV => calm_run (run_xor32 rfl rfl rfl)) ?_ | refine wpCalm_step _ (fun V hV => calm_run (run_and32 rfl rfl rfl)) ?_ | refine wpCalm_step _ (fun V hV => calm_run (run_or32 rfl rfl rfl)) ?_ | refine wpCalm_step _ (fun V hV => calm_run (run_add32 rfl rfl rfl)) ?_ | refine wpCalm_step _ (fun V hV => calm_run (run_not32 rfl rfl)) ?_ | refine wpCalm_step _ (fun V hV => calm_run (run_xor64 rfl rfl rfl)) ?_ | refine wpCalm_step _ (fun V hV => calm_run (run_and64 rfl rfl rfl)) ?_ | refine wpCalm_step _ (fun V hV => calm_run (run_or64 rfl rfl rfl)) ?_ | refine wpCalm_step _ (fun V hV => calm_run (run_add64 rfl rfl rfl)) ?_ | refine wpCalm_step _ (fun V hV => calm_run (run_not64 rfl rfl)) ?_ | refine wpCalm_step _ (fun V hV => calm_run (run_xor8 rfl rfl rfl)) ?_ | refine wpCalm_step _ (fun V hV => calm_run (run_and8 rfl rfl rfl)) ?_ | refine wpCalm_step _ (fun V hV => calm_run (run_or8 rfl rfl rfl)) ?_ | refine wpCalm_step _ (fun V hV => calm_run (run_add8 rfl rfl rfl)) ?_ | refine wpCalm_step _ (fun V hV => calm_run (run_not8 rfl rfl)) ?_ | refine wpCalm_step _ (fun V hV => calm_run (run_cv64_32 rfl rfl)) ?_ | refine wpCalm_step _ (fun V hV => calm_run (run_cv8_32 rfl rfl)) ?_ | refine wpCalm_step _ (fun V hV => calm_run (run_cv8_64 rfl rfl)) ?_ | refine wpCalm_step _ (fun V hV => calm_run (run_cv32_8 rfl rfl)) ?_ | refine wpCalm_step _ (fun V hV => calm_run (run_cv64_8 rfl rfl)) ?_); (try simp only [Act.put, List.setIfInBounds_toArray, List.set_cons_zero, List.set_cons_succ])))
          refine wpCalm_step _ (fun V hV => calm_run (run_ixs rfl Tryd.underlying22 (by kernel_rfl) rfl rfl hj)) ?_; (try simp only [Act.put, List.setIfInBounds_toArray, List.set_cons_zero, List.set_cons_succ])
          rw [Nat.zero_add j]
          refine wpCalm_done ?_; intro a3 hb; simp only [List.drop_succ_cons, List.drop_zero]
          replace HA8 := Lib.hid (HA8.out.below hb)
          replace bl := bl.trans (hb.mono bl.size)
          clear hb
          refine wpList_skip (run_st8 rfl rfl rfl (HA8.out.c j _ (get_map b8 0 hj)) (HA8.out.f _)) rfl rfl ?_
          refine wpList_end ?_
          have HE : Hid (Sl (.slice (some ⟨g, 0, none⟩) a.length c9) (a.set j (a.getD j 0 ^^^ x)) (a3.setCell ⟨g, j, none⟩ (b8 (a.getD j 0 ^^^ x)))) := Lib.hid (by
            have h1 := HA8.out.set (i := j) (by rw [List.length_map]; exact hj) (b8 (a.getD j 0 ^^^ x))
            rw [set_map] at h1
            have h2 := Sl.arr h1 (c := c9) (by rw [List.length_set]; exact hc8)
            rwa [List.length_set] at h2)
          replace bl := bl.setCell (p := ⟨g, j, none⟩) hg8 (b8 (a.getD j 0 ^^^ x))
          generalize a3.setCell ⟨g, j, none⟩ (b8 (a.getD j 0 ^^^ x)) = a4 at *
          go_wp2_with fail
          go_meet
          exact ⟨_, HE.out, by rw [List.length_set]; omega, by rw [same_set hj, decide_eq_false (show ¬ a.length = 0 by omega), Bool.or_false], bl⟩
        · rw [decide_eq_false (show ¬ (0 : Int) < (a.length : Int) by omega)]
          go_wp2_with fail
          go_meet
          exact ⟨a, Sl.own HO.out, by omega, by rw [decide_eq_true (rfl : a = a), decide_eq_true (show a.length = 0 by omega), Bool.or_true], bl⟩
      case rest =>
        obtain ⟨l', S9, hl', hd, bl'⟩ := hcut
        have H9 := Lib.hid S9; clear S9
        have HD := Lib.hid hd; clear hd
        clear HO bl
        go_upto_region 8 with fail; refine wp_region_lit ?_
        refine wpList_enter (run_call0 enters_known4 rfl rfl) rfl (known4_any _ (HT.out.below bl')) (fun a3 hb => ?_); (try simp only [Act.put, List.setIfInBounds_toArray, List.set_cons_zero, List.set_cons_succ])
        replace H9 := Lib.hid (H9.out.below hb)
        replace bl' := bl'.trans (hb.mono bl'.size)
        clear hb
        refine wpList_val (run_mv (v := .bool true) rfl rfl) rfl ?_; (try simp only [Act.put, List.setIfInBounds_toArray, List.set_cons_zero, List.set_cons_succ])
        refine wpList_valG (run_mv (v := .bool true) rfl rfl) rfl ?_; (try simp only [Act.put, List.setIfInBounds_toArray, List.set_cons_zero, List.set_cons_succ])
        refine wpList_val (run_pick (b := true) (v := .bool true) rfl rfl rfl) rfl ?_; (try simp only [Act.put, List.setIfInBounds_toArray, List.set_cons_zero, List.set_cons_succ])
        refine wpList_val (run_mv (v := .bool true) rfl rfl) rfl ?_; (try simp only [Act.put, List.setIfInBounds_toArray, List.set_cons_zero, List.set_cons_succ])
        refine wpList_valG (run_mv (v := .slice _ _ _) rfl rfl) rfl ?_; (try simp only [Act.put, List.setIfInBounds_toArray, List.set_cons_zero, List.set_cons_succ])
        refine wpList_valG (run_mv (v := u9) rfl rfl) rfl ?_; (try simp only [Act.put, List.setIfInBounds_toArray, List.set_cons_zero, List.set_cons_succ])
        refine wpList_enterG (run_call2 enters_same rfl rfl rfl rfl) rfl (same_any _ a _ l' _ (HA.out.below bl') H9.out (by omega)) (fun a4 hb => ?_); (try simp only [Act.put, List.setIfInBounds_toArray, List.set_cons_zero, List.set_cons_succ])
        rw [HD.out]
        replace bl' := bl'.trans (hb.mono bl'.size)
        clear hb H9
        refine wpList_valG (run_mv (v := b8 _) rfl rfl) rfl ?_; (try simp only [Act.put, List.setIfInBounds_toArray, List.set_cons_zero, List.set_cons_succ])
        by_cases hx : x = 0
        · rw [decide_eq_true hx, Bool.true_or]
          refine wpList_valG (run_eqlb (k := .u8) (c := true) rfl rfl rfl (by rw [hx]; rfl)) rfl ?_; (try simp only [Act.put, List.setIfInBounds_toArray, List.set_cons_zero, List.set_cons_succ])
          refine wpList_valG (run_mv (v := .bool true) rfl rfl) rfl ?_; (try simp only [Act.put, List.setIfInBounds_toArray, List.set_cons_zero, List.set_cons_succ])
          refine wpList_pass rfl ?_; (try simp only [Act.put, List.setIfInBounds_toArray, List.set_cons_zero, List.set_cons_succ])
          refine wpList_pass rfl ?_; (try simp only [Act.put, List.setIfInBounds_toArray, List.set_cons_zero, List.set_cons_succ])
          refine wpList_pass rfl ?_; (try simp only [Act.put, List.setIfInBounds_toArray, List.set_cons_zero, List.set_cons_succ])
          refine wpList_valG (run_pick (b := true) (v := .bool true) rfl rfl rfl) rfl ?_; (try simp only [Act.put, List.setIfInBounds_toArray, List.set_cons_zero, List.set_cons_succ])
          refine wpList_valG (run_eqbl (a := true) (b := true) rfl rfl rfl) rfl ?_; (try simp only [Act.put, List.setIfInBounds_toArray, List.set_cons_zero, List.set_cons_succ])
          refine wpList_val (run_pick (b := true) (v := .bool true) rfl rfl rfl) rfl ?_; (try simp only [Act.put, List.setIfInBounds_toArray, List.set_cons_zero, List.set_cons_succ])
          refine wpList_val (run_asg (v := .bool true) rfl rfl) rfl ?_; (try simp only [Act.put, List.setIfInBounds_toArray, List.set_cons_zero, List.set_cons_succ])
          refine wpList_end ?_
          go_wp2_with fail
          go_ret
          exact ⟨rfl, bl'⟩
        · rw [decide_eq_false hx, Bool.false_or]
          refine wpList_valG (run_eqlb (k := .u8) (c := false) rfl rfl rfl (beq_eq_false_iff_ne.2 fun h => hx (BitVec.eq_of_toNat_eq (by simpa using h)))) rfl ?_; (try simp only [Act.put, List.setIfInBounds_toArray, List.set_cons_zero, List.set_cons_succ])
          refine wpList_valG (run_mv (v := .bool false) rfl rfl) rfl ?_; (try simp only [Act.put, List.setIfInBounds_toArray, List.set_cons_zero, List.set_cons_succ])
          refine wpList_valG (run_mv (v := .slice _ _ _) rfl rfl) rfl ?_; (try simp only [Act.put, List.setIfInBounds_toArray, List.set_cons_zero, List.set_cons_succ])
          refine wpList_valG (run_len rfl Tryd.underlying22 rfl) rfl ?_; (try simp only [Act.put, List.setIfInBounds_toArray, List.set_cons_zero, List.set_cons_succ])
          refine wpList_valG (run_eqlb (c := decide (a.length = 0)) rfl rfl rfl (by rw [Bool.eq_iff_iff]; simp)) rfl ?_; (try simp only [Act.put, List.setIfInBounds_toArray, List.set_cons_zero, List.set_cons_succ])
          refine wpList_valG (run_pick (b := false) (v := .bool (decide (a.length = 0))) rfl rfl rfl) rfl ?_; (try simp only [Act.put, List.setIfInBounds_toArray, List.set_cons_zero, List.set_cons_succ])
          refine wpList_valG (run_eqbl rfl rfl rfl) rfl ?_; (try simp only [Act.put, List.setIfInBounds_toArray, List.set_cons_zero, List.set_cons_succ])
          rw [show (decide (a.length = 0) == decide (a.length = 0)) = true by cases decide (a.length = 0) <;> rfl]
          refine wpList_val (run_pick (b := true) (v := .bool true) rfl rfl rfl) rfl ?_; (try simp only [Act.put, List.setIfInBounds_toArray, List.set_cons_zero, List.set_cons_succ])
          refine wpList_val (run_asg (v := .bool true) rfl rfl) rfl ?_; (try simp only [Act.put, List.setIfInBounds_toArray, List.set_cons_zero, List.set_cons_succ])
          refine wpList_end ?_
          go_wp2_with fail
          go_ret
          exact ⟨rfl, bl'⟩
end Go.Proofs.YtebmcjleepnehaaDoor
