/- What keywardlaw03.ShaNumbers answers: the walk. -/
import Derived.Test.YtkjlaoaaifliaaaDoorShaRnd
namespace Go.Proofs.YtkjlaoaaifliaaaDoor
open Go.RowKit

theorem wpList_enterG {ops : Array Oper} {Q : Exit → Act → World → Prop} {rest : List Oper} {o : Oper} {a : Act} {w : World} {f : FuncId} {args : Array Value} {v : Value} (hr : (execOp a.eval o).run Tryd.prog w = .ok (.enter f args) w) (hw : Region.wanted o (yielded ops a.tmps) = true)
    (hc : Calls Tryd.prog f args w fun e w' => e = .returned v ∧ Below w.heap.size w w') (h : ∀ w', Below w.heap.size w w' → wpList Tryd.prog ops Q rest (a.put o.dst v) w') : wpList Tryd.prog ops Q (o :: rest) a w := by
  simp only [wpList, hw, if_true]
  refine .inl ?_
  unfold Oper.wp
  rw [hr]
  simp only [Oper.upon]
  refine hc.mono fun e w' ⟨he, hb⟩ => ?_
  subst he
  exact h w' hb
theorem calls_still {f : FuncId} {args : Array Value} {w : World} {v : Value} (h : Calls Tryd.prog f args w fun e w' => e = .returned v ∧ w' = w) : Calls Tryd.prog f args w fun e w' => e = .returned v ∧ Below w.heap.size w w' :=
  h.mono fun _ _ ⟨h1, h2⟩ => ⟨h1, by rw [h2]; exact Below.refl _ _⟩
section
variable {w : World} {ρ : Operand → Value} {o : Oper} {x y : Operand} {t t' : TypeId}
theorem run_eq64 {a : BitVec 64} (ho : o.op = .binOp .eql t x y t') (hx : ρ x = b64 a) (hy : ρ y = b64 a) : (execOp ρ o).run Tryd.prog w = .ok (.value (.bool true)) w := by
  rw [run_eql (k := .u64) (a := (a.toNat : Int)) (b := (a.toNat : Int)) ho hx hy]; simp
theorem run_rem8 {a b : Int} (ho : o.op = .binOp .rem t x y t') (hx : ρ x = .int .u8 a) (hy : ρ y = .int .u8 b) (h0 : 0 ≤ a) (h2 : 0 < b) : (execOp ρ o).run Tryd.prog w = .ok (.value (.int .u8 (a % b))) w := by
  obtain ⟨dst, op, type, pos, after, guard⟩ := o
  subst ho
  have hb : ¬ b = 0 := by omega
  go_simp
  rw [Int.tmod_eq_emod_of_nonneg h0]
theorem run_cv8_i {n : Int} (ho : o.op = .convert 5 3 x) (hx : ρ x = .int .u8 n) (h0 : 0 ≤ n) (h1 : n < 256) : (execOp ρ o).run Tryd.prog w = .ok (.value (.int .i64 n)) w := by
  rw [run_cv ho Tryd.underlying5 Tryd.underlying3 hx, i64_fit (by omega) (by omega)]
end
set_option maxHeartbeats 1000000 in
theorem numbers_any (i k : Int) (w : World) (h0 : 0 ≤ k) (_h1 : k ≤ 255) (hT : Tabs w) : Calls Tryd.prog 6 #[.int .i64 i, .int .u8 k] w fun e w' => e = .returned (.bool true) ∧ Below w.heap.size w w' := by
  have HT := Lib.hid hT; clear hT
  go_enter Tryd.func6, Tryd.ntmps6
  go_upto_region 1 with fail; refine wp_region_lit ?_
  refine wpList_enter (run_call0 enters_known rfl rfl) rfl (known_any _ HT.out) (fun u0 b0 => ?_); (try simp only [Act.put, List.setIfInBounds_toArray, List.set_cons_zero, List.set_cons_succ])
  refine wpList_val (run_mv (v := .bool true) rfl rfl) rfl ?_; (try simp only [Act.put, List.setIfInBounds_toArray, List.set_cons_zero, List.set_cons_succ])
  refine wpList_valG (run_mv (v := .int _ _) rfl rfl) rfl ?_; (try simp only [Act.put, List.setIfInBounds_toArray, List.set_cons_zero, List.set_cons_succ])
  refine wpList_enterG (run_call1 enters_round rfl rfl rfl) rfl (calls_still (round_any i _ (HT.out.below b0))) (fun u1 b1 => ?_); (try simp only [Act.put, List.setIfInBounds_toArray, List.set_cons_zero, List.set_cons_succ])
  replace b1 := b0.trans (b1.mono b0.size)
  refine wpList_valG (run_mv (v := .int _ _) rfl rfl) rfl ?_; (try simp only [Act.put, List.setIfInBounds_toArray, List.set_cons_zero, List.set_cons_succ])
  refine wpList_enterG (run_call1 enters_refround rfl rfl rfl) rfl (refround_any i _) (fun u2 b2 => ?_); (try simp only [Act.put, List.setIfInBounds_toArray, List.set_cons_zero, List.set_cons_succ])
  replace b2 := b1.trans (b2.mono b1.size)
  clear b0 b1
  refine wpList_valG (run_eq64 rfl rfl rfl) rfl ?_; (try simp only [Act.put, List.setIfInBounds_toArray, List.set_cons_zero, List.set_cons_succ])
  refine wpList_val (run_pick (b := true) (v := .bool true) rfl rfl rfl) rfl ?_; (try simp only [Act.put, List.setIfInBounds_toArray, List.set_cons_zero, List.set_cons_succ])
  refine wpList_val (run_mv (v := .bool true) rfl rfl) rfl ?_; (try simp only [Act.put, List.setIfInBounds_toArray, List.set_cons_zero, List.set_cons_succ])
  refine wpList_valG (run_mv (v := .int _ _) rfl rfl) rfl ?_; (try simp only [Act.put, List.setIfInBounds_toArray, List.set_cons_zero, List.set_cons_succ])
  refine wpList_enterG (run_call1 enters_begin rfl rfl rfl) rfl (calls_still (begin_any i _ (HT.out.below b2))) (fun u3 b3 => ?_); (try simp only [Act.put, List.setIfInBounds_toArray, List.set_cons_zero, List.set_cons_succ])
  replace b3 := b2.trans (b3.mono b2.size)
  refine wpList_valG (run_mv (v := .int _ _) rfl rfl) rfl ?_; (try simp only [Act.put, List.setIfInBounds_toArray, List.set_cons_zero, List.set_cons_succ])
  refine wpList_enterG (run_call1 enters_refbegin rfl rfl rfl) rfl (refbegin_any i _) (fun u4 b4 => ?_); (try simp only [Act.put, List.setIfInBounds_toArray, List.set_cons_zero, List.set_cons_succ])
  replace b4 := b3.trans (b4.mono b3.size)
  clear b2 b3
  refine wpList_valG (run_eq64 rfl rfl rfl) rfl ?_; (try simp only [Act.put, List.setIfInBounds_toArray, List.set_cons_zero, List.set_cons_succ])
  refine wpList_val (run_pick (b := true) (v := .bool true) rfl rfl rfl) rfl ?_; (try simp only [Act.put, List.setIfInBounds_toArray, List.set_cons_zero, List.set_cons_succ])
  refine wpList_val (run_mv (v := .bool true) rfl rfl) rfl ?_; (try simp only [Act.put, List.setIfInBounds_toArray, List.set_cons_zero, List.set_cons_succ])
  refine wpList_valG (run_mv (v := .int _ _) rfl rfl) rfl ?_; (try simp only [Act.put, List.setIfInBounds_toArray, List.set_cons_zero, List.set_cons_succ])
  refine wpList_valG (run_rem8 rfl rfl rfl h0 (by omega)) rfl ?_; (try simp only [Act.put, List.setIfInBounds_toArray, List.set_cons_zero, List.set_cons_succ])
  refine wpList_valG (run_cv8_i rfl rfl (by omega) (by omega)) rfl ?_; (try simp only [Act.put, List.setIfInBounds_toArray, List.set_cons_zero, List.set_cons_succ])
  refine wpList_enterG (run_call1 enters_round rfl rfl rfl) rfl (calls_still (round_any (k % 90) _ (HT.out.below b4))) (fun u5 b5 => ?_); (try simp only [Act.put, List.setIfInBounds_toArray, List.set_cons_zero, List.set_cons_succ])
  replace b5 := b4.trans (b5.mono b4.size)
  refine wpList_valG (run_mv (v := .int _ _) rfl rfl) rfl ?_; (try simp only [Act.put, List.setIfInBounds_toArray, List.set_cons_zero, List.set_cons_succ])
  refine wpList_valG (run_rem8 rfl rfl rfl h0 (by omega)) rfl ?_; (try simp only [Act.put, List.setIfInBounds_toArray, List.set_cons_zero, List.set_cons_succ])
  refine wpList_valG (run_cv8_i rfl rfl (by omega) (by omega)) rfl ?_; (try simp only [Act.put, List.setIfInBounds_toArray, List.set_cons_zero, List.set_cons_succ])
  refine wpList_enterG (run_call1 enters_refround rfl rfl rfl) rfl (refround_any (k % 90) _) (fun u6 b6 => ?_); (try simp only [Act.put, List.setIfInBounds_toArray, List.set_cons_zero, List.set_cons_succ])
  replace b6 := b5.trans (b6.mono b5.size)
  clear b4 b5
  refine wpList_valG (run_eq64 rfl rfl rfl) rfl ?_; (try simp only [Act.put, List.setIfInBounds_toArray, List.set_cons_zero, List.set_cons_succ])
  refine wpList_val (run_pick (b := true) (v := .bool true) rfl rfl rfl) rfl ?_; (try simp only [Act.put, List.setIfInBounds_toArray, List.set_cons_zero, List.set_cons_succ])
  refine wpList_val (run_mv (v := .bool true) rfl rfl) rfl ?_; (try simp only [Act.put, List.setIfInBounds_toArray, List.set_cons_zero, List.set_cons_succ])
  refine wpList_valG (run_mv (v := .int _ _) rfl rfl) rfl ?_; (try simp only [Act.put, List.setIfInBounds_toArray, List.set_cons_zero, List.set_cons_succ])
  refine wpList_valG (run_rem8 rfl rfl rfl h0 (by omega)) rfl ?_; (try simp only [Act.put, List.setIfInBounds_toArray, List.set_cons_zero, List.set_cons_succ])
  refine wpList_valG (run_cv8_i rfl rfl (by omega) (by omega)) rfl ?_; (try simp only [Act.put, List.setIfInBounds_toArray, List.set_cons_zero, List.set_cons_succ])
  refine wpList_enterG (run_call1 enters_begin rfl rfl rfl) rfl (calls_still (begin_any (k % 12) _ (HT.out.below b6))) (fun u7 b7 => ?_); (try simp only [Act.put, List.setIfInBounds_toArray, List.set_cons_zero, List.set_cons_succ])
  replace b7 := b6.trans (b7.mono b6.size)
  refine wpList_valG (run_mv (v := .int _ _) rfl rfl) rfl ?_; (try simp only [Act.put, List.setIfInBounds_toArray, List.set_cons_zero, List.set_cons_succ])
  refine wpList_valG (run_rem8 rfl rfl rfl h0 (by omega)) rfl ?_; (try simp only [Act.put, List.setIfInBounds_toArray, List.set_cons_zero, List.set_cons_succ])
  refine wpList_valG (run_cv8_i rfl rfl (by omega) (by omega)) rfl ?_; (try simp only [Act.put, List.setIfInBounds_toArray, List.set_cons_zero, List.set_cons_succ])
  refine wpList_enterG (run_call1 enters_refbegin rfl rfl rfl) rfl (refbegin_any (k % 12) _) (fun u8 b8' => ?_); (try simp only [Act.put, List.setIfInBounds_toArray, List.set_cons_zero, List.set_cons_succ])
  replace b8' := b7.trans (b8'.mono b7.size)
  clear b6 b7
  refine wpList_valG (run_eq64 rfl rfl rfl) rfl ?_; (try simp only [Act.put, List.setIfInBounds_toArray, List.set_cons_zero, List.set_cons_succ])
  refine wpList_val (run_pick (b := true) (v := .bool true) rfl rfl rfl) rfl ?_; (try simp only [Act.put, List.setIfInBounds_toArray, List.set_cons_zero, List.set_cons_succ])
  refine wpList_val (run_asg (v := .bool true) rfl rfl) rfl ?_; (try simp only [Act.put, List.setIfInBounds_toArray, List.set_cons_zero, List.set_cons_succ])
  refine wpList_end ?_
  go_wp2_with fail
  go_ret
  exact ⟨rfl, b8'⟩
end Go.Proofs.YtkjlaoaaifliaaaDoor
