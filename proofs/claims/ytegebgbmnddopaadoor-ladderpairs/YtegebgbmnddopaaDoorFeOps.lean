/- Loads, stores, blocks and calls of numbers, one operation at a time, in frames of any size. -/
import Derived.Test.YtegebgbmnddopaaDoorSown2
import Derived.Test.YtegebgbmnddopaaDoorBase
namespace Go.Proofs.YtegebgbmnddopaaDoor
open Go.RowKit

theorem run_alloc_fe (ρ : Operand → Value) (w : World) (o : Oper) (h : o.op = .alloc 33) : (execOp ρ o).run Tryd.prog w = .ok (.value (.pointer (some ⟨w.heap.size, 0, none⟩))) (w.alloc (.cells #[.int .u64 0, .int .u64 0, .int .u64 0, .int .u64 0] 33)) := by
  obtain ⟨dst, op, type, pos, after, guard⟩ := o
  subst h
  go_simp
theorem run_load_fe {w : World} {g : Nat} {X : Int} (h : Var4 g X w) {ρ : Operand → Value} {o : Oper} {x : Operand} (ho : o.op = .load 33 x) (hx : ρ x = .pointer (some ⟨g, 0, none⟩)) : (execOp ρ o).run Tryd.prog w = .ok (.value (feV X)) w := by
  obtain ⟨dst, op, type, pos, after, guard⟩ := o
  subst ho
  obtain ⟨vl, v0, v1, v2, v3, vf0, vf1, vf2, vf3⟩ := h
  go_simp
theorem run_store_fe {w : World} {g : Nat} {X Z : Int} (h : Var4 g X w) {ρ : Operand → Value} {o : Oper} {x y : Operand} (ho : o.op = .store 33 x y) (hx : ρ x = .pointer (some ⟨g, 0, none⟩)) (hy : ρ y = feV Z) : (execOp ρ o).run Tryd.prog w = .ok .skip (set4 w g Z) := by
  obtain ⟨dst, op, type, pos, after, guard⟩ := o
  subst ho
  obtain ⟨vl, v0, v1, v2, v3, vf0, vf1, vf2, vf3⟩ := h
  go_simp
/-- A function of Go text is entered. -/
def Enters (f : FuncId) : Prop := ∀ (args : Array Value) (w : World), (callFunc f args).run Tryd.prog w = .ok (.enter f args) w
theorem enters_of {f : FuncId} {fn : Func} {c : Code} (hf : Tryd.prog.funcs[f]? = some fn) (hn : (fn.name == "runtime.NumGoroutine") = false) (hb : fn.body = some c) : Enters f := fun args w => by
  have hn' : ¬ fn.name = "runtime.NumGoroutine" := by simpa using hn
  simp [callFunc, go_sem, hf, hn', hb]
theorem run_call {w : World} {ρ : Operand → Value} {o : Oper} {f : FuncId} {xs : Array Operand} {ts : Array TypeId} (hE : Enters f) (ho : o.op = .call { callee := .value (.func f), args := xs, argTypes := ts }) (hf : ρ (.func f) = .func (.func f) #[] #[]) : (execOp ρ o).run Tryd.prog w = .ok (.enter f (xs.map ρ)) w := by
  obtain ⟨dst, op, type, pos, after, guard⟩ := o
  subst ho
  have := hE (xs.map ρ) w
  go_simp

theorem calm_load {w : World} {g : Nat} {X : Int} (h : Var4 g X w) {ρ : Operand → Value} {o : Oper} {x : Operand} (ho : o.op = .load 33 x) (hx : ρ x = .pointer (some ⟨g, 0, none⟩)) : calmUpon Tryd.prog w (feV X) ((execOp ρ o).run Tryd.prog w) := by
  rw [run_load_fe h ho hx]; exact ⟨rfl, rfl⟩
theorem calm_call1 {w : World} {ρ : Operand → Value} {o : Oper} {f : FuncId} {x : Operand} {a v : Value} {ts : Array TypeId} (hE : Enters f) (ho : o.op = .call { callee := .value (.func f), args := #[x], argTypes := ts }) (hf : ρ (.func f) = .func (.func f) #[] #[]) (hx : ρ x = a)
    (hc : Calls Tryd.prog f #[a] w fun e w' => e = .returned v ∧ Below w.heap.size w w') : calmUpon Tryd.prog w v ((execOp ρ o).run Tryd.prog w) := by
  rw [run_call hE ho hf]
  refine ⟨rfl, ?_⟩
  have e : (#[x] : Array Operand).map ρ = #[a] := by simp [hx]
  rw [e]; exact hc
theorem calm_call2 {w : World} {ρ : Operand → Value} {o : Oper} {f : FuncId} {x y : Operand} {a b v : Value} {ts : Array TypeId} (hE : Enters f) (ho : o.op = .call { callee := .value (.func f), args := #[x, y], argTypes := ts }) (hf : ρ (.func f) = .func (.func f) #[] #[]) (hx : ρ x = a) (hy : ρ y = b)
    (hc : Calls Tryd.prog f #[a, b] w fun e w' => e = .returned v ∧ Below w.heap.size w w') : calmUpon Tryd.prog w v ((execOp ρ o).run Tryd.prog w) := by
  rw [run_call hE ho hf]
  refine ⟨rfl, ?_⟩
  have e : (#[x, y] : Array Operand).map ρ = #[a, b] := by simp [hx, hy]
  rw [e]; exact hc
/-- A number stored, at a list of operations. -/
theorem wpList_store_fe {ops : Array Oper} {Q : Exit → Act → World → Prop} {rest : List Oper} {o : Oper} {a : Act} {w : World} {g : Nat} {X Z : Int} {x y : Operand} (h : Var4 g X w) (ho : o.op = .store 33 x y) (hd : o.dst = none) (hg : o.guard = none) (hx : a.eval x = .pointer (some ⟨g, 0, none⟩)) (hy : a.eval y = feV Z)
    (hr : wpList Tryd.prog ops Q rest a (set4 w g Z)) : wpList Tryd.prog ops Q (o :: rest) a w := by
  have hw : Region.wanted o (yielded ops a.tmps) = true := by unfold Region.wanted; rw [hg]
  simp only [wpList, hw, if_true]
  refine .inl ?_
  unfold Oper.wp
  rw [run_store_fe h ho hx hy]
  simp only [Oper.upon, hd]
  exact hr
/-- One operation that yields a value, at a list of operations. -/
theorem wpList_val {ops : Array Oper} {Q : Exit → Act → World → Prop} {rest : List Oper} {o : Oper} {a : Act} {w w' : World} {v : Value} (hr : (execOp a.eval o).run Tryd.prog w = .ok (.value v) w') (hg : o.guard = none) (h : wpList Tryd.prog ops Q rest (a.put o.dst v) w') : wpList Tryd.prog ops Q (o :: rest) a w := by
  have hw : Region.wanted o (yielded ops a.tmps) = true := by unfold Region.wanted; rw [hg]
  simp only [wpList, hw, if_true]
  refine .inl ?_
  unfold Oper.wp
  rw [hr]
  exact h
theorem wpList_enter {ops : Array Oper} {Q : Exit → Act → World → Prop} {rest : List Oper} {o : Oper} {a : Act} {w : World} {f : FuncId} {args : Array Value} {v : Value} (hr : (execOp a.eval o).run Tryd.prog w = .ok (.enter f args) w) (hg : o.guard = none)
    (hc : Calls Tryd.prog f args w fun e w' => e = .returned v ∧ Below w.heap.size w w') (h : ∀ w', Below w.heap.size w w' → wpList Tryd.prog ops Q rest (a.put o.dst v) w') : wpList Tryd.prog ops Q (o :: rest) a w := by
  have hw : Region.wanted o (yielded ops a.tmps) = true := by unfold Region.wanted; rw [hg]
  simp only [wpList, hw, if_true]
  refine .inl ?_
  unfold Oper.wp
  rw [hr]
  simp only [Oper.upon]
  refine hc.mono fun e w' ⟨he, hb⟩ => ?_
  subst he
  exact h w' hb
theorem run_moved {w : World} {ρ : Operand → Value} {o : Oper} {x : Operand} {v : Value} (ho : o.op = .move x) (hx : ρ x = v) : (execOp ρ o).run Tryd.prog w = .ok (.value v) w := by
  obtain ⟨dst, op, type, pos, after, guard⟩ := o
  subst ho
  go_simp
theorem run_extract {w : World} {ρ : Operand → Value} {o : Oper} {x : Operand} {vs : Array Value} {i : Nat} {v : Value} (ho : o.op = .extract x i) (hx : ρ x = .tuple vs) (hv : vs[i]? = some v) : (execOp ρ o).run Tryd.prog w = .ok (.value v) w := by
  obtain ⟨dst, op, type, pos, after, guard⟩ := o
  subst ho
  go_simp
theorem run_call5 {w : World} {ρ : Operand → Value} {o : Oper} {f : FuncId} {x1 x2 x3 x4 x5 : Operand} {a1 a2 a3 a4 a5 : Value} {ts : Array TypeId} (hE : Enters f) (ho : o.op = .call { callee := .value (.func f), args := #[x1, x2, x3, x4, x5], argTypes := ts }) (hf : ρ (.func f) = .func (.func f) #[] #[])
    (h1 : ρ x1 = a1) (h2 : ρ x2 = a2) (h3 : ρ x3 = a3) (h4 : ρ x4 = a4) (h5 : ρ x5 = a5) : (execOp ρ o).run Tryd.prog w = .ok (.enter f #[a1, a2, a3, a4, a5]) w := by
  rw [run_call hE ho hf]
  have e : (#[x1, x2, x3, x4, x5] : Array Operand).map ρ = #[a1, a2, a3, a4, a5] := by simp [h1, h2, h3, h4, h5]
  rw [e]
/-- A new block of nought. -/
theorem Sown.var {u w : World} {g : Nat} (h : Sown u (.cells #[.int .u64 0, .int .u64 0, .int .u64 0, .int .u64 0] 33) g w) : Var4 g 0 w := by
  obtain ⟨_, hl, hb⟩ := h
  refine ⟨hl, ?_, ?_, ?_, ?_, ?_, ?_, ?_, ?_⟩ <;> simp [World.cell?, World.frozen?, hb, w0, w1, w2, w3]
theorem enters_add : Enters 16 := enters_of Tryd.func16 (by kernel_rfl) rfl
theorem enters_sub : Enters 17 := enters_of Tryd.func17 (by kernel_rfl) rfl
theorem enters_mul : Enters 13 := enters_of Tryd.func13 (by kernel_rfl) rfl
theorem enters_small : Enters 10 := enters_of Tryd.func10 (by kernel_rfl) rfl
theorem enters_inv : Enters 14 := enters_of Tryd.func14 (by kernel_rfl) rfl
theorem enters_bytes : Enters 12 := enters_of Tryd.func12 (by kernel_rfl) rfl
end Go.Proofs.YtegebgbmnddopaaDoor
