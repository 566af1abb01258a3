/- Loads, stores, blocks and calls of numbers, one operation at a time, in frames of any size. -/
import Derived.Test.YtefaihdhnnldmaaDoorSown2
import Derived.Test.YtefaihdhnnldmaaDoorBase
import Derived.Test.YtefaihdhnnldmaaDoorOps
namespace Go.Proofs.YtefaihdhnnldmaaDoor
open Go.RowKit
set_option maxRecDepth 20000

theorem run_alloc_fe (ρ : Operand → Value) (w : World) (o : Oper) (h : o.op = .alloc 40) : (execOp ρ o).run Tryd.prog w = .ok (.value (.pointer (some ⟨w.heap.size, 0, none⟩))) (w.alloc (.cells #[.int .u64 0, .int .u64 0, .int .u64 0, .int .u64 0] 40)) := by
  obtain ⟨dst, op, type, pos, after, guard⟩ := o
  subst h
  go_simp
theorem run_load_fe {w : World} {g : Nat} {X : Int} (h : Var4 g X w) {ρ : Operand → Value} {o : Oper} {x : Operand} (ho : o.op = .load 40 x) (hx : ρ x = .pointer (some ⟨g, 0, none⟩)) : (execOp ρ o).run Tryd.prog w = .ok (.value (feV X)) w := by
  obtain ⟨dst, op, type, pos, after, guard⟩ := o
  subst ho
  obtain ⟨vl, v0, v1, v2, v3, vf0, vf1, vf2, vf3⟩ := h
  go_simp
theorem run_store_fe {w : World} {g : Nat} {X Z : Int} (h : Var4 g X w) {ρ : Operand → Value} {o : Oper} {x y : Operand} (ho : o.op = .store 40 x y) (hx : ρ x = .pointer (some ⟨g, 0, none⟩)) (hy : ρ y = feV Z) : (execOp ρ o).run Tryd.prog w = .ok .skip (set4 w g Z) := by
  obtain ⟨dst, op, type, pos, after, guard⟩ := o
  subst ho
  obtain ⟨vl, v0, v1, v2, v3, vf0, vf1, vf2, vf3⟩ := h
  go_simp

theorem calm_load {w : World} {g : Nat} {X : Int} (h : Var4 g X w) {ρ : Operand → Value} {o : Oper} {x : Operand} (ho : o.op = .load 40 x) (hx : ρ x = .pointer (some ⟨g, 0, none⟩)) : calmUpon Tryd.prog w (feV X) ((execOp ρ o).run Tryd.prog w) := by
  rw [run_load_fe h ho hx]; exact ⟨rfl, rfl⟩
theorem calm_call1 {w : World} {ρ : Operand → Value} {o : Oper} {f : FuncId} {x : Operand} {a v : Value} {ts : Array TypeId} (hE : Enters f) (ho : o.op = .call { callee := .value (.func f), args := #[x], argTypes := ts }) (hf : ρ (.func f) = .func (.func f) #[] #[]) (hx : ρ x = a)
    (hc : Calls Tryd.prog f #[a] w fun e w' => e = .returned v ∧ Below w.heap.size w w') : calmUpon Tryd.prog w v ((execOp ρ o).run Tryd.prog w) := by
  rw [run_call hE ho hf]
  refine ⟨rfl, ?_⟩
  have e : (#[x] : Array Operand).map ρ = #[a] := by simp [hx]
  rw [e]; exact hc
theorem calm_call2 {w : World} {ρ : Operand → Value} {o : Oper} {f : FuncId} {x y : Operand} {a b v : Value} {ts : Array TypeId} (hE : Enters f) (ho : o.op = .call { callee := .value (.func f), args := #[x, y], argTypes := ts }) (hf : ρ (.func f) = .func (.func f) #[] #[]) (hx : ρ x = a) (hy : ρ y = b)
    (hc : Calls Tryd.prog f #[a, b] w fun e w' => e = .returned v ∧ Below w.heap.size w w') : calmUpon Tryd.prog w v ((execOp ρ o).run Tryd.prog w) := by
  rw [run_call hE ho hf]
  refine ⟨rfl, ?_⟩
  have e : (#[x, y] : Array Operand).map ρ = #[a, b] := by simp [hx, hy]
  rw [e]; exact hc
/-- A number stored, at a list of operations. -/
theorem wpList_store_fe {ops : Array Oper} {Q : Exit → Act → World → Prop} {rest : List Oper} {o : Oper} {a : Act} {w : World} {g : Nat} {X Z : Int} {x y : Operand} (h : Var4 g X w) (ho : o.op = .store 40 x y) (hd : o.dst = none) (hg : o.guard = none) (hx : a.eval x = .pointer (some ⟨g, 0, none⟩)) (hy : a.eval y = feV Z)
    (hr : wpList Tryd.prog ops Q rest a (set4 w g Z)) : wpList Tryd.prog ops Q (o :: rest) a w := by
  have hw : Region.wanted o (yielded ops a.tmps) = true := by unfold Region.wanted; rw [hg]
  simp only [wpList, hw, if_true]
  refine .inl ?_
  unfold Oper.wp
  rw [run_store_fe h ho hx hy]
  simp only [Oper.upon, hd]
  exact hr
theorem run_moved {w : World} {ρ : Operand → Value} {o : Oper} {x : Operand} {v : Value} (ho : o.op = .move x) (hx : ρ x = v) : (execOp ρ o).run Tryd.prog w = .ok (.value v) w := by
  obtain ⟨dst, op, type, pos, after, guard⟩ := o
  subst ho
  go_simp
theorem run_extract {w : World} {ρ : Operand → Value} {o : Oper} {x : Operand} {vs : Array Value} {i : Nat} {v : Value} (ho : o.op = .extract x i) (hx : ρ x = .tuple vs) (hv : vs[i]? = some v) : (execOp ρ o).run Tryd.prog w = .ok (.value v) w := by
  obtain ⟨dst, op, type, pos, after, guard⟩ := o
  subst ho
  go_simp
theorem run_call5 {w : World} {ρ : Operand → Value} {o : Oper} {f : FuncId} {x1 x2 x3 x4 x5 : Operand} {a1 a2 a3 a4 a5 : Value} {ts : Array TypeId} (hE : Enters f) (ho : o.op = .call { callee := .value (.func f), args := #[x1, x2, x3, x4, x5], argTypes := ts }) (hf : ρ (.func f) = .func (.func f) #[] #[])
    (h1 : ρ x1 = a1) (h2 : ρ x2 = a2) (h3 : ρ x3 = a3) (h4 : ρ x4 = a4) (h5 : ρ x5 = a5) : (execOp ρ o).run Tryd.prog w = .ok (.enter f #[a1, a2, a3, a4, a5]) w := by
  rw [run_call hE ho hf]
  have e : (#[x1, x2, x3, x4, x5] : Array Operand).map ρ = #[a1, a2, a3, a4, a5] := by simp [h1, h2, h3, h4, h5]
  rw [e]
/-- A new block of nought. -/
theorem Sown.var {u w : World} {g : Nat} (h : Sown u (.cells #[.int .u64 0, .int .u64 0, .int .u64 0, .int .u64 0] 40) g w) : Var4 g 0 w := by
  obtain ⟨_, hl, hb⟩ := h
  refine ⟨hl, ?_, ?_, ?_, ?_, ?_, ?_, ?_, ?_⟩ <;> simp [World.cell?, World.frozen?, hb, w0, w1, w2, w3]
theorem enters_add : Enters 50 := enters_of Tryd.func50 (by kernel_rfl) rfl
theorem enters_sub : Enters 49 := enters_of Tryd.func49 (by kernel_rfl) rfl
theorem enters_mul : Enters 52 := enters_of Tryd.func52 (by kernel_rfl) rfl
theorem enters_small : Enters 51 := enters_of Tryd.func51 (by kernel_rfl) rfl
theorem enters_inv : Enters 53 := enters_of Tryd.func53 (by kernel_rfl) rfl
end Go.Proofs.YtefaihdhnnldmaaDoor
