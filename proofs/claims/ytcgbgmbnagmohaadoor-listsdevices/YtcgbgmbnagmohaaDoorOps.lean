import Derived.Test.YtcgbgmbnagmohaaDoorProg
import Derived.WalkKit
import Derived.WalkSpells
import Derived.Deep.DeepCutAuto
import Derived.Deep.MidRow
import Derived.Deep.RegionHeld
import Derived.Lib.Hide
import Derived.Below
import Derived.KernelRfl
import Derived.Laws.BitsAll
import Derived.Laws.Shifts
import Derived.Laws.Unary
namespace Go.Proofs.YtcgbgmbnagmohaaDoor
open Go.RowKit
set_option maxRecDepth 20000
def Enters (f : FuncId) : Prop := ∀ (args : Array Value) (w : World), (callFunc f args).run Tryd.prog w = .ok (.enter f args) w
theorem qaq {f : FuncId} {fn : Func} {c : Code} (hf : Tryd.prog.funcs[f]? = some fn) (hn : (fn.name == "runtime.NumGoroutine") = false) (hb : fn.body = some c) : Enters f := fun args w => by
 have hn' : ¬ fn.name = "runtime.NumGoroutine" := by simpa using hn
 simp [callFunc, go_sem, hf, hn', hb]
theorem i64_fit {n : Int} (h0 : -9223372036854775808 ≤ n) (h1 : n < 9223372036854775808) : IntKind.i64.wrap n = n := by
 simp [IntKind.wrap, IntKind.bits, IntKind.signed]; omega
section
variable {w : World} {ρ : Operand → Value} {o : Oper}
theorem run_call {f : FuncId} {xs : Array Operand} {ts : Array TypeId} (hE : Enters f) (ho : o.op = .call { callee := .value (.func f), args := xs, argTypes := ts }) (hf : ρ (.func f) = .func (.func f) #[] #[]) : (execOp ρ o).run Tryd.prog w = .ok (.enter f (xs.map ρ)) w := by
 obtain ⟨dst, op, type, pos, after, guard⟩ := o
 subst ho
 have := hE (xs.map ρ) w
 go_simp
theorem qdt {f : FuncId} {ts : Array TypeId} (hE : Enters f) (ho : o.op = .call { callee := .value (.func f), args := #[], argTypes := ts }) (hf : ρ (.func f) = .func (.func f) #[] #[]) : (execOp ρ o).run Tryd.prog w = .ok (.enter f #[]) w := by
 rw [run_call hE ho hf]; simp
theorem qap {f : FuncId} {x : Operand} {a : Value} {ts : Array TypeId} (hE : Enters f) (ho : o.op = .call { callee := .value (.func f), args := #[x], argTypes := ts }) (hf : ρ (.func f) = .func (.func f) #[] #[]) (hx : ρ x = a) : (execOp ρ o).run Tryd.prog w = .ok (.enter f #[a]) w := by
 rw [run_call hE ho hf]
 have e : (#[x] : Array Operand).map ρ = #[a] := by simp [hx]
 rw [e]
theorem qao {f : FuncId} {x y : Operand} {a b : Value} {ts : Array TypeId} (hE : Enters f) (ho : o.op = .call { callee := .value (.func f), args := #[x, y], argTypes := ts }) (hf : ρ (.func f) = .func (.func f) #[] #[]) (hx : ρ x = a) (hy : ρ y = b) : (execOp ρ o).run Tryd.prog w = .ok (.enter f #[a, b]) w := by
 rw [run_call hE ho hf]
 have e : (#[x, y] : Array Operand).map ρ = #[a, b] := by simp [hx, hy]
 rw [e]
theorem qbx {f : FuncId} {x y z : Operand} {a b c : Value} {ts : Array TypeId} (hE : Enters f) (ho : o.op = .call { callee := .value (.func f), args := #[x, y, z], argTypes := ts }) (hf : ρ (.func f) = .func (.func f) #[] #[]) (hx : ρ x = a) (hy : ρ y = b) (hz : ρ z = c) : (execOp ρ o).run Tryd.prog w = .ok (.enter f #[a, b, c]) w := by
 rw [run_call hE ho hf]
 have e : (#[x, y, z] : Array Operand).map ρ = #[a, b, c] := by simp [hx, hy, hz]
 rw [e]
theorem qae {x : Operand} {v : Value} (ho : o.op = .move x) (hx : ρ x = v) : (execOp ρ o).run Tryd.prog w = .ok (.value v) w := by
 obtain ⟨dst, op, type, pos, after, guard⟩ := o
 subst ho
 go_simp
theorem qaf {x : Operand} {v : Value} (ho : o.op = .assign x) (hx : ρ x = v) : (execOp ρ o).run Tryd.prog w = .ok (.value v) w := by
 obtain ⟨dst, op, type, pos, after, guard⟩ := o
 subst ho
 go_simp
theorem qaz {c x y : Operand} {b : Bool} {v : Value} (ho : o.op = .pick c x y) (hc : ρ c = .bool b) (hv : (if b then ρ x else ρ y) = v) : (execOp ρ o).run Tryd.prog w = .ok (.value v) w := by
 obtain ⟨dst, op, type, pos, after, guard⟩ := o
 subst ho hv
 cases b <;> go_simp
theorem run_add {t t' : TypeId} {x y : Operand} {a b : Int} (ho : o.op = .binOp .add t x y t') (hx : ρ x = .int .i64 a) (hy : ρ y = .int .i64 b) (h0 : -9223372036854775808 ≤ a + b) (h1 : a + b < 9223372036854775808) : (execOp ρ o).run Tryd.prog w = .ok (.value (.int .i64 (a + b))) w := by
 obtain ⟨dst, op, type, pos, after, guard⟩ := o
 subst ho
 have e := i64_fit h0 h1
 go_simp
theorem run_sub {t t' : TypeId} {x y : Operand} {a b : Int} (ho : o.op = .binOp .sub t x y t') (hx : ρ x = .int .i64 a) (hy : ρ y = .int .i64 b) (h0 : -9223372036854775808 ≤ a - b) (h1 : a - b < 9223372036854775808) : (execOp ρ o).run Tryd.prog w = .ok (.value (.int .i64 (a - b))) w := by
 obtain ⟨dst, op, type, pos, after, guard⟩ := o
 subst ho
 have e := i64_fit h0 h1
 go_simp
theorem run_mul {t t' : TypeId} {x y : Operand} {a b : Int} (ho : o.op = .binOp .mul t x y t') (hx : ρ x = .int .i64 a) (hy : ρ y = .int .i64 b) (h0 : -9223372036854775808 ≤ a * b) (h1 : a * b < 9223372036854775808) : (execOp ρ o).run Tryd.prog w = .ok (.value (.int .i64 (a * b))) w := by
 obtain ⟨dst, op, type, pos, after, guard⟩ := o
 subst ho
 have e := i64_fit h0 h1
 go_simp
theorem run_quo {t t' : TypeId} {x y : Operand} {a b : Int} (ho : o.op = .binOp .quo t x y t') (hx : ρ x = .int .i64 a) (hy : ρ y = .int .i64 b) (h0 : 0 ≤ a) (h1 : a < 9223372036854775808) (h2 : 0 < b) : (execOp ρ o).run Tryd.prog w = .ok (.value (.int .i64 (a / b))) w := by
 obtain ⟨dst, op, type, pos, after, guard⟩ := o
 subst ho
 have e := Int.ediv_le_self b h0
 have e0 := Int.ediv_nonneg h0 (Int.le_of_lt h2)
 have hb : ¬ b = 0 := by omega
 go_simp
 rw [Int.tdiv_eq_ediv_of_nonneg h0, i64_fit (by omega) (by omega)]
theorem run_rem {t t' : TypeId} {x y : Operand} {a b : Int} (ho : o.op = .binOp .rem t x y t') (hx : ρ x = .int .i64 a) (hy : ρ y = .int .i64 b) (h0 : 0 ≤ a) (h2 : 0 < b) : (execOp ρ o).run Tryd.prog w = .ok (.value (.int .i64 (a % b))) w := by
 obtain ⟨dst, op, type, pos, after, guard⟩ := o
 subst ho
 have hb : ¬ b = 0 := by omega
 go_simp
 rw [Int.tmod_eq_emod_of_nonneg h0]
theorem run_lss {t t' : TypeId} {x y : Operand} {k : IntKind} {a b : Int} (ho : o.op = .binOp .lss t x y t') (hx : ρ x = .int k a) (hy : ρ y = .int k b) : (execOp ρ o).run Tryd.prog w = .ok (.value (.bool (decide (a < b)))) w := by
 obtain ⟨dst, op, type, pos, after, guard⟩ := o
 subst ho
 go_simp
theorem run_gtr {t t' : TypeId} {x y : Operand} {k : IntKind} {a b : Int} (ho : o.op = .binOp .gtr t x y t') (hx : ρ x = .int k a) (hy : ρ y = .int k b) : (execOp ρ o).run Tryd.prog w = .ok (.value (.bool (decide (b < a)))) w := by
 obtain ⟨dst, op, type, pos, after, guard⟩ := o
 subst ho
 go_simp
theorem run_eql {t t' : TypeId} {x y : Operand} {k : IntKind} {a b : Int} (ho : o.op = .binOp .eql t x y t') (hx : ρ x = .int k a) (hy : ρ y = .int k b) : (execOp ρ o).run Tryd.prog w = .ok (.value (.bool (a == b))) w := by
 obtain ⟨dst, op, type, pos, after, guard⟩ := o
 subst ho
 go_simp
theorem run_neg {t : TypeId} {x : Operand} {a : Int} (ho : o.op = .unOp .neg t x) (hx : ρ x = .int .i64 a) (h0 : -9223372036854775808 < a) (h1 : a < 9223372036854775808) : (execOp ρ o).run Tryd.prog w = .ok (.value (.int .i64 (-a))) w := by
 obtain ⟨dst, op, type, pos, after, guard⟩ := o
 subst ho
 have e := i64_fit (n := -a) (by omega) (by omega)
 go_simp
end
theorem qaa {ops : Array Oper} {Q : Exit → Act → World → Prop} {rest : List Oper} {o : Oper} {a : Act} {w w' : World} {v : Value} (hr : (execOp a.eval o).run Tryd.prog w = .ok (.value v) w') (hg : o.guard = none) (h : wpList Tryd.prog ops Q rest (a.put o.dst v) w') : wpList Tryd.prog ops Q (o :: rest) a w := by
 have hw : Region.wanted o (yielded ops a.tmps) = true := by unfold Region.wanted; rw [hg]
 simp only [wpList, hw, if_true]
 refine .inl ?_
 unfold Oper.wp
 rw [hr]
 exact h
theorem qam {ops : Array Oper} {Q : Exit → Act → World → Prop} {rest : List Oper} {o : Oper} {a : Act} {w : World} {f : FuncId} {args : Array Value} {v : Value} (hr : (execOp a.eval o).run Tryd.prog w = .ok (.enter f args) w) (hg : o.guard = none)
  (hc : Calls Tryd.prog f args w fun e w' => e = .returned v ∧ Below w.heap.size w w') (h : ∀ w', Below w.heap.size w w' → wpList Tryd.prog ops Q rest (a.put o.dst v) w') : wpList Tryd.prog ops Q (o :: rest) a w := by
 have hw : Region.wanted o (yielded ops a.tmps) = true := by unfold Region.wanted; rw [hg]
 simp only [wpList, hw, if_true]
 refine .inl ?_
 unfold Oper.wp
 rw [hr]
 simp only [Oper.upon]
 refine hc.mono fun e w' ⟨he, hb⟩ => ?_
 subst he
 exact h w' hb
theorem qdk {ops : Array Oper} {Q : Exit → Act → World → Prop} {rest : List Oper} {o : Oper} {a : Act} {w : World} {f : FuncId} {args : Array Value} {v : Value} (hr : (execOp a.eval o).run Tryd.prog w = .ok (.enter f args) w) (hg : o.guard = none)
  (hc : Calls Tryd.prog f args w fun e w' => e = .returned v ∧ w' = w) (h : wpList Tryd.prog ops Q rest (a.put o.dst v) w) : wpList Tryd.prog ops Q (o :: rest) a w := by
 have hw : Region.wanted o (yielded ops a.tmps) = true := by unfold Region.wanted; rw [hg]
 simp only [wpList, hw, if_true]
 refine .inl ?_
 unfold Oper.wp
 rw [hr]
 simp only [Oper.upon]
 refine hc.mono fun e w' ⟨he, hb⟩ => ?_
 subst he hb
 exact h
theorem qag {ops : Array Oper} {Q : Exit → Act → World → Prop} {rest : List Oper} {o : Oper} {a : Act} {w w' : World} (hr : (execOp a.eval o).run Tryd.prog w = .ok .skip w') (hg : o.guard = none) (hd : o.dst = none) (h : wpList Tryd.prog ops Q rest a w') : wpList Tryd.prog ops Q (o :: rest) a w := by
 have hw : Region.wanted o (yielded ops a.tmps) = true := by unfold Region.wanted; rw [hg]
 simp only [wpList, hw, if_true]
 refine .inl ?_
 unfold Oper.wp
 rw [hr]
 simp only [Oper.upon, hd]
 exact h
theorem qab {ops : Array Oper} {Q : Exit → Act → World → Prop} {a : Act} {w : World} (h : Q .normal a w) : wpList Tryd.prog ops Q [] a w := h
end Go.Proofs.YtcgbgmbnagmohaaDoor
