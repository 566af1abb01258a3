/- Slices that are written down, guarded operations, small ones. -/
import Derived.Test.YtobpgolchlgpfaaDoorSl
import Derived.Great.BuildSlice
import Derived.Lib.SlBytesConst
namespace Go.Proofs.YtobpgolchlgpfaaDoor
open Go.RowKit
set_option maxRecDepth 20000

section
variable {w : World} {ρ : Operand → Value} {o : Oper} {x y : Operand}
/-- A slice literal of numbers. -/
theorem run_bsl {t e : TypeId} {n : Nat} {parts : Array (Nat × Operand)} {cells : Array Value} {z : Value} (ho : o.op = .buildSlice t n parts) (ht : Tryd.prog.underlying t = some (.slice e)) (hi : (Tryd.prog.info? e).map (fun i => (i.size, i.zero)) = some (1, some z)) (hn : n ≤ 1000) (hp : 0 < n)
    (hf : Instr.fill (fun i => some (i * 1, 1)) ((Array.range (n * 1)).map (z.cells[· % z.cells.size]!)) (parts.map fun (i, x) => (i, ρ x)).toList = some cells) : (execOp ρ o).run Tryd.prog w = .ok (.value (.slice (some ⟨w.heap.size, 0, none⟩) n n)) (w.alloc (.cells cells e)) := by
  obtain ⟨inf, h1, h2⟩ := Option.map_eq_some_iff.1 hi
  obtain ⟨e1, e2⟩ : inf.size = 1 ∧ inf.zero = some z := by simpa using h2
  have h := run_buildSlice (P := Tryd.prog) w t e n (parts.map fun (i, x) => (i, ρ x)) cells inf z ht h1 e2 (by rw [e1]; omega) (by rw [e1]; omega) (by rw [e1]; exact hf)
  unfold execOp
  simp only [ho, Sem.run_bind, h]
  simp [go_sem]
/-- A slice of bytes that was laid just now, marked as a text's. -/
theorem run_cvb {C : Array Value} {n c : Nat} (ho : o.op = .convert 30 30 x) (hx : ρ x = .slice (some ⟨w.heap.size, 0, none⟩) n c) : (execOp ρ o).run Tryd.prog (w.alloc (.cells C 5)) = .ok (.value (.slice (some ⟨w.heap.size, 0, none⟩) n c)) (w.alloc (.cells C 5 (C.size, C.size + 1))) := by
  have h := Lib.run_convert_bytes_const (P := Tryd.prog) w 30 5 C n c Tryd.underlying30 Tryd.underlying5
  unfold execOp
  simp only [ho, hx, Sem.run_bind, h]
  simp [go_sem]
theorem run_eq8 {t t' : TypeId} {a : BitVec 8} {n : Int} (ho : o.op = .binOp .eql t x y t') (hx : ρ x = b8 a) (hy : ρ y = .int .u8 n) (h : (a.toNat : Int) = n) : (execOp ρ o).run Tryd.prog w = .ok (.value (.bool true)) w := by
  rw [run_eql (k := .u8) (a := (a.toNat : Int)) (b := n) ho hx hy, h]; simp
end
/-- A guarded operation whose guard says yes. -/
theorem wpList_valG {ops : Array Oper} {Q : Exit → Act → World → Prop} {rest : List Oper} {o : Oper} {a : Act} {w w' : World} {v : Value} (hr : (execOp a.eval o).run Tryd.prog w = .ok (.value v) w') (hw : Region.wanted o (yielded ops a.tmps) = true) (h : wpList Tryd.prog ops Q rest (a.put o.dst v) w') : wpList Tryd.prog ops Q (o :: rest) a w := by
  simp only [wpList, hw, if_true]
  refine .inl ?_
  unfold Oper.wp
  rw [hr]
  exact h
theorem wpList_enterG {ops : Array Oper} {Q : Exit → Act → World → Prop} {rest : List Oper} {o : Oper} {a : Act} {w : World} {f : FuncId} {args : Array Value} {v : Value} (hr : (execOp a.eval o).run Tryd.prog w = .ok (.enter f args) w) (hw : Region.wanted o (yielded ops a.tmps) = true)
    (hc : Calls Tryd.prog f args w fun e w' => e = .returned v ∧ Below w.heap.size w w') (h : ∀ w', Below w.heap.size w w' → wpList Tryd.prog ops Q rest (a.put o.dst v) w') : wpList Tryd.prog ops Q (o :: rest) a w := by
  simp only [wpList, hw, if_true]
  refine .inl ?_
  unfold Oper.wp
  rw [hr]
  simp only [Oper.upon]
  refine hc.mono fun e w' ⟨he, hb⟩ => ?_
  subst he
  exact h w' hb
theorem calls_eq {f : FuncId} {args : Array Value} {w : World} {v : Value} (h : Calls Tryd.prog f args w fun e w' => e = .returned v ∧ Below w.heap.size w w') : Calls Tryd.prog f args w fun e w' => ∃ v', e = .returned v' ∧ (v' = v ∧ Below w.heap.size w w') :=
  h.mono fun _ _ ⟨h1, h2⟩ => ⟨v, h1, rfl, h2⟩
theorem sl_zero {g k : Nat} {u : World} (h : Arr g (z8 k) u) : Sl (.slice (some ⟨g, 0, none⟩) k k) (List.replicate k 0) u := by
  have := Sl.arr (l := List.replicate k 0) h (c := k) (by simp)
  rwa [List.length_replicate] at this
section
variable {w : World} {ρ : Operand → Value} {o : Oper} {x y : Operand} {t t' : TypeId}
theorem run_ldi {g i : Nat} {v : Value} (ho : o.op = .load 3 x) (hx : ρ x = .pointer (some ⟨g, i, none⟩)) (hc : w.cell? ⟨g, i, none⟩ = some v) : (execOp ρ o).run Tryd.prog w = .ok (.value v) w := by
  obtain ⟨dst, op, type, pos, after, guard⟩ := o
  subst ho
  go_simp
theorem run_eql0 {b : Bool} {a c : Int} (ho : o.op = .binOp .eql t x y t') (hx : ρ x = .int .i64 a) (hy : ρ y = .int .i64 c) (hb : (a == c) = b) : (execOp ρ o).run Tryd.prog w = .ok (.value (.bool b)) w := by
  rw [run_eql ho hx hy, hb]
end
end Go.Proofs.YtobpgolchlgpfaaDoor
