/- keywardref03's ways, as values: rows of cells that are structs. -/
import Derived.Test.YtebmcjleepnehaaDoorOps64
namespace Go.Proofs.YtebmcjleepnehaaDoor
open Go.RowKit

section
variable {w : World} {ρ : Operand → Value} {o : Oper} {x y : Operand}
theorem run_ldS {t : TypeId} {d : TypeDesc} {g : Nat} {vs : List Value} (ho : o.op = .load t x) (ht : Tryd.prog.underlying t = some d) (hd : d.isRow = true) (hi : (Tryd.prog.info? t).map (·.size) = some vs.length) (hx : ρ x = .pointer (some ⟨g, 0, none⟩)) (hr : w.rangeAt g 0 vs) : (execOp ρ o).run Tryd.prog w = .ok (.value (.agg vs.toArray)) w := by
  unfold execOp
  simp only [ho, hx, Sem.run_bind, run_loadAt_mid w g 0 t vs d hr ht hd hi, Result.andThen_ok, Sem.run_pure]
theorem results_row {fn : Func} {p : Tmp} {t : TypeId} {d : TypeDesc} (h : fn.results = #[.cell p t]) {tmps : Array Value} {w : World} {g : Nat} {l : List Value} (ht : tmps.getD p undef = .pointer (some ⟨g, 0, none⟩)) (hu : Tryd.prog.underlying t = some d) (hd : d.isRow = true) (hl : (Tryd.prog.info? t).map (·.size) = some l.length) (hr : w.rangeAt g 0 l) :
    (results fn tmps).run Tryd.prog w = .ok (.agg l.toArray) w := by
  rw [results_cell h, ht]
  have e := run_loadVar_mid (P := Tryd.prog) w g 0 t l d hr hu hd hl
  simp only [asAddr, Sem.run_pure, Result.andThen_ok, e]
theorem run_ldu {g i : Nat} {v : Value} (ho : o.op = .load 51 x) (hx : ρ x = .pointer (some ⟨g, i, none⟩)) (hc : w.cell? ⟨g, i, none⟩ = some v) : (execOp ρ o).run Tryd.prog w = .ok (.value v) w := by
  obtain ⟨dst, op, type, pos, after, guard⟩ := o
  subst ho
  go_simp
theorem run_ldsl {g i : Nat} {v : Value} (ho : o.op = .load 55 x) (hx : ρ x = .pointer (some ⟨g, i, none⟩)) (hc : w.cell? ⟨g, i, none⟩ = some v) : (execOp ρ o).run Tryd.prog w = .ok (.value v) w := by
  obtain ⟨dst, op, type, pos, after, guard⟩ := o
  subst ho
  go_simp
theorem run_ldin {g i : Nat} {v : Value} (ho : o.op = .load 3 x) (hx : ρ x = .pointer (some ⟨g, i, none⟩)) (hc : w.cell? ⟨g, i, none⟩ = some v) : (execOp ρ o).run Tryd.prog w = .ok (.value v) w := by
  obtain ⟨dst, op, type, pos, after, guard⟩ := o
  subst ho
  go_simp
theorem run_fld0 {g : Nat} (ho : o.op = .fieldAddr 57 x 0) (hx : ρ x = .pointer (some ⟨g, 0, none⟩)) : (execOp ρ o).run Tryd.prog w = .ok (.value (.pointer (some ⟨g, 0, none⟩))) w := by
  obtain ⟨dst, op, type, pos, after, guard⟩ := o
  subst ho
  go_simp
theorem run_fld1 {g : Nat} (ho : o.op = .fieldAddr 57 x 1) (hx : ρ x = .pointer (some ⟨g, 0, none⟩)) : (execOp ρ o).run Tryd.prog w = .ok (.value (.pointer (some ⟨g, 1, none⟩))) w := by
  obtain ⟨dst, op, type, pos, after, guard⟩ := o
  subst ho
  go_simp
theorem run_fld2 {g : Nat} (ho : o.op = .fieldAddr 57 x 2) (hx : ρ x = .pointer (some ⟨g, 0, none⟩)) : (execOp ρ o).run Tryd.prog w = .ok (.value (.pointer (some ⟨g, 2, none⟩))) w := by
  obtain ⟨dst, op, type, pos, after, guard⟩ := o
  subst ho
  go_simp
theorem run_fld3 {g : Nat} (ho : o.op = .fieldAddr 57 x 3) (hx : ρ x = .pointer (some ⟨g, 0, none⟩)) : (execOp ρ o).run Tryd.prog w = .ok (.value (.pointer (some ⟨g, 3, none⟩))) w := by
  obtain ⟨dst, op, type, pos, after, guard⟩ := o
  subst ho
  go_simp
theorem run_fld4 {g : Nat} (ho : o.op = .fieldAddr 57 x 4) (hx : ρ x = .pointer (some ⟨g, 0, none⟩)) : (execOp ρ o).run Tryd.prog w = .ok (.value (.pointer (some ⟨g, 4, none⟩))) w := by
  obtain ⟨dst, op, type, pos, after, guard⟩ := o
  subst ho
  go_simp
theorem run_fld5 {g : Nat} (ho : o.op = .fieldAddr 57 x 5) (hx : ρ x = .pointer (some ⟨g, 0, none⟩)) : (execOp ρ o).run Tryd.prog w = .ok (.value (.pointer (some ⟨g, 5, none⟩))) w := by
  obtain ⟨dst, op, type, pos, after, guard⟩ := o
  subst ho
  go_simp
theorem run_eqT {t t' : TypeId} {a b : BitVec 64} {c : Bool} (ho : o.op = .binOp .eql t x y t') (hx : ρ x = b64 a) (hy : ρ y = b64 b) (h : decide (a = b) = c) : (execOp ρ o).run Tryd.prog w = .ok (.value (.bool c)) w := by
  rw [run_eqb64 ho hx hy, h]
theorem run_bldH {A B : Int} {g0 g1 g2 g3 : Nat} {x0 x1 x2 x3 x4 x5 : Operand} (ho : o.op = .build 57 #[(0, x0), (1, x1), (2, x2), (3, x3), (4, x4), (5, x5)]) (h0 : ρ x0 = .int .u64 A) (h1 : ρ x1 = .int .i64 B) (h2 : ρ x2 = .slice (some ⟨g0, 0, none⟩) 3 3) (h3 : ρ x3 = .slice (some ⟨g1, 0, none⟩) 3 3) (h4 : ρ x4 = .slice (some ⟨g2, 0, none⟩) 3 3) (h5 : ρ x5 = .slice (some ⟨g3, 0, none⟩) 3 3) : (execOp ρ o).run Tryd.prog w = .ok (.value (.agg #[.int .u64 A, .int .i64 B, .slice (some ⟨g0, 0, none⟩) 3 3, .slice (some ⟨g1, 0, none⟩) 3 3, .slice (some ⟨g2, 0, none⟩) 3 3, .slice (some ⟨g3, 0, none⟩) 3 3])) w := by
  obtain ⟨dst, op, type, pos, after, guard⟩ := o
  subst ho
  go_simp
end
end Go.Proofs.YtebmcjleepnehaaDoor
