/- Numbers, points, and points by a third number, as cells of memory; one operation at a time. -/
import Derived.Test.YtefaihdhnnldmaaDoorGen
import Derived.Test.YtefaihdhnnldmaaDoorFeOps
import Derived.Test.YtefaihdhnnldmaaDoorEdRep
namespace Go.Proofs.YtefaihdhnnldmaaDoor
open Go.RowKit
set_option maxRecDepth 20000

abbrev feL (X : Int) : List Value := [.int .u64 (w0 X), .int .u64 (w1 X), .int .u64 (w2 X), .int .u64 (w3 X)]
def zq (n : Nat) : List Value := List.replicate n (.int .u64 0)
def ptL (p : Pt) : List Value := feL p.x ++ feL p.y
def wdL (W : Wd) : List Value := feL W.x ++ (feL W.y ++ (feL W.z ++ feL W.t))
theorem oneFe (X : Int) : (feL X).toArray.all (·.oneCell') = true := by kernel_rfl
theorem onePt (p : Pt) : (ptL p).toArray.all (·.oneCell') = true := by kernel_rfl
theorem oneWd (W : Wd) : (wdL W).toArray.all (·.oneCell') = true := by kernel_rfl
theorem szFe (X : Int) : (Tryd.prog.info? 40).map (·.size) = some (feL X).length := by kernel_rfl
theorem szPt (p : Pt) : (Tryd.prog.info? 42).map (·.size) = some (ptL p).length := by kernel_rfl
theorem szWd (W : Wd) : (Tryd.prog.info? 64).map (·.size) = some (wdL W).length := by kernel_rfl
theorem alcFe (ρ : Operand → Value) (w : World) (o : Oper) (h : o.op = .alloc 40) : (execOp ρ o).run Tryd.prog w = .ok (.value (.pointer (some ⟨w.heap.size, 0, none⟩))) (w.alloc (.cells (zq 4).toArray 40)) := run_alc h (by kernel_rfl)
section
variable {g : Nat} {u : World} {p : Pt} {W : Wd}
theorem pt_x (h : Arr g (ptL p) u) : u.rangeAt g (0 + 0) (feL p.x) := h.part 0 4
theorem pt_y (h : Arr g (ptL p) u) : u.rangeAt g (0 + 4) (feL p.y) := h.part 4 4
theorem wd_x (h : Arr g (wdL W) u) : u.rangeAt g (0 + 0) (feL W.x) := h.part 0 4
theorem wd_y (h : Arr g (wdL W) u) : u.rangeAt g (0 + 4) (feL W.y) := h.part 4 4
theorem wd_z (h : Arr g (wdL W) u) : u.rangeAt g (0 + 8) (feL W.z) := h.part 8 4
theorem wd_t (h : Arr g (wdL W) u) : u.rangeAt g (0 + 12) (feL W.t) := h.part 12 4
end
theorem GCell.range {b : Nat} {N : Int} {w : World} (h : GCell b N w) : w.rangeAt b 0 (feL N) := fun j v hv => by
  match j, hv with
  | 0, hv => rw [Nat.add_zero, h.c0]; exact hv
  | 1, hv => rw [Nat.zero_add, h.c1]; exact hv
  | 2, hv => rw [Nat.zero_add, h.c2]; exact hv
  | 3, hv => rw [Nat.zero_add, h.c3]; exact hv
  | n + 4, hv => cases hv
/-- The numbers are of four words each. -/
def Pt.Nm (p : Pt) : Prop := Num p.x ∧ Num p.y
structure Wd.Nm (W : Wd) : Prop where
  x : Num W.x
  y : Num W.y
  z : Num W.z
  t : Num W.t
theorem num_lt {a : Int} (h : 0 ≤ a ∧ a < pp) : Num a := by have h1 := h.1; have h2 := h.2; unfold Num; unfold pp at h2; omega
theorem Pt.Ok.nm {p : Pt} (h : p.Ok) : p.Nm := ⟨num_lt h.1, num_lt h.2⟩
theorem num_1 : Num 1 := num_small (by omega) (by omega)
theorem num_dd : Num dd := by unfold Num dd; decide +kernel
theorem wplus_nm (W V : Wd) : (wplus W V).Nm := ⟨num_emod_pp _, num_emod_pp _, num_emod_pp _, num_emod_pp _⟩
theorem wwid_nm {p : Pt} (h : p.Nm) : (wwid p).Nm := ⟨h.1, h.2, num_1, num_emod_pp _⟩
/-- The packages' numbers stand in memory. -/
structure EG (w : World) : Prop where
  O : GCell 3 pp w
  T : GCell 4 (pp - 2) w
  D : GCell 2 dd w
  Bl : 1 < w.heap.size
  B : w.rangeAt 1 0 (ptL bs)
theorem EG.below {w w' : World} (h : EG w) (hb : Below w.heap.size w w') : EG w' where
  O := h.O.below hb
  T := h.T.below hb
  D := h.D.below hb
  Bl := Nat.lt_of_lt_of_le h.Bl hb.size
  B := rangeAt_below h.B h.Bl hb
section
variable {w : World} {ρ : Operand → Value} {o : Oper} {t t' : TypeId} {x y z : Operand}
theorem run_boxL {vs : List Value} (ho : o.op = .box t x) (hx : ρ x = .agg vs.toArray) : (execOp ρ o).run Tryd.prog w = .ok (.value (.pointer (some ⟨w.heap.size, 0, none⟩))) (w.alloc (.cells vs.toArray t)) := run_box ho hx
theorem run_eqFeO {M Z : Int} {c : Bool} (hM : Num M) (hZ : Num Z) (ho : o.op = .binOp .eql 40 x y t) (hx : ρ x = feV M) (hy : ρ y = feV Z) (hc : (M == Z) = c) : (execOp ρ o).run Tryd.prog w = .ok (.value (.bool c)) w := by
  obtain ⟨dst, op, type, pos, after, guard⟩ := o
  subst ho
  have hE : (Op.equalIn 10000 40 (.agg (feL M).toArray) (.agg (feL Z).toArray)).run Tryd.prog w = .ok (decide (M = Z)) w := run_eqFe hM hZ w
  have e : decide (M = Z) = c := by rw [← hc]; rfl
  rw [e] at hE
  have hx' : ρ x = .agg (feL M).toArray := hx
  have hy' : ρ y = .agg (feL Z).toArray := hy
  clear hc e hx hy
  generalize (feL M).toArray = vs at *
  generalize (feL Z).toArray = vt at *
  go_simp
theorem run_bld2 {x0 x1 : Operand} {i0 i1 : Nat} {v0 v1 : Value} {cells : Array Value} (ho : o.op = .build t #[(i0, x0), (i1, x1)]) (h0 : ρ x0 = v0) (h1 : ρ x1 = v1) (h : Tryd.prog.built t [(i0, v0), (i1, v1)] = some cells) : (execOp ρ o).run Tryd.prog w = .ok (.value (.agg cells)) w :=
  run_bld ho (by
    have e : ((#[(i0, x0), (i1, x1)] : Array (Nat × Operand)).map fun (i, x) => (i, ρ x)).toList = [(i0, v0), (i1, v1)] := by simp [h0, h1]
    rw [e]; exact h)
theorem run_bld4 {x0 x1 x2 x3 : Operand} {i0 i1 i2 i3 : Nat} {v0 v1 v2 v3 : Value} {cells : Array Value} (ho : o.op = .build t #[(i0, x0), (i1, x1), (i2, x2), (i3, x3)]) (h0 : ρ x0 = v0) (h1 : ρ x1 = v1) (h2 : ρ x2 = v2) (h3 : ρ x3 = v3) (h : Tryd.prog.built t [(i0, v0), (i1, v1), (i2, v2), (i3, v3)] = some cells) : (execOp ρ o).run Tryd.prog w = .ok (.value (.agg cells)) w :=
  run_bld ho (by
    have e : ((#[(i0, x0), (i1, x1), (i2, x2), (i3, x3)] : Array (Nat × Operand)).map fun (i, x) => (i, ρ x)).toList = [(i0, v0), (i1, v1), (i2, v2), (i3, v3)] := by simp [h0, h1, h2, h3]
    rw [e]; exact h)
end
theorem built_pt (a b : Int) : Tryd.prog.built 42 [(0, feV a), (1, feV b)] = some (ptL ⟨a, b⟩).toArray := by kernel_rfl
theorem built_pt1 (b : Int) : Tryd.prog.built 42 [(1, feV b)] = some (ptL ⟨0, b⟩).toArray := by kernel_rfl
theorem built_wd (a b c d : Int) : Tryd.prog.built 64 [(0, feV a), (1, feV b), (2, feV c), (3, feV d)] = some (wdL ⟨a, b, c, d⟩).toArray := by kernel_rfl
end Go.Proofs.YtefaihdhnnldmaaDoor
