/- Words of 64 bits: products, quotients, tests; slices of words. -/
import Derived.Test.YtobpgolchlgpfaaDoorBsl
import Derived.Test.YtobpgolchlgpfaaDoorStr
namespace Go.Proofs.YtobpgolchlgpfaaDoor
open Go.RowKit
set_option maxRecDepth 20000

section
variable {w : World} {ρ : Operand → Value} {o : Oper} {t t' : TypeId} {x y : Operand} {a b : BitVec 64}
theorem run_mul64 (ho : o.op = .binOp .mul t x y t') (hx : ρ x = b64 a) (hy : ρ y = b64 b) : (execOp ρ o).run Tryd.prog w = .ok (.value (b64 (a * b))) w := by
  obtain ⟨dst, op, type, pos, after, guard⟩ := o
  subst ho
  unfold b64 at *
  have e : IntKind.u64.wrap ((a.toNat : Int) * (b.toNat : Int)) = (((a * b).toNat : Nat) : Int) := by
    rw [wrap64, BitVec.toNat_mul]; simp
  generalize (a * b).toNat = z at *
  go_simp
  try exact e
theorem run_rem64 (ho : o.op = .binOp .rem t x y t') (hx : ρ x = b64 a) (hy : ρ y = b64 b) (hb : b ≠ 0) : (execOp ρ o).run Tryd.prog w = .ok (.value (b64 (a % b))) w := by
  obtain ⟨dst, op, type, pos, after, guard⟩ := o
  subst ho
  have hb' : ¬ (b.toNat : Int) = 0 := fun h => hb (BitVec.eq_of_toNat_eq (by simpa using h))
  unfold b64 at *
  have e : ((a.toNat : Int).tmod (b.toNat : Int)) = (((a % b).toNat : Nat) : Int) := by
    rw [BitVec.toNat_umod, Int.tmod_eq_emod_of_nonneg (by omega)]; simp
  generalize (a % b).toNat = z at *
  generalize (b.toNat : Int) = y' at *
  go_simp
  try exact e
theorem run_quo64 (ho : o.op = .binOp .quo t x y t') (hx : ρ x = b64 a) (hy : ρ y = b64 b) (hb : b ≠ 0) : (execOp ρ o).run Tryd.prog w = .ok (.value (b64 (a / b))) w := by
  obtain ⟨dst, op, type, pos, after, guard⟩ := o
  subst ho
  have hb' : ¬ (b.toNat : Int) = 0 := fun h => hb (BitVec.eq_of_toNat_eq (by simpa using h))
  unfold b64 at *
  have e : IntKind.u64.wrap ((a.toNat : Int) / (b.toNat : Int)) = (((a / b).toNat : Nat) : Int) := by
    rw [BitVec.toNat_udiv, wrap64, show ((a.toNat : Int) / (b.toNat : Int)) = ((a.toNat / b.toNat : Nat) : Int) by simp]
    have h1 := Nat.div_le_self a.toNat b.toNat
    have h2 := a.isLt
    generalize a.toNat / b.toNat = q at *
    omega
  generalize (a / b).toNat = z at *
  generalize (b.toNat : Int) = y' at *
  go_simp
  try exact e
theorem run_leq64 (ho : o.op = .binOp .leq t x y t') (hx : ρ x = b64 a) (hy : ρ y = b64 b) : (execOp ρ o).run Tryd.prog w = .ok (.value (.bool (decide (a ≤ b)))) w := by
  rw [run_leq (k := .u64) (a := (a.toNat : Int)) (b := (b.toNat : Int)) ho hx hy]
  have e : decide ((a.toNat : Int) ≤ (b.toNat : Int)) = decide (a ≤ b) := decide_eq_decide.2 (by rw [BitVec.le_def]; omega)
  rw [e]
theorem run_gtr64 (ho : o.op = .binOp .gtr t x y t') (hx : ρ x = b64 a) (hy : ρ y = b64 b) : (execOp ρ o).run Tryd.prog w = .ok (.value (.bool (decide (b < a)))) w := by
  rw [run_gtr (k := .u64) (a := (a.toNat : Int)) (b := (b.toNat : Int)) ho hx hy]
  have e : decide ((b.toNat : Int) < (a.toNat : Int)) = decide (b < a) := decide_eq_decide.2 (by rw [BitVec.lt_def]; omega)
  rw [e]
theorem run_eqb64 (ho : o.op = .binOp .eql t x y t') (hx : ρ x = b64 a) (hy : ρ y = b64 b) : (execOp ρ o).run Tryd.prog w = .ok (.value (.bool (decide (a = b)))) w := by
  rw [run_eql (k := .u64) (a := (a.toNat : Int)) (b := (b.toNat : Int)) ho hx hy]
  have e : ((a.toNat : Int) == (b.toNat : Int)) = decide (a = b) := by
    rw [Bool.eq_iff_iff]; simp [← BitVec.toNat_inj]; omega
  rw [e]
theorem run_neq64 (ho : o.op = .binOp .neq t x y t') (hx : ρ x = b64 a) (hy : ρ y = b64 b) : (execOp ρ o).run Tryd.prog w = .ok (.value (.bool (decide (a ≠ b)))) w := by
  obtain ⟨dst, op, type, pos, after, guard⟩ := o
  subst ho
  unfold b64 at *
  have e : (!((a.toNat : Int) == (b.toNat : Int))) = decide (a ≠ b) := by
    rw [Bool.eq_iff_iff]; simp [← BitVec.toNat_inj]; omega
  generalize decide (a ≠ b) = z at *
  go_simp
  try exact e
theorem run_notb {c : Bool} (ho : o.op = .unOp .not t x) (hx : ρ x = .bool c) : (execOp ρ o).run Tryd.prog w = .ok (.value (.bool (!c))) w := by
  obtain ⟨dst, op, type, pos, after, guard⟩ := o
  subst ho
  go_simp
theorem made_zero64 (n : Nat) : madeCells (Value.int .u64 0).cells n = (z64 n).toArray := by
  apply Array.ext_getElem?
  intro i
  unfold madeCells z64
  by_cases h : i < n
  · simp [h, Value.cells, b64, Nat.mod_one]
  · simp [h]
theorem run_mk64 {n : Nat} (ho : o.op = .makeSlice 110 x y) (hx : ρ x = .int .i64 (n : Int)) (hy : ρ y = .int .i64 (n : Int)) (hn : n ≤ 16777216) : (execOp ρ o).run Tryd.prog w = .ok (.value (.slice (some ⟨w.heap.size, 0, none⟩) n n)) (w.alloc (.cells (z64 n).toArray 22)) := by
  have hs : (Tryd.prog.info? 22).map (fun i => (i.size, i.bytes, i.zero)) = some (1, 8, some (.int .u64 0)) := by kernel_rfl
  obtain ⟨inf, hi, h2⟩ := Option.map_eq_some_iff.1 hs
  obtain ⟨e1, e2, e3⟩ : inf.size = 1 ∧ inf.bytes = 8 ∧ inf.zero = some (.int .u64 0) := by simpa using h2
  have h := run_makeSlice (P := Tryd.prog) w 110 22 inf (.int .u64 0) Tryd.underlying110 hi e3 .i64 .i64 (n : Int) (n : Int) (by omega) (by omega) (by rw [e1]; omega) (by rw [e2]; omega) (by omega)
  rw [e1, Int.toNat_natCast, Nat.mul_one, made_zero64] at h
  unfold execOp
  simp only [ho, hx, hy, Sem.run_bind, h]
  simp [go_sem]
end
/-- A slice of words in a block of its own. -/
def Ws (v : Value) (l : List (BitVec 64)) (B : Nat) (u : World) : Prop := ∃ g, v = .slice (some ⟨g, 0, none⟩) l.length l.length ∧ B ≤ g ∧ Arr g (l.map b64) u
theorem Ws.below {v : Value} {l : List (BitVec 64)} {B : Nat} {u u' : World} (h : Ws v l B u) (hb : Below u.heap.size u u') : Ws v l B u' := by
  obtain ⟨g, h1, h2, h3⟩ := h
  exact ⟨g, h1, h2, h3.below hb⟩
end Go.Proofs.YtobpgolchlgpfaaDoor
