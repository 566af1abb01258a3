import Derived.Test.YtcgbgmbnagmohaaGreatProg
import Derived.WalkKit
import Derived.WalkSpells
import Derived.Deep.DeepCutAuto
import Derived.Deep.MidRow
import Derived.Deep.RegionHeld
import Derived.Lib.Hide
import Derived.Below
import Derived.KernelRfl
import Derived.Laws.BitsAll
import Derived.Laws.Shifts
import Derived.Laws.Unary
import Derived.Test.YtcgbgmbnagmohaaGreatSown2
namespace Go.Proofs.YtcgbgmbnagmohaaGreat
open Go.RowKit
set_option maxRecDepth 20000
def Enters (f : FuncId) : Prop := ∀ (args : Array Value) (w : World), (callFunc f args).run Tryz.prog w = .ok (.enter f args) w
theorem qan {f : FuncId} {fn : Func} {c : Code} (hf : Tryz.prog.funcs[f]? = some fn) (hn : (fn.name == "runtime.NumGoroutine") = false) (hb : fn.body = some c) : Enters f := fun args w => by
  have hn' : ¬ fn.name = "runtime.NumGoroutine" := by simpa using hn
  simp [callFunc, go_sem, hf, hn', hb]
theorem i64_fit {n : Int} (h0 : -9223372036854775808 ≤ n) (h1 : n < 9223372036854775808) : IntKind.i64.wrap n = n := by
  simp [IntKind.wrap, IntKind.bits, IntKind.signed]; omega
section
variable {w : World} {ρ : Operand → Value} {o : Oper}
theorem run_call {f : FuncId} {xs : Array Operand} {ts : Array TypeId} (hE : Enters f) (ho : o.op = .call { callee := .value (.func f), args := xs, argTypes := ts }) (hf : ρ (.func f) = .func (.func f) #[] #[]) : (execOp ρ o).run Tryz.prog w = .ok (.enter f (xs.map ρ)) w := by
  obtain ⟨dst, op, type, pos, after, guard⟩ := o
  subst ho
  have := hE (xs.map ρ) w
  go_simp
theorem run_call0 {f : FuncId} {ts : Array TypeId} (hE : Enters f) (ho : o.op = .call { callee := .value (.func f), args := #[], argTypes := ts }) (hf : ρ (.func f) = .func (.func f) #[] #[]) : (execOp ρ o).run Tryz.prog w = .ok (.enter f #[]) w := by
  rw [run_call hE ho hf]; simp
theorem qaq {f : FuncId} {x : Operand} {a : Value} {ts : Array TypeId} (hE : Enters f) (ho : o.op = .call { callee := .value (.func f), args := #[x], argTypes := ts }) (hf : ρ (.func f) = .func (.func f) #[] #[]) (hx : ρ x = a) : (execOp ρ o).run Tryz.prog w = .ok (.enter f #[a]) w := by
  rw [run_call hE ho hf]
  have e : (#[x] : Array Operand).map ρ = #[a] := by simp [hx]
  rw [e]
theorem qaf {f : FuncId} {x y : Operand} {a b : Value} {ts : Array TypeId} (hE : Enters f) (ho : o.op = .call { callee := .value (.func f), args := #[x, y], argTypes := ts }) (hf : ρ (.func f) = .func (.func f) #[] #[]) (hx : ρ x = a) (hy : ρ y = b) : (execOp ρ o).run Tryz.prog w = .ok (.enter f #[a, b]) w := by
  rw [run_call hE ho hf]
  have e : (#[x, y] : Array Operand).map ρ = #[a, b] := by simp [hx, hy]
  rw [e]
theorem qc3 {f : FuncId} {x y z : Operand} {a b c : Value} {ts : Array TypeId} (hE : Enters f) (ho : o.op = .call { callee := .value (.func f), args := #[x, y, z], argTypes := ts }) (hf : ρ (.func f) = .func (.func f) #[] #[]) (hx : ρ x = a) (hy : ρ y = b) (hz : ρ z = c) : (execOp ρ o).run Tryz.prog w = .ok (.enter f #[a, b, c]) w := by
  rw [run_call hE ho hf]
  have e : (#[x, y, z] : Array Operand).map ρ = #[a, b, c] := by simp [hx, hy, hz]
  rw [e]
theorem qad {x : Operand} {v : Value} (ho : o.op = .move x) (hx : ρ x = v) : (execOp ρ o).run Tryz.prog w = .ok (.value v) w := by
  obtain ⟨dst, op, type, pos, after, guard⟩ := o
  subst ho
  go_simp
theorem qak {x : Operand} {v : Value} (ho : o.op = .assign x) (hx : ρ x = v) : (execOp ρ o).run Tryz.prog w = .ok (.value v) w := by
  obtain ⟨dst, op, type, pos, after, guard⟩ := o
  subst ho
  go_simp
theorem qaw {c x y : Operand} {b : Bool} {v : Value} (ho : o.op = .pick c x y) (hc : ρ c = .bool b) (hv : (if b then ρ x else ρ y) = v) : (execOp ρ o).run Tryz.prog w = .ok (.value v) w := by
  obtain ⟨dst, op, type, pos, after, guard⟩ := o
  subst ho hv
  cases b <;> go_simp
theorem run_add {t t' : TypeId} {x y : Operand} {a b : Int} (ho : o.op = .binOp .add t x y t') (hx : ρ x = .int .i64 a) (hy : ρ y = .int .i64 b) (h0 : -9223372036854775808 ≤ a + b) (h1 : a + b < 9223372036854775808) : (execOp ρ o).run Tryz.prog w = .ok (.value (.int .i64 (a + b))) w := by
  obtain ⟨dst, op, type, pos, after, guard⟩ := o
  subst ho
  have e := i64_fit h0 h1
  go_simp
theorem run_sub {t t' : TypeId} {x y : Operand} {a b : Int} (ho : o.op = .binOp .sub t x y t') (hx : ρ x = .int .i64 a) (hy : ρ y = .int .i64 b) (h0 : -9223372036854775808 ≤ a - b) (h1 : a - b < 9223372036854775808) : (execOp ρ o).run Tryz.prog w = .ok (.value (.int .i64 (a - b))) w := by
  obtain ⟨dst, op, type, pos, after, guard⟩ := o
  subst ho
  have e := i64_fit h0 h1
  go_simp
theorem run_mul {t t' : TypeId} {x y : Operand} {a b : Int} (ho : o.op = .binOp .mul t x y t') (hx : ρ x = .int .i64 a) (hy : ρ y = .int .i64 b) (h0 : -9223372036854775808 ≤ a * b) (h1 : a * b < 9223372036854775808) : (execOp ρ o).run Tryz.prog w = .ok (.value (.int .i64 (a * b))) w := by
  obtain ⟨dst, op, type, pos, after, guard⟩ := o
  subst ho
  have e := i64_fit h0 h1
  go_simp
theorem run_rem {t t' : TypeId} {x y : Operand} {a b : Int} (ho : o.op = .binOp .rem t x y t') (hx : ρ x = .int .i64 a) (hy : ρ y = .int .i64 b) (h0 : 0 ≤ a) (h2 : 0 < b) : (execOp ρ o).run Tryz.prog w = .ok (.value (.int .i64 (a % b))) w := by
  obtain ⟨dst, op, type, pos, after, guard⟩ := o
  subst ho
  have hb : ¬ b = 0 := by omega
  go_simp
  rw [Int.tmod_eq_emod_of_nonneg h0]
theorem run_lss {t t' : TypeId} {x y : Operand} {k : IntKind} {a b : Int} (ho : o.op = .binOp .lss t x y t') (hx : ρ x = .int k a) (hy : ρ y = .int k b) : (execOp ρ o).run Tryz.prog w = .ok (.value (.bool (decide (a < b)))) w := by
  obtain ⟨dst, op, type, pos, after, guard⟩ := o
  subst ho
  go_simp
theorem run_gtr {t t' : TypeId} {x y : Operand} {k : IntKind} {a b : Int} (ho : o.op = .binOp .gtr t x y t') (hx : ρ x = .int k a) (hy : ρ y = .int k b) : (execOp ρ o).run Tryz.prog w = .ok (.value (.bool (decide (b < a)))) w := by
  obtain ⟨dst, op, type, pos, after, guard⟩ := o
  subst ho
  go_simp
theorem run_eql {t t' : TypeId} {x y : Operand} {k : IntKind} {a b : Int} (ho : o.op = .binOp .eql t x y t') (hx : ρ x = .int k a) (hy : ρ y = .int k b) : (execOp ρ o).run Tryz.prog w = .ok (.value (.bool (a == b))) w := by
  obtain ⟨dst, op, type, pos, after, guard⟩ := o
  subst ho
  go_simp
end
theorem qaa {ops : Array Oper} {Q : Exit → Act → World → Prop} {rest : List Oper} {o : Oper} {a : Act} {w w' : World} {v : Value} (hr : (execOp a.eval o).run Tryz.prog w = .ok (.value v) w') (hg : o.guard = none) (h : wpList Tryz.prog ops Q rest (a.put o.dst v) w') : wpList Tryz.prog ops Q (o :: rest) a w := by
  have hw : Region.wanted o (yielded ops a.tmps) = true := by unfold Region.wanted; rw [hg]
  simp only [wpList, hw, if_true]
  refine .inl ?_
  unfold Oper.wp
  rw [hr]
  exact h
theorem qav {ops : Array Oper} {Q : Exit → Act → World → Prop} {rest : List Oper} {o : Oper} {a : Act} {w : World} {f : FuncId} {args : Array Value} {v : Value} (hr : (execOp a.eval o).run Tryz.prog w = .ok (.enter f args) w) (hg : o.guard = none)
    (hc : Calls Tryz.prog f args w fun e w' => e = .returned v ∧ Below w.heap.size w w') (h : ∀ w', Below w.heap.size w w' → wpList Tryz.prog ops Q rest (a.put o.dst v) w') : wpList Tryz.prog ops Q (o :: rest) a w := by
  have hw : Region.wanted o (yielded ops a.tmps) = true := by unfold Region.wanted; rw [hg]
  simp only [wpList, hw, if_true]
  refine .inl ?_
  unfold Oper.wp
  rw [hr]
  simp only [Oper.upon]
  refine hc.mono fun e w' ⟨he, hb⟩ => ?_
  subst he
  exact h w' hb
theorem qal {ops : Array Oper} {Q : Exit → Act → World → Prop} {rest : List Oper} {o : Oper} {a : Act} {w w' : World} (hr : (execOp a.eval o).run Tryz.prog w = .ok .skip w') (hg : o.guard = none) (hd : o.dst = none) (h : wpList Tryz.prog ops Q rest a w') : wpList Tryz.prog ops Q (o :: rest) a w := by
  have hw : Region.wanted o (yielded ops a.tmps) = true := by unfold Region.wanted; rw [hg]
  simp only [wpList, hw, if_true]
  refine .inl ?_
  unfold Oper.wp
  rw [hr]
  simp only [Oper.upon, hd]
  exact h
theorem qab {ops : Array Oper} {Q : Exit → Act → World → Prop} {a : Act} {w : World} (h : Q .normal a w) : wpList Tryz.prog ops Q [] a w := h
end Go.Proofs.YtcgbgmbnagmohaaGreat
namespace Go.Proofs.YtcgbgmbnagmohaaGreat
open Go.RowKit
set_option maxRecDepth 20000
section
variable {w : World} {ρ : Operand → Value} {o : Oper} {t t' : TypeId} {x y : Operand} {a b : BitVec 32}
end
end Go.Proofs.YtcgbgmbnagmohaaGreat
namespace Go.Proofs.YtcgbgmbnagmohaaGreat
open Go.RowKit
set_option maxRecDepth 20000
section
variable {w : World} {ρ : Operand → Value} {o : Oper} {t t' : TypeId} {x y : Operand} {a b : BitVec 64}
end
end Go.Proofs.YtcgbgmbnagmohaaGreat
namespace Go.Proofs.YtcgbgmbnagmohaaGreat
open Go.RowKit
set_option maxRecDepth 20000
def b8 (x : BitVec 8) : Value := .int .u8 (x.toNat : Int)
def z8 (n : Nat) : List Value := (List.replicate n (0 : BitVec 8)).map b8
theorem wrap8 (n : Int) : IntKind.u8.wrap n = n % 256 := by simp [IntKind.wrap, IntKind.bits, IntKind.signed]
section
variable {w : World} {ρ : Operand → Value} {o : Oper} {t t' : TypeId} {x y : Operand} {a b : BitVec 8}
theorem run_and8 (ho : o.op = .binOp .and t x y t') (hx : ρ x = b8 a) (hy : ρ y = b8 b) : (execOp ρ o).run Tryz.prog w = .ok (.value (b8 (a &&& b))) w := by
  obtain ⟨dst, op, type, pos, after, guard⟩ := o
  subst ho
  unfold b8 at *
  have e := u8_and_nat a.toNat b.toNat a.isLt b.isLt
  rw [BitVec.toNat_and]
  go_simp
theorem run_or8 (ho : o.op = .binOp .or t x y t') (hx : ρ x = b8 a) (hy : ρ y = b8 b) : (execOp ρ o).run Tryz.prog w = .ok (.value (b8 (a ||| b))) w := by
  obtain ⟨dst, op, type, pos, after, guard⟩ := o
  subst ho
  unfold b8 at *
  have e := u8_or_nat a.toNat b.toNat a.isLt b.isLt
  rw [BitVec.toNat_or]
  go_simp
theorem run_add8 (ho : o.op = .binOp .add t x y t') (hx : ρ x = b8 a) (hy : ρ y = b8 b) : (execOp ρ o).run Tryz.prog w = .ok (.value (b8 (a + b))) w := by
  obtain ⟨dst, op, type, pos, after, guard⟩ := o
  subst ho
  unfold b8 at *
  have e : IntKind.u8.wrap ((a.toNat : Int) + (b.toNat : Int)) = (((a + b).toNat : Nat) : Int) := by
    rw [wrap8, BitVec.toNat_add]; omega
  generalize (a + b).toNat = z at *
  go_simp
  try exact e
end
end Go.Proofs.YtcgbgmbnagmohaaGreat
namespace Go.Proofs.YtcgbgmbnagmohaaGreat
open Go.RowKit
set_option maxRecDepth 20000
section
variable {w : World} {ρ : Operand → Value} {o : Oper} {s d : TypeId} {x y : Operand}
theorem run_cv {k k' k'' : IntKind} {n : Int} (ho : o.op = .convert s d x) (hs : Tryz.prog.underlying s = some (.int k')) (hd : Tryz.prog.underlying d = some (.int k)) (hx : ρ x = .int k'' n) : (execOp ρ o).run Tryz.prog w = .ok (.value (.int k (k.wrap n))) w := by
  unfold execOp
  simp only [ho, hx, convert, Sem.run_bind, run_underlying hs, run_underlying hd, Result.andThen_ok]
  rfl
theorem run_cvi_8 {n : Nat} (ho : o.op = .convert 3 5 x) (hx : ρ x = .int .i64 (n : Int)) : (execOp ρ o).run Tryz.prog w = .ok (.value (b8 (BitVec.ofNat 8 n))) w := by
  rw [run_cv ho Tryz.underlying3 Tryz.underlying5 hx]
  have e : IntKind.u8.wrap (n : Int) = ((BitVec.ofNat 8 n).toNat : Int) := by rw [wrap8, BitVec.toNat_ofNat]; omega
  rw [e]; rfl
theorem run_ixs {t e : TypeId} {g i off n c : Nat} {k : IntKind} (ho : o.op = .indexAddr t x y) (ht : Tryz.prog.underlying t = some (.slice e)) (hs : (Tryz.prog.info? e).map (·.size) = some 1) (hx : ρ x = .slice (some ⟨g, off, none⟩) n c) (hy : ρ y = .int k (i : Int)) (hi : i < n) : (execOp ρ o).run Tryz.prog w = .ok (.value (.pointer (some ⟨g, off + i, none⟩))) w := by
  have el : Tryz.prog.elem t = e := by unfold Program.elem; rw [ht]
  have h := run_indexAt_slice (P := Tryz.prog) (w := w) t ⟨g, off, none⟩ n c k (i : Int) (by rw [el]; exact ht)
  rw [el, if_pos ⟨by omega, by omega⟩] at h
  obtain ⟨inf, h1, h2⟩ := Option.map_eq_some_iff.1 hs
  have hz : (sizeOf e).run Tryz.prog w = .ok 1 w := by simp [sizeOf, typeInfo, go_sem, h1, h2]
  rw [hz] at h
  unfold execOp
  simp only [ho, hx, hy, Sem.run_bind, h]
  simp [go_sem, Addr.add_mid]
theorem qa4 {t t' : TypeId} {ao : Option Addr} {n c : Nat} (ho : o.op = .call { callee := .builtin .len, args := #[x], argTypes := #[t] }) (ht : Tryz.prog.underlying t = some (.slice t')) (hx : ρ x = .slice ao n c) : (execOp ρ o).run Tryz.prog w = .ok (.value (.int .i64 (n : Int))) w := by
  obtain ⟨dst, op, type, pos, after, guard⟩ := o
  subst ho
  have el : Tryz.prog.elem t = t' := by unfold Program.elem; rw [ht]
  have ht' : Tryz.prog.underlying t = some (.slice (Tryz.prog.elem t)) := by rw [el]; exact ht
  go_simp
theorem qa3 {t : TypeId} {vs : List Value} (ho : o.op = .alloc t) (hz : (Tryz.prog.info? t).map (·.zero) = some (some (.agg vs.toArray))) : (execOp ρ o).run Tryz.prog w = .ok (.value (.pointer (some ⟨w.heap.size, 0, none⟩))) (w.alloc (.cells vs.toArray t)) := by
  obtain ⟨inf, h1, h2⟩ := Option.map_eq_some_iff.1 hz
  unfold execOp
  simp only [ho]
  simp [Instr.alloc, zeroValue, typeInfo, newVar, go_sem, h1, h2]
theorem run_box {t : TypeId} {vs : Array Value} (ho : o.op = .box t x) (hx : ρ x = .agg vs) : (execOp ρ o).run Tryz.prog w = .ok (.value (.pointer (some ⟨w.heap.size, 0, none⟩))) (w.alloc (.cells vs t)) := by
  unfold execOp
  simp only [ho, hx]
  simp [Instr.box, newVar, go_sem]
end
structure Arr (g : Nat) (vs : List Value) (u : World) : Prop where
  lt : g < u.heap.size
  c : ∀ i v, vs[i]? = some v → u.cell? ⟨g, i, none⟩ = some v
  f : ∀ i, u.frozen? ⟨g, i, none⟩ = false
theorem Arr.new (w : World) (vs : List Value) (t : TypeId) : Arr w.heap.size vs (w.alloc (.cells vs.toArray t)) := by
  refine ⟨by simp, fun i v hi => ?_, fun i => by simp [go_sem]⟩
  rw [World.cell?_alloc_new]
  simpa using hi
theorem Arr.at {w : World} {n : Nat} (h : w.heap.size = n) (vs : List Value) (t : TypeId) : Arr n vs (w.alloc (.cells vs.toArray t)) := by subst h; exact Arr.new w vs t
theorem Arr.below {b : Nat} {l : List Value} {u u' : World} (h : Arr b l u) (hb : Below u.heap.size u u') : Arr b l u' :=
  ⟨Nat.lt_of_lt_of_le h.lt hb.size, fun i v hi => by rw [hb.cell (p := ⟨b, i, none⟩) h.lt]; exact h.c i v hi, fun i => by rw [hb.frozen (p := ⟨b, i, none⟩) h.lt]; exact h.f i⟩
theorem Arr.set {b : Nat} {l : List Value} {u : World} (h : Arr b l u) {i : Nat} (hi : i < l.length) (v : Value) : Arr b (l.set i v) (u.setCell ⟨b, i, none⟩ v) := by
  refine ⟨by simpa using h.lt, fun j x hj => ?_, fun j => by simpa [go_sem] using h.f j⟩
  by_cases e : i = j
  · subst e
    rw [World.cell?_setCell_same' _ _ _ (by rw [h.c i _ (List.getElem?_eq_getElem hi)]; rfl)]
    rw [List.getElem?_set_self hi] at hj
    exact hj
  · rw [World.cell?_setCell_other _ _ _ _ (by intro he; injection he; contradiction)]
    rw [List.getElem?_set_ne e] at hj
    exact h.c j x hj
theorem Arr.far {b c : Nat} {l : List Value} {u : World} (h : Arr b l u) (hne : c ≠ b) (o : Nat) (v : Value) : Arr b l (u.setCell ⟨c, o, none⟩ v) :=
  ⟨by simpa using h.lt, fun i v hi => by rw [World.cell?_setCell_far _ ⟨c, _, none⟩ ⟨b, _, none⟩ _ hne]; exact h.c i v hi, fun i => by simpa [go_sem] using h.f i⟩
theorem Arr.range {b : Nat} {l : List Value} {u : World} (h : Arr b l u) : u.rangeAt b 0 l := fun j v hv => by
  rw [Nat.zero_add]; exact h.c j v hv
theorem Arr.there {b : Nat} {l : List Value} {u : World} (h : Arr b l u) : u.there b 0 l.length := fun j hj => by
  rw [Nat.zero_add, h.c j _ (List.getElem?_eq_getElem hj)]
  exact ⟨rfl, h.f j⟩
theorem qcz (g b i : Nat) : ∀ (vs : List Value) (o : Nat) (u : World), (u.setCells g o vs).frozen? ⟨b, i, none⟩ = u.frozen? ⟨b, i, none⟩
  | [], _, _ => rfl
  | v :: vs, o, u => (qcz g b i vs (o + 1) (u.setCell ⟨g, o, none⟩ v)).trans (by simp [go_sem])
theorem qdd (g : Nat) : ∀ (vs : List Value) (o : Nat) (u : World), (u.setCells g o vs).heap.size = u.heap.size
  | [], _, _ => rfl
  | v :: vs, o, u => (qdd g vs (o + 1) (u.setCell ⟨g, o, none⟩ v)).trans (by simp)
theorem cell_setCells (g b i : Nat) (h : g ≠ b) : ∀ (vs : List Value) (o : Nat) (u : World), (u.setCells g o vs).cell? ⟨b, i, none⟩ = u.cell? ⟨b, i, none⟩
  | [], _, _ => rfl
  | v :: vs, o, u => (cell_setCells g b i h vs (o + 1) (u.setCell ⟨g, o, none⟩ v)).trans (World.cell?_setCell_far _ ⟨g, _, none⟩ ⟨b, _, none⟩ _ h)
theorem Arr.put {b : Nat} {l l' : List Value} {u : World} (h : Arr b l u) (hl : l'.length = l.length) : Arr b l' (u.setCells b 0 l') := by
  refine ⟨by rw [qdd]; exact h.lt, fun i v hi => ?_, fun i => by rw [qcz]; exact h.f i⟩
  have := World.rangeAt_setCells_same u b 0 l' (by rw [hl]; exact h.there) i v hi
  rwa [Nat.zero_add] at this
theorem Arr.farAll {b c : Nat} {l : List Value} {u : World} (h : Arr b l u) (hne : c ≠ b) (o : Nat) (vs : List Value) : Arr b l (u.setCells c o vs) :=
  ⟨by rw [qdd]; exact h.lt, fun i v hi => by rw [cell_setCells c b i hne]; exact h.c i v hi, fun i => by rw [qcz]; exact h.f i⟩
theorem qbe {B : Nat} {a : World} {g : Nat} (hg : B ≤ g) : ∀ (vs : List Value) (o : Nat) {w : World}, Below B a w → Below B a (w.setCells g o vs)
  | [], _, _, h => h
  | v :: vs, o, _, h => qbe hg vs (o + 1) (h.setCell (p := ⟨g, o, none⟩) hg v)
theorem results_cell {fn : Func} {p : Tmp} {ty : TypeId} (h : fn.results = #[.cell p ty]) (tmps : Array Value) (P : Program) (w : World) :
    (results fn tmps).run P w = ((asAddr (tmps.getD p undef)).run P w).andThen fun a w₁ => (loadVar ty a).run P w₁ := by
  simp only [results, h]
  simp [Sem.run_bind, Result.andThen]
theorem Arr.drew {b : Nat} {l : List Value} {u : World} (h : Arr b l u) : Arr b l u.drew := h.below (Below.refl _ _).drew
end Go.Proofs.YtcgbgmbnagmohaaGreat
namespace Go.Proofs.YtcgbgmbnagmohaaGreat
open Go.RowKit
set_option maxRecDepth 20000
theorem get_map {α : Type} (f : α → Value) {l : List α} {i : Nat} (d : α) (h : i < l.length) : (l.map f)[i]? = some (f (l.getD i d)) := by
  rw [List.getElem?_map, List.getElem?_eq_getElem h]; simp [h]
theorem qbw {w u : World} {b o : Nat} {vs : List Value} (h : w.rangeAt b o vs) (hl : b < w.heap.size) (hb : Below w.heap.size w u) : u.rangeAt b o vs := fun j v hv => by
  rw [hb.cell (p := ⟨b, o + j, none⟩) hl]; exact h j v hv
section
variable {w : World} {ρ : Operand → Value} {o : Oper} {t : TypeId} {x y : Operand}
end
end Go.Proofs.YtcgbgmbnagmohaaGreat
