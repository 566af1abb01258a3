/- Slices, slices of slices and pairs of results: what putting bytes one behind the other wants. -/
import Derived.Test.YtgioojahadlmhaaS5
import Derived.Test.YtgioojahadlmhaaGenA
namespace Go.Proofs.Ytgioojahadlmhaa
open Go.RowKit
set_option maxRecDepth 20000

theorem sl_own {g n : Nat} {l : List (BitVec 8)} {u : World} (h : Arr g (l.map b8) u) (hl : l.length = n) : Sl (.slice (some ⟨g, 0, none⟩) n n) l u := by
  subst hl; exact Sl.arr h (Nat.le_refl _)
theorem sl_nil (u : World) : Sl (.slice none 0 0) [] u := ⟨none, 0, rfl, Nat.le_refl _, fun h => absurd rfl h⟩
theorem row_const (w : World) (l : List (BitVec 8)) (n : Nat) (m : Nat × Nat) (hn : l.length = n) : Sl (.slice (some ⟨w.heap.size, 0, none⟩) n n) l (w.alloc (.cells (l.map b8).toArray 5 m)) := by
  refine ⟨_, n, by rw [hn], by omega, fun _ => ⟨w.heap.size, 0, rfl, by simp, fun j v hv => ?_⟩⟩
  rw [Nat.zero_add]
  simp only [World.cell?, World.alloc, Array.getElem?_push_size]
  simpa using hv
theorem results_two {fn : Func} {p q : Tmp} {t : TypeId} {d : TypeDesc} (h : fn.results = #[.cell p t, .cell q t]) {tmps : Array Value} {w : World} {g g' : Nat} {l l' : List Value} (ht : tmps.getD p undef = .pointer (some ⟨g, 0, none⟩)) (ht' : tmps.getD q undef = .pointer (some ⟨g', 0, none⟩)) (hu : Try.prog.underlying t = some d) (hd : d.isRow = true) (hl : (Try.prog.info? t).map (·.size) = some l.length) (hl' : (Try.prog.info? t).map (·.size) = some l'.length) (hr : w.rangeAt g 0 l) (hr' : w.rangeAt g' 0 l') :
    (results fn tmps).run Try.prog w = .ok (.tuple #[.agg l.toArray, .agg l'.toArray]) w := by
  have e := run_loadVar_mid (P := Try.prog) w g 0 t l d hr hu hd hl
  have e' := run_loadVar_mid (P := Try.prog) w g' 0 t l' d hr' hu hd hl'
  simp only [results, h]
  simp [Sem.run_bind, Result.andThen, -Array.getD_eq_getD_getElem?, ht, ht', asAddr, e, e']
section
variable {w : World} {ρ : Operand → Value} {o : Oper} {x y : Operand} {t t' : TypeId}
theorem run_shr64i {a : BitVec 64} {n : Nat} (ho : o.op = .binOp .shr t x y t') (hx : ρ x = b64 a) (hy : ρ y = .int .i64 (n : Int)) (hn : n ≤ 64) : (execOp ρ o).run Try.prog w = .ok (.value (b64 (a >>> n))) w := by
  obtain ⟨dst, op, type, pos, after, guard⟩ := o
  subst ho
  unfold b64 at *
  have e : (a.toNat : Int) / 2 ^ n = (((a >>> n).toNat : Nat) : Int) := by
    rw [BitVec.toNat_ushiftRight, Nat.shiftRight_eq_div_pow]; simp
  generalize (a >>> n).toNat = z at *
  have hn0 : (0 : Int) ≤ (n : Int) := by omega
  go_simp
  try exact e
theorem run_cap {ao : Option Addr} {n c : Nat} (ho : o.op = .call { callee := .builtin .cap, args := #[x], argTypes := #[t] }) (ht : Try.prog.underlying t = some (.slice t')) (hx : ρ x = .slice ao n c) : (execOp ρ o).run Try.prog w = .ok (.value (.int .i64 (c : Int))) w := by
  obtain ⟨dst, op, type, pos, after, guard⟩ := o
  subst ho
  have el : Try.prog.elem t = t' := by unfold Program.elem; rw [ht]
  have ht' : Try.prog.underlying t = some (.slice (Try.prog.elem t)) := by rw [el]; exact ht
  go_simp
theorem run_ldSl {g i : Nat} {v : Value} (ho : o.op = .load 22 x) (hx : ρ x = .pointer (some ⟨g, i, none⟩)) (hc : w.cell? ⟨g, i, none⟩ = some v) : (execOp ρ o).run Try.prog w = .ok (.value v) w := by
  obtain ⟨dst, op, type, pos, after, guard⟩ := o
  subst ho
  go_simp
theorem run_slh0 {e : TypeId} (ho : o.op = .slice t x none (some y) none) (ht : Try.prog.underlying t = some (.slice e)) (hs : (Try.prog.info? e).map (·.size) = some 1) (hx : ρ x = .slice none 0 0) (hy : ρ y = .int .i64 0) : (execOp ρ o).run Try.prog w = .ok (.value (.slice none 0 0)) w := by
  have el : Try.prog.elem t = e := by unfold Program.elem; rw [ht]
  have ht' : Try.prog.underlying t = some (.slice (Try.prog.elem t)) := by rw [el]; exact ht
  have h1 := run_slice_h (P := Try.prog) (w := w) t none 0 0 ht' .i64 0 (by omega) (by omega)
  obtain ⟨inf, hi, h2⟩ := Option.map_eq_some_iff.1 hs
  have hz : (sizeOf e).run Try.prog w = .ok 1 w := by simp [sizeOf, typeInfo, go_sem, hi, h2]
  rw [el, hz] at h1
  have h3 := run_sliceAt_slice (P := Try.prog) (w := w) t (.slice none 0 0) none (some (.int .i64 0)) none ht'
  unfold execOp
  simp only [ho, hx, hy, Option.map_some, Option.map_none, Sem.run_bind, h3, h1]
  simp [go_sem, sliced]
theorem run_cvlen {n : Nat} (ho : o.op = .convert 3 192 x) (hx : ρ x = .int .i64 (n : Int)) : (execOp ρ o).run Try.prog w = .ok (.value (b64 (BitVec.ofNat 64 n))) w := by
  rw [run_cv ho Try.underlying3 Try.underlying192 hx]
  have e : IntKind.u64.wrap (n : Int) = ((BitVec.ofNat 64 n).toNat : Int) := by rw [wrap64, BitVec.toNat_ofNat]; omega
  rw [e]; rfl
theorem run_notS {c : Bool} (ho : o.op = .unOp .not t x) (hx : ρ x = .bool c) : (execOp ρ o).run Try.prog w = .ok (.value (.bool (!c))) w := by
  obtain ⟨dst, op, type, pos, after, guard⟩ := o
  subst ho
  go_simp
theorem run_ext {vs : Array Value} {i : Nat} {v : Value} (ho : o.op = .extract x i) (hx : ρ x = .tuple vs) (hi : vs[i]? = some v) : (execOp ρ o).run Try.prog w = .ok (.value v) w := by
  unfold execOp
  simp only [ho, hx, Instr.extract, hi, Sem.run_bind, Sem.run_pure, Result.andThen_ok]
end
end Go.Proofs.Ytgioojahadlmhaa
