/- Operations of a drawn region that let everything stand; parts of slices. -/
import Derived.Test.YtgioojahadlmhaaSown2
import Derived.Test.YtgioojahadlmhaaMem
namespace Go.Proofs.Ytgioojahadlmhaa
open Go.RowKit
set_option maxRecDepth 20000

theorem calm_run {w : World} {v : Value} {r : Result Next} (h : r = .ok (.value v) w) : calmUpon Try.prog w v r := by rw [h]; exact ⟨rfl, rfl⟩
theorem calm_enter {w : World} {v : Value} {r : Result Next} {f : FuncId} {args : Array Value} (h : r = .ok (.enter f args) w) (hc : Calls Try.prog f args w fun e w' => e = .returned v ∧ Below w.heap.size w w') : calmUpon Try.prog w v r := by rw [h]; exact ⟨rfl, hc⟩
theorem calm_still {w : World} {v : Value} {r : Result Next} {f : FuncId} {args : Array Value} (h : r = .ok (.enter f args) w) (hc : Calls Try.prog f args w fun e w' => e = .returned v ∧ w' = w) : calmUpon Try.prog w v r :=
  calm_enter h (hc.mono fun e w' ⟨h1, h2⟩ => ⟨h1, by rw [h2]; exact Below.refl _ _⟩)
theorem wpCalm_done {P : Program} {w : World} {K : Act → Prop} {l : List Oper} {a : Act} (h : K a) : wpCalm P w K 0 l a := h
theorem get_map {α : Type} (f : α → Value) {l : List α} {i : Nat} (d : α) (h : i < l.length) : (l.map f)[i]? = some (f (l.getD i d)) := by
  rw [List.getElem?_map, List.getElem?_eq_getElem h]; simp [h]
theorem set_map {α : Type} (f : α → Value) (l : List α) (i : Nat) (v : α) : (l.map f).set i (f v) = (l.set i v).map f := by rw [List.map_set]
theorem rangeAt_below {w u : World} {b o : Nat} {vs : List Value} (h : w.rangeAt b o vs) (hl : b < w.heap.size) (hb : Below w.heap.size w u) : u.rangeAt b o vs := fun j v hv => by
  rw [hb.cell (p := ⟨b, o + j, none⟩) hl]; exact h j v hv
section
variable {w : World} {ρ : Operand → Value} {o : Oper} {t : TypeId} {x y : Operand}
/-- b[:h] -/
theorem run_slh {e : TypeId} {b f n c h : Nat} {k : IntKind} (ho : o.op = .slice t x none (some y) none) (ht : Try.prog.underlying t = some (.slice e)) (hs : (Try.prog.info? e).map (·.size) = some 1) (hx : ρ x = .slice (some ⟨b, f, none⟩) n c) (hy : ρ y = .int k (h : Int)) (hc : h ≤ c) : (execOp ρ o).run Try.prog w = .ok (.value (.slice (some ⟨b, f, none⟩) h c)) w := by
  have el : Try.prog.elem t = e := by unfold Program.elem; rw [ht]
  have ht' : Try.prog.underlying t = some (.slice (Try.prog.elem t)) := by rw [el]; exact ht
  have h1 := run_slice_h (P := Try.prog) (w := w) t (some ⟨b, f, none⟩) n c ht' k (h : Int) (by omega) (by omega)
  obtain ⟨inf, hi, h2⟩ := Option.map_eq_some_iff.1 hs
  have hz : (sizeOf e).run Try.prog w = .ok 1 w := by simp [sizeOf, typeInfo, go_sem, hi, h2]
  rw [el, hz] at h1
  have h3 := run_sliceAt_slice (P := Try.prog) (w := w) t (.slice (some ⟨b, f, none⟩) n c) none (some (.int k (h : Int))) none ht'
  unfold execOp
  simp only [ho, hx, hy, Option.map_some, Option.map_none, Sem.run_bind, h3, h1]
  simp [go_sem]
/-- b[l:] -/
def cutV (b f n c l : Nat) : Value := .slice (some (if c = l then ⟨b, f, none⟩ else ⟨b, f + l, none⟩)) (n - l) (c - l)
theorem run_sll {e : TypeId} {b f n c l : Nat} {k : IntKind} (ho : o.op = .slice t x (some y) none none) (ht : Try.prog.underlying t = some (.slice e)) (hs : (Try.prog.info? e).map (·.size) = some 1) (hx : ρ x = .slice (some ⟨b, f, none⟩) n c) (hy : ρ y = .int k (l : Int)) (hc : l ≤ n) : (execOp ρ o).run Try.prog w = .ok (.value (cutV b f n c l)) w := by
  have el : Try.prog.elem t = e := by unfold Program.elem; rw [ht]
  have ht' : Try.prog.underlying t = some (.slice (Try.prog.elem t)) := by rw [el]; exact ht
  have h1 := run_slice_l (P := Try.prog) (w := w) t (some ⟨b, f, none⟩) n c ht' k (l : Int) (by omega) (by omega)
  obtain ⟨inf, hi, h2⟩ := Option.map_eq_some_iff.1 hs
  have hz : (sizeOf e).run Try.prog w = .ok 1 w := by simp [sizeOf, typeInfo, go_sem, hi, h2]
  rw [el, hz] at h1
  have h3 := run_sliceAt_slice (P := Try.prog) (w := w) t (.slice (some ⟨b, f, none⟩) n c) (some (.int k (l : Int))) none none ht'
  unfold execOp cutV
  simp only [ho, hx, hy, Option.map_some, Option.map_none, Sem.run_bind, h3, h1]
  simp [go_sem, Addr.add_mid]
  split <;> rfl
end
end Go.Proofs.Ytgioojahadlmhaa
