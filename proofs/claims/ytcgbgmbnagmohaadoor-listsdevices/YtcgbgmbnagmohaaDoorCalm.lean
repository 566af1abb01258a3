import Derived.Test.YtcgbgmbnagmohaaDoorSown2
import Derived.Test.YtcgbgmbnagmohaaDoorMem
namespace Go.Proofs.YtcgbgmbnagmohaaDoor
open Go.RowKit
set_option maxRecDepth 20000
theorem qai {w : World} {v : Value} {r : Result Next} (h : r = .ok (.value v) w) : calmUpon Tryd.prog w v r := by rw [h]; exact ⟨rfl, rfl⟩
theorem qax {w : World} {v : Value} {r : Result Next} {f : FuncId} {args : Array Value} (h : r = .ok (.enter f args) w) (hc : Calls Tryd.prog f args w fun e w' => e = .returned v ∧ Below w.heap.size w w') : calmUpon Tryd.prog w v r := by rw [h]; exact ⟨rfl, hc⟩
theorem calm_still {w : World} {v : Value} {r : Result Next} {f : FuncId} {args : Array Value} (h : r = .ok (.enter f args) w) (hc : Calls Tryd.prog f args w fun e w' => e = .returned v ∧ w' = w) : calmUpon Tryd.prog w v r :=
 qax h (hc.mono fun e w' ⟨h1, h2⟩ => ⟨h1, by rw [h2]; exact Below.refl _ _⟩)
theorem qbh {P : Program} {w : World} {K : Act → Prop} {l : List Oper} {a : Act} (h : K a) : wpCalm P w K 0 l a := h
theorem qbv {α : Type} (f : α → Value) {l : List α} {i : Nat} (d : α) (h : i < l.length) : (l.map f)[i]? = some (f (l.getD i d)) := by
 rw [List.getElem?_map, List.getElem?_eq_getElem h]; simp [h]
theorem qc3 {α : Type} (f : α → Value) (l : List α) (i : Nat) (v : α) : (l.map f).set i (f v) = (l.set i v).map f := by rw [List.map_set]
theorem qb9 {w u : World} {b o : Nat} {vs : List Value} (h : w.rangeAt b o vs) (hl : b < w.heap.size) (hb : Below w.heap.size w u) : u.rangeAt b o vs := fun j v hv => by
 rw [hb.cell (p := ⟨b, o + j, none⟩) hl]; exact h j v hv
section
variable {w : World} {ρ : Operand → Value} {o : Oper} {t : TypeId} {x y : Operand}
theorem run_slh {e : TypeId} {b f n c h : Nat} {k : IntKind} (ho : o.op = .slice t x none (some y) none) (ht : Tryd.prog.underlying t = some (.slice e)) (hs : (Tryd.prog.info? e).map (·.size) = some 1) (hx : ρ x = .slice (some ⟨b, f, none⟩) n c) (hy : ρ y = .int k (h : Int)) (hc : h ≤ c) : (execOp ρ o).run Tryd.prog w = .ok (.value (.slice (some ⟨b, f, none⟩) h c)) w := by
 have el : Tryd.prog.elem t = e := by unfold Program.elem; rw [ht]
 have ht' : Tryd.prog.underlying t = some (.slice (Tryd.prog.elem t)) := by rw [el]; exact ht
 have h1 := run_slice_h (P := Tryd.prog) (w := w) t (some ⟨b, f, none⟩) n c ht' k (h : Int) (by omega) (by omega)
 obtain ⟨inf, hi, h2⟩ := Option.map_eq_some_iff.1 hs
 have hz : (sizeOf e).run Tryd.prog w = .ok 1 w := by simp [sizeOf, typeInfo, go_sem, hi, h2]
 rw [el, hz] at h1
 have h3 := run_sliceAt_slice (P := Tryd.prog) (w := w) t (.slice (some ⟨b, f, none⟩) n c) none (some (.int k (h : Int))) none ht'
 unfold execOp
 simp only [ho, hx, hy, Option.map_some, Option.map_none, Sem.run_bind, h3, h1]
 simp [go_sem]
end
end Go.Proofs.YtcgbgmbnagmohaaDoor
