/- Slices that lie in a row, one behind the other. -/
import Derived.Test.YtgioojahadlmhaaCatDef
namespace Go.Proofs.Ytgioojahadlmhaa
open Go.RowKit
set_option maxRecDepth 20000

/-- Slices that lie in a row, and what each reads. -/
structure Cat (g : Nat) (vs : List Value) (ls : List (List (BitVec 8))) (u : World) : Prop where
  lt : g < u.heap.size
  R : u.rangeAt g 0 vs
  S : ∀ i, i < ls.length → ∃ v, vs[i]? = some v ∧ Sl v (ls.getD i []) u
theorem Cat.below {g : Nat} {vs : List Value} {ls : List (List (BitVec 8))} {u u' : World} (h : Cat g vs ls u) (hb : Below u.heap.size u u') : Cat g vs ls u' :=
  ⟨Nat.lt_of_lt_of_le h.lt hb.size, rangeAt_below h.R h.lt hb, fun i hi => by obtain ⟨v, h1, h2⟩ := h.S i hi; exact ⟨v, h1, h2.below hb⟩⟩
def catL (ls : List (List (BitVec 8))) (i : Nat) : List (BitVec 8) := (ls.take i).flatten
theorem catL_succ (ls : List (List (BitVec 8))) (i : Nat) (h : i < ls.length) : catL ls (i + 1) = catL ls i ++ ls.getD i [] := by
  unfold catL
  rw [List.take_add_one, List.flatten_append, List.getElem?_eq_getElem h, List.getD_eq_getElem?_getD, List.getElem?_eq_getElem h]
  simp
theorem catL_all (ls : List (List (BitVec 8))) : catL ls ls.length = ls.flatten := by unfold catL; rw [List.take_length]
theorem catL_le (ls : List (List (BitVec 8))) (i : Nat) : (catL ls i).length ≤ ls.flatten.length := by
  have h : ls.flatten = catL ls i ++ (ls.drop i).flatten := by unfold catL; rw [← List.flatten_append, List.take_append_drop]
  rw [h, List.length_append]; omega
theorem cat_row (w : World) (vs : List Value) (ls : List (List (BitVec 8))) (hS : ∀ i, i < ls.length → ∃ v, vs[i]? = some v ∧ Sl v (ls.getD i []) w) : Cat w.heap.size vs ls (w.alloc (.cells vs.toArray 22)) :=
  have hb : Below w.heap.size w (w.alloc (.cells vs.toArray 22)) := (Below.refl _ _).alloc (Nat.le_refl _) _
  ⟨(Arr.new w vs 22).lt, (Arr.new w vs 22).range, fun i hi => by obtain ⟨v, h1, h2⟩ := hS i hi; exact ⟨v, h1, h2.below hb⟩⟩
end Go.Proofs.Ytgioojahadlmhaa
