import Derived.Test.YtcgbgmbnagmohaaDoorCpy
import Derived.Test.YtcgbgmbnagmohaaDoorGenA
namespace Go.Proofs.YtcgbgmbnagmohaaDoor
open Go.RowKit
set_option maxRecDepth 20000
structure S5 (r : World) (v : Value) (l : List (BitVec 8)) (u : World) : Prop where
 bl : Below r.heap.size r u
 O : u.ownsRow r.heap.size 5 1 v l.length (l.map b8)
theorem S5.below {r u u' : World} {v : Value} {l : List (BitVec 8)} (i : S5 r v l u) (hb : Below u.heap.size u u') : S5 r v l u' :=
 ⟨i.bl.trans (hb.mono i.bl.size), own_below i.O hb⟩
theorem S5.none (r : World) : S5 r (.slice none 0 0) [] r := ⟨Below.refl _ _, ⟨rfl, .inl ⟨rfl, rfl⟩⟩⟩
theorem S5.sl {r u : World} {v : Value} {l : List (BitVec 8)} (i : S5 r v l u) : Sl v l u := Sl.own i.O
theorem S5.mono {r r' u : World} {v : Value} {l : List (BitVec 8)} (i : S5 r' v l u) (hb : Below r.heap.size r r') : S5 r v l u := ⟨hb.trans (i.bl.mono hb.size), own_mono i.O hb.size⟩
end Go.Proofs.YtcgbgmbnagmohaaDoor
namespace Go.Proofs.YtcgbgmbnagmohaaDoor
open Go.RowKit
set_option maxRecDepth 20000
theorem sl_own {g n : Nat} {l : List (BitVec 8)} {u : World} (h : Arr g (l.map b8) u) (hl : l.length = n) : Sl (.slice (some ⟨g, 0, none⟩) n n) l u := by
 subst hl; exact Sl.arr h (Nat.le_refl _)
theorem results_two {fn : Func} {p q : Tmp} {t : TypeId} {d : TypeDesc} (h : fn.results = #[.cell p t, .cell q t]) {tmps : Array Value} {w : World} {g g' : Nat} {l l' : List Value} (ht : tmps.getD p undef = .pointer (some ⟨g, 0, none⟩)) (ht' : tmps.getD q undef = .pointer (some ⟨g', 0, none⟩)) (hu : Tryd.prog.underlying t = some d) (hd : d.isRow = true) (hl : (Tryd.prog.info? t).map (·.size) = some l.length) (hl' : (Tryd.prog.info? t).map (·.size) = some l'.length) (hr : w.rangeAt g 0 l) (hr' : w.rangeAt g' 0 l') :
  (results fn tmps).run Tryd.prog w = .ok (.tuple #[.agg l.toArray, .agg l'.toArray]) w := by
 have e := run_loadVar_mid (P := Tryd.prog) w g 0 t l d hr hu hd hl
 have e' := run_loadVar_mid (P := Tryd.prog) w g' 0 t l' d hr' hu hd hl'
 simp only [results, h]
 simp [Sem.run_bind, Result.andThen, -Array.getD_eq_getD_getElem?, ht, ht', asAddr, e, e']
section
variable {w : World} {ρ : Operand → Value} {o : Oper} {x y : Operand} {t t' : TypeId}
theorem run_cap {ao : Option Addr} {n c : Nat} (ho : o.op = .call { callee := .builtin .cap, args := #[x], argTypes := #[t] }) (ht : Tryd.prog.underlying t = some (.slice t')) (hx : ρ x = .slice ao n c) : (execOp ρ o).run Tryd.prog w = .ok (.value (.int .i64 (c : Int))) w := by
 obtain ⟨dst, op, type, pos, after, guard⟩ := o
 subst ho
 have el : Tryd.prog.elem t = t' := by unfold Program.elem; rw [ht]
 have ht' : Tryd.prog.underlying t = some (.slice (Tryd.prog.elem t)) := by rw [el]; exact ht
 go_simp
theorem run_ldSl {g i : Nat} {v : Value} (ho : o.op = .load 22 x) (hx : ρ x = .pointer (some ⟨g, i, none⟩)) (hc : w.cell? ⟨g, i, none⟩ = some v) : (execOp ρ o).run Tryd.prog w = .ok (.value v) w := by
 obtain ⟨dst, op, type, pos, after, guard⟩ := o
 subst ho
 go_simp
theorem run_slh0 {e : TypeId} (ho : o.op = .slice t x none (some y) none) (ht : Tryd.prog.underlying t = some (.slice e)) (hs : (Tryd.prog.info? e).map (·.size) = some 1) (hx : ρ x = .slice none 0 0) (hy : ρ y = .int .i64 0) : (execOp ρ o).run Tryd.prog w = .ok (.value (.slice none 0 0)) w := by
 have el : Tryd.prog.elem t = e := by unfold Program.elem; rw [ht]
 have ht' : Tryd.prog.underlying t = some (.slice (Tryd.prog.elem t)) := by rw [el]; exact ht
 have h1 := run_slice_h (P := Tryd.prog) (w := w) t none 0 0 ht' .i64 0 (by omega) (by omega)
 obtain ⟨inf, hi, h2⟩ := Option.map_eq_some_iff.1 hs
 have hz : (sizeOf e).run Tryd.prog w = .ok 1 w := by simp [sizeOf, typeInfo, go_sem, hi, h2]
 rw [el, hz] at h1
 have h3 := run_sliceAt_slice (P := Tryd.prog) (w := w) t (.slice none 0 0) none (some (.int .i64 0)) none ht'
 unfold execOp
 simp only [ho, hx, hy, Option.map_some, Option.map_none, Sem.run_bind, h3, h1]
 simp [go_sem, sliced]
end
end Go.Proofs.YtcgbgmbnagmohaaDoor
namespace Go.Proofs.YtcgbgmbnagmohaaDoor
open Go.RowKit
set_option maxRecDepth 20000
structure Cat (g : Nat) (vs : List Value) (ls : List (List (BitVec 8))) (u : World) : Prop where
 lt : g < u.heap.size
 R : u.rangeAt g 0 vs
 S : ∀ i, i < ls.length → ∃ v, vs[i]? = some v ∧ Sl v (ls.getD i []) u
theorem Cat.below {g : Nat} {vs : List Value} {ls : List (List (BitVec 8))} {u u' : World} (h : Cat g vs ls u) (hb : Below u.heap.size u u') : Cat g vs ls u' :=
 ⟨Nat.lt_of_lt_of_le h.lt hb.size, qb9 h.R h.lt hb, fun i hi => by obtain ⟨v, h1, h2⟩ := h.S i hi; exact ⟨v, h1, h2.below hb⟩⟩
def catL (ls : List (List (BitVec 8))) (i : Nat) : List (BitVec 8) := (ls.take i).flatten
theorem catL_succ (ls : List (List (BitVec 8))) (i : Nat) (h : i < ls.length) : catL ls (i + 1) = catL ls i ++ ls.getD i [] := by
 unfold catL
 rw [List.take_add_one, List.flatten_append, List.getElem?_eq_getElem h, List.getD_eq_getElem?_getD, List.getElem?_eq_getElem h]
 simp
theorem catL_all (ls : List (List (BitVec 8))) : catL ls ls.length = ls.flatten := by unfold catL; rw [List.take_length]
theorem catL_le (ls : List (List (BitVec 8))) (i : Nat) : (catL ls i).length ≤ ls.flatten.length := by
 have h : ls.flatten = catL ls i ++ (ls.drop i).flatten := by unfold catL; rw [← List.flatten_append, List.take_append_drop]
 rw [h, List.length_append]; omega
theorem cat_row (w : World) (vs : List Value) (ls : List (List (BitVec 8))) (hS : ∀ i, i < ls.length → ∃ v, vs[i]? = some v ∧ Sl v (ls.getD i []) w) : Cat w.heap.size vs ls (w.alloc (.cells vs.toArray 22)) :=
 have hb : Below w.heap.size w (w.alloc (.cells vs.toArray 22)) := (Below.refl _ _).alloc (Nat.le_refl _) _
 ⟨(Arr.new w vs 22).lt, (Arr.new w vs 22).range, fun i hi => by obtain ⟨v, h1, h2⟩ := hS i hi; exact ⟨v, h1, h2.below hb⟩⟩
end Go.Proofs.YtcgbgmbnagmohaaDoor
