import Derived.Test.YtgioojahadlmhaaWr4
namespace Go.Proofs.Ytgioojahadlmhaa
open Go.RowKit
set_option maxRecDepth 20000
section
variable {w : World} {ρ : Operand → Value} {o : Oper} {t t' e : TypeId} {x y : Operand}
theorem run_ixZ {z g i off n c : Nat} {k : IntKind} (ho : o.op = .indexAddr t x y) (ht : Try.prog.underlying t = some (.slice e)) (hs : (Try.prog.info? e).map (·.size) = some z) (hx : ρ x = .slice (some ⟨g, off, none⟩) n c) (hy : ρ y = .int k (i : Int)) (hi : i < n) : (execOp ρ o).run Try.prog w = .ok (.value (.pointer (some ⟨g, off + i * z, none⟩))) w := by
  have el : Try.prog.elem t = e := by unfold Program.elem; rw [ht]
  have h := run_indexAt_slice (P := Try.prog) (w := w) t ⟨g, off, none⟩ n c k (i : Int) (by rw [el]; exact ht)
  rw [el, if_pos ⟨by omega, by omega⟩] at h
  obtain ⟨inf, h1, h2⟩ := Option.map_eq_some_iff.1 hs
  have hz : (sizeOf e).run Try.prog w = .ok z w := by simp [sizeOf, typeInfo, go_sem, h1, h2]
  rw [hz] at h
  unfold execOp
  simp only [ho, hx, hy, Sem.run_bind, h]
  simp [go_sem, Addr.add_mid]
theorem run_geqI {k : IntKind} {a b : Int} {c : Bool} (ho : o.op = .binOp .geq t x y t') (hx : ρ x = .int k a) (hy : ρ y = .int k b) (h : decide (b ≤ a) = c) : (execOp ρ o).run Try.prog w = .ok (.value (.bool c)) w := by
  obtain ⟨dst, op, type, pos, after, guard⟩ := o
  subst ho
  subst h
  go_simp
end
structure Lz (z : Nat) (a : Option Addr) (cs : List (List Value)) (c : Nat) (u : World) : Prop where
  cap : cs.length ≤ c
  each : ∀ x ∈ cs, x.length = z
  at_ : cs ≠ [] → ∃ g f, a = some ⟨g, f, none⟩ ∧ g < u.heap.size ∧ u.rangeAt g f cs.flatten
theorem Lz.below {z : Nat} {a : Option Addr} {cs : List (List Value)} {c : Nat} {u u' : World} (h : Lz z a cs c u) (hb : Below u.heap.size u u') : Lz z a cs c u' :=
  ⟨h.cap, h.each, fun hn => by obtain ⟨g, f, h1, h2, h3⟩ := h.at_ hn; exact ⟨g, f, h1, Nat.lt_of_lt_of_le h2 hb.size, qbw h3 h2 hb⟩⟩
theorem flat_len {z : Nat} : ∀ {cs : List (List Value)}, (∀ x ∈ cs, x.length = z) → cs.flatten.length = cs.length * z
  | [], _ => by simp
  | x :: cs, h => by
    rw [List.flatten_cons, List.length_append, flat_len (fun y hy => h y (List.mem_cons_of_mem _ hy)), h x (List.mem_cons_self ..), List.length_cons, Nat.succ_mul, Nat.add_comm]
theorem Lz.get {z : Nat} {a : Option Addr} {cs : List (List Value)} {c : Nat} {u : World} (h : Lz z a cs c u) {i : Nat} (hi : i < cs.length) : ∃ g f, a = some ⟨g, f, none⟩ ∧ g < u.heap.size ∧ u.rangeAt g (f + i * z) (cs.getD i []) := by
  obtain ⟨g, f, h1, h2, h3⟩ := h.at_ (by intro e; rw [e] at hi; cases hi)
  refine ⟨g, f, h1, h2, ?_⟩
  have e1 : cs = cs.take i ++ (cs[i] :: cs.drop (i + 1)) := by rw [← List.drop_eq_getElem_cons hi, List.take_append_drop]
  have hl : ((cs.take i).flatten).length = i * z := by
    rw [flat_len (fun x hx => h.each x (List.mem_of_mem_take hx)), List.length_take, Nat.min_eq_left (by omega)]
  have e2 : cs.flatten = (cs.take i).flatten ++ (cs[i] ++ (cs.drop (i + 1)).flatten) := by
    conv => lhs; rw [e1]
    rw [List.flatten_append, List.flatten_cons]
  rw [e2] at h3
  have h4 := rangeAt_drop (k := (cs.take i).flatten.length) h3
  rw [List.drop_left' rfl, hl] at h4
  have h5 := qb9 (k := cs[i].length) h4
  rw [List.take_left' rfl] at h5
  rw [show cs.getD i [] = cs[i] by simp [hi]]
  exact h5
def psB (ps : List MPk) (i : Nat) : List (BitVec 8) := viB (ps.length : Int) ++ (ps.take i).flatMap pkB
theorem pkB_len {p : MPk} (h : p.key.length = 32) : (pkB p).length ≤ 38 := by have := qbq p.id; unfold pkB; rw [List.length_append]; omega
end Go.Proofs.Ytgioojahadlmhaa
