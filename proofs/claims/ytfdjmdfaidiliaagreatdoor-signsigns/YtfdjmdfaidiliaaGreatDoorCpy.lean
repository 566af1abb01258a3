import Derived.Test.YtfdjmdfaidiliaaGreatDoorLateD
import Derived.Test.YtfdjmdfaidiliaaGreatDoorLateD
namespace Go.Proofs.YtfdjmdfaidiliaaGreatDoor
open Go.RowKit
set_option maxRecDepth 20000
section
variable {w : World} {ρ : Operand → Value} {o : Oper} {t t' : TypeId} {x y z : Operand}
end
theorem Sl.adr {v : Value} {l : List (BitVec 8)} {u : World} (h : Sl v l u) (hn : 0 < l.length) : ∃ b f c, v = .slice (some ⟨b, f, none⟩) l.length c ∧ b < u.heap.size ∧ u.rangeAt b f (l.map b8) := by
  obtain ⟨ao, c, rfl, _, h3⟩ := h
  obtain ⟨b, f, rfl, h4, h5⟩ := h3 (by intro e; rw [e] at hn; exact absurd hn (Nat.lt_irrefl _))
  exact ⟨b, f, c, rfl, h4, h5⟩
theorem run_app0 {w : World} {base : Nat} {v : Value} {n : Nat} {xs : List Value} {ao : Option Addr} {c : Nat} {ty : TypeId} (hown : w.ownsRow base 5 1 v n xs) : (Builtin.append_ #[24, 24] ty #[v, .slice ao 0 c]).run Tryz.prog w = .ok v w := by
  have hi : (Tryz.prog.info? 5).map (·.size) = some 1 := by kernel_rfl
  obtain ⟨inf, h1, h2⟩ := Option.map_eq_some_iff.1 hi
  have hl : ∀ b : Addr, (loadCells b 0).run Tryz.prog w = .ok #[] w := fun b => by simpa using run_loadCells_list (P := Tryz.prog) w b [] (by simp)
  rcases hown.2 with ⟨rfl, _⟩ | ⟨g, cap, cur, rfl, _, _, h3, _⟩
  · cases ao <;> simp [Builtin.append_, run_underlying Tryz.underlying24, sizeOf, typeInfo, h1, Builtin.lenOf, Builtin.firstCells, hl]
  · cases ao <;> simp [Builtin.append_, run_underlying Tryz.underlying24, sizeOf, typeInfo, h1, Builtin.lenOf, Builtin.firstCells, hl, h3, storeCells]
theorem wpList_appG {w : World} {ops : Array Oper} {Q : Exit → Act → World → Prop} {rest : List Oper} {o : Oper} {a : Act} {s x : Operand} {base : Nat} {v vx : Value} {n : Nat} {l m : List (BitVec 8)} (hg : o.guard = none) (ho : o.op = .call { callee := .builtin .append, args := #[s, x], argTypes := #[24, 24] }) (hs : a.eval s = v) (hown : w.ownsRow base 5 1 v n (l.map b8)) (hx : a.eval x = vx) (hv : Sl vx m w) (hn : n + m.length ≤ 16777216) (hbase : base ≤ w.heap.size)
    (h : ∀ v' w', w'.ownsRow base 5 1 v' (n + m.length) ((l ++ m).map b8) → Below base w w' → wpList Tryz.prog ops Q rest (a.put o.dst v') w') : wpList Tryz.prog ops Q (o :: rest) a w := by
  by_cases he : m = []
  · subst he
    obtain ⟨ao, c, rfl, _, _⟩ := hv
    refine qaa (v := v) (w' := w) ?_ hg (h v w (by rw [List.append_nil]; exact hown) (Below.refl _ _))
    have hr := run_app0 (ao := ao) (c := c) (ty := o.type) hown
    unfold execOp
    simp [ho, resolve, invoke, builtin, hs, hx, hr, Result.andThen]
  · obtain ⟨b, f, c, rfl, _, hr⟩ := hv.adr (List.length_pos_iff.2 he)
    exact qb0 (f := b8) (fun _ => rfl) (l := l) (m := m) (bw := 1) (z := .int .u8 0) hg ho Tryz.underlying24 (by kernel_rfl) rfl (by omega) hs hown hx hr hn hbase h
theorem run_slhi {w : World} {ρ : Operand → Value} {o : Oper} {t e : TypeId} {x y z : Operand} {ao : Option Addr} {n c lo hi : Nat} {k k' : IntKind} (ho : o.op = .slice t x (some y) (some z) none) (ht : Tryz.prog.underlying t = some (.slice e)) (hs : (Tryz.prog.info? e).map (·.size) = some 1) (hx : ρ x = .slice ao n c) (hy : ρ y = .int k (lo : Int)) (hz : ρ z = .int k' (hi : Int)) (h1 : lo ≤ hi) (h2 : hi ≤ c) : (execOp ρ o).run Tryz.prog w = .ok (.value (cutO ao hi c lo)) w := by
  have el : Tryz.prog.elem t = e := by unfold Program.elem; rw [ht]
  have ht' : Tryz.prog.underlying t = some (.slice (Tryz.prog.elem t)) := by rw [el]; exact ht
  have h3 := run_slice_lh (P := Tryz.prog) (w := w) t ao n c ht' k k' (lo : Int) (hi : Int) (by omega) (by omega) (by omega)
  obtain ⟨inf, hi1, hi2⟩ := Option.map_eq_some_iff.1 hs
  have hz' : (sizeOf e).run Tryz.prog w = .ok 1 w := by simp [sizeOf, typeInfo, go_sem, hi1, hi2]
  rw [el, hz'] at h3
  have h4 := run_sliceAt_slice (P := Tryz.prog) (w := w) t (.slice ao n c) (some (.int k (lo : Int))) (some (.int k' (hi : Int))) none ht'
  unfold execOp cutO
  simp only [ho, hx, hy, hz, Option.map_some, Option.map_none, Sem.run_bind, h4, h3]
  simp [go_sem]
theorem Sl.part {ao : Option Addr} {n c lo hi : Nat} {l : List (BitVec 8)} {u : World} (h : Sl (.slice ao n c) l u) (h1 : lo ≤ hi) (h2 : hi ≤ l.length) : Sl (cutO ao hi c lo) ((l.take hi).drop lo) u := by
  have e : (l.take hi).length = hi := by rw [List.length_take]; omega
  have h3 : Sl (.slice ao (l.take hi).length c) (l.take hi) u := by rw [e]; exact h.front h2
  have h4 := h3.cut (k := lo) (by rw [e]; exact h1)
  rwa [e] at h4
theorem getD_set8 (l : List (BitVec 8)) (i j : Nat) (v : BitVec 8) (h : i < l.length) : (l.set i v).getD j 0 = if i = j then v else l.getD j 0 := by
  simp only [List.getD_eq_getElem?_getD, List.getElem?_set]
  by_cases e : i = j
  · subst e; simp [h]
  · simp [e]
theorem take_snoc8 (l : List (BitVec 8)) (t : Nat) (h : t < l.length) : l.take (t + 1) = l.take t ++ [l.getD t 0] := by
  rw [List.take_succ_eq_append_getElem h]; simp [h]
section
variable {P : Program} {ops : Array Oper} {Q : Exit → Act → World → Prop} {S S' : Array Bool → World → Prop}
end
end Go.Proofs.YtfdjmdfaidiliaaGreatDoor
