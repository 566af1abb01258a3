import Derived.Test.YtcgbgmbnagmohaaGreatGen
import Derived.Test.YtcgbgmbnagmohaaGreatCalm
import Derived.Laws.IdiomCopy
import Derived.Laws.MakeOwn
namespace Go.Proofs.YtcgbgmbnagmohaaGreat
open Go.RowKit
set_option maxRecDepth 20000
theorem Arr.front {b : Nat} {l vs : List Value} {u : World} (h : Arr b l u) (hl : vs.length ≤ l.length) : Arr b (vs ++ l.drop vs.length) (u.setCells b 0 vs) := by
  refine ⟨by rw [qdd]; exact h.lt, fun i v hi => ?_, fun i => by rw [qcz]; exact h.f i⟩
  by_cases hlt : i < vs.length
  · rw [List.getElem?_append_left hlt] at hi
    have := World.rangeAt_setCells_same u b 0 vs (fun j hj => h.there j (by omega)) i v hi
    rwa [Nat.zero_add] at this
  · rw [List.getElem?_append_right (by omega), List.getElem?_drop] at hi
    rw [qc2 _ _ _ _ _ (by omega)]
    exact h.c i v (by rwa [show vs.length + (i - vs.length) = i by omega] at hi)
def Sl (v : Value) (l : List (BitVec 8)) (u : World) : Prop := ∃ ao c, v = .slice ao l.length c ∧ l.length ≤ c ∧ (l ≠ [] → ∃ b f, ao = some ⟨b, f, none⟩ ∧ b < u.heap.size ∧ u.rangeAt b f (l.map b8))
theorem Sl.below {v : Value} {l : List (BitVec 8)} {u u' : World} (h : Sl v l u) (hb : Below u.heap.size u u') : Sl v l u' := by
  obtain ⟨ao, c, h1, h2, h3⟩ := h
  refine ⟨ao, c, h1, h2, fun hn => ?_⟩
  obtain ⟨b, f, h4, h5, h6⟩ := h3 hn
  exact ⟨b, f, h4, Nat.lt_of_lt_of_le h5 hb.size, qbw h6 h5 hb⟩
theorem Sl.arr {g : Nat} {l : List (BitVec 8)} {u : World} (h : Arr g (l.map b8) u) {c : Nat} (hc : l.length ≤ c) : Sl (.slice (some ⟨g, 0, none⟩) l.length c) l u :=
  ⟨_, c, rfl, hc, fun _ => ⟨g, 0, rfl, h.lt, h.range⟩⟩
def cutO (ao : Option Addr) (n c l : Nat) : Value := .slice (if c = l then ao else ao.map (·.add l)) (n - l) (c - l)
theorem Sl.cut {ao : Option Addr} {c k : Nat} {l : List (BitVec 8)} {u : World} (h : Sl (.slice ao l.length c) l u) (hk : k ≤ l.length) : Sl (cutO ao l.length c k) (l.drop k) u := by
  obtain ⟨ao', c', h1, h2, h3⟩ := h
  injection h1 with e1 _ e2
  subst e1 e2
  unfold cutO
  refine ⟨_, c - k, by rw [List.length_drop], by rw [List.length_drop]; omega, fun hn => ?_⟩
  have hlt : k < l.length := by
    rcases Nat.lt_or_ge k l.length with h | h
    · exact h
    · exact absurd (List.drop_eq_nil_of_le h) hn
  obtain ⟨b, f, rfl, h5, h6⟩ := h3 (by intro e; rw [e] at hlt; exact absurd hlt (Nat.not_lt_zero _))
  rw [if_neg (by omega), Option.map_some, Addr.add_mid]
  exact ⟨b, f + k, rfl, h5, by rw [List.map_drop]; exact qcy h6⟩
section
variable {w : World} {ρ : Operand → Value} {o : Oper} {t : TypeId} {x y : Operand}
theorem run_cut {e : TypeId} {ao : Option Addr} {n c l : Nat} {k : IntKind} (ho : o.op = .slice t x (some y) none none) (ht : Tryz.prog.underlying t = some (.slice e)) (hs : (Tryz.prog.info? e).map (·.size) = some 1) (hx : ρ x = .slice ao n c) (hy : ρ y = .int k (l : Int)) (hc : l ≤ n) : (execOp ρ o).run Tryz.prog w = .ok (.value (cutO ao n c l)) w := by
  have el : Tryz.prog.elem t = e := by unfold Program.elem; rw [ht]
  have ht' : Tryz.prog.underlying t = some (.slice (Tryz.prog.elem t)) := by rw [el]; exact ht
  have h1 := run_slice_l (P := Tryz.prog) (w := w) t ao n c ht' k (l : Int) (by omega) (by omega)
  obtain ⟨inf, hi, h2⟩ := Option.map_eq_some_iff.1 hs
  have hz : (sizeOf e).run Tryz.prog w = .ok 1 w := by simp [sizeOf, typeInfo, go_sem, hi, h2]
  rw [el, hz] at h1
  have h3 := run_sliceAt_slice (P := Tryz.prog) (w := w) t (.slice ao n c) (some (.int k (l : Int))) none none ht'
  unfold execOp cutO
  simp only [ho, hx, hy, Option.map_some, Option.map_none, Sem.run_bind, h3, h1]
  simp [go_sem]
end
end Go.Proofs.YtcgbgmbnagmohaaGreat
