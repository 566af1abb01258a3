import Derived.Test.YtcgbgmbnagmohaaDoorGen
import Derived.Test.YtcgbgmbnagmohaaDoorCalm
import Derived.Laws.IdiomCopy
import Derived.Laws.MakeOwn
namespace Go.Proofs.YtcgbgmbnagmohaaDoor
open Go.RowKit
set_option maxRecDepth 20000
theorem Arr.front {b : Nat} {l vs : List Value} {u : World} (h : Arr b l u) (hl : vs.length ≤ l.length) : Arr b (vs ++ l.drop vs.length) (u.setCells b 0 vs) := by
 refine ⟨by rw [qdr]; exact h.lt, fun i v hi => ?_, fun i => by rw [qct]; exact h.f i⟩
 by_cases hlt : i < vs.length
 ·rw [List.getElem?_append_left hlt] at hi
  have := World.rangeAt_setCells_same u b 0 vs (fun j hj => h.there j (by omega)) i v hi
  rwa [Nat.zero_add] at this
 ·rw [List.getElem?_append_right (by omega), List.getElem?_drop] at hi
  rw [qcr _ _ _ _ _ (by omega)]
  exact h.c i v (by rwa [show vs.length + (i - vs.length) = i by omega] at hi)
def slLen : Value → Nat
 | .slice _ n _ => n
 | _ => 0
def Sl (v : Value) (l : List (BitVec 8)) (u : World) : Prop := ∃ ao c, v = .slice ao l.length c ∧ l.length ≤ c ∧ (l ≠ [] → ∃ b f, ao = some ⟨b, f, none⟩ ∧ b < u.heap.size ∧ u.rangeAt b f (l.map b8))
theorem Sl.below {v : Value} {l : List (BitVec 8)} {u u' : World} (h : Sl v l u) (hb : Below u.heap.size u u') : Sl v l u' := by
 obtain ⟨ao, c, h1, h2, h3⟩ := h
 refine ⟨ao, c, h1, h2, fun hn => ?_⟩
 obtain ⟨b, f, h4, h5, h6⟩ := h3 hn
 exact ⟨b, f, h4, Nat.lt_of_lt_of_le h5 hb.size, qb9 h6 h5 hb⟩
theorem Sl.arr {g : Nat} {l : List (BitVec 8)} {u : World} (h : Arr g (l.map b8) u) {c : Nat} (hc : l.length ≤ c) : Sl (.slice (some ⟨g, 0, none⟩) l.length c) l u :=
 ⟨_, c, rfl, hc, fun _ => ⟨g, 0, rfl, h.lt, h.range⟩⟩
def cutO (ao : Option Addr) (n c l : Nat) : Value := .slice (if c = l then ao else ao.map (·.add l)) (n - l) (c - l)
theorem Sl.cut {ao : Option Addr} {c k : Nat} {l : List (BitVec 8)} {u : World} (h : Sl (.slice ao l.length c) l u) (hk : k ≤ l.length) : Sl (cutO ao l.length c k) (l.drop k) u := by
 obtain ⟨ao', c', h1, h2, h3⟩ := h
 injection h1 with e1 _ e2
 subst e1 e2
 unfold cutO
 refine ⟨_, c - k, by rw [List.length_drop], by rw [List.length_drop]; omega, fun hn => ?_⟩
 have hlt : k < l.length := by
  rcases Nat.lt_or_ge k l.length with h | h
  ·exact h
  ·exact absurd (List.drop_eq_nil_of_le h) hn
 obtain ⟨b, f, rfl, h5, h6⟩ := h3 (by intro e; rw [e] at hlt; exact absurd hlt (Nat.not_lt_zero _))
 rw [if_neg (by omega), Option.map_some, Addr.add_mid]
 exact ⟨b, f + k, rfl, h5, by rw [List.map_drop]; exact qcd h6⟩
section
variable {w : World} {ρ : Operand → Value} {o : Oper} {t : TypeId} {x y : Operand}
theorem run_cut {e : TypeId} {ao : Option Addr} {n c l : Nat} {k : IntKind} (ho : o.op = .slice t x (some y) none none) (ht : Tryd.prog.underlying t = some (.slice e)) (hs : (Tryd.prog.info? e).map (·.size) = some 1) (hx : ρ x = .slice ao n c) (hy : ρ y = .int k (l : Int)) (hc : l ≤ n) : (execOp ρ o).run Tryd.prog w = .ok (.value (cutO ao n c l)) w := by
 have el : Tryd.prog.elem t = e := by unfold Program.elem; rw [ht]
 have ht' : Tryd.prog.underlying t = some (.slice (Tryd.prog.elem t)) := by rw [el]; exact ht
 have h1 := run_slice_l (P := Tryd.prog) (w := w) t ao n c ht' k (l : Int) (by omega) (by omega)
 obtain ⟨inf, hi, h2⟩ := Option.map_eq_some_iff.1 hs
 have hz : (sizeOf e).run Tryd.prog w = .ok 1 w := by simp [sizeOf, typeInfo, go_sem, hi, h2]
 rw [el, hz] at h1
 have h3 := run_sliceAt_slice (P := Tryd.prog) (w := w) t (.slice ao n c) (some (.int k (l : Int))) none none ht'
 unfold execOp cutO
 simp only [ho, hx, hy, Option.map_some, Option.map_none, Sem.run_bind, h3, h1]
 simp [go_sem]
theorem made_zero (n : Nat) : madeCells (Value.int .u8 0).cells n = (z8 n).toArray := by
 apply Array.ext_getElem?
 intro i
 unfold madeCells z8
 by_cases h : i < n
 ·simp [h, Value.cells, b8, Nat.mod_one]
 ·simp [h]
theorem run_mk8 {n : Nat} (ho : o.op = .makeSlice 22 x y) (hx : ρ x = .int .i64 (n : Int)) (hy : ρ y = .int .i64 (n : Int)) (hn : n ≤ 16777216) : (execOp ρ o).run Tryd.prog w = .ok (.value (.slice (some ⟨w.heap.size, 0, none⟩) n n)) (w.alloc (.cells (z8 n).toArray 5)) := by
 have hs : (Tryd.prog.info? 5).map (fun i => (i.size, i.bytes, i.zero)) = some (1, 1, some (.int .u8 0)) := by kernel_rfl
 obtain ⟨inf, hi, h2⟩ := Option.map_eq_some_iff.1 hs
 obtain ⟨e1, e2, e3⟩ : inf.size = 1 ∧ inf.bytes = 1 ∧ inf.zero = some (.int .u8 0) := by simpa using h2
 have h := run_makeSlice (P := Tryd.prog) w 22 5 inf (.int .u8 0) Tryd.underlying22 hi e3 .i64 .i64 (n : Int) (n : Int) (by omega) (by omega) (by rw [e1]; omega) (by rw [e2]; omega) (by omega)
 rw [e1, Int.toNat_natCast, Nat.mul_one, made_zero] at h
 unfold execOp
 simp only [ho, hx, hy, Sem.run_bind, h]
 simp [go_sem]
theorem run_cpy {t' : TypeId} {g n c : Nat} {v : Value} {l m : List (BitVec 8)} (ho : o.op = .call { callee := .builtin .copy, args := #[x, y], argTypes := #[22, t'] }) (hx : ρ x = .slice (some ⟨g, 0, none⟩) n c) (hy : ρ y = v) (hv : Sl v l w) (hA : Arr g (m.map b8) w) (hn : l.length ≤ n) (hm : l.length ≤ m.length) : (execOp ρ o).run Tryd.prog w = .ok (.value (.int .i64 (l.length : Int))) (w.setCells g 0 (l.map b8)) := by
 obtain ⟨ao, c', rfl, h2, h3⟩ := hv
 by_cases he : l = []
 ·subst he
  have h := run_copy_none (P := Tryd.prog) w 22 t' o.type 5 (some ⟨g, 0, none⟩) ao n c 0 c' Tryd.underlying22 (by kernel_rfl) (by simp)
  unfold execOp
  simp [ho, resolve, invoke, builtin, hx, hy, h, Result.andThen, goInt, World.setCells]
 ·obtain ⟨b, f, rfl, h4, h5⟩ := h3 he
  have h := run_copy_cells (P := Tryd.prog) w 22 t' o.type 5 g 0 n c ⟨b, f, none⟩ l.length c' (l.map b8) Tryd.underlying22 (by kernel_rfl) (by rw [List.length_map]; exact (Nat.min_eq_left hn).symm)
   (fun j v hv => by rw [Addr.add_mid]; exact h5 j v hv) (fun j hj => (hA.there j (by simp at hj ⊢; omega)).1) (fun j hj => (hA.there j (by simp at hj ⊢; omega)).2) (fun v hv => by rw [List.mem_map] at hv; obtain ⟨x, _, rfl⟩ := hv; rfl)
  unfold execOp
  simp [ho, resolve, invoke, builtin, hx, hy, h, Result.andThen, goInt]
end
end Go.Proofs.YtcgbgmbnagmohaaDoor
