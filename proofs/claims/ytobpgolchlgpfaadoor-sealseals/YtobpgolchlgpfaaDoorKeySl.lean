/- Slices of keys: rows of 32 cells each. -/
import Derived.Test.YtobpgolchlgpfaaDoorCpy
namespace Go.Proofs.YtobpgolchlgpfaaDoor
open Go.RowKit
set_option maxRecDepth 20000

/-- v is a slice of n keys, that are l one behind the other. -/
def KS (v : Value) (n : Nat) (l : List (BitVec 8)) (u : World) : Prop := ∃ ao c, v = .slice ao n c ∧ n ≤ c ∧ l.length = 32 * n ∧ (0 < n → ∃ g, ao = some ⟨g, 0, none⟩ ∧ g < u.heap.size ∧ u.rangeAt g 0 (l.map b8))
theorem KS.below {v : Value} {n : Nat} {l : List (BitVec 8)} {u u' : World} (h : KS v n l u) (hb : Below u.heap.size u u') : KS v n l u' := by
  obtain ⟨ao, c, h1, h2, h3, h4⟩ := h
  refine ⟨ao, c, h1, h2, h3, fun hn => ?_⟩
  obtain ⟨g, h5, h6, h7⟩ := h4 hn
  exact ⟨g, h5, Nat.lt_of_lt_of_le h6 hb.size, rangeAt_below h7 h6 hb⟩
section
variable {w : World} {ρ : Operand → Value} {o : Oper} {x y : Operand}
theorem z8_at (n j : Nat) (h : j < n) : (z8 n).toArray[j]! = b8 0 := by unfold z8; simp [h]
theorem made_zeroK (n : Nat) : madeCells (Value.agg (z8 32).toArray).cells (n * 32) = (z8 (n * 32)).toArray := by
  apply Array.ext_getElem?
  intro i
  unfold madeCells
  by_cases h : i < n * 32
  · have h2 : (Value.agg (z8 32).toArray).cells[i % (Value.agg (z8 32).toArray).cells.size]! = b8 0 := by
      have : (Value.agg (z8 32).toArray).cells = (z8 32).toArray := rfl
      rw [this]
      exact z8_at _ _ (Nat.lt_of_lt_of_le (Nat.mod_lt _ (by decide)) (by decide))
    rw [Array.getElem?_map, Array.getElem?_range]
    unfold z8
    simp only [h]
    simp [h]
    exact h2
  · unfold z8
    simp [h]
theorem run_mkK {n : Nat} (ho : o.op = .makeSlice 48 x y) (hx : ρ x = .int .i64 (n : Int)) (hy : ρ y = .int .i64 (n : Int)) (hn : n ≤ 1000) : (execOp ρ o).run Tryd.prog w = .ok (.value (.slice (some ⟨w.heap.size, 0, none⟩) n n)) (w.alloc (.cells (z8 (n * 32)).toArray 29)) := by
  have hs : (Tryd.prog.info? 29).map (fun i => (i.size, i.bytes, i.zero)) = some (32, 32, some (.agg (z8 32).toArray)) := by kernel_rfl
  obtain ⟨inf, hi, h2⟩ := Option.map_eq_some_iff.1 hs
  obtain ⟨e1, e2, e3⟩ : inf.size = 32 ∧ inf.bytes = 32 ∧ inf.zero = some (.agg (z8 32).toArray) := by simpa using h2
  have h := run_makeSlice (P := Tryd.prog) w 48 29 inf (.agg (z8 32).toArray) Tryd.underlying48 hi e3 .i64 .i64 (n : Int) (n : Int) (by omega) (by omega) (by rw [e1]; omega) (by rw [e2]; omega) (by omega)
  rw [e1, Int.toNat_natCast, made_zeroK] at h
  unfold execOp
  simp only [ho, hx, hy, Sem.run_bind, h]
  simp [go_sem]
theorem run_ixK {g i off n c : Nat} {k : IntKind} (ho : o.op = .indexAddr 48 x y) (hx : ρ x = .slice (some ⟨g, off, none⟩) n c) (hy : ρ y = .int k (i : Int)) (hi : i < n) : (execOp ρ o).run Tryd.prog w = .ok (.value (.pointer (some ⟨g, off + i * 32, none⟩))) w := by
  have ht := Tryd.underlying48
  have hs : (Tryd.prog.info? 29).map (·.size) = some 32 := by kernel_rfl
  have el : Tryd.prog.elem 48 = 29 := by unfold Program.elem; rw [ht]
  have h := run_indexAt_slice (P := Tryd.prog) (w := w) 48 ⟨g, off, none⟩ n c k (i : Int) (by rw [el]; exact ht)
  rw [el, if_pos ⟨by omega, by omega⟩] at h
  obtain ⟨inf, h1, h2⟩ := Option.map_eq_some_iff.1 hs
  have hz : (sizeOf 29).run Tryd.prog w = .ok 32 w := by simp [sizeOf, typeInfo, go_sem, h1, h2]
  rw [hz] at h
  unfold execOp
  simp only [ho, hx, hy, Sem.run_bind, h]
  simp [go_sem, Addr.add_mid]
theorem run_ldK {g f : Nat} {l : List (BitVec 8)} (ho : o.op = .load 29 x) (hl : l.length = 32) (hx : ρ x = .pointer (some ⟨g, f, none⟩)) (hr : w.rangeAt g f (l.map b8)) : (execOp ρ o).run Tryd.prog w = .ok (.value (.agg (l.map b8).toArray)) w := by
  have hi : (Tryd.prog.info? 29).map (·.size) = some (l.map b8).length := by rw [List.length_map, hl]; kernel_rfl
  unfold execOp
  simp only [ho, hx, Sem.run_bind, run_loadAt_mid w g f 29 (l.map b8) _ hr Tryd.underlying29 rfl hi, Result.andThen_ok, Sem.run_pure]
end
end Go.Proofs.YtobpgolchlgpfaaDoor
