import Derived.Test.YtcgbgmbnagmohaaGreatApp
import Derived.Laws.BytesString
import Derived.Laws.Small
namespace Go.Proofs.YtcgbgmbnagmohaaGreat
open Go.RowKit
set_option maxRecDepth 20000
theorem Sl.front {ao : Option Addr} {n c k : Nat} {l : List (BitVec 8)} {u : World} (h : Sl (.slice ao n c) l u) (hk : k ≤ l.length) : Sl (.slice ao k c) (l.take k) u := by
  obtain ⟨ao', c', h1, h2, h3⟩ := h
  injection h1 with e1 _ e2
  subst e1 e2
  refine ⟨_, c, by rw [List.length_take, Nat.min_eq_left hk], by rw [List.length_take]; omega, fun hn => ?_⟩
  obtain ⟨b, f, rfl, h5, h6⟩ := h3 (by intro e; apply hn; rw [e]; simp)
  exact ⟨b, f, rfl, h5, by rw [List.map_take]; exact qck h6⟩
def strOf (l : List (BitVec 8)) : ByteArray := (l.map fun x => (x.toNat : Int)).foldl (fun r n => r.push (UInt8.ofNat n.toNat)) ByteArray.empty
section
variable {w : World} {ρ : Operand → Value} {o : Oper} {x y : Operand} {t t' : TypeId}
theorem run_slo {e : TypeId} {ao : Option Addr} {n c h : Nat} {k : IntKind} (ho : o.op = .slice t x none (some y) none) (ht : Tryz.prog.underlying t = some (.slice e)) (hs : (Tryz.prog.info? e).map (·.size) = some 1) (hx : ρ x = .slice ao n c) (hy : ρ y = .int k (h : Int)) (hc : h ≤ c) : (execOp ρ o).run Tryz.prog w = .ok (.value (.slice ao h c)) w := by
  have el : Tryz.prog.elem t = e := by unfold Program.elem; rw [ht]
  have ht' : Tryz.prog.underlying t = some (.slice (Tryz.prog.elem t)) := by rw [el]; exact ht
  have h1 := run_slice_h (P := Tryz.prog) (w := w) t ao n c ht' k (h : Int) (by omega) (by omega)
  obtain ⟨inf, hi, h2⟩ := Option.map_eq_some_iff.1 hs
  have hz : (sizeOf e).run Tryz.prog w = .ok 1 w := by simp [sizeOf, typeInfo, go_sem, hi, h2]
  rw [el, hz] at h1
  have h3 := run_sliceAt_slice (P := Tryz.prog) (w := w) t (.slice ao n c) none (some (.int k (h : Int))) none ht'
  unfold execOp
  simp only [ho, hx, hy, Option.map_some, Option.map_none, Sem.run_bind, h3, h1]
  simp [go_sem, Addr.add]
theorem run_min {a b : Nat} (ts : Array TypeId) (ho : o.op = .call { callee := .builtin .min, args := #[x, y], argTypes := ts }) (hx : ρ x = .int .i64 (a : Int)) (hy : ρ y = .int .i64 (b : Int)) : (execOp ρ o).run Tryz.prog w = .ok (.value (.int .i64 ((min a b : Nat) : Int))) w := by
  unfold execOp
  have h := run_min_int2 (P := Tryz.prog) (w := w) ts o.type .i64 .i64 (a : Int) (b : Int)
  have e : (if (b : Int) < (a : Int) then (b : Int) else (a : Int)) = ((min a b : Nat) : Int) := by split <;> omega
  rw [e] at h
  simp [ho, resolve, invoke, builtin, hx, hy, h, Result.andThen]
set_option maxRecDepth 20000 in
theorem run_str {v : Value} {l : List (BitVec 8)} (ho : o.op = .convert 22 9 x) (hx : ρ x = v) (hv : Sl v l w) : (execOp ρ o).run Tryz.prog w = .ok (.value (.string (strOf l))) w := by
  obtain ⟨ao, c, rfl, h2, h3⟩ := hv
  have h := run_convert_bytes_string (P := Tryz.prog) w 22 9 5 ao l.length c Tryz.underlying22 Tryz.underlying5 Tryz.underlying9
  have hb : (Conv.bytesToString (.slice ao l.length c)).run Tryz.prog w = .ok (.string (strOf l)) w := by
    cases ao with
    | none =>
      have hl : l = [] := by
        by_cases hl : l = []
        · exact hl
        · obtain ⟨b, f, h4, _⟩ := h3 hl; cases h4
      subst hl
      rfl
    | some a =>
      refine run_bytesToString w a l.length c (l.map fun x => (x.toNat : Int)) ?_
      rw [List.map_map]
      have hc : ∀ j v, (l.map b8)[j]? = some v → w.cell? (a.add j) = some v := fun j v hv => by
        by_cases hl : l = []
        · subst hl; cases hv
        · obtain ⟨b, f, h4, _, h5⟩ := h3 hl
          injection h4 with h4
          subst h4
          rw [Addr.add_mid]
          exact h5 j v hv
      have := run_loadCells_list (P := Tryz.prog) w a (l.map b8) hc
      rw [List.length_map] at this
      exact this
  rw [hb] at h
  unfold execOp
  simp only [ho, hx, Sem.run_bind, h]
  simp [go_sem]
theorem run_eqstr {s : ByteArray} (ho : o.op = .binOp .eql t x y t') (hx : ρ x = .string s) (hy : ρ y = .string s) : (execOp ρ o).run Tryz.prog w = .ok (.value (.bool true)) w := by
  obtain ⟨dst, op, type, pos, after, guard⟩ := o
  subst ho
  go_simp
end
end Go.Proofs.YtcgbgmbnagmohaaGreat
