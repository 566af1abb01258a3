/- Slices that grow by append, in memory of their own. -/
import Derived.Test.YtfdjmdfaidiliaaDoorGenA
import Derived.Test.YtfdjmdfaidiliaaDoorSl
import Derived.Great.BuildSlice
import Derived.Lib.SlBytesConst
import Derived.Laws.AppendOwn
import Derived.Laws.OwnMore
namespace Go.Proofs.YtfdjmdfaidiliaaDoor
open Go.RowKit
set_option maxRecDepth 20000

section
variable {w : World} {ρ : Operand → Value} {o : Oper} {x y : Operand}
/-- A slice of bytes that was laid just now, marked as a text's. -/
theorem run_cvb {C : Array Value} {n c : Nat} (ho : o.op = .convert 24 24 x) (hx : ρ x = .slice (some ⟨w.heap.size, 0, none⟩) n c) : (execOp ρ o).run Tryd.prog (w.alloc (.cells C 5)) = .ok (.value (.slice (some ⟨w.heap.size, 0, none⟩) n c)) (w.alloc (.cells C 5 (C.size, C.size + 1))) := by
  have h := Lib.run_convert_bytes_const (P := Tryd.prog) w 24 5 C n c Tryd.underlying24 Tryd.underlying5
  unfold execOp
  simp only [ho, hx, Sem.run_bind, h]
  simp [go_sem]
theorem run_eq8 {t t' : TypeId} {a : BitVec 8} {n : Int} (ho : o.op = .binOp .eql t x y t') (hx : ρ x = b8 a) (hy : ρ y = .int .u8 n) (h : (a.toNat : Int) = n) : (execOp ρ o).run Tryd.prog w = .ok (.value (.bool true)) w := by
  rw [run_eql (k := .u8) (a := (a.toNat : Int)) (b := n) ho hx hy, h]; simp
end
theorem sl_zero {g k : Nat} {u : World} (h : Arr g (z8 k) u) : Sl (.slice (some ⟨g, 0, none⟩) k k) (List.replicate k 0) u := by
  have := Sl.arr (l := List.replicate k 0) h (c := k) (by simp)
  rwa [List.length_replicate] at this
section
variable {w : World} {ρ : Operand → Value} {o : Oper} {x y : Operand} {t t' : TypeId}
theorem run_eql0 {b : Bool} {a c : Int} (ho : o.op = .binOp .eql t x y t') (hx : ρ x = .int .i64 a) (hy : ρ y = .int .i64 c) (hb : (a == c) = b) : (execOp ρ o).run Tryd.prog w = .ok (.value (.bool b)) w := by
  rw [run_eql ho hx hy, hb]
end
end Go.Proofs.YtfdjmdfaidiliaaDoor
namespace Go.Proofs.YtfdjmdfaidiliaaDoor
open Go.RowKit
set_option maxRecDepth 20000

/-- What is owned is read. -/
theorem Sl.own {w : World} {base : Nat} {v : Value} {l : List (BitVec 8)} (h : w.ownsRow base 5 1 v l.length (l.map b8)) : Sl v l w := by
  rcases h.2 with ⟨rfl, hn⟩ | ⟨g, cap, cur, rfl, hb, hg, h1, h2, h3, h4⟩
  · exact ⟨none, 0, by rw [hn], by omega, fun he => absurd (List.eq_nil_of_length_eq_zero hn) he⟩
  · refine ⟨_, cap, rfl, h1, fun _ => ⟨g, 0, rfl, (Array.getElem?_eq_some_iff.1 hg).1, fun j v hv => ?_⟩⟩
    have hj : j < (l.map b8).length := by
      rcases Nat.lt_or_ge j (l.map b8).length with h | h
      · exact h
      · rw [List.getElem?_eq_none h] at hv; cases hv
    have hj' : j < l.length := by simpa using hj
    rw [Nat.zero_add]
    simp only [World.cell?, hg]
    rw [← hv, ← h4]
    simp [hj']
section
variable {w : World} {ops : Array Oper} {Q : Exit → Act → World → Prop} {rest : List Oper} {o : Oper} {a : Act} {α : Type}
end
end Go.Proofs.YtfdjmdfaidiliaaDoor
