/- Slices that are written down, guarded operations, small ones. -/
import Derived.Test.YtgioojahadlmhaaGenA
import Derived.Test.YtgioojahadlmhaaSl
import Derived.Great.BuildSlice
import Derived.Lib.SlBytesConst
namespace Go.Proofs.Ytgioojahadlmhaa
open Go.RowKit
set_option maxRecDepth 20000

section
variable {w : World} {ρ : Operand → Value} {o : Oper} {x y : Operand}
/-- A slice of bytes that was laid just now, marked as a text's. -/
theorem run_cvb {C : Array Value} {n c : Nat} (ho : o.op = .convert 22 22 x) (hx : ρ x = .slice (some ⟨w.heap.size, 0, none⟩) n c) : (execOp ρ o).run Try.prog (w.alloc (.cells C 5)) = .ok (.value (.slice (some ⟨w.heap.size, 0, none⟩) n c)) (w.alloc (.cells C 5 (C.size, C.size + 1))) := by
  have h := Lib.run_convert_bytes_const (P := Try.prog) w 22 5 C n c Try.underlying22 Try.underlying5
  unfold execOp
  simp only [ho, hx, Sem.run_bind, h]
  simp [go_sem]
theorem run_eq8 {t t' : TypeId} {a : BitVec 8} {n : Int} (ho : o.op = .binOp .eql t x y t') (hx : ρ x = b8 a) (hy : ρ y = .int .u8 n) (h : (a.toNat : Int) = n) : (execOp ρ o).run Try.prog w = .ok (.value (.bool true)) w := by
  rw [run_eql (k := .u8) (a := (a.toNat : Int)) (b := n) ho hx hy, h]; simp
end
theorem sl_zero {g k : Nat} {u : World} (h : Arr g (z8 k) u) : Sl (.slice (some ⟨g, 0, none⟩) k k) (List.replicate k 0) u := by
  have := Sl.arr (l := List.replicate k 0) h (c := k) (by simp)
  rwa [List.length_replicate] at this
section
variable {w : World} {ρ : Operand → Value} {o : Oper} {x y : Operand} {t t' : TypeId}
theorem run_eql0 {b : Bool} {a c : Int} (ho : o.op = .binOp .eql t x y t') (hx : ρ x = .int .i64 a) (hy : ρ y = .int .i64 c) (hb : (a == c) = b) : (execOp ρ o).run Try.prog w = .ok (.value (.bool b)) w := by
  rw [run_eql ho hx hy, hb]
end
end Go.Proofs.Ytgioojahadlmhaa
