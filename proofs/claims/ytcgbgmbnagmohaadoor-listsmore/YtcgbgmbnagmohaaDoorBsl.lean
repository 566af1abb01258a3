import Derived.Test.YtcgbgmbnagmohaaDoorGenA
import Derived.Test.YtcgbgmbnagmohaaDoorSl
import Derived.Great.BuildSlice
import Derived.Lib.SlBytesConst
namespace Go.Proofs.YtcgbgmbnagmohaaDoor
open Go.RowKit
set_option maxRecDepth 20000
section
variable {w : World} {ρ : Operand → Value} {o : Oper} {x y : Operand}
theorem run_cvb {C : Array Value} {n c : Nat} (ho : o.op = .convert 22 22 x) (hx : ρ x = .slice (some ⟨w.heap.size, 0, none⟩) n c) : (execOp ρ o).run Tryd.prog (w.alloc (.cells C 5)) = .ok (.value (.slice (some ⟨w.heap.size, 0, none⟩) n c)) (w.alloc (.cells C 5 (C.size, C.size + 1))) := by
  have h := Lib.run_convert_bytes_const (P := Tryd.prog) w 22 5 C n c Tryd.underlying22 Tryd.underlying5
  unfold execOp
  simp only [ho, hx, Sem.run_bind, h]
  simp [go_sem]
end
section
variable {w : World} {ρ : Operand → Value} {o : Oper} {x y : Operand} {t t' : TypeId}
end
end Go.Proofs.YtcgbgmbnagmohaaDoor
