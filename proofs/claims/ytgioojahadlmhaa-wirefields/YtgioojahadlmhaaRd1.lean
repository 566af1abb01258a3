/- What keywardref10's take answers; what is read, as plain lists. -/
import Derived.Test.YtgioojahadlmhaaGw
import Derived.Test.YtgioojahadlmhaaTy10
import Derived.Test.YtgioojahadlmhaaCpy
import Derived.Test.YtgioojahadlmhaaWr5
import Derived.Test.YtgioojahadlmhaaEdRes
namespace Go.Proofs.Ytgioojahadlmhaa
open Go.RowKit
set_option maxRecDepth 20000
attribute [local irreducible] wpList

theorem z8_lenR (n : Nat) : (z8 n).length = n := by unfold z8; rw [List.length_map, List.length_replicate]
section
variable {w : World} {ρ : Operand → Value} {o : Oper} {t t' : TypeId} {x y : Operand}
theorem run_xtrR {vs : Array Value} {i : Nat} {v : Value} (ho : o.op = .extract x i) (hx : ρ x = .tuple vs) (hv : vs[i]? = some v) : (execOp ρ o).run Try.prog w = .ok (.value v) w := by
  obtain ⟨dst, op, type, pos, after, guard⟩ := o
  subst ho
  go_simp
end
/-- The error behind so many bytes more. -/
def tkE (m i : Nat) (e : Int) (n : Nat) : Int := if e = 0 ∧ (m : Int) - (i : Int) < (n : Int) then 10 else e
def tkI (m i : Nat) (e : Int) (n : Nat) : Nat := if tkE m i e n = 0 then i + n else i
def tkV (ao : Option Addr) (m c i : Nat) (e : Int) (n : Nat) : Value := if tkE m i e n = 0 then cutO ao (i + n) c i else .slice none 0 0
end Go.Proofs.Ytgioojahadlmhaa
