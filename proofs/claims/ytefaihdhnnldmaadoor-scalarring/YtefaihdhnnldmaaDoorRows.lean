/-
  NARROWER THAN 'FOR EVERY INPUT', by the rows' own cells (each row's printed sentence says how): ScalarSmalls: laid · ScalarReduces: laid · ScalarMads: laid · ScalarRing: laid · ScalarPoints: laid.
  DERIVED. THE GIVEN ROWS OF THIS SEAT. 5 by the template 'for every input the law returns true; each argument reads behind the call as it read before'; 0 by the template 'total and deterministic' (their statements: YtefaihdhnnldmaaDoorTotals.lean).
  GIVEN WITH THE SEED: the statements are not yours to turn. If you find one false, say at which input.
  Laid BY PROGRAM, IN A SANDBOX (cutbox-rows.mjs): the forced cells as the released guide's own fill.sh prints them over the translation 05849e37f6556d72… (all of the seat's roots in one cut). By AI agents, Wed Nov 11 2026. No macro, syntax, notation, axiom, sorry.
-/
import Derived.Test.YtefaihdhnnldmaaDoorChecked
import GoSem.Claim
import GoSem.ClaimJoined
import GoSem.ClaimMapViews
import Derived.JoinedTies
import Derived.KernelRfl
namespace Go.Proofs.YtefaihdhnnldmaaDoor
/- THE CELL 'sum', in the pinned program and in every row, IS THE sha256 OF THE DUMP (.gsa) THAT YtefaihdhnnldmaaDoorProg.lean LOADS. Nothing in Lean hashes anything: it is a label: what it is worth is what the hold of that sum in a sandbox is worth. -/
noncomputable def Tryd.pinned : Pinned := { name := "ytefaihdhnnldmaadoor", sum := "05849e37f6556d727468bca19729ec65456dba93147f5bae63de32210df92c60", checked := Tryd.checked }
namespace Rows
def none {H : Type} : Left H := { results := [], args := [] }

/- WHAT THE LISTED PACKAGE-LEVEL VARIABLES READ AS WHEN THE CALL BEGINS. Each datum BY PROGRAM (the guide's laid-datum.mjs) off the statement by which the dump's own 'gosem.cut.vars' lays the variable. In a bare row this is a premise. The card (YtefaihdhnnldmaaDoorCards.lean) ties it to the program's text. -/
def laid_keyward_scalar_order {H : Type} : DataW H := .agg [.lit (.int .u64 6346243789798364141), .lit (.int .u64 1503914060200516822), .lit (.int .u64 0), .lit (.int .u64 1152921504606846976)]
def laid_keyward_field_order {H : Type} : DataW H := .agg [.lit (.int .u64 18446744073709551597), .lit (.int .u64 18446744073709551615), .lit (.int .u64 18446744073709551615), .lit (.int .u64 9223372036854775807)]
def laid_keyward_field_lessTwo {H : Type} : DataW H := .agg [.lit (.int .u64 18446744073709551595), .lit (.int .u64 18446744073709551615), .lit (.int .u64 18446744073709551615), .lit (.int .u64 9223372036854775807)]
def laid_keyward_edwards_curve {H : Type} : DataW H := .agg [.lit (.int .u64 8496970652267935907), .lit (.int .u64 31536524315187371), .lit (.int .u64 10144147576115030168), .lit (.int .u64 5909686906226998899)]
def laid_keyward_edwards_base {H : Type} : DataW H := .agg [.agg [.lit (.int .u64 14507833142362363162), .lit (.int .u64 7578651490590762930), .lit (.int .u64 13881468655802702940), .lit (.int .u64 2407515759118799870)], .agg [.lit (.int .u64 7378697629483820632), .lit (.int .u64 7378697629483820646), .lit (.int .u64 7378697629483820646), .lit (.int .u64 7378697629483820646)]]

/-- 'keywardlaw08.ScalarSmalls': WHATEVER THE INPUT: true; the input reads as it did. -/
def scalarSmallsSpec : ChangeSpec := { name := "scalarSmalls", fn := fun _ => fun
  | [d1, d2, d3] => { results := [.lit (.bool true)], args := [d1, d2, d3] }
  | _ => none }
def scalarSmallsRow : OpenClaim := { program := "ytefaihdhnnldmaadoor", sum := "05849e37f6556d727468bca19729ec65456dba93147f5bae63de32210df92c60", func := "keyward/keywardlaw08.ScalarSmalls", spec := "scalarSmalls", inPlace := ["math/bits.Add64", "math/bits.Sub64"], named := ["keyward/scalar.order"], apart := false, laid := [("keyward/scalar.order", laid_keyward_scalar_order)] }
def ScalarSmallsSaid : Prop := scalarSmallsRow.holds Tryd.pinned (OpenSpec.ofChange scalarSmallsSpec)

/-- ITS FALSE NEIGHBOUR: 'it returns false'. Refute it at one input. -/
def scalarSmallsWrong : ChangeSpec := { name := "scalarSmalls", fn := fun _ => fun
  | [d1, d2, d3] => { results := [.lit (.bool false)], args := [d1, d2, d3] }
  | _ => none }
def ScalarSmallsWrongFalsely : Prop := scalarSmallsRow.holds Tryd.pinned (OpenSpec.ofChange scalarSmallsWrong)

/-- 'keywardlaw08.ScalarReduces': WHATEVER THE INPUT: true; the input reads as it did. -/
def scalarReducesSpec : ChangeSpec := { name := "scalarReduces", fn := fun _ => fun
  | [d1, d2, d3] => { results := [.lit (.bool true)], args := [d1, d2, d3] }
  | _ => none }
def scalarReducesRow : OpenClaim := { program := "ytefaihdhnnldmaadoor", sum := "05849e37f6556d727468bca19729ec65456dba93147f5bae63de32210df92c60", func := "keyward/keywardlaw08.ScalarReduces", spec := "scalarReduces", inPlace := ["math/bits.Sub64", "math/bits.Add64"], named := ["keyward/scalar.order"], apart := false, laid := [("keyward/scalar.order", laid_keyward_scalar_order)] }
def ScalarReducesSaid : Prop := scalarReducesRow.holds Tryd.pinned (OpenSpec.ofChange scalarReducesSpec)

/-- ITS FALSE NEIGHBOUR: 'it returns false'. Refute it at one input. -/
def scalarReducesWrong : ChangeSpec := { name := "scalarReduces", fn := fun _ => fun
  | [d1, d2, d3] => { results := [.lit (.bool false)], args := [d1, d2, d3] }
  | _ => none }
def ScalarReducesWrongFalsely : Prop := scalarReducesRow.holds Tryd.pinned (OpenSpec.ofChange scalarReducesWrong)

/-- 'keywardlaw08.ScalarMads': WHATEVER THE INPUT: true; the input reads as it did. -/
def scalarMadsSpec : ChangeSpec := { name := "scalarMads", fn := fun _ => fun
  | [d1, d2, d3, d4] => { results := [.lit (.bool true)], args := [d1, d2, d3, d4] }
  | _ => none }
def scalarMadsRow : OpenClaim := { program := "ytefaihdhnnldmaadoor", sum := "05849e37f6556d727468bca19729ec65456dba93147f5bae63de32210df92c60", func := "keyward/keywardlaw08.ScalarMads", spec := "scalarMads", inPlace := ["math/bits.Sub64", "math/bits.Add64"], named := ["keyward/scalar.order"], apart := false, laid := [("keyward/scalar.order", laid_keyward_scalar_order)] }
def ScalarMadsSaid : Prop := scalarMadsRow.holds Tryd.pinned (OpenSpec.ofChange scalarMadsSpec)

/-- ITS FALSE NEIGHBOUR: 'it returns false'. Refute it at one input. -/
def scalarMadsWrong : ChangeSpec := { name := "scalarMads", fn := fun _ => fun
  | [d1, d2, d3, d4] => { results := [.lit (.bool false)], args := [d1, d2, d3, d4] }
  | _ => none }
def ScalarMadsWrongFalsely : Prop := scalarMadsRow.holds Tryd.pinned (OpenSpec.ofChange scalarMadsWrong)

/-- 'keywardlaw08.ScalarRing': WHATEVER THE INPUT: true; the input reads as it did. -/
def scalarRingSpec : ChangeSpec := { name := "scalarRing", fn := fun _ => fun
  | [d1, d2, d3, d4] => { results := [.lit (.bool true)], args := [d1, d2, d3, d4] }
  | _ => none }
def scalarRingRow : OpenClaim := { program := "ytefaihdhnnldmaadoor", sum := "05849e37f6556d727468bca19729ec65456dba93147f5bae63de32210df92c60", func := "keyward/keywardlaw08.ScalarRing", spec := "scalarRing", inPlace := ["math/bits.Sub64", "math/bits.Add64"], named := ["keyward/scalar.order"], apart := false, laid := [("keyward/scalar.order", laid_keyward_scalar_order)] }
def ScalarRingSaid : Prop := scalarRingRow.holds Tryd.pinned (OpenSpec.ofChange scalarRingSpec)

/-- ITS FALSE NEIGHBOUR: 'it returns false'. Refute it at one input. -/
def scalarRingWrong : ChangeSpec := { name := "scalarRing", fn := fun _ => fun
  | [d1, d2, d3, d4] => { results := [.lit (.bool false)], args := [d1, d2, d3, d4] }
  | _ => none }
def ScalarRingWrongFalsely : Prop := scalarRingRow.holds Tryd.pinned (OpenSpec.ofChange scalarRingWrong)

/-- 'keywardlaw08.ScalarPoints': WHATEVER THE INPUT: true; the input reads as it did. -/
def scalarPointsSpec : ChangeSpec := { name := "scalarPoints", fn := fun _ => fun
  | [d1, d2, d3] => { results := [.lit (.bool true)], args := [d1, d2, d3] }
  | _ => none }
def scalarPointsRow : OpenClaim := { program := "ytefaihdhnnldmaadoor", sum := "05849e37f6556d727468bca19729ec65456dba93147f5bae63de32210df92c60", func := "keyward/keywardlaw08.ScalarPoints", spec := "scalarPoints", inPlace := ["math/bits.Add64", "math/bits.Sub64"], recurses := true, named := ["keyward/edwards.base", "keyward/edwards.curve", "keyward/field.order", "keyward/field.lessTwo", "keyward/scalar.order"], apart := false, laid := [("keyward/field.order", laid_keyward_field_order), ("keyward/field.lessTwo", laid_keyward_field_lessTwo), ("keyward/edwards.curve", laid_keyward_edwards_curve), ("keyward/edwards.base", laid_keyward_edwards_base), ("keyward/scalar.order", laid_keyward_scalar_order)] }
def ScalarPointsSaid : Prop := scalarPointsRow.holds Tryd.pinned (OpenSpec.ofChange scalarPointsSpec)

/-- ITS FALSE NEIGHBOUR: 'it returns false'. Refute it at one input. -/
def scalarPointsWrong : ChangeSpec := { name := "scalarPoints", fn := fun _ => fun
  | [d1, d2, d3] => { results := [.lit (.bool false)], args := [d1, d2, d3] }
  | _ => none }
def ScalarPointsWrongFalsely : Prop := scalarPointsRow.holds Tryd.pinned (OpenSpec.ofChange scalarPointsWrong)

/- THE SECOND FORM. 'bulk': how many values and letters a reading holds, each counted each time it is reached (what is shared counts as often as it is met; a slice's spare places count too). A statement '..UptoSaid' is the law's where the arguments, and the package variables that the reading takes, are together of bulk at most 1048576: NARROWER than '..Said'. Prove '..Said' where nothing that the law and all that it calls make is longer than what came in: it says more and counts as full. Else prove '..UptoSaid'. A law counts once. -/
mutual
def uptoBulk {H : Type} : DataW H → Nat
  | .lit (.string bytes) => bytes.length + 1
  | .lit _ => 1
  | .nil => 1
  | .ptr d => uptoBulk d + 1
  | .slice elems spare => uptoBulkAll elems + uptoBulkAll spare + 1
  | .agg parts => uptoBulkAll parts + 1
  | .iface _ d => uptoBulk d + 1
  | .map entries => uptoBulkEntries entries + 1
  | .held _ => 1
def uptoBulkAll {H : Type} : List (DataW H) → Nat
  | [] => 0
  | d :: r => uptoBulk d + uptoBulkAll r
def uptoBulkEntries {H : Type} : List (Lit × DataW H) → Nat
  | [] => 0
  | x :: r => uptoBulkEntry x + uptoBulkEntries r
def uptoBulkEntry {H : Type} : Lit × DataW H → Nat
  | (.string bytes, d) => bytes.length + uptoBulk d + 1
  | (_, d) => uptoBulk d + 1
 end
def uptoSmall : (H : Type) → List (DataW H) → Bool := fun _ ds => decide (uptoBulkAll ds ≤ 1048576)
def OpenSpec.upto (s : _root_.Go.ChangeSpec) : _root_.Go.OpenSpec := { _root_.Go.OpenSpec.ofChange s with cond := some uptoSmall }

/-- 'keywardlaw08.ScalarSmalls', WHERE WHAT IT READS IS OF BULK AT MOST 1048576: true; the input reads as it did. -/
def scalarSmallsUptoRow : OpenClaim := { program := "ytefaihdhnnldmaadoor", sum := "05849e37f6556d727468bca19729ec65456dba93147f5bae63de32210df92c60", func := "keyward/keywardlaw08.ScalarSmalls", spec := "scalarSmalls", inPlace := ["math/bits.Add64", "math/bits.Sub64"], named := ["keyward/scalar.order"], apart := false, laid := [("keyward/scalar.order", laid_keyward_scalar_order)], narrowed := true }
def ScalarSmallsUptoSaid : Prop := scalarSmallsUptoRow.holds Tryd.pinned (OpenSpec.upto scalarSmallsSpec)

/-- 'keywardlaw08.ScalarReduces', WHERE WHAT IT READS IS OF BULK AT MOST 1048576: true; the input reads as it did. -/
def scalarReducesUptoRow : OpenClaim := { program := "ytefaihdhnnldmaadoor", sum := "05849e37f6556d727468bca19729ec65456dba93147f5bae63de32210df92c60", func := "keyward/keywardlaw08.ScalarReduces", spec := "scalarReduces", inPlace := ["math/bits.Sub64", "math/bits.Add64"], named := ["keyward/scalar.order"], apart := false, laid := [("keyward/scalar.order", laid_keyward_scalar_order)], narrowed := true }
def ScalarReducesUptoSaid : Prop := scalarReducesUptoRow.holds Tryd.pinned (OpenSpec.upto scalarReducesSpec)

/-- 'keywardlaw08.ScalarMads', WHERE WHAT IT READS IS OF BULK AT MOST 1048576: true; the input reads as it did. -/
def scalarMadsUptoRow : OpenClaim := { program := "ytefaihdhnnldmaadoor", sum := "05849e37f6556d727468bca19729ec65456dba93147f5bae63de32210df92c60", func := "keyward/keywardlaw08.ScalarMads", spec := "scalarMads", inPlace := ["math/bits.Sub64", "math/bits.Add64"], named := ["keyward/scalar.order"], apart := false, laid := [("keyward/scalar.order", laid_keyward_scalar_order)], narrowed := true }
def ScalarMadsUptoSaid : Prop := scalarMadsUptoRow.holds Tryd.pinned (OpenSpec.upto scalarMadsSpec)

/-- 'keywardlaw08.ScalarRing', WHERE WHAT IT READS IS OF BULK AT MOST 1048576: true; the input reads as it did. -/
def scalarRingUptoRow : OpenClaim := { program := "ytefaihdhnnldmaadoor", sum := "05849e37f6556d727468bca19729ec65456dba93147f5bae63de32210df92c60", func := "keyward/keywardlaw08.ScalarRing", spec := "scalarRing", inPlace := ["math/bits.Sub64", "math/bits.Add64"], named := ["keyward/scalar.order"], apart := false, laid := [("keyward/scalar.order", laid_keyward_scalar_order)], narrowed := true }
def ScalarRingUptoSaid : Prop := scalarRingUptoRow.holds Tryd.pinned (OpenSpec.upto scalarRingSpec)

/-- 'keywardlaw08.ScalarPoints', WHERE WHAT IT READS IS OF BULK AT MOST 1048576: true; the input reads as it did. -/
def scalarPointsUptoRow : OpenClaim := { program := "ytefaihdhnnldmaadoor", sum := "05849e37f6556d727468bca19729ec65456dba93147f5bae63de32210df92c60", func := "keyward/keywardlaw08.ScalarPoints", spec := "scalarPoints", inPlace := ["math/bits.Add64", "math/bits.Sub64"], recurses := true, named := ["keyward/edwards.base", "keyward/edwards.curve", "keyward/field.order", "keyward/field.lessTwo", "keyward/scalar.order"], apart := false, laid := [("keyward/field.order", laid_keyward_field_order), ("keyward/field.lessTwo", laid_keyward_field_lessTwo), ("keyward/edwards.curve", laid_keyward_edwards_curve), ("keyward/edwards.base", laid_keyward_edwards_base), ("keyward/scalar.order", laid_keyward_scalar_order)], narrowed := true }
def ScalarPointsUptoSaid : Prop := scalarPointsUptoRow.holds Tryd.pinned (OpenSpec.upto scalarPointsSpec)

end Rows
end Go.Proofs.YtefaihdhnnldmaaDoor
