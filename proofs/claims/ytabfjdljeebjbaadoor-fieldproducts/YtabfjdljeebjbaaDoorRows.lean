/-
  NARROWER THAN 'FOR EVERY INPUT', by the rows' own cells (each row's printed sentence says how): FieldSmalls: laid · FieldLeast: laid · FieldProducts: laid · FieldBytes: laid · FieldRing: laid · FieldInverse: laid · FieldRoots: laid · FieldBack: laid · FieldLaws: laid.
  DERIVED. THE GIVEN ROWS OF THIS SEAT. 9 by the template 'for every input the law returns true; each argument reads behind the call as it read before'; 0 by the template 'total and deterministic' (their statements: YtabfjdljeebjbaaDoorTotals.lean).
  GIVEN WITH THE SEED: the statements are not yours to turn. If you find one false, say at which input.
  Laid BY PROGRAM, IN A SANDBOX (cutbox-rows.mjs): the forced cells as the released guide's own fill.sh prints them over the translation 4ca90a3b056a0b50… (all of the seat's roots in one cut). By AI agents, Wed Nov 11 2026. No macro, syntax, notation, axiom, sorry.
-/
import Derived.Test.YtabfjdljeebjbaaDoorChecked
import GoSem.Claim
import GoSem.ClaimJoined
import GoSem.ClaimMapViews
import Derived.JoinedTies
import Derived.KernelRfl
namespace Go.Proofs.YtabfjdljeebjbaaDoor
/- THE CELL 'sum', in the pinned program and in every row, IS THE sha256 OF THE DUMP (.gsa) THAT YtabfjdljeebjbaaDoorProg.lean LOADS. Nothing in Lean hashes anything: it is a label: what it is worth is what the hold of that sum in a sandbox is worth. -/
noncomputable def Tryd.pinned : Pinned := { name := "ytabfjdljeebjbaadoor", sum := "4ca90a3b056a0b50c491c3b18f353cbf0c1d917a3a152210e908987e78d5c363", checked := Tryd.checked }
namespace Rows
def none {H : Type} : Left H := { results := [], args := [] }

/- WHAT THE LISTED PACKAGE-LEVEL VARIABLES READ AS WHEN THE CALL BEGINS. Each datum BY PROGRAM (the guide's laid-datum.mjs) off the statement by which the dump's own 'gosem.cut.vars' lays the variable. In a bare row this is a premise. The card (YtabfjdljeebjbaaDoorCards.lean) ties it to the program's text. -/
def laid_keyward_field_order {H : Type} : DataW H := .agg [.lit (.int .u64 18446744073709551597), .lit (.int .u64 18446744073709551615), .lit (.int .u64 18446744073709551615), .lit (.int .u64 9223372036854775807)]
def laid_keyward_field_rootPower {H : Type} : DataW H := .agg [.lit (.int .u64 18446744073709551613), .lit (.int .u64 18446744073709551615), .lit (.int .u64 18446744073709551615), .lit (.int .u64 1152921504606846975)]
def laid_keyward_field_minusPower {H : Type} : DataW H := .agg [.lit (.int .u64 18446744073709551611), .lit (.int .u64 18446744073709551615), .lit (.int .u64 18446744073709551615), .lit (.int .u64 2305843009213693951)]
def laid_keyward_field_lessTwo {H : Type} : DataW H := .agg [.lit (.int .u64 18446744073709551595), .lit (.int .u64 18446744073709551615), .lit (.int .u64 18446744073709551615), .lit (.int .u64 9223372036854775807)]

/-- 'keywardlaw01.FieldSmalls': WHATEVER THE INPUT: true; the input reads as it did. -/
def fieldSmallsSpec : ChangeSpec := { name := "fieldSmalls", fn := fun _ => fun
  | [d1, d2] => { results := [.lit (.bool true)], args := [d1, d2] }
  | _ => none }
def fieldSmallsRow : OpenClaim := { program := "ytabfjdljeebjbaadoor", sum := "4ca90a3b056a0b50c491c3b18f353cbf0c1d917a3a152210e908987e78d5c363", func := "keyward/keywardlaw01.FieldSmalls", spec := "fieldSmalls", inPlace := ["math/bits.Add64", "math/bits.Sub64"], named := ["keyward/field.order", "keyward/field.minusPower", "keyward/field.rootPower"], apart := false, laid := [("keyward/field.order", laid_keyward_field_order), ("keyward/field.rootPower", laid_keyward_field_rootPower), ("keyward/field.minusPower", laid_keyward_field_minusPower)] }
def FieldSmallsSaid : Prop := fieldSmallsRow.holds Tryd.pinned (OpenSpec.ofChange fieldSmallsSpec)

/-- ITS FALSE NEIGHBOUR: 'it returns false'. Refute it at one input. -/
def fieldSmallsWrong : ChangeSpec := { name := "fieldSmalls", fn := fun _ => fun
  | [d1, d2] => { results := [.lit (.bool false)], args := [d1, d2] }
  | _ => none }
def FieldSmallsWrongFalsely : Prop := fieldSmallsRow.holds Tryd.pinned (OpenSpec.ofChange fieldSmallsWrong)

/-- 'keywardlaw01.FieldLeast': WHATEVER THE INPUT: true; the input reads as it did. -/
def fieldLeastSpec : ChangeSpec := { name := "fieldLeast", fn := fun _ => fun
  | [d1, d2, d3, d4, d5] => { results := [.lit (.bool true)], args := [d1, d2, d3, d4, d5] }
  | _ => none }
def fieldLeastRow : OpenClaim := { program := "ytabfjdljeebjbaadoor", sum := "4ca90a3b056a0b50c491c3b18f353cbf0c1d917a3a152210e908987e78d5c363", func := "keyward/keywardlaw01.FieldLeast", spec := "fieldLeast", inPlace := ["math/bits.Add64", "math/bits.Sub64"], named := ["keyward/field.order", "keyward/field.minusPower", "keyward/field.rootPower", "keyward/field.lessTwo"], apart := false, laid := [("keyward/field.order", laid_keyward_field_order), ("keyward/field.lessTwo", laid_keyward_field_lessTwo), ("keyward/field.rootPower", laid_keyward_field_rootPower), ("keyward/field.minusPower", laid_keyward_field_minusPower)] }
def FieldLeastSaid : Prop := fieldLeastRow.holds Tryd.pinned (OpenSpec.ofChange fieldLeastSpec)

/-- ITS FALSE NEIGHBOUR: 'it returns false'. Refute it at one input. -/
def fieldLeastWrong : ChangeSpec := { name := "fieldLeast", fn := fun _ => fun
  | [d1, d2, d3, d4, d5] => { results := [.lit (.bool false)], args := [d1, d2, d3, d4, d5] }
  | _ => none }
def FieldLeastWrongFalsely : Prop := fieldLeastRow.holds Tryd.pinned (OpenSpec.ofChange fieldLeastWrong)

/-- 'keywardlaw01.FieldProducts': WHATEVER THE INPUT: true; the input reads as it did. -/
def fieldProductsSpec : ChangeSpec := { name := "fieldProducts", fn := fun _ => fun
  | [d1, d2, d3, d4, d5, d6] => { results := [.lit (.bool true)], args := [d1, d2, d3, d4, d5, d6] }
  | _ => none }
def fieldProductsRow : OpenClaim := { program := "ytabfjdljeebjbaadoor", sum := "4ca90a3b056a0b50c491c3b18f353cbf0c1d917a3a152210e908987e78d5c363", func := "keyward/keywardlaw01.FieldProducts", spec := "fieldProducts", inPlace := ["math/bits.Add64", "math/bits.Sub64"], recurses := true, named := ["keyward/field.order", "keyward/field.minusPower", "keyward/field.rootPower"], apart := false, laid := [("keyward/field.order", laid_keyward_field_order), ("keyward/field.rootPower", laid_keyward_field_rootPower), ("keyward/field.minusPower", laid_keyward_field_minusPower)] }
def FieldProductsSaid : Prop := fieldProductsRow.holds Tryd.pinned (OpenSpec.ofChange fieldProductsSpec)

/-- ITS FALSE NEIGHBOUR: 'it returns false'. Refute it at one input. -/
def fieldProductsWrong : ChangeSpec := { name := "fieldProducts", fn := fun _ => fun
  | [d1, d2, d3, d4, d5, d6] => { results := [.lit (.bool false)], args := [d1, d2, d3, d4, d5, d6] }
  | _ => none }
def FieldProductsWrongFalsely : Prop := fieldProductsRow.holds Tryd.pinned (OpenSpec.ofChange fieldProductsWrong)

/-- 'keywardlaw01.FieldBytes': WHATEVER THE INPUT: true; the input reads as it did. -/
def fieldBytesSpec : ChangeSpec := { name := "fieldBytes", fn := fun _ => fun
  | [d1, d2, d3, d4] => { results := [.lit (.bool true)], args := [d1, d2, d3, d4] }
  | _ => none }
def fieldBytesRow : OpenClaim := { program := "ytabfjdljeebjbaadoor", sum := "4ca90a3b056a0b50c491c3b18f353cbf0c1d917a3a152210e908987e78d5c363", func := "keyward/keywardlaw01.FieldBytes", spec := "fieldBytes", inPlace := ["math/bits.Add64", "math/bits.Sub64"], recurses := true, named := ["keyward/field.order", "keyward/field.minusPower", "keyward/field.rootPower"], apart := false, laid := [("keyward/field.order", laid_keyward_field_order), ("keyward/field.rootPower", laid_keyward_field_rootPower), ("keyward/field.minusPower", laid_keyward_field_minusPower)] }
def FieldBytesSaid : Prop := fieldBytesRow.holds Tryd.pinned (OpenSpec.ofChange fieldBytesSpec)

/-- ITS FALSE NEIGHBOUR: 'it returns false'. Refute it at one input. -/
def fieldBytesWrong : ChangeSpec := { name := "fieldBytes", fn := fun _ => fun
  | [d1, d2, d3, d4] => { results := [.lit (.bool false)], args := [d1, d2, d3, d4] }
  | _ => none }
def FieldBytesWrongFalsely : Prop := fieldBytesRow.holds Tryd.pinned (OpenSpec.ofChange fieldBytesWrong)

/-- 'keywardlaw01.FieldRing': WHATEVER THE INPUT: true; the input reads as it did. -/
def fieldRingSpec : ChangeSpec := { name := "fieldRing", fn := fun _ => fun
  | [d1, d2, d3] => { results := [.lit (.bool true)], args := [d1, d2, d3] }
  | _ => none }
def fieldRingRow : OpenClaim := { program := "ytabfjdljeebjbaadoor", sum := "4ca90a3b056a0b50c491c3b18f353cbf0c1d917a3a152210e908987e78d5c363", func := "keyward/keywardlaw01.FieldRing", spec := "fieldRing", inPlace := ["math/bits.Add64", "math/bits.Sub64"], named := ["keyward/field.order", "keyward/field.minusPower", "keyward/field.rootPower"], apart := false, laid := [("keyward/field.order", laid_keyward_field_order), ("keyward/field.rootPower", laid_keyward_field_rootPower), ("keyward/field.minusPower", laid_keyward_field_minusPower)] }
def FieldRingSaid : Prop := fieldRingRow.holds Tryd.pinned (OpenSpec.ofChange fieldRingSpec)

/-- ITS FALSE NEIGHBOUR: 'it returns false'. Refute it at one input. -/
def fieldRingWrong : ChangeSpec := { name := "fieldRing", fn := fun _ => fun
  | [d1, d2, d3] => { results := [.lit (.bool false)], args := [d1, d2, d3] }
  | _ => none }
def FieldRingWrongFalsely : Prop := fieldRingRow.holds Tryd.pinned (OpenSpec.ofChange fieldRingWrong)

/-- 'keywardlaw01.FieldInverse': WHATEVER THE INPUT: true; the input reads as it did. -/
def fieldInverseSpec : ChangeSpec := { name := "fieldInverse", fn := fun _ => fun
  | [d1, d2, d3, d4] => { results := [.lit (.bool true)], args := [d1, d2, d3, d4] }
  | _ => none }
def fieldInverseRow : OpenClaim := { program := "ytabfjdljeebjbaadoor", sum := "4ca90a3b056a0b50c491c3b18f353cbf0c1d917a3a152210e908987e78d5c363", func := "keyward/keywardlaw01.FieldInverse", spec := "fieldInverse", inPlace := ["math/bits.Add64", "math/bits.Sub64"], named := ["keyward/field.lessTwo", "keyward/field.order", "keyward/field.minusPower", "keyward/field.rootPower"], apart := false, laid := [("keyward/field.order", laid_keyward_field_order), ("keyward/field.lessTwo", laid_keyward_field_lessTwo), ("keyward/field.rootPower", laid_keyward_field_rootPower), ("keyward/field.minusPower", laid_keyward_field_minusPower)] }
def FieldInverseSaid : Prop := fieldInverseRow.holds Tryd.pinned (OpenSpec.ofChange fieldInverseSpec)

/-- ITS FALSE NEIGHBOUR: 'it returns false'. Refute it at one input. -/
def fieldInverseWrong : ChangeSpec := { name := "fieldInverse", fn := fun _ => fun
  | [d1, d2, d3, d4] => { results := [.lit (.bool false)], args := [d1, d2, d3, d4] }
  | _ => none }
def FieldInverseWrongFalsely : Prop := fieldInverseRow.holds Tryd.pinned (OpenSpec.ofChange fieldInverseWrong)

/-- 'keywardlaw01.FieldRoots': WHATEVER THE INPUT: true; the input reads as it did. -/
def fieldRootsSpec : ChangeSpec := { name := "fieldRoots", fn := fun _ => fun
  | [d1, d2] => { results := [.lit (.bool true)], args := [d1, d2] }
  | _ => none }
def fieldRootsRow : OpenClaim := { program := "ytabfjdljeebjbaadoor", sum := "4ca90a3b056a0b50c491c3b18f353cbf0c1d917a3a152210e908987e78d5c363", func := "keyward/keywardlaw01.FieldRoots", spec := "fieldRoots", inPlace := ["math/bits.Add64", "math/bits.Sub64"], named := ["keyward/field.order", "keyward/field.minusPower", "keyward/field.rootPower"], apart := false, laid := [("keyward/field.order", laid_keyward_field_order), ("keyward/field.rootPower", laid_keyward_field_rootPower), ("keyward/field.minusPower", laid_keyward_field_minusPower)] }
def FieldRootsSaid : Prop := fieldRootsRow.holds Tryd.pinned (OpenSpec.ofChange fieldRootsSpec)

/-- ITS FALSE NEIGHBOUR: 'it returns false'. Refute it at one input. -/
def fieldRootsWrong : ChangeSpec := { name := "fieldRoots", fn := fun _ => fun
  | [d1, d2] => { results := [.lit (.bool false)], args := [d1, d2] }
  | _ => none }
def FieldRootsWrongFalsely : Prop := fieldRootsRow.holds Tryd.pinned (OpenSpec.ofChange fieldRootsWrong)

/-- 'keywardlaw01.FieldBack': WHATEVER THE INPUT: true; the input reads as it did. -/
def fieldBackSpec : ChangeSpec := { name := "fieldBack", fn := fun _ => fun
  | [d1, d2] => { results := [.lit (.bool true)], args := [d1, d2] }
  | _ => none }
def fieldBackRow : OpenClaim := { program := "ytabfjdljeebjbaadoor", sum := "4ca90a3b056a0b50c491c3b18f353cbf0c1d917a3a152210e908987e78d5c363", func := "keyward/keywardlaw01.FieldBack", spec := "fieldBack", inPlace := ["math/bits.Add64", "math/bits.Sub64"], named := ["keyward/field.order", "keyward/field.minusPower", "keyward/field.rootPower"], apart := false, laid := [("keyward/field.order", laid_keyward_field_order), ("keyward/field.rootPower", laid_keyward_field_rootPower), ("keyward/field.minusPower", laid_keyward_field_minusPower)] }
def FieldBackSaid : Prop := fieldBackRow.holds Tryd.pinned (OpenSpec.ofChange fieldBackSpec)

/-- ITS FALSE NEIGHBOUR: 'it returns false'. Refute it at one input. -/
def fieldBackWrong : ChangeSpec := { name := "fieldBack", fn := fun _ => fun
  | [d1, d2] => { results := [.lit (.bool false)], args := [d1, d2] }
  | _ => none }
def FieldBackWrongFalsely : Prop := fieldBackRow.holds Tryd.pinned (OpenSpec.ofChange fieldBackWrong)

/-- 'keywardlaw01.FieldLaws': WHATEVER THE INPUT: true; the input reads as it did. -/
def fieldLawsSpec : ChangeSpec := { name := "fieldLaws", fn := fun _ => fun
  | [d1, d2, d3] => { results := [.lit (.bool true)], args := [d1, d2, d3] }
  | _ => none }
def fieldLawsRow : OpenClaim := { program := "ytabfjdljeebjbaadoor", sum := "4ca90a3b056a0b50c491c3b18f353cbf0c1d917a3a152210e908987e78d5c363", func := "keyward/keywardlaw01.FieldLaws", spec := "fieldLaws", inPlace := ["math/bits.Add64", "math/bits.Sub64"], named := ["keyward/field.order", "keyward/field.minusPower", "keyward/field.rootPower"], apart := false, laid := [("keyward/field.order", laid_keyward_field_order), ("keyward/field.rootPower", laid_keyward_field_rootPower), ("keyward/field.minusPower", laid_keyward_field_minusPower)] }
def FieldLawsSaid : Prop := fieldLawsRow.holds Tryd.pinned (OpenSpec.ofChange fieldLawsSpec)

/-- ITS FALSE NEIGHBOUR: 'it returns false'. Refute it at one input. -/
def fieldLawsWrong : ChangeSpec := { name := "fieldLaws", fn := fun _ => fun
  | [d1, d2, d3] => { results := [.lit (.bool false)], args := [d1, d2, d3] }
  | _ => none }
def FieldLawsWrongFalsely : Prop := fieldLawsRow.holds Tryd.pinned (OpenSpec.ofChange fieldLawsWrong)

/- THE SECOND FORM. 'bulk': how many values and letters a reading holds, each counted each time it is reached (what is shared counts as often as it is met; a slice's spare places count too). A statement '..UptoSaid' is the law's where the arguments, and the package variables that the reading takes, are together of bulk at most 1048576: NARROWER than '..Said'. Prove '..Said' where nothing that the law and all that it calls make is longer than what came in: it says more and counts as full. Else prove '..UptoSaid'. A law counts once. -/
mutual
def uptoBulk {H : Type} : DataW H → Nat
  | .lit (.string bytes) => bytes.length + 1
  | .lit _ => 1
  | .nil => 1
  | .ptr d => uptoBulk d + 1
  | .slice elems spare => uptoBulkAll elems + uptoBulkAll spare + 1
  | .agg parts => uptoBulkAll parts + 1
  | .iface _ d => uptoBulk d + 1
  | .map entries => uptoBulkEntries entries + 1
  | .held _ => 1
def uptoBulkAll {H : Type} : List (DataW H) → Nat
  | [] => 0
  | d :: r => uptoBulk d + uptoBulkAll r
def uptoBulkEntries {H : Type} : List (Lit × DataW H) → Nat
  | [] => 0
  | x :: r => uptoBulkEntry x + uptoBulkEntries r
def uptoBulkEntry {H : Type} : Lit × DataW H → Nat
  | (.string bytes, d) => bytes.length + uptoBulk d + 1
  | (_, d) => uptoBulk d + 1
 end
def uptoSmall : (H : Type) → List (DataW H) → Bool := fun _ ds => decide (uptoBulkAll ds ≤ 1048576)
def OpenSpec.upto (s : _root_.Go.ChangeSpec) : _root_.Go.OpenSpec := { _root_.Go.OpenSpec.ofChange s with cond := some uptoSmall }

/-- 'keywardlaw01.FieldSmalls', WHERE WHAT IT READS IS OF BULK AT MOST 1048576: true; the input reads as it did. -/
def fieldSmallsUptoRow : OpenClaim := { program := "ytabfjdljeebjbaadoor", sum := "4ca90a3b056a0b50c491c3b18f353cbf0c1d917a3a152210e908987e78d5c363", func := "keyward/keywardlaw01.FieldSmalls", spec := "fieldSmalls", inPlace := ["math/bits.Add64", "math/bits.Sub64"], named := ["keyward/field.order", "keyward/field.minusPower", "keyward/field.rootPower"], apart := false, laid := [("keyward/field.order", laid_keyward_field_order), ("keyward/field.rootPower", laid_keyward_field_rootPower), ("keyward/field.minusPower", laid_keyward_field_minusPower)], narrowed := true }
def FieldSmallsUptoSaid : Prop := fieldSmallsUptoRow.holds Tryd.pinned (OpenSpec.upto fieldSmallsSpec)

/-- 'keywardlaw01.FieldLeast', WHERE WHAT IT READS IS OF BULK AT MOST 1048576: true; the input reads as it did. -/
def fieldLeastUptoRow : OpenClaim := { program := "ytabfjdljeebjbaadoor", sum := "4ca90a3b056a0b50c491c3b18f353cbf0c1d917a3a152210e908987e78d5c363", func := "keyward/keywardlaw01.FieldLeast", spec := "fieldLeast", inPlace := ["math/bits.Add64", "math/bits.Sub64"], named := ["keyward/field.order", "keyward/field.minusPower", "keyward/field.rootPower", "keyward/field.lessTwo"], apart := false, laid := [("keyward/field.order", laid_keyward_field_order), ("keyward/field.lessTwo", laid_keyward_field_lessTwo), ("keyward/field.rootPower", laid_keyward_field_rootPower), ("keyward/field.minusPower", laid_keyward_field_minusPower)], narrowed := true }
def FieldLeastUptoSaid : Prop := fieldLeastUptoRow.holds Tryd.pinned (OpenSpec.upto fieldLeastSpec)

/-- 'keywardlaw01.FieldProducts', WHERE WHAT IT READS IS OF BULK AT MOST 1048576: true; the input reads as it did. -/
def fieldProductsUptoRow : OpenClaim := { program := "ytabfjdljeebjbaadoor", sum := "4ca90a3b056a0b50c491c3b18f353cbf0c1d917a3a152210e908987e78d5c363", func := "keyward/keywardlaw01.FieldProducts", spec := "fieldProducts", inPlace := ["math/bits.Add64", "math/bits.Sub64"], recurses := true, named := ["keyward/field.order", "keyward/field.minusPower", "keyward/field.rootPower"], apart := false, laid := [("keyward/field.order", laid_keyward_field_order), ("keyward/field.rootPower", laid_keyward_field_rootPower), ("keyward/field.minusPower", laid_keyward_field_minusPower)], narrowed := true }
def FieldProductsUptoSaid : Prop := fieldProductsUptoRow.holds Tryd.pinned (OpenSpec.upto fieldProductsSpec)

/-- 'keywardlaw01.FieldBytes', WHERE WHAT IT READS IS OF BULK AT MOST 1048576: true; the input reads as it did. -/
def fieldBytesUptoRow : OpenClaim := { program := "ytabfjdljeebjbaadoor", sum := "4ca90a3b056a0b50c491c3b18f353cbf0c1d917a3a152210e908987e78d5c363", func := "keyward/keywardlaw01.FieldBytes", spec := "fieldBytes", inPlace := ["math/bits.Add64", "math/bits.Sub64"], recurses := true, named := ["keyward/field.order", "keyward/field.minusPower", "keyward/field.rootPower"], apart := false, laid := [("keyward/field.order", laid_keyward_field_order), ("keyward/field.rootPower", laid_keyward_field_rootPower), ("keyward/field.minusPower", laid_keyward_field_minusPower)], narrowed := true }
def FieldBytesUptoSaid : Prop := fieldBytesUptoRow.holds Tryd.pinned (OpenSpec.upto fieldBytesSpec)

/-- 'keywardlaw01.FieldRing', WHERE WHAT IT READS IS OF BULK AT MOST 1048576: true; the input reads as it did. -/
def fieldRingUptoRow : OpenClaim := { program := "ytabfjdljeebjbaadoor", sum := "4ca90a3b056a0b50c491c3b18f353cbf0c1d917a3a152210e908987e78d5c363", func := "keyward/keywardlaw01.FieldRing", spec := "fieldRing", inPlace := ["math/bits.Add64", "math/bits.Sub64"], named := ["keyward/field.order", "keyward/field.minusPower", "keyward/field.rootPower"], apart := false, laid := [("keyward/field.order", laid_keyward_field_order), ("keyward/field.rootPower", laid_keyward_field_rootPower), ("keyward/field.minusPower", laid_keyward_field_minusPower)], narrowed := true }
def FieldRingUptoSaid : Prop := fieldRingUptoRow.holds Tryd.pinned (OpenSpec.upto fieldRingSpec)

/-- 'keywardlaw01.FieldInverse', WHERE WHAT IT READS IS OF BULK AT MOST 1048576: true; the input reads as it did. -/
def fieldInverseUptoRow : OpenClaim := { program := "ytabfjdljeebjbaadoor", sum := "4ca90a3b056a0b50c491c3b18f353cbf0c1d917a3a152210e908987e78d5c363", func := "keyward/keywardlaw01.FieldInverse", spec := "fieldInverse", inPlace := ["math/bits.Add64", "math/bits.Sub64"], named := ["keyward/field.lessTwo", "keyward/field.order", "keyward/field.minusPower", "keyward/field.rootPower"], apart := false, laid := [("keyward/field.order", laid_keyward_field_order), ("keyward/field.lessTwo", laid_keyward_field_lessTwo), ("keyward/field.rootPower", laid_keyward_field_rootPower), ("keyward/field.minusPower", laid_keyward_field_minusPower)], narrowed := true }
def FieldInverseUptoSaid : Prop := fieldInverseUptoRow.holds Tryd.pinned (OpenSpec.upto fieldInverseSpec)

/-- 'keywardlaw01.FieldRoots', WHERE WHAT IT READS IS OF BULK AT MOST 1048576: true; the input reads as it did. -/
def fieldRootsUptoRow : OpenClaim := { program := "ytabfjdljeebjbaadoor", sum := "4ca90a3b056a0b50c491c3b18f353cbf0c1d917a3a152210e908987e78d5c363", func := "keyward/keywardlaw01.FieldRoots", spec := "fieldRoots", inPlace := ["math/bits.Add64", "math/bits.Sub64"], named := ["keyward/field.order", "keyward/field.minusPower", "keyward/field.rootPower"], apart := false, laid := [("keyward/field.order", laid_keyward_field_order), ("keyward/field.rootPower", laid_keyward_field_rootPower), ("keyward/field.minusPower", laid_keyward_field_minusPower)], narrowed := true }
def FieldRootsUptoSaid : Prop := fieldRootsUptoRow.holds Tryd.pinned (OpenSpec.upto fieldRootsSpec)

/-- 'keywardlaw01.FieldBack', WHERE WHAT IT READS IS OF BULK AT MOST 1048576: true; the input reads as it did. -/
def fieldBackUptoRow : OpenClaim := { program := "ytabfjdljeebjbaadoor", sum := "4ca90a3b056a0b50c491c3b18f353cbf0c1d917a3a152210e908987e78d5c363", func := "keyward/keywardlaw01.FieldBack", spec := "fieldBack", inPlace := ["math/bits.Add64", "math/bits.Sub64"], named := ["keyward/field.order", "keyward/field.minusPower", "keyward/field.rootPower"], apart := false, laid := [("keyward/field.order", laid_keyward_field_order), ("keyward/field.rootPower", laid_keyward_field_rootPower), ("keyward/field.minusPower", laid_keyward_field_minusPower)], narrowed := true }
def FieldBackUptoSaid : Prop := fieldBackUptoRow.holds Tryd.pinned (OpenSpec.upto fieldBackSpec)

/-- 'keywardlaw01.FieldLaws', WHERE WHAT IT READS IS OF BULK AT MOST 1048576: true; the input reads as it did. -/
def fieldLawsUptoRow : OpenClaim := { program := "ytabfjdljeebjbaadoor", sum := "4ca90a3b056a0b50c491c3b18f353cbf0c1d917a3a152210e908987e78d5c363", func := "keyward/keywardlaw01.FieldLaws", spec := "fieldLaws", inPlace := ["math/bits.Add64", "math/bits.Sub64"], named := ["keyward/field.order", "keyward/field.minusPower", "keyward/field.rootPower"], apart := false, laid := [("keyward/field.order", laid_keyward_field_order), ("keyward/field.rootPower", laid_keyward_field_rootPower), ("keyward/field.minusPower", laid_keyward_field_minusPower)], narrowed := true }
def FieldLawsUptoSaid : Prop := fieldLawsUptoRow.holds Tryd.pinned (OpenSpec.upto fieldLawsSpec)

end Rows
end Go.Proofs.YtabfjdljeebjbaaDoor
