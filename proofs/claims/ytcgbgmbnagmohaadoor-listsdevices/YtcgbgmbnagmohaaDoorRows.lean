/-
  NARROWER THAN 'FOR EVERY INPUT', by the rows' own cells (each row's printed sentence says how): ListsFind: laid · ListsDevices: laid · ListsRight: laid · ListsMore: laid.
  DERIVED. THE GIVEN ROWS OF THIS SEAT. 4 by the template 'for every input the law returns true; each argument reads behind the call as it read before'; 0 by the template 'total and deterministic' (their statements: YtcgbgmbnagmohaaDoorTotals.lean).
  GIVEN WITH THE SEED: the statements are not yours to turn. If you find one false, say at which input.
  Laid BY PROGRAM, IN A SANDBOX (cutbox-rows.mjs): the forced cells as the released guide's own fill.sh prints them over the translation fed91d6e718e6591… (all of the seat's roots in one cut). By AI agents, Wed Nov 11 2026. No macro, syntax, notation, axiom, sorry.
-/
import Derived.Test.YtcgbgmbnagmohaaDoorChecked
import GoSem.Claim
import GoSem.ClaimJoined
import GoSem.ClaimMapViews
import Derived.JoinedTies
import Derived.KernelRfl
namespace Go.Proofs.YtcgbgmbnagmohaaDoor
/- THE CELL 'sum', in the pinned program and in every row, IS THE sha256 OF THE DUMP (.gsa) THAT YtcgbgmbnagmohaaDoorProg.lean LOADS. Nothing in Lean hashes anything: it is a label: what it is worth is what the hold of that sum in a sandbox is worth. -/
noncomputable def Tryd.pinned : Pinned := { name := "ytcgbgmbnagmohaadoor", sum := "fed91d6e718e6591993568ff080f85d34568e68c41fd504bfdfe83290439be3f", checked := Tryd.checked }
namespace Rows
def none {H : Type} : Left H := { results := [], args := [] }

/- WHAT THE LISTED PACKAGE-LEVEL VARIABLES READ AS WHEN THE CALL BEGINS. Each datum BY PROGRAM (the guide's laid-datum.mjs) off the statement by which the dump's own 'gosem.cut.vars' lays the variable. In a bare row this is a premise. The card (YtcgbgmbnagmohaaDoorCards.lean) ties it to the program's text. -/
def laid_keyward_field_order {H : Type} : DataW H := .agg [.lit (.int .u64 18446744073709551597), .lit (.int .u64 18446744073709551615), .lit (.int .u64 18446744073709551615), .lit (.int .u64 9223372036854775807)]
def laid_keyward_field_lessTwo {H : Type} : DataW H := .agg [.lit (.int .u64 18446744073709551595), .lit (.int .u64 18446744073709551615), .lit (.int .u64 18446744073709551615), .lit (.int .u64 9223372036854775807)]
def laid_keyward_field_rootPower {H : Type} : DataW H := .agg [.lit (.int .u64 18446744073709551613), .lit (.int .u64 18446744073709551615), .lit (.int .u64 18446744073709551615), .lit (.int .u64 1152921504606846975)]
def laid_keyward_field_minusPower {H : Type} : DataW H := .agg [.lit (.int .u64 18446744073709551611), .lit (.int .u64 18446744073709551615), .lit (.int .u64 18446744073709551615), .lit (.int .u64 2305843009213693951)]
def laid_keyward_edwards_curve {H : Type} : DataW H := .agg [.lit (.int .u64 8496970652267935907), .lit (.int .u64 31536524315187371), .lit (.int .u64 10144147576115030168), .lit (.int .u64 5909686906226998899)]
def laid_keyward_edwards_base {H : Type} : DataW H := .agg [.agg [.lit (.int .u64 14507833142362363162), .lit (.int .u64 7578651490590762930), .lit (.int .u64 13881468655802702940), .lit (.int .u64 2407515759118799870)], .agg [.lit (.int .u64 7378697629483820632), .lit (.int .u64 7378697629483820646), .lit (.int .u64 7378697629483820646), .lit (.int .u64 7378697629483820646)]]
def laid_keyward_scalar_order {H : Type} : DataW H := .agg [.lit (.int .u64 6346243789798364141), .lit (.int .u64 1503914060200516822), .lit (.int .u64 0), .lit (.int .u64 1152921504606846976)]
def laid_keyward_sha_rounds {H : Type} : DataW H := .agg [.lit (.int .u64 4794697086780616226), .lit (.int .u64 8158064640168781261), .lit (.int .u64 13096744586834688815), .lit (.int .u64 16840607885511220156), .lit (.int .u64 4131703408338449720), .lit (.int .u64 6480981068601479193), .lit (.int .u64 10538285296894168987), .lit (.int .u64 12329834152419229976), .lit (.int .u64 15566598209576043074), .lit (.int .u64 1334009975649890238), .lit (.int .u64 2608012711638119052), .lit (.int .u64 6128411473006802146), .lit (.int .u64 8268148722764581231), .lit (.int .u64 9286055187155687089), .lit (.int .u64 11230858885718282805), .lit (.int .u64 13951009754708518548), .lit (.int .u64 16472876342353939154), .lit (.int .u64 17275323862435702243), .lit (.int .u64 1135362057144423861), .lit (.int .u64 2597628984639134821), .lit (.int .u64 3308224258029322869), .lit (.int .u64 5365058923640841347), .lit (.int .u64 6679025012923562964), .lit (.int .u64 8573033837759648693), .lit (.int .u64 10970295158949994411), .lit (.int .u64 12119686244451234320), .lit (.int .u64 12683024718118986047), .lit (.int .u64 13788192230050041572), .lit (.int .u64 14330467153632333762), .lit (.int .u64 15395433587784984357), .lit (.int .u64 489312712824947311), .lit (.int .u64 1452737877330783856), .lit (.int .u64 2861767655752347644), .lit (.int .u64 3322285676063803686), .lit (.int .u64 5560940570517711597), .lit (.int .u64 5996557281743188959), .lit (.int .u64 7280758554555802590), .lit (.int .u64 8532644243296465576), .lit (.int .u64 9350256976987008742), .lit (.int .u64 10552545826968843579), .lit (.int .u64 11727347734174303076), .lit (.int .u64 12113106623233404929), .lit (.int .u64 14000437183269869457), .lit (.int .u64 14369950271660146224), .lit (.int .u64 15101387698204529176), .lit (.int .u64 15463397548674623760), .lit (.int .u64 17586052441742319658), .lit (.int .u64 1182934255886127544), .lit (.int .u64 1847814050463011016), .lit (.int .u64 2177327727835720531), .lit (.int .u64 2830643537854262169), .lit (.int .u64 3796741975233480872), .lit (.int .u64 4115178125766777443), .lit (.int .u64 5681478168544905931), .lit (.int .u64 6601373596472566643), .lit (.int .u64 7507060721942968483), .lit (.int .u64 8399075790359081724), .lit (.int .u64 8693463985226723168), .lit (.int .u64 9568029438360202098), .lit (.int .u64 10144078919501101548), .lit (.int .u64 10430055236837252648), .lit (.int .u64 11840083180663258601), .lit (.int .u64 13761210420658862357), .lit (.int .u64 14299343276471374635), .lit (.int .u64 14566680578165727644), .lit (.int .u64 15097957966210449927), .lit (.int .u64 16922976911328602910), .lit (.int .u64 17689382322260857208), .lit (.int .u64 500013540394364858), .lit (.int .u64 748580250866718886), .lit (.int .u64 1242879168328830382), .lit (.int .u64 1977374033974150939), .lit (.int .u64 2944078676154940804), .lit (.int .u64 3659926193048069267), .lit (.int .u64 4368137639120453308), .lit (.int .u64 4836135668995329356), .lit (.int .u64 5532061633213252278), .lit (.int .u64 6448918945643986474), .lit (.int .u64 6902733635092675308), .lit (.int .u64 7801388544844847127)]
def laid_keyward_sha_begins {H : Type} : DataW H := .agg [.lit (.int .u64 7640891576956012808), .lit (.int .u64 13503953896175478587), .lit (.int .u64 4354685564936845355), .lit (.int .u64 11912009170470909681), .lit (.int .u64 5840696475078001361), .lit (.int .u64 11170449401992604703), .lit (.int .u64 2270897969802886507), .lit (.int .u64 6620516959819538809)]

/-- 'keywardlaw11.ListsFind': WHATEVER THE INPUT: true; the input reads as it did. -/
def listsFindSpec : ChangeSpec := { name := "listsFind", fn := fun _ => fun
  | [d1, d2] => { results := [.lit (.bool true)], args := [d1, d2] }
  | _ => none }
def listsFindRow : OpenClaim := { program := "ytcgbgmbnagmohaadoor", sum := "fed91d6e718e6591993568ff080f85d34568e68c41fd504bfdfe83290439be3f", func := "keyward/keywardlaw11.ListsFind", spec := "listsFind", inPlace := ["math/bits.Add64", "math/bits.Sub64"], unfollowed := true, recurses := true, named := ["keyward/sha.begins", "keyward/sha.rounds", "keyward/edwards.base", "keyward/edwards.curve", "keyward/field.order", "keyward/field.lessTwo", "keyward/scalar.order", "keyward/field.minusPower", "keyward/field.rootPower"], apart := false, laid := [("keyward/field.order", laid_keyward_field_order), ("keyward/field.lessTwo", laid_keyward_field_lessTwo), ("keyward/field.rootPower", laid_keyward_field_rootPower), ("keyward/field.minusPower", laid_keyward_field_minusPower), ("keyward/edwards.curve", laid_keyward_edwards_curve), ("keyward/edwards.base", laid_keyward_edwards_base), ("keyward/scalar.order", laid_keyward_scalar_order), ("keyward/sha.rounds", laid_keyward_sha_rounds), ("keyward/sha.begins", laid_keyward_sha_begins)] }
def ListsFindSaid : Prop := listsFindRow.holds Tryd.pinned (OpenSpec.ofChange listsFindSpec)

/-- ITS FALSE NEIGHBOUR: 'it returns false'. Refute it at one input. -/
def listsFindWrong : ChangeSpec := { name := "listsFind", fn := fun _ => fun
  | [d1, d2] => { results := [.lit (.bool false)], args := [d1, d2] }
  | _ => none }
def ListsFindWrongFalsely : Prop := listsFindRow.holds Tryd.pinned (OpenSpec.ofChange listsFindWrong)

/-- 'keywardlaw11.ListsDevices': WHATEVER THE INPUT: true; the input reads as it did. -/
def listsDevicesSpec : ChangeSpec := { name := "listsDevices", fn := fun _ => fun
  | [d1, d2, d3, d4, d5, d6] => { results := [.lit (.bool true)], args := [d1, d2, d3, d4, d5, d6] }
  | _ => none }
def listsDevicesRow : OpenClaim := { program := "ytcgbgmbnagmohaadoor", sum := "fed91d6e718e6591993568ff080f85d34568e68c41fd504bfdfe83290439be3f", func := "keyward/keywardlaw11.ListsDevices", spec := "listsDevices", inPlace := ["math/bits.Add64", "math/bits.Sub64"], unfollowed := true, recurses := true, named := ["keyward/sha.begins", "keyward/sha.rounds", "keyward/edwards.base", "keyward/edwards.curve", "keyward/field.order", "keyward/field.lessTwo", "keyward/scalar.order", "keyward/field.minusPower", "keyward/field.rootPower"], apart := false, laid := [("keyward/field.order", laid_keyward_field_order), ("keyward/field.lessTwo", laid_keyward_field_lessTwo), ("keyward/field.rootPower", laid_keyward_field_rootPower), ("keyward/field.minusPower", laid_keyward_field_minusPower), ("keyward/edwards.curve", laid_keyward_edwards_curve), ("keyward/edwards.base", laid_keyward_edwards_base), ("keyward/scalar.order", laid_keyward_scalar_order), ("keyward/sha.rounds", laid_keyward_sha_rounds), ("keyward/sha.begins", laid_keyward_sha_begins)] }
def ListsDevicesSaid : Prop := listsDevicesRow.holds Tryd.pinned (OpenSpec.ofChange listsDevicesSpec)

/-- ITS FALSE NEIGHBOUR: 'it returns false'. Refute it at one input. -/
def listsDevicesWrong : ChangeSpec := { name := "listsDevices", fn := fun _ => fun
  | [d1, d2, d3, d4, d5, d6] => { results := [.lit (.bool false)], args := [d1, d2, d3, d4, d5, d6] }
  | _ => none }
def ListsDevicesWrongFalsely : Prop := listsDevicesRow.holds Tryd.pinned (OpenSpec.ofChange listsDevicesWrong)

/-- 'keywardlaw11.ListsRight': WHATEVER THE INPUT: true; the input reads as it did. -/
def listsRightSpec : ChangeSpec := { name := "listsRight", fn := fun _ => fun
  | [d1, d2] => { results := [.lit (.bool true)], args := [d1, d2] }
  | _ => none }
def listsRightRow : OpenClaim := { program := "ytcgbgmbnagmohaadoor", sum := "fed91d6e718e6591993568ff080f85d34568e68c41fd504bfdfe83290439be3f", func := "keyward/keywardlaw11.ListsRight", spec := "listsRight", inPlace := ["math/bits.Add64", "math/bits.Sub64"], unfollowed := true, recurses := true, named := ["keyward/sha.begins", "keyward/sha.rounds", "keyward/edwards.base", "keyward/edwards.curve", "keyward/field.order", "keyward/field.lessTwo", "keyward/scalar.order", "keyward/field.minusPower", "keyward/field.rootPower"], apart := false, laid := [("keyward/field.order", laid_keyward_field_order), ("keyward/field.lessTwo", laid_keyward_field_lessTwo), ("keyward/field.rootPower", laid_keyward_field_rootPower), ("keyward/field.minusPower", laid_keyward_field_minusPower), ("keyward/edwards.curve", laid_keyward_edwards_curve), ("keyward/edwards.base", laid_keyward_edwards_base), ("keyward/scalar.order", laid_keyward_scalar_order), ("keyward/sha.rounds", laid_keyward_sha_rounds), ("keyward/sha.begins", laid_keyward_sha_begins)] }
def ListsRightSaid : Prop := listsRightRow.holds Tryd.pinned (OpenSpec.ofChange listsRightSpec)

/-- ITS FALSE NEIGHBOUR: 'it returns false'. Refute it at one input. -/
def listsRightWrong : ChangeSpec := { name := "listsRight", fn := fun _ => fun
  | [d1, d2] => { results := [.lit (.bool false)], args := [d1, d2] }
  | _ => none }
def ListsRightWrongFalsely : Prop := listsRightRow.holds Tryd.pinned (OpenSpec.ofChange listsRightWrong)

/-- 'keywardlaw11.ListsMore': WHATEVER THE INPUT: true; the input reads as it did. -/
def listsMoreSpec : ChangeSpec := { name := "listsMore", fn := fun _ => fun
  | [d1, d2] => { results := [.lit (.bool true)], args := [d1, d2] }
  | _ => none }
def listsMoreRow : OpenClaim := { program := "ytcgbgmbnagmohaadoor", sum := "fed91d6e718e6591993568ff080f85d34568e68c41fd504bfdfe83290439be3f", func := "keyward/keywardlaw11.ListsMore", spec := "listsMore", inPlace := ["math/bits.Add64", "math/bits.Sub64"], unfollowed := true, recurses := true, named := ["keyward/sha.begins", "keyward/sha.rounds", "keyward/edwards.base", "keyward/edwards.curve", "keyward/field.order", "keyward/field.lessTwo", "keyward/scalar.order", "keyward/field.minusPower", "keyward/field.rootPower"], apart := false, laid := [("keyward/field.order", laid_keyward_field_order), ("keyward/field.lessTwo", laid_keyward_field_lessTwo), ("keyward/field.rootPower", laid_keyward_field_rootPower), ("keyward/field.minusPower", laid_keyward_field_minusPower), ("keyward/edwards.curve", laid_keyward_edwards_curve), ("keyward/edwards.base", laid_keyward_edwards_base), ("keyward/scalar.order", laid_keyward_scalar_order), ("keyward/sha.rounds", laid_keyward_sha_rounds), ("keyward/sha.begins", laid_keyward_sha_begins)] }
def ListsMoreSaid : Prop := listsMoreRow.holds Tryd.pinned (OpenSpec.ofChange listsMoreSpec)

/-- ITS FALSE NEIGHBOUR: 'it returns false'. Refute it at one input. -/
def listsMoreWrong : ChangeSpec := { name := "listsMore", fn := fun _ => fun
  | [d1, d2] => { results := [.lit (.bool false)], args := [d1, d2] }
  | _ => none }
def ListsMoreWrongFalsely : Prop := listsMoreRow.holds Tryd.pinned (OpenSpec.ofChange listsMoreWrong)

/- THE SECOND FORM. 'bulk': how many values and letters a reading holds, each counted each time it is reached (what is shared counts as often as it is met; a slice's spare places count too). A statement '..UptoSaid' is the law's where the arguments, and the package variables that the reading takes, are together of bulk at most 1048576: NARROWER than '..Said'. Prove '..Said' where nothing that the law and all that it calls make is longer than what came in: it says more and counts as full. Else prove '..UptoSaid'. A law counts once. -/
mutual
def uptoBulk {H : Type} : DataW H → Nat
  | .lit (.string bytes) => bytes.length + 1
  | .lit _ => 1
  | .nil => 1
  | .ptr d => uptoBulk d + 1
  | .slice elems spare => uptoBulkAll elems + uptoBulkAll spare + 1
  | .agg parts => uptoBulkAll parts + 1
  | .iface _ d => uptoBulk d + 1
  | .map entries => uptoBulkEntries entries + 1
  | .held _ => 1
def uptoBulkAll {H : Type} : List (DataW H) → Nat
  | [] => 0
  | d :: r => uptoBulk d + uptoBulkAll r
def uptoBulkEntries {H : Type} : List (Lit × DataW H) → Nat
  | [] => 0
  | x :: r => uptoBulkEntry x + uptoBulkEntries r
def uptoBulkEntry {H : Type} : Lit × DataW H → Nat
  | (.string bytes, d) => bytes.length + uptoBulk d + 1
  | (_, d) => uptoBulk d + 1
 end
def uptoSmall : (H : Type) → List (DataW H) → Bool := fun _ ds => decide (uptoBulkAll ds ≤ 1048576)
def OpenSpec.upto (s : _root_.Go.ChangeSpec) : _root_.Go.OpenSpec := { _root_.Go.OpenSpec.ofChange s with cond := some uptoSmall }

/-- 'keywardlaw11.ListsFind', WHERE WHAT IT READS IS OF BULK AT MOST 1048576: true; the input reads as it did. -/
def listsFindUptoRow : OpenClaim := { program := "ytcgbgmbnagmohaadoor", sum := "fed91d6e718e6591993568ff080f85d34568e68c41fd504bfdfe83290439be3f", func := "keyward/keywardlaw11.ListsFind", spec := "listsFind", inPlace := ["math/bits.Add64", "math/bits.Sub64"], unfollowed := true, recurses := true, named := ["keyward/sha.begins", "keyward/sha.rounds", "keyward/edwards.base", "keyward/edwards.curve", "keyward/field.order", "keyward/field.lessTwo", "keyward/scalar.order", "keyward/field.minusPower", "keyward/field.rootPower"], apart := false, laid := [("keyward/field.order", laid_keyward_field_order), ("keyward/field.lessTwo", laid_keyward_field_lessTwo), ("keyward/field.rootPower", laid_keyward_field_rootPower), ("keyward/field.minusPower", laid_keyward_field_minusPower), ("keyward/edwards.curve", laid_keyward_edwards_curve), ("keyward/edwards.base", laid_keyward_edwards_base), ("keyward/scalar.order", laid_keyward_scalar_order), ("keyward/sha.rounds", laid_keyward_sha_rounds), ("keyward/sha.begins", laid_keyward_sha_begins)], narrowed := true }
def ListsFindUptoSaid : Prop := listsFindUptoRow.holds Tryd.pinned (OpenSpec.upto listsFindSpec)

/-- 'keywardlaw11.ListsDevices', WHERE WHAT IT READS IS OF BULK AT MOST 1048576: true; the input reads as it did. -/
def listsDevicesUptoRow : OpenClaim := { program := "ytcgbgmbnagmohaadoor", sum := "fed91d6e718e6591993568ff080f85d34568e68c41fd504bfdfe83290439be3f", func := "keyward/keywardlaw11.ListsDevices", spec := "listsDevices", inPlace := ["math/bits.Add64", "math/bits.Sub64"], unfollowed := true, recurses := true, named := ["keyward/sha.begins", "keyward/sha.rounds", "keyward/edwards.base", "keyward/edwards.curve", "keyward/field.order", "keyward/field.lessTwo", "keyward/scalar.order", "keyward/field.minusPower", "keyward/field.rootPower"], apart := false, laid := [("keyward/field.order", laid_keyward_field_order), ("keyward/field.lessTwo", laid_keyward_field_lessTwo), ("keyward/field.rootPower", laid_keyward_field_rootPower), ("keyward/field.minusPower", laid_keyward_field_minusPower), ("keyward/edwards.curve", laid_keyward_edwards_curve), ("keyward/edwards.base", laid_keyward_edwards_base), ("keyward/scalar.order", laid_keyward_scalar_order), ("keyward/sha.rounds", laid_keyward_sha_rounds), ("keyward/sha.begins", laid_keyward_sha_begins)], narrowed := true }
def ListsDevicesUptoSaid : Prop := listsDevicesUptoRow.holds Tryd.pinned (OpenSpec.upto listsDevicesSpec)

/-- 'keywardlaw11.ListsRight', WHERE WHAT IT READS IS OF BULK AT MOST 1048576: true; the input reads as it did. -/
def listsRightUptoRow : OpenClaim := { program := "ytcgbgmbnagmohaadoor", sum := "fed91d6e718e6591993568ff080f85d34568e68c41fd504bfdfe83290439be3f", func := "keyward/keywardlaw11.ListsRight", spec := "listsRight", inPlace := ["math/bits.Add64", "math/bits.Sub64"], unfollowed := true, recurses := true, named := ["keyward/sha.begins", "keyward/sha.rounds", "keyward/edwards.base", "keyward/edwards.curve", "keyward/field.order", "keyward/field.lessTwo", "keyward/scalar.order", "keyward/field.minusPower", "keyward/field.rootPower"], apart := false, laid := [("keyward/field.order", laid_keyward_field_order), ("keyward/field.lessTwo", laid_keyward_field_lessTwo), ("keyward/field.rootPower", laid_keyward_field_rootPower), ("keyward/field.minusPower", laid_keyward_field_minusPower), ("keyward/edwards.curve", laid_keyward_edwards_curve), ("keyward/edwards.base", laid_keyward_edwards_base), ("keyward/scalar.order", laid_keyward_scalar_order), ("keyward/sha.rounds", laid_keyward_sha_rounds), ("keyward/sha.begins", laid_keyward_sha_begins)], narrowed := true }
def ListsRightUptoSaid : Prop := listsRightUptoRow.holds Tryd.pinned (OpenSpec.upto listsRightSpec)

/-- 'keywardlaw11.ListsMore', WHERE WHAT IT READS IS OF BULK AT MOST 1048576: true; the input reads as it did. -/
def listsMoreUptoRow : OpenClaim := { program := "ytcgbgmbnagmohaadoor", sum := "fed91d6e718e6591993568ff080f85d34568e68c41fd504bfdfe83290439be3f", func := "keyward/keywardlaw11.ListsMore", spec := "listsMore", inPlace := ["math/bits.Add64", "math/bits.Sub64"], unfollowed := true, recurses := true, named := ["keyward/sha.begins", "keyward/sha.rounds", "keyward/edwards.base", "keyward/edwards.curve", "keyward/field.order", "keyward/field.lessTwo", "keyward/scalar.order", "keyward/field.minusPower", "keyward/field.rootPower"], apart := false, laid := [("keyward/field.order", laid_keyward_field_order), ("keyward/field.lessTwo", laid_keyward_field_lessTwo), ("keyward/field.rootPower", laid_keyward_field_rootPower), ("keyward/field.minusPower", laid_keyward_field_minusPower), ("keyward/edwards.curve", laid_keyward_edwards_curve), ("keyward/edwards.base", laid_keyward_edwards_base), ("keyward/scalar.order", laid_keyward_scalar_order), ("keyward/sha.rounds", laid_keyward_sha_rounds), ("keyward/sha.begins", laid_keyward_sha_begins)], narrowed := true }
def ListsMoreUptoSaid : Prop := listsMoreUptoRow.holds Tryd.pinned (OpenSpec.upto listsMoreSpec)

end Rows
end Go.Proofs.YtcgbgmbnagmohaaDoor
