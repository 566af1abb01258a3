/-
  No cell of these rows narrows 'for every input' (looked for: loops, veiled, ifaces, maps, wideKeys, modest, calm, conditions, laid).
  DERIVED. THE GIVEN ROWS OF THIS SEAT. 8 by the template 'for every input the law returns true; each argument reads behind the call as it read before'; 0 by the template 'total and deterministic' (their statements: YtlfggmdlgeakeaaTotals.lean).
  GIVEN WITH THE SEED: the statements are not yours to turn. If you find one false, say at which input.
  Laid BY PROGRAM, IN A SANDBOX (cutbox-rows.mjs): the forced cells as the released guide's own fill.sh prints them over the translation 150e93be36fe6e82… (all of the seat's roots in one cut). By AI agents, Wed Nov 11 2026. No macro, syntax, notation, axiom, sorry.
-/
import Derived.Test.YtlfggmdlgeakeaaChecked
import GoSem.Claim
import GoSem.ClaimJoined
import GoSem.ClaimMapViews
import Derived.JoinedTies
import Derived.KernelRfl
namespace Go.Proofs.Ytlfggmdlgeakeaa
/- THE CELL 'sum', in the pinned program and in every row, IS THE sha256 OF THE DUMP (.gsa) THAT YtlfggmdlgeakeaaProg.lean LOADS. Nothing in Lean hashes anything: it is a label: what it is worth is what the hold of that sum in a sandbox is worth. -/
noncomputable def Try.pinned : Pinned := { name := "ytlfggmdlgeakeaa", sum := "150e93be36fe6e82146d2d4f014658d5ad753248124fd7b6d049d409b20602b1", checked := Try.checked }
namespace Rows
def none {H : Type} : Left H := { results := [], args := [] }

/-- 'keywardlaw05.AesWraps': WHATEVER THE INPUT: true; the input reads as it did. -/
def aesWrapsSpec : ChangeSpec := { name := "aesWraps", fn := fun _ => fun
  | [d1, d2] => { results := [.lit (.bool true)], args := [d1, d2] }
  | _ => none }
def aesWrapsRow : OpenClaim := { program := "ytlfggmdlgeakeaa", sum := "150e93be36fe6e82146d2d4f014658d5ad753248124fd7b6d049d409b20602b1", func := "keyward/keywardlaw05.AesWraps", spec := "aesWraps", apart := false }
def AesWrapsSaid : Prop := aesWrapsRow.holds Try.pinned (OpenSpec.ofChange aesWrapsSpec)

/-- ITS FALSE NEIGHBOUR: 'it returns false'. Refute it at one input. -/
def aesWrapsWrong : ChangeSpec := { name := "aesWraps", fn := fun _ => fun
  | [d1, d2] => { results := [.lit (.bool false)], args := [d1, d2] }
  | _ => none }
def AesWrapsWrongFalsely : Prop := aesWrapsRow.holds Try.pinned (OpenSpec.ofChange aesWrapsWrong)

/-- 'keywardlaw05.AesXors': WHATEVER THE INPUT: true; the input reads as it did. -/
def aesXorsSpec : ChangeSpec := { name := "aesXors", fn := fun _ => fun
  | [d1, d2, d3, d4] => { results := [.lit (.bool true)], args := [d1, d2, d3, d4] }
  | _ => none }
def aesXorsRow : OpenClaim := { program := "ytlfggmdlgeakeaa", sum := "150e93be36fe6e82146d2d4f014658d5ad753248124fd7b6d049d409b20602b1", func := "keyward/keywardlaw05.AesXors", spec := "aesXors", apart := false }
def AesXorsSaid : Prop := aesXorsRow.holds Try.pinned (OpenSpec.ofChange aesXorsSpec)

/-- ITS FALSE NEIGHBOUR: 'it returns false'. Refute it at one input. -/
def aesXorsWrong : ChangeSpec := { name := "aesXors", fn := fun _ => fun
  | [d1, d2, d3, d4] => { results := [.lit (.bool false)], args := [d1, d2, d3, d4] }
  | _ => none }
def AesXorsWrongFalsely : Prop := aesXorsRow.holds Try.pinned (OpenSpec.ofChange aesXorsWrong)

/-- 'keywardlaw05.AesBoxes': WHATEVER THE INPUT: true; the input reads as it did. -/
def aesBoxesSpec : ChangeSpec := { name := "aesBoxes", fn := fun _ => fun
  | [d] => { results := [.lit (.bool true)], args := [d] }
  | _ => none }
def aesBoxesRow : OpenClaim := { program := "ytlfggmdlgeakeaa", sum := "150e93be36fe6e82146d2d4f014658d5ad753248124fd7b6d049d409b20602b1", func := "keyward/keywardlaw05.AesBoxes", spec := "aesBoxes", apart := false }
def AesBoxesSaid : Prop := aesBoxesRow.holds Try.pinned (OpenSpec.ofChange aesBoxesSpec)

/-- ITS FALSE NEIGHBOUR: 'it returns false'. Refute it at one input. -/
def aesBoxesWrong : ChangeSpec := { name := "aesBoxes", fn := fun _ => fun
  | [d] => { results := [.lit (.bool false)], args := [d] }
  | _ => none }
def AesBoxesWrongFalsely : Prop := aesBoxesRow.holds Try.pinned (OpenSpec.ofChange aesBoxesWrong)

/-- 'keywardlaw05.AesBlocks': WHATEVER THE INPUT: true; the input reads as it did. -/
def aesBlocksSpec : ChangeSpec := { name := "aesBlocks", fn := fun _ => fun
  | [d1, d2] => { results := [.lit (.bool true)], args := [d1, d2] }
  | _ => none }
def aesBlocksRow : OpenClaim := { program := "ytlfggmdlgeakeaa", sum := "150e93be36fe6e82146d2d4f014658d5ad753248124fd7b6d049d409b20602b1", func := "keyward/keywardlaw05.AesBlocks", spec := "aesBlocks", apart := false }
def AesBlocksSaid : Prop := aesBlocksRow.holds Try.pinned (OpenSpec.ofChange aesBlocksSpec)

/-- ITS FALSE NEIGHBOUR: 'it returns false'. Refute it at one input. -/
def aesBlocksWrong : ChangeSpec := { name := "aesBlocks", fn := fun _ => fun
  | [d1, d2] => { results := [.lit (.bool false)], args := [d1, d2] }
  | _ => none }
def AesBlocksWrongFalsely : Prop := aesBlocksRow.holds Try.pinned (OpenSpec.ofChange aesBlocksWrong)

/-- 'keywardlaw05.AesCounters': WHATEVER THE INPUT: true; the input reads as it did. -/
def aesCountersSpec : ChangeSpec := { name := "aesCounters", fn := fun _ => fun
  | [d1, d2, d3, d4] => { results := [.lit (.bool true)], args := [d1, d2, d3, d4] }
  | _ => none }
def aesCountersRow : OpenClaim := { program := "ytlfggmdlgeakeaa", sum := "150e93be36fe6e82146d2d4f014658d5ad753248124fd7b6d049d409b20602b1", func := "keyward/keywardlaw05.AesCounters", spec := "aesCounters", apart := false }
def AesCountersSaid : Prop := aesCountersRow.holds Try.pinned (OpenSpec.ofChange aesCountersSpec)

/-- ITS FALSE NEIGHBOUR: 'it returns false'. Refute it at one input. -/
def aesCountersWrong : ChangeSpec := { name := "aesCounters", fn := fun _ => fun
  | [d1, d2, d3, d4] => { results := [.lit (.bool false)], args := [d1, d2, d3, d4] }
  | _ => none }
def AesCountersWrongFalsely : Prop := aesCountersRow.holds Try.pinned (OpenSpec.ofChange aesCountersWrong)

/-- 'keywardlaw05.AesBack': WHATEVER THE INPUT: true; the input reads as it did. -/
def aesBackSpec : ChangeSpec := { name := "aesBack", fn := fun _ => fun
  | [d1, d2, d3] => { results := [.lit (.bool true)], args := [d1, d2, d3] }
  | _ => none }
def aesBackRow : OpenClaim := { program := "ytlfggmdlgeakeaa", sum := "150e93be36fe6e82146d2d4f014658d5ad753248124fd7b6d049d409b20602b1", func := "keyward/keywardlaw05.AesBack", spec := "aesBack", apart := false }
def AesBackSaid : Prop := aesBackRow.holds Try.pinned (OpenSpec.ofChange aesBackSpec)

/-- ITS FALSE NEIGHBOUR: 'it returns false'. Refute it at one input. -/
def aesBackWrong : ChangeSpec := { name := "aesBack", fn := fun _ => fun
  | [d1, d2, d3] => { results := [.lit (.bool false)], args := [d1, d2, d3] }
  | _ => none }
def AesBackWrongFalsely : Prop := aesBackRow.holds Try.pinned (OpenSpec.ofChange aesBackWrong)

/-- 'keywardlaw05.AesEach': WHATEVER THE INPUT: true; the input reads as it did. -/
def aesEachSpec : ChangeSpec := { name := "aesEach", fn := fun _ => fun
  | [d1, d2, d3, d4, d5] => { results := [.lit (.bool true)], args := [d1, d2, d3, d4, d5] }
  | _ => none }
def aesEachRow : OpenClaim := { program := "ytlfggmdlgeakeaa", sum := "150e93be36fe6e82146d2d4f014658d5ad753248124fd7b6d049d409b20602b1", func := "keyward/keywardlaw05.AesEach", spec := "aesEach", apart := false }
def AesEachSaid : Prop := aesEachRow.holds Try.pinned (OpenSpec.ofChange aesEachSpec)

/-- ITS FALSE NEIGHBOUR: 'it returns false'. Refute it at one input. -/
def aesEachWrong : ChangeSpec := { name := "aesEach", fn := fun _ => fun
  | [d1, d2, d3, d4, d5] => { results := [.lit (.bool false)], args := [d1, d2, d3, d4, d5] }
  | _ => none }
def AesEachWrongFalsely : Prop := aesEachRow.holds Try.pinned (OpenSpec.ofChange aesEachWrong)

/-- 'keywardlaw05.AesFront': WHATEVER THE INPUT: true; the input reads as it did. -/
def aesFrontSpec : ChangeSpec := { name := "aesFront", fn := fun _ => fun
  | [d1, d2, d3, d4] => { results := [.lit (.bool true)], args := [d1, d2, d3, d4] }
  | _ => none }
def aesFrontRow : OpenClaim := { program := "ytlfggmdlgeakeaa", sum := "150e93be36fe6e82146d2d4f014658d5ad753248124fd7b6d049d409b20602b1", func := "keyward/keywardlaw05.AesFront", spec := "aesFront", apart := false }
def AesFrontSaid : Prop := aesFrontRow.holds Try.pinned (OpenSpec.ofChange aesFrontSpec)

/-- ITS FALSE NEIGHBOUR: 'it returns false'. Refute it at one input. -/
def aesFrontWrong : ChangeSpec := { name := "aesFront", fn := fun _ => fun
  | [d1, d2, d3, d4] => { results := [.lit (.bool false)], args := [d1, d2, d3, d4] }
  | _ => none }
def AesFrontWrongFalsely : Prop := aesFrontRow.holds Try.pinned (OpenSpec.ofChange aesFrontWrong)

/- THE SECOND FORM. 'bulk': how many values and letters a reading holds, each counted each time it is reached (what is shared counts as often as it is met; a slice's spare places count too). A statement '..UptoSaid' is the law's where the arguments, and the package variables that the reading takes, are together of bulk at most 1048576: NARROWER than '..Said'. Prove '..Said' where nothing that the law and all that it calls make is longer than what came in: it says more and counts as full. Else prove '..UptoSaid'. A law counts once. -/
mutual
def uptoBulk {H : Type} : DataW H → Nat
  | .lit (.string bytes) => bytes.length + 1
  | .lit _ => 1
  | .nil => 1
  | .ptr d => uptoBulk d + 1
  | .slice elems spare => uptoBulkAll elems + uptoBulkAll spare + 1
  | .agg parts => uptoBulkAll parts + 1
  | .iface _ d => uptoBulk d + 1
  | .map entries => uptoBulkEntries entries + 1
  | .held _ => 1
def uptoBulkAll {H : Type} : List (DataW H) → Nat
  | [] => 0
  | d :: r => uptoBulk d + uptoBulkAll r
def uptoBulkEntries {H : Type} : List (Lit × DataW H) → Nat
  | [] => 0
  | x :: r => uptoBulkEntry x + uptoBulkEntries r
def uptoBulkEntry {H : Type} : Lit × DataW H → Nat
  | (.string bytes, d) => bytes.length + uptoBulk d + 1
  | (_, d) => uptoBulk d + 1
 end
def uptoSmall : (H : Type) → List (DataW H) → Bool := fun _ ds => decide (uptoBulkAll ds ≤ 1048576)
def OpenSpec.upto (s : _root_.Go.ChangeSpec) : _root_.Go.OpenSpec := { _root_.Go.OpenSpec.ofChange s with cond := some uptoSmall }

/-- 'keywardlaw05.AesWraps', WHERE WHAT IT READS IS OF BULK AT MOST 1048576: true; the input reads as it did. -/
def aesWrapsUptoRow : OpenClaim := { program := "ytlfggmdlgeakeaa", sum := "150e93be36fe6e82146d2d4f014658d5ad753248124fd7b6d049d409b20602b1", func := "keyward/keywardlaw05.AesWraps", spec := "aesWraps", apart := false, narrowed := true }
def AesWrapsUptoSaid : Prop := aesWrapsUptoRow.holds Try.pinned (OpenSpec.upto aesWrapsSpec)

/-- 'keywardlaw05.AesXors', WHERE WHAT IT READS IS OF BULK AT MOST 1048576: true; the input reads as it did. -/
def aesXorsUptoRow : OpenClaim := { program := "ytlfggmdlgeakeaa", sum := "150e93be36fe6e82146d2d4f014658d5ad753248124fd7b6d049d409b20602b1", func := "keyward/keywardlaw05.AesXors", spec := "aesXors", apart := false, narrowed := true }
def AesXorsUptoSaid : Prop := aesXorsUptoRow.holds Try.pinned (OpenSpec.upto aesXorsSpec)

/-- 'keywardlaw05.AesBoxes', WHERE WHAT IT READS IS OF BULK AT MOST 1048576: true; the input reads as it did. -/
def aesBoxesUptoRow : OpenClaim := { program := "ytlfggmdlgeakeaa", sum := "150e93be36fe6e82146d2d4f014658d5ad753248124fd7b6d049d409b20602b1", func := "keyward/keywardlaw05.AesBoxes", spec := "aesBoxes", apart := false, narrowed := true }
def AesBoxesUptoSaid : Prop := aesBoxesUptoRow.holds Try.pinned (OpenSpec.upto aesBoxesSpec)

/-- 'keywardlaw05.AesBlocks', WHERE WHAT IT READS IS OF BULK AT MOST 1048576: true; the input reads as it did. -/
def aesBlocksUptoRow : OpenClaim := { program := "ytlfggmdlgeakeaa", sum := "150e93be36fe6e82146d2d4f014658d5ad753248124fd7b6d049d409b20602b1", func := "keyward/keywardlaw05.AesBlocks", spec := "aesBlocks", apart := false, narrowed := true }
def AesBlocksUptoSaid : Prop := aesBlocksUptoRow.holds Try.pinned (OpenSpec.upto aesBlocksSpec)

/-- 'keywardlaw05.AesCounters', WHERE WHAT IT READS IS OF BULK AT MOST 1048576: true; the input reads as it did. -/
def aesCountersUptoRow : OpenClaim := { program := "ytlfggmdlgeakeaa", sum := "150e93be36fe6e82146d2d4f014658d5ad753248124fd7b6d049d409b20602b1", func := "keyward/keywardlaw05.AesCounters", spec := "aesCounters", apart := false, narrowed := true }
def AesCountersUptoSaid : Prop := aesCountersUptoRow.holds Try.pinned (OpenSpec.upto aesCountersSpec)

/-- 'keywardlaw05.AesBack', WHERE WHAT IT READS IS OF BULK AT MOST 1048576: true; the input reads as it did. -/
def aesBackUptoRow : OpenClaim := { program := "ytlfggmdlgeakeaa", sum := "150e93be36fe6e82146d2d4f014658d5ad753248124fd7b6d049d409b20602b1", func := "keyward/keywardlaw05.AesBack", spec := "aesBack", apart := false, narrowed := true }
def AesBackUptoSaid : Prop := aesBackUptoRow.holds Try.pinned (OpenSpec.upto aesBackSpec)

/-- 'keywardlaw05.AesEach', WHERE WHAT IT READS IS OF BULK AT MOST 1048576: true; the input reads as it did. -/
def aesEachUptoRow : OpenClaim := { program := "ytlfggmdlgeakeaa", sum := "150e93be36fe6e82146d2d4f014658d5ad753248124fd7b6d049d409b20602b1", func := "keyward/keywardlaw05.AesEach", spec := "aesEach", apart := false, narrowed := true }
def AesEachUptoSaid : Prop := aesEachUptoRow.holds Try.pinned (OpenSpec.upto aesEachSpec)

/-- 'keywardlaw05.AesFront', WHERE WHAT IT READS IS OF BULK AT MOST 1048576: true; the input reads as it did. -/
def aesFrontUptoRow : OpenClaim := { program := "ytlfggmdlgeakeaa", sum := "150e93be36fe6e82146d2d4f014658d5ad753248124fd7b6d049d409b20602b1", func := "keyward/keywardlaw05.AesFront", spec := "aesFront", apart := false, narrowed := true }
def AesFrontUptoSaid : Prop := aesFrontUptoRow.holds Try.pinned (OpenSpec.upto aesFrontSpec)

end Rows
end Go.Proofs.Ytlfggmdlgeakeaa
