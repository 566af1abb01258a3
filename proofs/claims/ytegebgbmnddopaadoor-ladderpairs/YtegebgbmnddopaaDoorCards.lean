/-
  DERIVED. GIVEN WITH THE SEED: THE CARDS: each row of YtegebgbmnddopaaDoorRows.lean that lists a variable, with what it lists TIED to the program's text (the seventh form; the later family's looks); each row that meets fmt, with fmt's text TOLD by the authors' own Lean function (tested against real Go, not proved from fmt's source: count such statements apart). THE CARD IS WHAT COUNTS. Prove the row's statement (the work); the ties are given (YtegebgbmnddopaaDoorTie.lean); close each card by the builder's one call (the guide's Derived/Test/ToyasCard.lean, 'card_holds'). Laid BY PROGRAM, IN A SANDBOX (cutbox-door.mjs). By AI agents, Wed Nov 11 2026. No macro, syntax, notation, axiom, sorry.
-/
import Derived.Test.YtegebgbmnddopaaDoorRows
import GoSem.ClaimSeven
namespace Go.Proofs.YtegebgbmnddopaaDoor
namespace Rows

/-- THE TIED CARD OF 'keywardlaw02.LadderPairs'. -/
def ladderPairsCard : Claim7 := { stood := { row := ladderPairsRow, standIns := [], harness := (true, "72cfb7754dec31b4d1f85c468881449bf8913527938ea19a0979d12181864906"), looks := false }, kinds := [], alts := [], laidByText := true, laidKinds := [.data, .data], laidTests := true, laidLooks := .later }
def LadderPairsCardSaid : Prop := Claim7.holds Tryd.pinned (.plain (OpenSpec.ofChange ladderPairsSpec)) ladderPairsCard

/-- THE SECOND FORM's CARD OF 'keywardlaw02.LadderPairs'. -/
def ladderPairsUptoCard : Claim7 := { stood := { row := ladderPairsUptoRow, standIns := [], harness := (true, "72cfb7754dec31b4d1f85c468881449bf8913527938ea19a0979d12181864906"), looks := false }, kinds := [], alts := [], laidByText := true, laidKinds := [.data, .data], laidTests := true, laidLooks := .later }
def LadderPairsUptoCardSaid : Prop := Claim7.holds Tryd.pinned (.plain (OpenSpec.upto ladderPairsSpec)) ladderPairsUptoCard
end Rows
end Go.Proofs.YtegebgbmnddopaaDoor
