/-
  DERIVED. GIVEN WITH THE SEED: THE CARDS: each row of YtfdjmdfaidiliaaDoorRows.lean that lists a variable, with what it lists TIED to the program's text (the seventh form; the later family's looks); each row that meets fmt, with fmt's text TOLD by the authors' own Lean function (tested against real Go, not proved from fmt's source: count such statements apart). THE CARD IS WHAT COUNTS. Prove the row's statement (the work); the ties are given (YtfdjmdfaidiliaaDoorTie.lean); close each card by the builder's one call (the guide's Derived/Test/ToyasCard.lean, 'card_holds'). Laid BY PROGRAM, IN A SANDBOX (cutbox-door.mjs). By AI agents, Wed Nov 11 2026. No macro, syntax, notation, axiom, sorry.
-/
import Derived.Test.YtfdjmdfaidiliaaDoorRows
import GoSem.ClaimSeven
namespace Go.Proofs.YtfdjmdfaidiliaaDoor
namespace Rows

/-- THE TIED CARD OF 'keywardlaw09.SignTwice'. -/
def signTwiceCard : Claim7 := { stood := { row := signTwiceRow, standIns := [], harness := (true, "b74e9677f534af4da9b5059659e3b4a9df9ce69c63680ee057ef8a90935920d0"), looks := false }, kinds := [], alts := [], laidByText := true, laidKinds := [.data, .data, .data, .data, .data, .data, .wider, .data, .data], laidTests := true, laidLooks := .later }
def SignTwiceCardSaid : Prop := Claim7.holds Tryd.pinned (.plain (OpenSpec.ofChange signTwiceSpec)) signTwiceCard

/-- THE TIED CARD OF 'keywardlaw09.SignBack'. -/
def signBackCard : Claim7 := { stood := { row := signBackRow, standIns := [], harness := (true, "b74e9677f534af4da9b5059659e3b4a9df9ce69c63680ee057ef8a90935920d0"), looks := false }, kinds := [], alts := [], laidByText := true, laidKinds := [.data, .data, .data, .data, .data, .data, .wider, .data, .data], laidTests := true, laidLooks := .later }
def SignBackCardSaid : Prop := Claim7.holds Tryd.pinned (.plain (OpenSpec.ofChange signBackSpec)) signBackCard

/-- THE TIED CARD OF 'keywardlaw09.SignGreat'. -/
def signGreatCard : Claim7 := { stood := { row := signGreatRow, standIns := [], harness := (true, "b74e9677f534af4da9b5059659e3b4a9df9ce69c63680ee057ef8a90935920d0"), looks := false }, kinds := [], alts := [], laidByText := true, laidKinds := [.data, .data, .data, .data, .data, .data, .wider, .data, .data], laidTests := true, laidLooks := .later }
def SignGreatCardSaid : Prop := Claim7.holds Tryd.pinned (.plain (OpenSpec.ofChange signGreatSpec)) signGreatCard

/-- THE SECOND FORM's CARD OF 'keywardlaw09.SignTwice'. -/
def signTwiceUptoCard : Claim7 := { stood := { row := signTwiceUptoRow, standIns := [], harness := (true, "b74e9677f534af4da9b5059659e3b4a9df9ce69c63680ee057ef8a90935920d0"), looks := false }, kinds := [], alts := [], laidByText := true, laidKinds := [.data, .data, .data, .data, .data, .data, .wider, .data, .data], laidTests := true, laidLooks := .later }
def SignTwiceUptoCardSaid : Prop := Claim7.holds Tryd.pinned (.plain (OpenSpec.upto signTwiceSpec)) signTwiceUptoCard

/-- THE SECOND FORM's CARD OF 'keywardlaw09.SignBack'. -/
def signBackUptoCard : Claim7 := { stood := { row := signBackUptoRow, standIns := [], harness := (true, "b74e9677f534af4da9b5059659e3b4a9df9ce69c63680ee057ef8a90935920d0"), looks := false }, kinds := [], alts := [], laidByText := true, laidKinds := [.data, .data, .data, .data, .data, .data, .wider, .data, .data], laidTests := true, laidLooks := .later }
def SignBackUptoCardSaid : Prop := Claim7.holds Tryd.pinned (.plain (OpenSpec.upto signBackSpec)) signBackUptoCard

/-- THE SECOND FORM's CARD OF 'keywardlaw09.SignGreat'. -/
def signGreatUptoCard : Claim7 := { stood := { row := signGreatUptoRow, standIns := [], harness := (true, "b74e9677f534af4da9b5059659e3b4a9df9ce69c63680ee057ef8a90935920d0"), looks := false }, kinds := [], alts := [], laidByText := true, laidKinds := [.data, .data, .data, .data, .data, .data, .wider, .data, .data], laidTests := true, laidLooks := .later }
def SignGreatUptoCardSaid : Prop := Claim7.holds Tryd.pinned (.plain (OpenSpec.upto signGreatSpec)) signGreatUptoCard
end Rows
end Go.Proofs.YtfdjmdfaidiliaaDoor
