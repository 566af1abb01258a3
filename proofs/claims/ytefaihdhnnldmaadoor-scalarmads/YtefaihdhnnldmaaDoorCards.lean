/-
  DERIVED. GIVEN WITH THE SEED: THE CARDS: each row of YtefaihdhnnldmaaDoorRows.lean that lists a variable, with what it lists TIED to the program's text (the seventh form; the later family's looks); each row that meets fmt, with fmt's text TOLD by the authors' own Lean function (tested against real Go, not proved from fmt's source: count such statements apart). THE CARD IS WHAT COUNTS. Prove the row's statement (the work); the ties are given (YtefaihdhnnldmaaDoorTie.lean); close each card by the builder's one call (the guide's Derived/Test/ToyasCard.lean, 'card_holds'). Laid BY PROGRAM, IN A SANDBOX (cutbox-door.mjs). By AI agents, Wed Nov 11 2026. No macro, syntax, notation, axiom, sorry.
-/
import Derived.Test.YtefaihdhnnldmaaDoorRows
import GoSem.ClaimSeven
namespace Go.Proofs.YtefaihdhnnldmaaDoor
namespace Rows

/-- THE TIED CARD OF 'keywardlaw08.ScalarSmalls'. -/
def scalarSmallsCard : Claim7 := { stood := { row := scalarSmallsRow, standIns := [], harness := (true, "8d421cb232646d6328c7830d228b3667dd904f7f72cfcae07c0c293efefa42c3"), looks := false }, kinds := [], alts := [], laidByText := true, laidKinds := [.wider], laidTests := true, laidLooks := .later }
def ScalarSmallsCardSaid : Prop := Claim7.holds Tryd.pinned (.plain (OpenSpec.ofChange scalarSmallsSpec)) scalarSmallsCard

/-- THE TIED CARD OF 'keywardlaw08.ScalarReduces'. -/
def scalarReducesCard : Claim7 := { stood := { row := scalarReducesRow, standIns := [], harness := (true, "8d421cb232646d6328c7830d228b3667dd904f7f72cfcae07c0c293efefa42c3"), looks := false }, kinds := [], alts := [], laidByText := true, laidKinds := [.wider], laidTests := true, laidLooks := .later }
def ScalarReducesCardSaid : Prop := Claim7.holds Tryd.pinned (.plain (OpenSpec.ofChange scalarReducesSpec)) scalarReducesCard

/-- THE TIED CARD OF 'keywardlaw08.ScalarMads'. -/
def scalarMadsCard : Claim7 := { stood := { row := scalarMadsRow, standIns := [], harness := (true, "8d421cb232646d6328c7830d228b3667dd904f7f72cfcae07c0c293efefa42c3"), looks := false }, kinds := [], alts := [], laidByText := true, laidKinds := [.wider], laidTests := true, laidLooks := .later }
def ScalarMadsCardSaid : Prop := Claim7.holds Tryd.pinned (.plain (OpenSpec.ofChange scalarMadsSpec)) scalarMadsCard

/-- THE TIED CARD OF 'keywardlaw08.ScalarRing'. -/
def scalarRingCard : Claim7 := { stood := { row := scalarRingRow, standIns := [], harness := (true, "8d421cb232646d6328c7830d228b3667dd904f7f72cfcae07c0c293efefa42c3"), looks := false }, kinds := [], alts := [], laidByText := true, laidKinds := [.wider], laidTests := true, laidLooks := .later }
def ScalarRingCardSaid : Prop := Claim7.holds Tryd.pinned (.plain (OpenSpec.ofChange scalarRingSpec)) scalarRingCard

/-- THE TIED CARD OF 'keywardlaw08.ScalarPoints'. -/
def scalarPointsCard : Claim7 := { stood := { row := scalarPointsRow, standIns := [], harness := (true, "8d421cb232646d6328c7830d228b3667dd904f7f72cfcae07c0c293efefa42c3"), looks := false }, kinds := [], alts := [], laidByText := true, laidKinds := [.data, .data, .data, .data, .wider], laidTests := true, laidLooks := .later }
def ScalarPointsCardSaid : Prop := Claim7.holds Tryd.pinned (.plain (OpenSpec.ofChange scalarPointsSpec)) scalarPointsCard

/-- THE SECOND FORM's CARD OF 'keywardlaw08.ScalarSmalls'. -/
def scalarSmallsUptoCard : Claim7 := { stood := { row := scalarSmallsUptoRow, standIns := [], harness := (true, "8d421cb232646d6328c7830d228b3667dd904f7f72cfcae07c0c293efefa42c3"), looks := false }, kinds := [], alts := [], laidByText := true, laidKinds := [.wider], laidTests := true, laidLooks := .later }
def ScalarSmallsUptoCardSaid : Prop := Claim7.holds Tryd.pinned (.plain (OpenSpec.upto scalarSmallsSpec)) scalarSmallsUptoCard

/-- THE SECOND FORM's CARD OF 'keywardlaw08.ScalarReduces'. -/
def scalarReducesUptoCard : Claim7 := { stood := { row := scalarReducesUptoRow, standIns := [], harness := (true, "8d421cb232646d6328c7830d228b3667dd904f7f72cfcae07c0c293efefa42c3"), looks := false }, kinds := [], alts := [], laidByText := true, laidKinds := [.wider], laidTests := true, laidLooks := .later }
def ScalarReducesUptoCardSaid : Prop := Claim7.holds Tryd.pinned (.plain (OpenSpec.upto scalarReducesSpec)) scalarReducesUptoCard

/-- THE SECOND FORM's CARD OF 'keywardlaw08.ScalarMads'. -/
def scalarMadsUptoCard : Claim7 := { stood := { row := scalarMadsUptoRow, standIns := [], harness := (true, "8d421cb232646d6328c7830d228b3667dd904f7f72cfcae07c0c293efefa42c3"), looks := false }, kinds := [], alts := [], laidByText := true, laidKinds := [.wider], laidTests := true, laidLooks := .later }
def ScalarMadsUptoCardSaid : Prop := Claim7.holds Tryd.pinned (.plain (OpenSpec.upto scalarMadsSpec)) scalarMadsUptoCard

/-- THE SECOND FORM's CARD OF 'keywardlaw08.ScalarRing'. -/
def scalarRingUptoCard : Claim7 := { stood := { row := scalarRingUptoRow, standIns := [], harness := (true, "8d421cb232646d6328c7830d228b3667dd904f7f72cfcae07c0c293efefa42c3"), looks := false }, kinds := [], alts := [], laidByText := true, laidKinds := [.wider], laidTests := true, laidLooks := .later }
def ScalarRingUptoCardSaid : Prop := Claim7.holds Tryd.pinned (.plain (OpenSpec.upto scalarRingSpec)) scalarRingUptoCard

/-- THE SECOND FORM's CARD OF 'keywardlaw08.ScalarPoints'. -/
def scalarPointsUptoCard : Claim7 := { stood := { row := scalarPointsUptoRow, standIns := [], harness := (true, "8d421cb232646d6328c7830d228b3667dd904f7f72cfcae07c0c293efefa42c3"), looks := false }, kinds := [], alts := [], laidByText := true, laidKinds := [.data, .data, .data, .data, .wider], laidTests := true, laidLooks := .later }
def ScalarPointsUptoCardSaid : Prop := Claim7.holds Tryd.pinned (.plain (OpenSpec.upto scalarPointsSpec)) scalarPointsUptoCard
end Rows
end Go.Proofs.YtefaihdhnnldmaaDoor
