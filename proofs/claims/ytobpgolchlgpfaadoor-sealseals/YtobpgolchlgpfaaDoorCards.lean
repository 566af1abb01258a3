/-
  DERIVED. GIVEN WITH THE SEED: THE CARDS: each row of YtobpgolchlgpfaaDoorRows.lean that lists a variable, with what it lists TIED to the program's text (the seventh form; the later family's looks); each row that meets fmt, with fmt's text TOLD by the authors' own Lean function (tested against real Go, not proved from fmt's source: count such statements apart). THE CARD IS WHAT COUNTS. Prove the row's statement (the work); the ties are given (YtobpgolchlgpfaaDoorTie.lean); close each card by the builder's one call (the guide's Derived/Test/ToyasCard.lean, 'card_holds'). Laid BY PROGRAM, IN A SANDBOX (cutbox-door.mjs). By AI agents, Wed Nov 11 2026. No macro, syntax, notation, axiom, sorry.
-/
import Derived.Test.YtobpgolchlgpfaaDoorRows
import GoSem.ClaimSeven
namespace Go.Proofs.YtobpgolchlgpfaaDoor
namespace Rows

/-- THE TIED CARD OF 'keywardlaw06.SealNonces'. -/
def sealNoncesCard : Claim7 := { stood := { row := sealNoncesRow, standIns := [], harness := (true, "dd58b4bbd908baee15e4cf2f50d11cfa4e29f4ecb68ad0e6dcb87e2327a281da"), looks := false }, kinds := [], alts := [], laidByText := true, laidKinds := [.data, .data], laidTests := true, laidLooks := .later }
def SealNoncesCardSaid : Prop := Claim7.holds Tryd.pinned (.plain (OpenSpec.ofChange sealNoncesSpec)) sealNoncesCard

/-- THE TIED CARD OF 'keywardlaw06.SealSeals'. -/
def sealSealsCard : Claim7 := { stood := { row := sealSealsRow, standIns := [], harness := (true, "dd58b4bbd908baee15e4cf2f50d11cfa4e29f4ecb68ad0e6dcb87e2327a281da"), looks := false }, kinds := [], alts := [], laidByText := true, laidKinds := [.data, .data], laidTests := true, laidLooks := .later }
def SealSealsCardSaid : Prop := Claim7.holds Tryd.pinned (.plain (OpenSpec.ofChange sealSealsSpec)) sealSealsCard

/-- THE TIED CARD OF 'keywardlaw06.SealBack'. -/
def sealBackCard : Claim7 := { stood := { row := sealBackRow, standIns := [], harness := (true, "dd58b4bbd908baee15e4cf2f50d11cfa4e29f4ecb68ad0e6dcb87e2327a281da"), looks := false }, kinds := [], alts := [], laidByText := true, laidKinds := [.data, .data], laidTests := true, laidLooks := .later }
def SealBackCardSaid : Prop := Claim7.holds Tryd.pinned (.plain (OpenSpec.ofChange sealBackSpec)) sealBackCard

/-- THE TIED CARD OF 'keywardlaw06.SealBent'. -/
def sealBentCard : Claim7 := { stood := { row := sealBentRow, standIns := [], harness := (true, "dd58b4bbd908baee15e4cf2f50d11cfa4e29f4ecb68ad0e6dcb87e2327a281da"), looks := false }, kinds := [], alts := [], laidByText := true, laidKinds := [.data, .data], laidTests := true, laidLooks := .later }
def SealBentCardSaid : Prop := Claim7.holds Tryd.pinned (.plain (OpenSpec.ofChange sealBentSpec)) sealBentCard

/-- THE TIED CARD OF 'keywardlaw06.SealHides'. -/
def sealHidesCard : Claim7 := { stood := { row := sealHidesRow, standIns := [], harness := (true, "dd58b4bbd908baee15e4cf2f50d11cfa4e29f4ecb68ad0e6dcb87e2327a281da"), looks := false }, kinds := [], alts := [], laidByText := true, laidKinds := [.data, .data], laidTests := true, laidLooks := .later }
def SealHidesCardSaid : Prop := Claim7.holds Tryd.pinned (.plain (OpenSpec.ofChange sealHidesSpec)) sealHidesCard

/-- THE SECOND FORM's CARD OF 'keywardlaw06.SealNonces'. -/
def sealNoncesUptoCard : Claim7 := { stood := { row := sealNoncesUptoRow, standIns := [], harness := (true, "dd58b4bbd908baee15e4cf2f50d11cfa4e29f4ecb68ad0e6dcb87e2327a281da"), looks := false }, kinds := [], alts := [], laidByText := true, laidKinds := [.data, .data], laidTests := true, laidLooks := .later }
def SealNoncesUptoCardSaid : Prop := Claim7.holds Tryd.pinned (.plain (OpenSpec.upto sealNoncesSpec)) sealNoncesUptoCard

/-- THE SECOND FORM's CARD OF 'keywardlaw06.SealSeals'. -/
def sealSealsUptoCard : Claim7 := { stood := { row := sealSealsUptoRow, standIns := [], harness := (true, "dd58b4bbd908baee15e4cf2f50d11cfa4e29f4ecb68ad0e6dcb87e2327a281da"), looks := false }, kinds := [], alts := [], laidByText := true, laidKinds := [.data, .data], laidTests := true, laidLooks := .later }
def SealSealsUptoCardSaid : Prop := Claim7.holds Tryd.pinned (.plain (OpenSpec.upto sealSealsSpec)) sealSealsUptoCard

/-- THE SECOND FORM's CARD OF 'keywardlaw06.SealBack'. -/
def sealBackUptoCard : Claim7 := { stood := { row := sealBackUptoRow, standIns := [], harness := (true, "dd58b4bbd908baee15e4cf2f50d11cfa4e29f4ecb68ad0e6dcb87e2327a281da"), looks := false }, kinds := [], alts := [], laidByText := true, laidKinds := [.data, .data], laidTests := true, laidLooks := .later }
def SealBackUptoCardSaid : Prop := Claim7.holds Tryd.pinned (.plain (OpenSpec.upto sealBackSpec)) sealBackUptoCard

/-- THE SECOND FORM's CARD OF 'keywardlaw06.SealBent'. -/
def sealBentUptoCard : Claim7 := { stood := { row := sealBentUptoRow, standIns := [], harness := (true, "dd58b4bbd908baee15e4cf2f50d11cfa4e29f4ecb68ad0e6dcb87e2327a281da"), looks := false }, kinds := [], alts := [], laidByText := true, laidKinds := [.data, .data], laidTests := true, laidLooks := .later }
def SealBentUptoCardSaid : Prop := Claim7.holds Tryd.pinned (.plain (OpenSpec.upto sealBentSpec)) sealBentUptoCard

/-- THE SECOND FORM's CARD OF 'keywardlaw06.SealHides'. -/
def sealHidesUptoCard : Claim7 := { stood := { row := sealHidesUptoRow, standIns := [], harness := (true, "dd58b4bbd908baee15e4cf2f50d11cfa4e29f4ecb68ad0e6dcb87e2327a281da"), looks := false }, kinds := [], alts := [], laidByText := true, laidKinds := [.data, .data], laidTests := true, laidLooks := .later }
def SealHidesUptoCardSaid : Prop := Claim7.holds Tryd.pinned (.plain (OpenSpec.upto sealHidesSpec)) sealHidesUptoCard
end Rows
end Go.Proofs.YtobpgolchlgpfaaDoor
