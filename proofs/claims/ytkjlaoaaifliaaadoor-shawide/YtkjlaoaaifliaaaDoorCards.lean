/-
  DERIVED. GIVEN WITH THE SEED: THE CARDS: each row of YtkjlaoaaifliaaaDoorRows.lean that lists a variable, with what it lists TIED to the program's text (the seventh form; the later family's looks); each row that meets fmt, with fmt's text TOLD by the authors' own Lean function (tested against real Go, not proved from fmt's source: count such statements apart). THE CARD IS WHAT COUNTS. Prove the row's statement (the work); the ties are given (YtkjlaoaaifliaaaDoorTie.lean); close each card by the builder's one call (the guide's Derived/Test/ToyasCard.lean, 'card_holds'). Laid BY PROGRAM, IN A SANDBOX (cutbox-door.mjs). By AI agents, Wed Nov 11 2026. No macro, syntax, notation, axiom, sorry.
-/
import Derived.Test.YtkjlaoaaifliaaaDoorRows
import GoSem.ClaimSeven
namespace Go.Proofs.YtkjlaoaaifliaaaDoor
namespace Rows

/-- THE TIED CARD OF 'keywardlaw03.ShaBlocks'. -/
def shaBlocksCard : Claim7 := { stood := { row := shaBlocksRow, standIns := [], harness := (true, "d8b48b4bd23d139a9a402eaea7600e950cd049556fe05e742d956d6115098e31"), looks := false }, kinds := [], alts := [], laidByText := true, laidKinds := [.data, .data], laidTests := true, laidLooks := .later }
def ShaBlocksCardSaid : Prop := Claim7.holds Tryd.pinned (.plain (OpenSpec.ofChange shaBlocksSpec)) shaBlocksCard

/-- THE TIED CARD OF 'keywardlaw03.ShaNarrow'. -/
def shaNarrowCard : Claim7 := { stood := { row := shaNarrowRow, standIns := [], harness := (true, "d8b48b4bd23d139a9a402eaea7600e950cd049556fe05e742d956d6115098e31"), looks := false }, kinds := [], alts := [], laidByText := true, laidKinds := [.data, .data], laidTests := true, laidLooks := .later }
def ShaNarrowCardSaid : Prop := Claim7.holds Tryd.pinned (.plain (OpenSpec.ofChange shaNarrowSpec)) shaNarrowCard

/-- THE TIED CARD OF 'keywardlaw03.ShaWide'. -/
def shaWideCard : Claim7 := { stood := { row := shaWideRow, standIns := [], harness := (true, "d8b48b4bd23d139a9a402eaea7600e950cd049556fe05e742d956d6115098e31"), looks := false }, kinds := [], alts := [], laidByText := true, laidKinds := [.data, .data], laidTests := true, laidLooks := .later }
def ShaWideCardSaid : Prop := Claim7.holds Tryd.pinned (.plain (OpenSpec.ofChange shaWideSpec)) shaWideCard

/-- THE TIED CARD OF 'keywardlaw03.ShaNumbers'. -/
def shaNumbersCard : Claim7 := { stood := { row := shaNumbersRow, standIns := [], harness := (true, "d8b48b4bd23d139a9a402eaea7600e950cd049556fe05e742d956d6115098e31"), looks := false }, kinds := [], alts := [], laidByText := true, laidKinds := [.data, .data], laidTests := true, laidLooks := .later }
def ShaNumbersCardSaid : Prop := Claim7.holds Tryd.pinned (.plain (OpenSpec.ofChange shaNumbersSpec)) shaNumbersCard

/-- THE TIED CARD OF 'keywardlaw03.ShaRoots'. -/
def shaRootsCard : Claim7 := { stood := { row := shaRootsRow, standIns := [], harness := (true, "d8b48b4bd23d139a9a402eaea7600e950cd049556fe05e742d956d6115098e31"), looks := false }, kinds := [], alts := [], laidByText := true, laidKinds := [.data, .data], laidTests := true, laidLooks := .later }
def ShaRootsCardSaid : Prop := Claim7.holds Tryd.pinned (.plain (OpenSpec.ofChange shaRootsSpec)) shaRootsCard

/-- THE TIED CARD OF 'keywardlaw03.ShaFront'. -/
def shaFrontCard : Claim7 := { stood := { row := shaFrontRow, standIns := [], harness := (true, "d8b48b4bd23d139a9a402eaea7600e950cd049556fe05e742d956d6115098e31"), looks := false }, kinds := [], alts := [], laidByText := true, laidKinds := [.data, .data], laidTests := true, laidLooks := .later }
def ShaFrontCardSaid : Prop := Claim7.holds Tryd.pinned (.plain (OpenSpec.ofChange shaFrontSpec)) shaFrontCard

/-- THE SECOND FORM's CARD OF 'keywardlaw03.ShaBlocks'. -/
def shaBlocksUptoCard : Claim7 := { stood := { row := shaBlocksUptoRow, standIns := [], harness := (true, "d8b48b4bd23d139a9a402eaea7600e950cd049556fe05e742d956d6115098e31"), looks := false }, kinds := [], alts := [], laidByText := true, laidKinds := [.data, .data], laidTests := true, laidLooks := .later }
def ShaBlocksUptoCardSaid : Prop := Claim7.holds Tryd.pinned (.plain (OpenSpec.upto shaBlocksSpec)) shaBlocksUptoCard

/-- THE SECOND FORM's CARD OF 'keywardlaw03.ShaNarrow'. -/
def shaNarrowUptoCard : Claim7 := { stood := { row := shaNarrowUptoRow, standIns := [], harness := (true, "d8b48b4bd23d139a9a402eaea7600e950cd049556fe05e742d956d6115098e31"), looks := false }, kinds := [], alts := [], laidByText := true, laidKinds := [.data, .data], laidTests := true, laidLooks := .later }
def ShaNarrowUptoCardSaid : Prop := Claim7.holds Tryd.pinned (.plain (OpenSpec.upto shaNarrowSpec)) shaNarrowUptoCard

/-- THE SECOND FORM's CARD OF 'keywardlaw03.ShaWide'. -/
def shaWideUptoCard : Claim7 := { stood := { row := shaWideUptoRow, standIns := [], harness := (true, "d8b48b4bd23d139a9a402eaea7600e950cd049556fe05e742d956d6115098e31"), looks := false }, kinds := [], alts := [], laidByText := true, laidKinds := [.data, .data], laidTests := true, laidLooks := .later }
def ShaWideUptoCardSaid : Prop := Claim7.holds Tryd.pinned (.plain (OpenSpec.upto shaWideSpec)) shaWideUptoCard

/-- THE SECOND FORM's CARD OF 'keywardlaw03.ShaNumbers'. -/
def shaNumbersUptoCard : Claim7 := { stood := { row := shaNumbersUptoRow, standIns := [], harness := (true, "d8b48b4bd23d139a9a402eaea7600e950cd049556fe05e742d956d6115098e31"), looks := false }, kinds := [], alts := [], laidByText := true, laidKinds := [.data, .data], laidTests := true, laidLooks := .later }
def ShaNumbersUptoCardSaid : Prop := Claim7.holds Tryd.pinned (.plain (OpenSpec.upto shaNumbersSpec)) shaNumbersUptoCard

/-- THE SECOND FORM's CARD OF 'keywardlaw03.ShaRoots'. -/
def shaRootsUptoCard : Claim7 := { stood := { row := shaRootsUptoRow, standIns := [], harness := (true, "d8b48b4bd23d139a9a402eaea7600e950cd049556fe05e742d956d6115098e31"), looks := false }, kinds := [], alts := [], laidByText := true, laidKinds := [.data, .data], laidTests := true, laidLooks := .later }
def ShaRootsUptoCardSaid : Prop := Claim7.holds Tryd.pinned (.plain (OpenSpec.upto shaRootsSpec)) shaRootsUptoCard

/-- THE SECOND FORM's CARD OF 'keywardlaw03.ShaFront'. -/
def shaFrontUptoCard : Claim7 := { stood := { row := shaFrontUptoRow, standIns := [], harness := (true, "d8b48b4bd23d139a9a402eaea7600e950cd049556fe05e742d956d6115098e31"), looks := false }, kinds := [], alts := [], laidByText := true, laidKinds := [.data, .data], laidTests := true, laidLooks := .later }
def ShaFrontUptoCardSaid : Prop := Claim7.holds Tryd.pinned (.plain (OpenSpec.upto shaFrontSpec)) shaFrontUptoCard
end Rows
end Go.Proofs.YtkjlaoaaifliaaaDoor
