/-
  DERIVED. GIVEN WITH THE SEED: THE CARDS: each row of YtcgbgmbnagmohaaDoorRows.lean that lists a variable, with what it lists TIED to the program's text (the seventh form; the later family's looks); each row that meets fmt, with fmt's text TOLD by the authors' own Lean function (tested against real Go, not proved from fmt's source: count such statements apart). THE CARD IS WHAT COUNTS. Prove the row's statement (the work); the ties are given (YtcgbgmbnagmohaaDoorTie.lean); close each card by the builder's one call (the guide's Derived/Test/ToyasCard.lean, 'card_holds'). Laid BY PROGRAM, IN A SANDBOX (cutbox-door.mjs). By AI agents, Wed Nov 11 2026. No macro, syntax, notation, axiom, sorry.
-/
import Derived.Test.YtcgbgmbnagmohaaDoorRows
import GoSem.ClaimSeven
namespace Go.Proofs.YtcgbgmbnagmohaaDoor
namespace Rows

/-- THE TIED CARD OF 'keywardlaw11.ListsFind'. -/
def listsFindCard : Claim7 := { stood := { row := listsFindRow, standIns := [], harness := (true, "5ec3e2b1c2104e9948905dca5acd92680bb479ae37742e319e8977b43143b008"), looks := false }, kinds := [], alts := [], laidByText := true, laidKinds := [.data, .data, .data, .data, .data, .data, .wider, .data, .data], laidTests := true, laidLooks := .later }
def ListsFindCardSaid : Prop := Claim7.holds Tryd.pinned (.plain (OpenSpec.ofChange listsFindSpec)) listsFindCard

/-- THE TIED CARD OF 'keywardlaw11.ListsDevices'. -/
def listsDevicesCard : Claim7 := { stood := { row := listsDevicesRow, standIns := [], harness := (true, "5ec3e2b1c2104e9948905dca5acd92680bb479ae37742e319e8977b43143b008"), looks := false }, kinds := [], alts := [], laidByText := true, laidKinds := [.data, .data, .data, .data, .data, .data, .wider, .data, .data], laidTests := true, laidLooks := .later }
def ListsDevicesCardSaid : Prop := Claim7.holds Tryd.pinned (.plain (OpenSpec.ofChange listsDevicesSpec)) listsDevicesCard

/-- THE TIED CARD OF 'keywardlaw11.ListsRight'. -/
def listsRightCard : Claim7 := { stood := { row := listsRightRow, standIns := [], harness := (true, "5ec3e2b1c2104e9948905dca5acd92680bb479ae37742e319e8977b43143b008"), looks := false }, kinds := [], alts := [], laidByText := true, laidKinds := [.data, .data, .data, .data, .data, .data, .wider, .data, .data], laidTests := true, laidLooks := .later }
def ListsRightCardSaid : Prop := Claim7.holds Tryd.pinned (.plain (OpenSpec.ofChange listsRightSpec)) listsRightCard

/-- THE TIED CARD OF 'keywardlaw11.ListsMore'. -/
def listsMoreCard : Claim7 := { stood := { row := listsMoreRow, standIns := [], harness := (true, "5ec3e2b1c2104e9948905dca5acd92680bb479ae37742e319e8977b43143b008"), looks := false }, kinds := [], alts := [], laidByText := true, laidKinds := [.data, .data, .data, .data, .data, .data, .wider, .data, .data], laidTests := true, laidLooks := .later }
def ListsMoreCardSaid : Prop := Claim7.holds Tryd.pinned (.plain (OpenSpec.ofChange listsMoreSpec)) listsMoreCard

/-- THE SECOND FORM's CARD OF 'keywardlaw11.ListsFind'. -/
def listsFindUptoCard : Claim7 := { stood := { row := listsFindUptoRow, standIns := [], harness := (true, "5ec3e2b1c2104e9948905dca5acd92680bb479ae37742e319e8977b43143b008"), looks := false }, kinds := [], alts := [], laidByText := true, laidKinds := [.data, .data, .data, .data, .data, .data, .wider, .data, .data], laidTests := true, laidLooks := .later }
def ListsFindUptoCardSaid : Prop := Claim7.holds Tryd.pinned (.plain (OpenSpec.upto listsFindSpec)) listsFindUptoCard

/-- THE SECOND FORM's CARD OF 'keywardlaw11.ListsDevices'. -/
def listsDevicesUptoCard : Claim7 := { stood := { row := listsDevicesUptoRow, standIns := [], harness := (true, "5ec3e2b1c2104e9948905dca5acd92680bb479ae37742e319e8977b43143b008"), looks := false }, kinds := [], alts := [], laidByText := true, laidKinds := [.data, .data, .data, .data, .data, .data, .wider, .data, .data], laidTests := true, laidLooks := .later }
def ListsDevicesUptoCardSaid : Prop := Claim7.holds Tryd.pinned (.plain (OpenSpec.upto listsDevicesSpec)) listsDevicesUptoCard

/-- THE SECOND FORM's CARD OF 'keywardlaw11.ListsRight'. -/
def listsRightUptoCard : Claim7 := { stood := { row := listsRightUptoRow, standIns := [], harness := (true, "5ec3e2b1c2104e9948905dca5acd92680bb479ae37742e319e8977b43143b008"), looks := false }, kinds := [], alts := [], laidByText := true, laidKinds := [.data, .data, .data, .data, .data, .data, .wider, .data, .data], laidTests := true, laidLooks := .later }
def ListsRightUptoCardSaid : Prop := Claim7.holds Tryd.pinned (.plain (OpenSpec.upto listsRightSpec)) listsRightUptoCard

/-- THE SECOND FORM's CARD OF 'keywardlaw11.ListsMore'. -/
def listsMoreUptoCard : Claim7 := { stood := { row := listsMoreUptoRow, standIns := [], harness := (true, "5ec3e2b1c2104e9948905dca5acd92680bb479ae37742e319e8977b43143b008"), looks := false }, kinds := [], alts := [], laidByText := true, laidKinds := [.data, .data, .data, .data, .data, .data, .wider, .data, .data], laidTests := true, laidLooks := .later }
def ListsMoreUptoCardSaid : Prop := Claim7.holds Tryd.pinned (.plain (OpenSpec.upto listsMoreSpec)) listsMoreUptoCard
end Rows
end Go.Proofs.YtcgbgmbnagmohaaDoor
