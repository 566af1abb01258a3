/-
  DERIVED. GIVEN WITH THE SEED: THE PROGRAM's TIES (one call each: nine closed facts by the kernel) AND EACH ROW's TIE, after the 31st guide's Derived/Test/Toyas{Tie, Card}.lean. No idea stands in it: it is a product of the set-up. Laid BY PROGRAM, IN A SANDBOX (cutbox-door.mjs). By AI agents, Wed Nov 11 2026. No macro, syntax, notation, axiom, sorry.
-/
import Derived.Test.YtcgbgmbnagmohaaDoorRows
import Derived.LaidByTextLater
import Derived.SevenTiedAt
import Derived.LaidSub
import Derived.LaidOnce
namespace Go.Proofs.YtcgbgmbnagmohaaDoor
open Go
set_option maxRecDepth 100000
theorem seatTie1 : Tryd.prog.laidByTextLater [("keyward/field.order", Rows.laid_keyward_field_order), ("keyward/field.lessTwo", Rows.laid_keyward_field_lessTwo), ("keyward/field.rootPower", Rows.laid_keyward_field_rootPower), ("keyward/field.minusPower", Rows.laid_keyward_field_minusPower), ("keyward/edwards.curve", Rows.laid_keyward_edwards_curve), ("keyward/edwards.base", Rows.laid_keyward_edwards_base), ("keyward/scalar.order", Rows.laid_keyward_scalar_order), ("keyward/sha.rounds", Rows.laid_keyward_sha_rounds), ("keyward/sha.begins", Rows.laid_keyward_sha_begins)] [.data, .data, .data, .data, .data, .data, .wider, .data, .data] true :=
  Program.laidByTextLater_by_one 56 8 81 (by kernel_rfl) (by kernel_rfl) (by kernel_rfl) (by kernel_rfl) (by kernel_rfl) (by kernel_rfl) (fun _ _ => by kernel_rfl)
theorem noOwnUnsafe : Tryd.pinned.checked.prog.headLifts.contains "ownunsafe" = false := by kernel_rfl
theorem tie : Tryd.prog.laidByTextLater [("keyward/field.order", Rows.laid_keyward_field_order), ("keyward/field.lessTwo", Rows.laid_keyward_field_lessTwo), ("keyward/field.rootPower", Rows.laid_keyward_field_rootPower), ("keyward/field.minusPower", Rows.laid_keyward_field_minusPower), ("keyward/edwards.curve", Rows.laid_keyward_edwards_curve), ("keyward/edwards.base", Rows.laid_keyward_edwards_base), ("keyward/scalar.order", Rows.laid_keyward_scalar_order), ("keyward/sha.rounds", Rows.laid_keyward_sha_rounds), ("keyward/sha.begins", Rows.laid_keyward_sha_begins)] [.data, .data, .data, .data, .data, .data, .wider, .data, .data] true :=
  Program.laidByTextLater.sub seatTie1 ["keyward/field.order", "keyward/field.lessTwo", "keyward/field.rootPower", "keyward/field.minusPower", "keyward/edwards.curve", "keyward/edwards.base", "keyward/scalar.order", "keyward/sha.rounds", "keyward/sha.begins"] (by kernel_rfl) (by kernel_rfl)
theorem listsFind_row_tie : Rows.listsFindRow.laidByTextAt .later Tryd.pinned [.data, .data, .data, .data, .data, .data, .wider, .data, .data] true :=
  OpenClaim.laidByTextAt_later rfl rfl tie noOwnUnsafe
theorem listsDevices_row_tie : Rows.listsDevicesRow.laidByTextAt .later Tryd.pinned [.data, .data, .data, .data, .data, .data, .wider, .data, .data] true :=
  OpenClaim.laidByTextAt_later rfl rfl tie noOwnUnsafe
theorem listsRight_row_tie : Rows.listsRightRow.laidByTextAt .later Tryd.pinned [.data, .data, .data, .data, .data, .data, .wider, .data, .data] true :=
  OpenClaim.laidByTextAt_later rfl rfl tie noOwnUnsafe
theorem listsMore_row_tie : Rows.listsMoreRow.laidByTextAt .later Tryd.pinned [.data, .data, .data, .data, .data, .data, .wider, .data, .data] true :=
  OpenClaim.laidByTextAt_later rfl rfl tie noOwnUnsafe
theorem listsFindUpto_row_tie : Rows.listsFindUptoRow.laidByTextAt .later Tryd.pinned [.data, .data, .data, .data, .data, .data, .wider, .data, .data] true :=
  OpenClaim.laidByTextAt_later rfl rfl tie noOwnUnsafe
theorem listsDevicesUpto_row_tie : Rows.listsDevicesUptoRow.laidByTextAt .later Tryd.pinned [.data, .data, .data, .data, .data, .data, .wider, .data, .data] true :=
  OpenClaim.laidByTextAt_later rfl rfl tie noOwnUnsafe
theorem listsRightUpto_row_tie : Rows.listsRightUptoRow.laidByTextAt .later Tryd.pinned [.data, .data, .data, .data, .data, .data, .wider, .data, .data] true :=
  OpenClaim.laidByTextAt_later rfl rfl tie noOwnUnsafe
theorem listsMoreUpto_row_tie : Rows.listsMoreUptoRow.laidByTextAt .later Tryd.pinned [.data, .data, .data, .data, .data, .data, .wider, .data, .data] true :=
  OpenClaim.laidByTextAt_later rfl rfl tie noOwnUnsafe
end Go.Proofs.YtcgbgmbnagmohaaDoor
