/- The order of the base point, as the rows list it, and a world for the witness. -/
import Derived.Test.YtefaihdhnnldmaaDoorCards
import Derived.Test.YtefaihdhnnldmaaDoorTie
import Derived.Test.YtefaihdhnnldmaaDoorShut
import Derived.Test.YtefaihdhnnldmaaDoorScLess
import Derived.Lib.LaidTab
namespace Go.Proofs.YtefaihdhnnldmaaDoor
open Go.ChangeShapes Go.WideShapes Go.ChangeAt Go.RowKit
set_option maxRecDepth 20000

theorem gScOrd : Tryd.prog.globalNamed "keyward/scalar.order" = some 0 := by kernel_rfl
theorem tScOrd : (Tryd.prog.globals[0]?).map (·.type) = some 48 := by kernel_rfl
theorem cellsShort : Tryd.prog.cellsOf 48 = 4 := by kernel_rfl
def ordInts : List Int := [6346243789798364141, 1503914060200516822, 0, 1152921504606846976]
theorem ordInts_eq : (wd ell 4).map b64 = ordInts.map (Value.int .u64) := by kernel_rfl
theorem range_ints {W : World} {name : String} {g : Nat} {zs : List Int} (hg : Tryd.prog.globalNamed name = some g) (h : Lib.TabIs Tryd.prog W name .u64 zs) : W.rangeAt g 0 (zs.map (Value.int .u64)) := fun j v hv => by
  have hj : j < zs.length := by
    rcases Nat.lt_or_ge j zs.length with h1 | h1
    · exact h1
    · rw [List.getElem?_eq_none (by simpa using h1)] at hv; cases hv
  have := h.cell hg j hj
  rw [Nat.zero_add, this]
  rw [List.getElem?_map, List.getElem?_eq_getElem hj] at hv
  simpa [hj] using hv
theorem laid_ord : (Rows.laid_keyward_scalar_order : DataW Unit) = Lib.tabData .u64 ordInts := by kernel_rfl
theorem sg_head {W : World} {rest : List (String × DataW Unit)} (h : laidMet Tryd.prog (("keyward/scalar.order", Rows.laid_keyward_scalar_order) :: rest) W) : SG W := by
  rw [laid_ord] at h
  have r := Lib.tabIs_of_head (k := .u64) (zs := ordInts) gScOrd tScOrd Tryd.underlying48 Tryd.underlying38 cellsU64 cellsShort h
  refine ⟨World.block_lt_of_cell? W _ (r.cell gScOrd 0 (by decide)), ?_⟩
  rw [ordInts_eq]; exact range_ints gScOrd r
theorem sg_of {W : World} (h : laidMetH Tryd.prog [("keyward/scalar.order", Rows.laid_keyward_scalar_order)] W) : SG W := by
  have h1 : laidMet Tryd.prog [("keyward/scalar.order", Rows.laid_keyward_scalar_order)] W := h
  exact sg_head h1
noncomputable def laidWorld (os : Os) : World :=
  { World.holding Tryd.prog os ⟨#[], #[], []⟩ with heap := (World.holding Tryd.prog os ⟨#[], #[], []⟩).heap.modify 0 (lay #[.int .u64 6346243789798364141, .int .u64 1503914060200516822, .int .u64 0, .int .u64 1152921504606846976]) }
end Go.Proofs.YtefaihdhnnldmaaDoor
