/- The numbers of field, edwards and scalar, as the row lists them, and a world for the witness. -/
import Derived.Test.YtefaihdhnnldmaaDoorCards
import Derived.Test.YtefaihdhnnldmaaDoorTie
import Derived.Test.YtefaihdhnnldmaaDoorShut
import Derived.Test.YtefaihdhnnldmaaDoorScLess
import Derived.Test.YtefaihdhnnldmaaDoorEdOps
import Derived.Lib.LaidTab
import Derived.Stop.LaidErr
import Derived.ChangeSame
import Derived.ChangeBears2
namespace Go.Proofs.YtefaihdhnnldmaaDoor
open Go.ChangeShapes Go.WideShapes Go.ChangeAt Go.RowKit
set_option maxRecDepth 20000

theorem gScOrd : Tryd.prog.globalNamed "keyward/scalar.order" = some 0 := by kernel_rfl
theorem tScOrd : (Tryd.prog.globals[0]?).map (·.type) = some 48 := by kernel_rfl
theorem cellsShort : Tryd.prog.cellsOf 48 = 4 := by kernel_rfl
def ordInts : List Int := [6346243789798364141, 1503914060200516822, 0, 1152921504606846976]
theorem ordInts_eq : (wd ell 4).map b64 = ordInts.map (Value.int .u64) := by kernel_rfl
theorem range_ints {W : World} {name : String} {g : Nat} {zs : List Int} (hg : Tryd.prog.globalNamed name = some g) (h : Lib.TabIs Tryd.prog W name .u64 zs) : W.rangeAt g 0 (zs.map (Value.int .u64)) := fun j v hv => by
  have hj : j < zs.length := by
    rcases Nat.lt_or_ge j zs.length with h1 | h1
    · exact h1
    · rw [List.getElem?_eq_none (by simpa using h1)] at hv; cases hv
  have := h.cell hg j hj
  rw [Nat.zero_add, this]
  rw [List.getElem?_map, List.getElem?_eq_getElem hj] at hv
  simpa [hj] using hv
theorem laid_ord : (Rows.laid_keyward_scalar_order : DataW Unit) = Lib.tabData .u64 ordInts := by kernel_rfl
theorem sg_head {W : World} {rest : List (String × DataW Unit)} (h : laidMet Tryd.prog (("keyward/scalar.order", Rows.laid_keyward_scalar_order) :: rest) W) : SG W := by
  rw [laid_ord] at h
  have r := Lib.tabIs_of_head (k := .u64) (zs := ordInts) gScOrd tScOrd Tryd.underlying48 Tryd.underlying38 cellsU64 cellsShort h
  refine ⟨World.block_lt_of_cell? W _ (r.cell gScOrd 0 (by decide)), ?_⟩
  rw [ordInts_eq]; exact range_ints gScOrd r
theorem cellsFeP : Tryd.prog.cellsOf 40 = 4 := by kernel_rfl
theorem cellsPt : Tryd.prog.cellsOf 42 = 8 := by kernel_rfl
theorem gOrderP : Tryd.prog.globalNamed "keyward/field.order" = some 3 := by kernel_rfl
theorem gTwoP : Tryd.prog.globalNamed "keyward/field.lessTwo" = some 4 := by kernel_rfl
theorem gCurveP : Tryd.prog.globalNamed "keyward/edwards.curve" = some 2 := by kernel_rfl
theorem gBaseP : Tryd.prog.globalNamed "keyward/edwards.base" = some 1 := by kernel_rfl
theorem tOrderP : (Tryd.prog.globals[3]?).map (·.type) = some 40 := by kernel_rfl
theorem tTwoP : (Tryd.prog.globals[4]?).map (·.type) = some 40 := by kernel_rfl
theorem tCurveP : (Tryd.prog.globals[2]?).map (·.type) = some 40 := by kernel_rfl
theorem tBaseP : (Tryd.prog.globals[1]?).map (·.type) = some 42 := by kernel_rfl
theorem gcell_ofP {W : World} {name : String} {g : Nat} {N a b c d : Int} (hg : Tryd.prog.globalNamed name = some g) (h : Lib.TabIs Tryd.prog W name .u64 [a, b, c, d]) (ea : a = w0 N) (eb : b = w1 N) (ec : c = w2 N) (ed : d = w3 N) : GCell g N W := by
  have c0 : W.cell? ⟨g, 0, none⟩ = some (.int .u64 a) := h.cell hg 0 (by simp)
  have c1 : W.cell? ⟨g, 1, none⟩ = some (.int .u64 b) := h.cell hg 1 (by simp)
  have c2 : W.cell? ⟨g, 2, none⟩ = some (.int .u64 c) := h.cell hg 2 (by simp)
  have c3 : W.cell? ⟨g, 3, none⟩ = some (.int .u64 d) := h.cell hg 3 (by simp)
  refine ⟨World.block_lt_of_cell? W _ c0, ?_, ?_, ?_, ?_⟩
  · rw [c0, ea]
  · rw [c1, eb]
  · rw [c2, ec]
  · rw [c3, ed]
theorem gcell_orderP {W : World} {rest : List (String × DataW Unit)} (h : laidMet Tryd.prog (("keyward/field.order", Rows.laid_keyward_field_order) :: rest) W) : GCell 3 pp W :=
  gcell_ofP gOrderP (Lib.tabIs_of_head (k := .u64) (zs := [18446744073709551597, 18446744073709551615, 18446744073709551615, 9223372036854775807]) gOrderP tOrderP Tryd.underlying40 Tryd.underlying38 cellsU64 cellsFeP h) (by decide +kernel) (by decide +kernel) (by decide +kernel) (by decide +kernel)
theorem gcell_twoP {W : World} {rest : List (String × DataW Unit)} (h : laidMet Tryd.prog (("keyward/field.lessTwo", Rows.laid_keyward_field_lessTwo) :: rest) W) : GCell 4 (pp - 2) W :=
  gcell_ofP gTwoP (Lib.tabIs_of_head (k := .u64) (zs := [18446744073709551595, 18446744073709551615, 18446744073709551615, 9223372036854775807]) gTwoP tTwoP Tryd.underlying40 Tryd.underlying38 cellsU64 cellsFeP h) (by decide +kernel) (by decide +kernel) (by decide +kernel) (by decide +kernel)
theorem gcell_curveP {W : World} {rest : List (String × DataW Unit)} (h : laidMet Tryd.prog (("keyward/edwards.curve", Rows.laid_keyward_edwards_curve) :: rest) W) : GCell 2 dd W :=
  gcell_ofP gCurveP (Lib.tabIs_of_head (k := .u64) (zs := [8496970652267935907, 31536524315187371, 10144147576115030168, 5909686906226998899]) gCurveP tCurveP Tryd.underlying40 Tryd.underlying38 cellsU64 cellsFeP h) (by decide +kernel) (by decide +kernel) (by decide +kernel) (by decide +kernel)
def baseX : List Int := [14507833142362363162, 7578651490590762930, 13881468655802702940, 2407515759118799870]
def baseY : List Int := [7378697629483820632, 7378697629483820646, 7378697629483820646, 7378697629483820646]
theorem base_ints : ptL bs = baseX.map (Value.int .u64) ++ baseY.map (Value.int .u64) := by kernel_rfl
theorem laid_base : (Rows.laid_keyward_edwards_base : DataW Unit) = .agg [Lib.tabData .u64 baseX, Lib.tabData .u64 baseY] := by kernel_rfl
theorem base_head {W : World} {rest : List (String × DataW Unit)} (h : laidMet Tryd.prog (("keyward/edwards.base", Rows.laid_keyward_edwards_base) :: rest) W) : 1 < W.heap.size ∧ W.rangeAt 1 0 (ptL bs) := by
  rw [laid_base] at h
  obtain ⟨ps, ⟨g', t', cs, fuel, p, q, hg', ht', hvar, hd, _, _⟩, _⟩ := h
  obtain rfl := Option.some.inj (gBaseP.symm.trans hg')
  obtain rfl := Option.some.inj (tBaseP.symm.trans ht')
  obtain ⟨y0, y1, n, hx, hl, h0, h1⟩ := trod_struct2 Tryd.underlying42 hd
  have hx1 := congrArg Prod.fst hx
  simp only [DataW.agg.injEq, List.cons.injEq, and_true] at hx1
  obtain ⟨z0, z1⟩ := y0
  obtain ⟨z2, z3⟩ := y1
  obtain ⟨e0, e1⟩ := hx1
  simp only at e0 e1
  subst e0
  subst e1
  have c0 := Lib.cells_of_tab Tryd.underlying40 Tryd.underlying38 cellsU64 cellsFeP h0
  have c1 := Lib.cells_of_tab Tryd.underlying40 Tryd.underlying38 cellsU64 cellsFeP h1
  rw [cellsPt] at hl
  have c0' : (cs.toList.drop 0).take 4 = baseX.map (Value.int .u64) := c0
  have c1' : (cs.toList.drop 4).take 4 = baseY.map (Value.int .u64) := c1
  have e : cs.toList = ptL bs := by
    rw [base_ints, ← c0', ← c1', List.drop_zero, List.take_of_length_le (i := 4) (l := cs.toList.drop 4) (by rw [List.length_drop]; omega), List.take_append_drop]
  have key : ∀ j, W.cell? ⟨1, j, none⟩ = cs[j]? := fun j => World.var?_cell gBaseP hvar j
  have hc0 : W.cell? ⟨1, 0, none⟩ = some (cs.toList[0]'(by omega)) := by
    rw [key 0, ← Array.getElem?_toList]
    exact List.getElem?_eq_getElem _
  refine ⟨World.block_lt_of_cell? W _ hc0, fun j v hv => ?_⟩
  rw [← e] at hv
  rw [Nat.zero_add, key j, ← Array.getElem?_toList]
  exact hv
theorem pts_of {W : World} (h : laidMetH Tryd.prog [("keyward/field.order", Rows.laid_keyward_field_order), ("keyward/field.lessTwo", Rows.laid_keyward_field_lessTwo), ("keyward/edwards.curve", Rows.laid_keyward_edwards_curve), ("keyward/edwards.base", Rows.laid_keyward_edwards_base), ("keyward/scalar.order", Rows.laid_keyward_scalar_order)] W) : SG W ∧ EG W := by
  have h1 : laidMet Tryd.prog [("keyward/field.order", Rows.laid_keyward_field_order), ("keyward/field.lessTwo", Rows.laid_keyward_field_lessTwo), ("keyward/edwards.curve", Rows.laid_keyward_edwards_curve), ("keyward/edwards.base", Rows.laid_keyward_edwards_base), ("keyward/scalar.order", Rows.laid_keyward_scalar_order)] W := h
  have hb := base_head h1.tail.tail.tail
  exact ⟨sg_head h1.tail.tail.tail.tail, ⟨gcell_orderP h1, gcell_twoP h1.tail, gcell_curveP h1.tail.tail, hb.1, hb.2⟩⟩
noncomputable def laidWorld (os : Os) : World :=
  { World.holding Tryd.prog os ⟨#[], #[], []⟩ with heap := ((((World.holding Tryd.prog os ⟨#[], #[], []⟩).heap.modify 0 (lay #[.int .u64 6346243789798364141, .int .u64 1503914060200516822, .int .u64 0, .int .u64 1152921504606846976])).modify 3 (lay #[.int .u64 18446744073709551597, .int .u64 18446744073709551615, .int .u64 18446744073709551615, .int .u64 9223372036854775807])).modify 4 (lay #[.int .u64 18446744073709551595, .int .u64 18446744073709551615, .int .u64 18446744073709551615, .int .u64 9223372036854775807])).modify 2 (lay #[.int .u64 8496970652267935907, .int .u64 31536524315187371, .int .u64 10144147576115030168, .int .u64 5909686906226998899]) |>.modify 1 (lay #[.int .u64 14507833142362363162, .int .u64 7578651490590762930, .int .u64 13881468655802702940, .int .u64 2407515759118799870, .int .u64 7378697629483820632, .int .u64 7378697629483820646, .int .u64 7378697629483820646, .int .u64 7378697629483820646]) }
end Go.Proofs.YtefaihdhnnldmaaDoor
