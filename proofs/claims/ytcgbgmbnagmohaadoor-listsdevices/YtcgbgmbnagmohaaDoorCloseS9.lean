import Derived.Test.YtcgbgmbnagmohaaDoorCards
import Derived.Test.YtcgbgmbnagmohaaDoorTie
import Derived.Test.YtcgbgmbnagmohaaDoorShut
import Derived.Test.YtcgbgmbnagmohaaDoorSgCon
import Derived.Lib.LaidTab
import Derived.Stop.LaidErr
import Derived.ChangeSame
import Derived.ChangeBears2
namespace Go.Proofs.YtcgbgmbnagmohaaDoor
open Go.ChangeShapes Go.WideShapes Go.ChangeAt Go.RowKit
set_option maxRecDepth 20000
theorem gScOrd : Tryd.prog.globalNamed "keyward/scalar.order" = some 0 := by kernel_rfl
theorem tScOrd : (Tryd.prog.globals[0]?).map (·.type) = some 82 := by kernel_rfl
theorem cellsShort : Tryd.prog.cellsOf 82 = 4 := by kernel_rfl
def ordInts : List Int := [6346243789798364141, 1503914060200516822, 0, 1152921504606846976]
theorem ordInts_eq : (wd ell 4).map b64 = ordInts.map (Value.int .u64) := by kernel_rfl
theorem range_ints {W : World} {name : String} {g : Nat} {zs : List Int} (hg : Tryd.prog.globalNamed name = some g) (h : Lib.TabIs Tryd.prog W name .u64 zs) : W.rangeAt g 0 (zs.map (Value.int .u64)) := fun j v hv => by
 have hj : j < zs.length := by
  rcases Nat.lt_or_ge j zs.length with h1 | h1
  ·exact h1
  ·rw [List.getElem?_eq_none (by simpa using h1)] at hv; cases hv
 have := h.cell hg j hj
 rw [Nat.zero_add, this]
 rw [List.getElem?_map, List.getElem?_eq_getElem hj] at hv
 simpa [hj] using hv
theorem laid_ord : (Rows.laid_keyward_scalar_order : DataW Unit) = Lib.tabData .u64 ordInts := by kernel_rfl
theorem sg_head {W : World} {rest : List (String × DataW Unit)} (h : laidMet Tryd.prog (("keyward/scalar.order", Rows.laid_keyward_scalar_order) :: rest) W) : SG W := by
 rw [laid_ord] at h
 have r := Lib.tabIs_of_head (k := .u64) (zs := ordInts) gScOrd tScOrd Tryd.underlying82 Tryd.underlying64 cellsU64 cellsShort h
 refine ⟨World.block_lt_of_cell? W _ (r.cell gScOrd 0 (by decide)), ?_⟩
 rw [ordInts_eq]; exact range_ints gScOrd r
theorem cellsFeP : Tryd.prog.cellsOf 66 = 4 := by kernel_rfl
theorem cellsPt : Tryd.prog.cellsOf 68 = 8 := by kernel_rfl
theorem gOrderP : Tryd.prog.globalNamed "keyward/field.order" = some 5 := by kernel_rfl
theorem gTwoP : Tryd.prog.globalNamed "keyward/field.lessTwo" = some 6 := by kernel_rfl
theorem gCurveP : Tryd.prog.globalNamed "keyward/edwards.curve" = some 2 := by kernel_rfl
theorem gBaseP : Tryd.prog.globalNamed "keyward/edwards.base" = some 1 := by kernel_rfl
theorem tOrderP : (Tryd.prog.globals[5]?).map (·.type) = some 66 := by kernel_rfl
theorem tTwoP : (Tryd.prog.globals[6]?).map (·.type) = some 66 := by kernel_rfl
theorem tCurveP : (Tryd.prog.globals[2]?).map (·.type) = some 66 := by kernel_rfl
theorem tBaseP : (Tryd.prog.globals[1]?).map (·.type) = some 68 := by kernel_rfl
theorem gcell_ofP {W : World} {name : String} {g : Nat} {N a b c d : Int} (hg : Tryd.prog.globalNamed name = some g) (h : Lib.TabIs Tryd.prog W name .u64 [a, b, c, d]) (ea : a = w0 N) (eb : b = w1 N) (ec : c = w2 N) (ed : d = w3 N) : GCell g N W := by
 have c0 : W.cell? ⟨g, 0, none⟩ = some (.int .u64 a) := h.cell hg 0 (by simp)
 have c1 : W.cell? ⟨g, 1, none⟩ = some (.int .u64 b) := h.cell hg 1 (by simp)
 have c2 : W.cell? ⟨g, 2, none⟩ = some (.int .u64 c) := h.cell hg 2 (by simp)
 have c3 : W.cell? ⟨g, 3, none⟩ = some (.int .u64 d) := h.cell hg 3 (by simp)
 refine ⟨World.block_lt_of_cell? W _ c0, ?_, ?_, ?_, ?_⟩
 ·rw [c0, ea]
 ·rw [c1, eb]
 ·rw [c2, ec]
 ·rw [c3, ed]
theorem gcell_orderP {W : World} {rest : List (String × DataW Unit)} (h : laidMet Tryd.prog (("keyward/field.order", Rows.laid_keyward_field_order) :: rest) W) : GCell 5 pp W :=
 gcell_ofP gOrderP (Lib.tabIs_of_head (k := .u64) (zs := [18446744073709551597, 18446744073709551615, 18446744073709551615, 9223372036854775807]) gOrderP tOrderP Tryd.underlying66 Tryd.underlying64 cellsU64 cellsFeP h) (by decide +kernel) (by decide +kernel) (by decide +kernel) (by decide +kernel)
theorem gcell_twoP {W : World} {rest : List (String × DataW Unit)} (h : laidMet Tryd.prog (("keyward/field.lessTwo", Rows.laid_keyward_field_lessTwo) :: rest) W) : GCell 6 (pp - 2) W :=
 gcell_ofP gTwoP (Lib.tabIs_of_head (k := .u64) (zs := [18446744073709551595, 18446744073709551615, 18446744073709551615, 9223372036854775807]) gTwoP tTwoP Tryd.underlying66 Tryd.underlying64 cellsU64 cellsFeP h) (by decide +kernel) (by decide +kernel) (by decide +kernel) (by decide +kernel)
theorem gcell_curveP {W : World} {rest : List (String × DataW Unit)} (h : laidMet Tryd.prog (("keyward/edwards.curve", Rows.laid_keyward_edwards_curve) :: rest) W) : GCell 2 dd W :=
 gcell_ofP gCurveP (Lib.tabIs_of_head (k := .u64) (zs := [8496970652267935907, 31536524315187371, 10144147576115030168, 5909686906226998899]) gCurveP tCurveP Tryd.underlying66 Tryd.underlying64 cellsU64 cellsFeP h) (by decide +kernel) (by decide +kernel) (by decide +kernel) (by decide +kernel)
def baseX : List Int := [14507833142362363162, 7578651490590762930, 13881468655802702940, 2407515759118799870]
def baseY : List Int := [7378697629483820632, 7378697629483820646, 7378697629483820646, 7378697629483820646]
theorem base_ints : ptL bs = baseX.map (Value.int .u64) ++ baseY.map (Value.int .u64) := by kernel_rfl
theorem laid_base : (Rows.laid_keyward_edwards_base : DataW Unit) = .agg [Lib.tabData .u64 baseX, Lib.tabData .u64 baseY] := by kernel_rfl
theorem base_head {W : World} {rest : List (String × DataW Unit)} (h : laidMet Tryd.prog (("keyward/edwards.base", Rows.laid_keyward_edwards_base) :: rest) W) : 1 < W.heap.size ∧ W.rangeAt 1 0 (ptL bs) := by
 rw [laid_base] at h
 obtain ⟨ps, ⟨g', t', cs, fuel, p, q, hg', ht', hvar, hd, _, _⟩, _⟩ := h
 obtain rfl := Option.some.inj (gBaseP.symm.trans hg')
 obtain rfl := Option.some.inj (tBaseP.symm.trans ht')
 obtain ⟨y0, y1, n, hx, hl, h0, h1⟩ := trod_struct2 Tryd.underlying68 hd
 have hx1 := congrArg Prod.fst hx
 simp only [DataW.agg.injEq, List.cons.injEq, and_true] at hx1
 obtain ⟨z0, z1⟩ := y0
 obtain ⟨z2, z3⟩ := y1
 obtain ⟨e0, e1⟩ := hx1
 simp only at e0 e1
 subst e0
 subst e1
 have c0 := Lib.cells_of_tab Tryd.underlying66 Tryd.underlying64 cellsU64 cellsFeP h0
 have c1 := Lib.cells_of_tab Tryd.underlying66 Tryd.underlying64 cellsU64 cellsFeP h1
 rw [cellsPt] at hl
 have c0' : (cs.toList.drop 0).take 4 = baseX.map (Value.int .u64) := c0
 have c1' : (cs.toList.drop 4).take 4 = baseY.map (Value.int .u64) := c1
 have e : cs.toList = ptL bs := by
  rw [base_ints, ← c0', ← c1', List.drop_zero, List.take_of_length_le (i := 4) (l := cs.toList.drop 4) (by rw [List.length_drop]; omega), List.take_append_drop]
 have key : ∀ j, W.cell? ⟨1, j, none⟩ = cs[j]? := fun j => World.var?_cell gBaseP hvar j
 have hc0 : W.cell? ⟨1, 0, none⟩ = some (cs.toList[0]'(by omega)) := by
  rw [key 0, ← Array.getElem?_toList]
  exact List.getElem?_eq_getElem _
 refine ⟨World.block_lt_of_cell? W _ hc0, fun j v hv => ?_⟩
 rw [← e] at hv
 rw [Nat.zero_add, key j, ← Array.getElem?_toList]
 exact hv
theorem gRootP : Tryd.prog.globalNamed "keyward/field.rootPower" = some 7 := by kernel_rfl
theorem tRootP : (Tryd.prog.globals[7]?).map (·.type) = some 66 := by kernel_rfl
theorem gcell_rootPowerP {W : World} {rest : List (String × DataW Unit)} (h : laidMet Tryd.prog (("keyward/field.rootPower", Rows.laid_keyward_field_rootPower) :: rest) W) : GCell 7 rp W :=
 gcell_ofP gRootP (Lib.tabIs_of_head (k := .u64) (zs := [18446744073709551613, 18446744073709551615, 18446744073709551615, 1152921504606846975]) gRootP tRootP Tryd.underlying66 Tryd.underlying64 cellsU64 cellsFeP h) (by decide +kernel) (by decide +kernel) (by decide +kernel) (by decide +kernel)
theorem gMinusP : Tryd.prog.globalNamed "keyward/field.minusPower" = some 4 := by kernel_rfl
theorem tMinusP : (Tryd.prog.globals[4]?).map (·.type) = some 66 := by kernel_rfl
theorem gcell_minusPowerP {W : World} {rest : List (String × DataW Unit)} (h : laidMet Tryd.prog (("keyward/field.minusPower", Rows.laid_keyward_field_minusPower) :: rest) W) : GCell 4 mp W :=
 gcell_ofP gMinusP (Lib.tabIs_of_head (k := .u64) (zs := [18446744073709551611, 18446744073709551615, 18446744073709551615, 2305843009213693951]) gMinusP tMinusP Tryd.underlying66 Tryd.underlying64 cellsU64 cellsFeP h) (by decide +kernel) (by decide +kernel) (by decide +kernel) (by decide +kernel)
def rints : List Int := [4794697086780616226, 8158064640168781261, 13096744586834688815, 16840607885511220156, 4131703408338449720, 6480981068601479193, 10538285296894168987, 12329834152419229976, 15566598209576043074, 1334009975649890238, 2608012711638119052, 6128411473006802146, 8268148722764581231, 9286055187155687089, 11230858885718282805, 13951009754708518548, 16472876342353939154, 17275323862435702243, 1135362057144423861, 2597628984639134821, 3308224258029322869, 5365058923640841347, 6679025012923562964, 8573033837759648693, 10970295158949994411, 12119686244451234320, 12683024718118986047, 13788192230050041572, 14330467153632333762, 15395433587784984357, 489312712824947311, 1452737877330783856, 2861767655752347644, 3322285676063803686, 5560940570517711597, 5996557281743188959, 7280758554555802590, 8532644243296465576, 9350256976987008742, 10552545826968843579, 11727347734174303076, 12113106623233404929, 14000437183269869457, 14369950271660146224, 15101387698204529176, 15463397548674623760, 17586052441742319658, 1182934255886127544, 1847814050463011016, 2177327727835720531, 2830643537854262169, 3796741975233480872, 4115178125766777443, 5681478168544905931, 6601373596472566643, 7507060721942968483, 8399075790359081724, 8693463985226723168, 9568029438360202098, 10144078919501101548, 10430055236837252648, 11840083180663258601, 13761210420658862357, 14299343276471374635, 14566680578165727644, 15097957966210449927, 16922976911328602910, 17689382322260857208, 500013540394364858, 748580250866718886, 1242879168328830382, 1977374033974150939, 2944078676154940804, 3659926193048069267, 4368137639120453308, 4836135668995329356, 5532061633213252278, 6448918945643986474, 6902733635092675308, 7801388544844847127]
def bints : List Int := [7640891576956012808, 13503953896175478587, 4354685564936845355, 11912009170470909681, 5840696475078001361, 11170449401992604703, 2270897969802886507, 6620516959819538809]
theorem rints_eq : rtab.map b64 = rints.map (Value.int .u64) := by kernel_rfl
theorem bints_eq : btab.map b64 = bints.map (Value.int .u64) := by kernel_rfl
theorem gRounds : Tryd.prog.globalNamed "keyward/sha.rounds" = some 8 := by kernel_rfl
theorem gBegins : Tryd.prog.globalNamed "keyward/sha.begins" = some 3 := by kernel_rfl
theorem tRounds : (Tryd.prog.globals[8]?).map (·.type) = some 129 := by kernel_rfl
theorem tBegins : (Tryd.prog.globals[3]?).map (·.type) = some 83 := by kernel_rfl
theorem cells80 : Tryd.prog.cellsOf 129 = 80 := by kernel_rfl
theorem cells8 : Tryd.prog.cellsOf 83 = 8 := by kernel_rfl
theorem range_of_tab {W : World} {name : String} {g : Nat} {zs : List Int} (hg : Tryd.prog.globalNamed name = some g) (h : Lib.TabIs Tryd.prog W name .u64 zs) : W.rangeAt g 0 (zs.map (Value.int .u64)) := fun j v hv => by
 have hj : j < zs.length := by
  rcases Nat.lt_or_ge j zs.length with h1 | h1
  ·exact h1
  ·rw [List.getElem?_eq_none (by simpa using h1)] at hv; cases hv
 have := h.cell hg j hj
 rw [Nat.zero_add, this]
 rw [List.getElem?_map, List.getElem?_eq_getElem hj] at hv
 simpa [hj] using hv
theorem laid_rounds : (Rows.laid_keyward_sha_rounds : DataW Unit) = Lib.tabData .u64 rints := by kernel_rfl
theorem laid_begins : (Rows.laid_keyward_sha_begins : DataW Unit) = Lib.tabData .u64 bints := by kernel_rfl
theorem tabs_head {W : World} {rest : List (String × DataW Unit)} (h1 : laidMet Tryd.prog (("keyward/sha.rounds", Rows.laid_keyward_sha_rounds) :: ("keyward/sha.begins", Rows.laid_keyward_sha_begins) :: rest) W) : Tabs W := by
 rw [laid_rounds, laid_begins] at h1
 have r := Lib.tabIs_of_head (k := .u64) (zs := rints) gRounds tRounds Tryd.underlying129 Tryd.underlying64 cellsU64 cells80 h1
 have b := Lib.tabIs_of_head (k := .u64) (zs := bints) gBegins tBegins Tryd.underlying83 Tryd.underlying64 cellsU64 cells8 h1.tail
 refine ⟨World.block_lt_of_cell? W _ (r.cell gRounds 0 (by decide)), World.block_lt_of_cell? W _ (b.cell gBegins 0 (by decide)), ?_, ?_⟩
 ·rw [rints_eq]; exact range_of_tab gRounds r
 ·rw [bints_eq]; exact range_of_tab gBegins b
theorem w9_of {W : World} (h : laidMetH Tryd.prog [("keyward/field.order", Rows.laid_keyward_field_order), ("keyward/field.lessTwo", Rows.laid_keyward_field_lessTwo), ("keyward/field.rootPower", Rows.laid_keyward_field_rootPower), ("keyward/field.minusPower", Rows.laid_keyward_field_minusPower), ("keyward/edwards.curve", Rows.laid_keyward_edwards_curve), ("keyward/edwards.base", Rows.laid_keyward_edwards_base), ("keyward/scalar.order", Rows.laid_keyward_scalar_order), ("keyward/sha.rounds", Rows.laid_keyward_sha_rounds), ("keyward/sha.begins", Rows.laid_keyward_sha_begins)] W) : W9 W := by
 have h1 : laidMet Tryd.prog [("keyward/field.order", Rows.laid_keyward_field_order), ("keyward/field.lessTwo", Rows.laid_keyward_field_lessTwo), ("keyward/field.rootPower", Rows.laid_keyward_field_rootPower), ("keyward/field.minusPower", Rows.laid_keyward_field_minusPower), ("keyward/edwards.curve", Rows.laid_keyward_edwards_curve), ("keyward/edwards.base", Rows.laid_keyward_edwards_base), ("keyward/scalar.order", Rows.laid_keyward_scalar_order), ("keyward/sha.rounds", Rows.laid_keyward_sha_rounds), ("keyward/sha.begins", Rows.laid_keyward_sha_begins)] W := h
 have hb := base_head h1.tail.tail.tail.tail.tail
 exact ⟨{ O := gcell_orderP h1, T := gcell_twoP h1.tail, D := gcell_curveP h1.tail.tail.tail.tail, Bl := hb.1, B := hb.2, R := gcell_rootPowerP h1.tail.tail, M := gcell_minusPowerP h1.tail.tail.tail }, sg_head h1.tail.tail.tail.tail.tail.tail, tabs_head h1.tail.tail.tail.tail.tail.tail.tail⟩
noncomputable def laidWorld (os : Os) : World :=
 { World.holding Tryd.prog os ⟨#[], #[], []⟩ with heap := ((((World.holding Tryd.prog os ⟨#[], #[], []⟩).heap.modify 0 (lay #[.int .u64 6346243789798364141, .int .u64 1503914060200516822, .int .u64 0, .int .u64 1152921504606846976])).modify 5 (lay #[.int .u64 18446744073709551597, .int .u64 18446744073709551615, .int .u64 18446744073709551615, .int .u64 9223372036854775807])).modify 6 (lay #[.int .u64 18446744073709551595, .int .u64 18446744073709551615, .int .u64 18446744073709551615, .int .u64 9223372036854775807])).modify 2 (lay #[.int .u64 8496970652267935907, .int .u64 31536524315187371, .int .u64 10144147576115030168, .int .u64 5909686906226998899]) |>.modify 1 (lay #[.int .u64 14507833142362363162, .int .u64 7578651490590762930, .int .u64 13881468655802702940, .int .u64 2407515759118799870, .int .u64 7378697629483820632, .int .u64 7378697629483820646, .int .u64 7378697629483820646, .int .u64 7378697629483820646]) |>.modify 7 (lay #[.int .u64 18446744073709551613, .int .u64 18446744073709551615, .int .u64 18446744073709551615, .int .u64 1152921504606846975]) |>.modify 4 (lay #[.int .u64 18446744073709551611, .int .u64 18446744073709551615, .int .u64 18446744073709551615, .int .u64 2305843009213693951]) |>.modify 8 (lay #[.int .u64 4794697086780616226, .int .u64 8158064640168781261, .int .u64 13096744586834688815, .int .u64 16840607885511220156, .int .u64 4131703408338449720, .int .u64 6480981068601479193, .int .u64 10538285296894168987, .int .u64 12329834152419229976, .int .u64 15566598209576043074, .int .u64 1334009975649890238, .int .u64 2608012711638119052, .int .u64 6128411473006802146, .int .u64 8268148722764581231, .int .u64 9286055187155687089, .int .u64 11230858885718282805, .int .u64 13951009754708518548, .int .u64 16472876342353939154, .int .u64 17275323862435702243, .int .u64 1135362057144423861, .int .u64 2597628984639134821, .int .u64 3308224258029322869, .int .u64 5365058923640841347, .int .u64 6679025012923562964, .int .u64 8573033837759648693, .int .u64 10970295158949994411, .int .u64 12119686244451234320, .int .u64 12683024718118986047, .int .u64 13788192230050041572, .int .u64 14330467153632333762, .int .u64 15395433587784984357, .int .u64 489312712824947311, .int .u64 1452737877330783856, .int .u64 2861767655752347644, .int .u64 3322285676063803686, .int .u64 5560940570517711597, .int .u64 5996557281743188959, .int .u64 7280758554555802590, .int .u64 8532644243296465576, .int .u64 9350256976987008742, .int .u64 10552545826968843579, .int .u64 11727347734174303076, .int .u64 12113106623233404929, .int .u64 14000437183269869457, .int .u64 14369950271660146224, .int .u64 15101387698204529176, .int .u64 15463397548674623760, .int .u64 17586052441742319658, .int .u64 1182934255886127544, .int .u64 1847814050463011016, .int .u64 2177327727835720531, .int .u64 2830643537854262169, .int .u64 3796741975233480872, .int .u64 4115178125766777443, .int .u64 5681478168544905931, .int .u64 6601373596472566643, .int .u64 7507060721942968483, .int .u64 8399075790359081724, .int .u64 8693463985226723168, .int .u64 9568029438360202098, .int .u64 10144078919501101548, .int .u64 10430055236837252648, .int .u64 11840083180663258601, .int .u64 13761210420658862357, .int .u64 14299343276471374635, .int .u64 14566680578165727644, .int .u64 15097957966210449927, .int .u64 16922976911328602910, .int .u64 17689382322260857208, .int .u64 500013540394364858, .int .u64 748580250866718886, .int .u64 1242879168328830382, .int .u64 1977374033974150939, .int .u64 2944078676154940804, .int .u64 3659926193048069267, .int .u64 4368137639120453308, .int .u64 4836135668995329356, .int .u64 5532061633213252278, .int .u64 6448918945643986474, .int .u64 6902733635092675308, .int .u64 7801388544844847127]) |>.modify 3 (lay #[.int .u64 7640891576956012808, .int .u64 13503953896175478587, .int .u64 4354685564936845355, .int .u64 11912009170470909681, .int .u64 5840696475078001361, .int .u64 11170449401992604703, .int .u64 2270897969802886507, .int .u64 6620516959819538809]) }
end Go.Proofs.YtcgbgmbnagmohaaDoor
