/- What all claims of this seat share: the package's numbers as the row lists them, a call that touches nothing that was there, a world for the witness. -/
import Derived.Test.YtegebgbmnddopaaDoorOpen
import Derived.Test.YtegebgbmnddopaaDoorBase
import Derived.Stop.LaidErr
namespace Go.Proofs.YtegebgbmnddopaaDoor
open Go.ChangeShapes Go.WideShapes Go.ChangeAt Go.RowKit

theorem own : ownKnob Tryd.prog.godebug = none := by kernel_rfl
theorem cellsFe : Tryd.prog.cellsOf 33 = 4 := by kernel_rfl
theorem cellsU64 : Tryd.prog.cellsOf 31 = 1 := by kernel_rfl
theorem gOrder : Tryd.prog.globalNamed "keyward/field.order" = some 1 := by kernel_rfl
theorem gTwo : Tryd.prog.globalNamed "keyward/field.lessTwo" = some 0 := by kernel_rfl
theorem tOrder : (Tryd.prog.globals[1]?).map (·.type) = some 33 := by kernel_rfl
theorem tTwo : (Tryd.prog.globals[0]?).map (·.type) = some 33 := by kernel_rfl

theorem gcell_of {W : World} {name : String} {g : Nat} {N a b c d : Int} (hg : Tryd.prog.globalNamed name = some g) (h : Lib.TabIs Tryd.prog W name .u64 [a, b, c, d]) (ea : a = w0 N) (eb : b = w1 N) (ec : c = w2 N) (ed : d = w3 N) : GCell g N W := by
  have c0 : W.cell? ⟨g, 0, none⟩ = some (.int .u64 a) := h.cell hg 0 (by simp)
  have c1 : W.cell? ⟨g, 1, none⟩ = some (.int .u64 b) := h.cell hg 1 (by simp)
  have c2 : W.cell? ⟨g, 2, none⟩ = some (.int .u64 c) := h.cell hg 2 (by simp)
  have c3 : W.cell? ⟨g, 3, none⟩ = some (.int .u64 d) := h.cell hg 3 (by simp)
  refine ⟨World.block_lt_of_cell? W _ c0, ?_, ?_, ?_, ?_⟩
  · rw [c0, ea]
  · rw [c1, eb]
  · rw [c2, ec]
  · rw [c3, ed]
theorem gcell_order {W : World} {rest : List (String × DataW Unit)} (h : laidMet Tryd.prog (("keyward/field.order", Rows.laid_keyward_field_order) :: rest) W) : GCell 1 pp W :=
  gcell_of gOrder (Lib.tabIs_of_head (k := .u64) (zs := [18446744073709551597, 18446744073709551615, 18446744073709551615, 9223372036854775807]) gOrder tOrder Tryd.underlying33 Tryd.underlying31 cellsU64 cellsFe h) (by decide +kernel) (by decide +kernel) (by decide +kernel) (by decide +kernel)
theorem gcell_two {W : World} {rest : List (String × DataW Unit)} (h : laidMet Tryd.prog (("keyward/field.lessTwo", Rows.laid_keyward_field_lessTwo) :: rest) W) : GCell 0 (pp - 2) W :=
  gcell_of gTwo (Lib.tabIs_of_head (k := .u64) (zs := [18446744073709551595, 18446744073709551615, 18446744073709551615, 9223372036854775807]) gTwo tTwo Tryd.underlying33 Tryd.underlying31 cellsU64 cellsFe h) (by decide +kernel) (by decide +kernel) (by decide +kernel) (by decide +kernel)
/-- The row's list of two: order, lessTwo. -/
theorem globs2 {W : World} (h : laidMetH Tryd.prog [("keyward/field.order", Rows.laid_keyward_field_order), ("keyward/field.lessTwo", Rows.laid_keyward_field_lessTwo)] W) : GCell 1 pp W ∧ GCell 0 (pp - 2) W := by
  have h1 : laidMet Tryd.prog [("keyward/field.order", Rows.laid_keyward_field_order), ("keyward/field.lessTwo", Rows.laid_keyward_field_lessTwo)] W := h
  exact ⟨gcell_order h1, gcell_two h1.tail⟩

/-- A call whose arguments hold no place of memory, and that lets everything stand. -/
theorem post_plain {H : Type} {enc : TypeId × Value → H} {P : Program} {f : Func} {s : ChangeSpec} {apart fresh handsOn again : Bool} {W W' : World} {args : Array Value} {v : Value} {ds gs : List (DataW H)}
    (hW : DataW.Whole enc P f.params.toList s.vars apart W args.toList ds gs [])
    (hres : ∀ (b : Nat) (sp : Nat → Bool) (hd : Bool), DataW.TrodAll enc P W' b sp hd f.resultTypes.toList (v.resultList f.resultTypes.size) (s.fn H (ds ++ gs)).results [])
    (hargs : ∀ sp : Nat → Bool, DataW.TrodAll enc P W' 0 sp true f.params.toList args.toList (s.fn H (ds ++ gs)).args [])
    (hvars : ∀ sp : Nat → Bool, DataW.TrodVars enc P W' sp s.vars (s.fn H (ds ++ gs)).vars [])
    (hb : Below W.heap.size W W')
    (hok : ∀ (j : Nat) (t : TypeId) (r : Value), f.resultTypes[j]? = some t → (v.resultList f.resultTypes.size)[j]? = some r → Value.okWide P W' .any 0 t r) :
    s.post enc P f apart fresh handsOn again W args v W' := by
  refine ⟨ds, gs, [], [], [], [], hW, hres _ _ _, hargs _, hvars _, hb.frame _, fun _ => ⟨hok, _, _, [], ⟨[], [], trodAll_append (hargs _) (hres _ _ _), hvars _, rfl, ?_, ?_⟩, ?_⟩⟩
  · exact fun b off hp => by cases hp
  · exact fun _ => List.nodup_nil
  · exact fun p hp _ => by cases hp

theorem wf_u32 {n : Int} (h : (Lit.int .u32 n).wf = true) : 0 ≤ n ∧ n < 4294967296 := by
  simp [Lit.wf, IntKind.min, IntKind.max, IntKind.bits, IntKind.signed] at h; omega
theorem wf_u64 {n : Int} (h : (Lit.int .u64 n).wf = true) : Word n := by
  simp [Lit.wf, IntKind.min, IntKind.max, IntKind.bits, IntKind.signed] at h; unfold Word; omega
theorem wf_u8 {n : Int} (h : (Lit.int .u8 n).wf = true) : 0 ≤ n ∧ n ≤ 255 := by
  simp [Lit.wf, IntKind.min, IntKind.max, IntKind.bits, IntKind.signed] at h; omega

/-- A number of four words, as an argument. -/
theorem open_fe {H : Type} {enc : TypeId × Value → H} {w : World} {base : Nat} {spare : Nat → Bool} {held : Bool} {r : Reach} {b0 : Nat} {v : Value} {d : DataW H} {p : List MemPlace}
    (hval : Value.okWide Tryd.prog w r b0 33 v) (h : DataW.Trod enc Tryd.prog w base spare held 33 v d p) :
    ∃ X : Int, Num X ∧ v = feV X ∧ p = [] ∧ ∀ {w' : World} {base' : Nat} {spare' : Nat → Bool} {held' : Bool}, DataW.Trod enc Tryd.prog w' base' spare' held' 33 (feV X) d [] := by
  obtain ⟨l, hl, rfl, rfl, rfl, hw⟩ := open_arr Tryd.underlying33 Tryd.underlying31 cellsU64 cellsFe hval h
  match l, hl with
  | [a, b, c, e], hl =>
    have ha := wf_u64 (hw a (by simp))
    have hb := wf_u64 (hw b (by simp))
    have hc := wf_u64 (hw c (by simp))
    have he := wf_u64 (hw e (by simp))
    refine ⟨val a b c e, val_num ha hb hc he, (feV_val ha hb hc he).symm, rfl, ?_⟩
    intro w' base' spare' held'
    rw [feV_val ha hb hc he]
    exact shut_arr (l := [a, b, c, e]) Tryd.underlying33 Tryd.underlying31 cellsU64 cellsFe rfl hw

theorem cellsKey : Tryd.prog.cellsOf 23 = 32 := by kernel_rfl
theorem cellsU8 : Tryd.prog.cellsOf 5 = 1 := by kernel_rfl
/-- Thirty-two bytes, as an argument. -/
theorem open_key {H : Type} {enc : TypeId × Value → H} {w : World} {base : Nat} {spare : Nat → Bool} {held : Bool} {r : Reach} {b0 : Nat} {v : Value} {d : DataW H} {p : List MemPlace}
    (hval : Value.okWide Tryd.prog w r b0 23 v) (h : DataW.Trod enc Tryd.prog w base spare held 23 v d p) :
    ∃ l : List Int, l.length = 32 ∧ Bytes8 l ∧ v = kV l ∧ p = [] ∧ ∀ {w' : World} {base' : Nat} {spare' : Nat → Bool} {held' : Bool}, DataW.Trod enc Tryd.prog w' base' spare' held' 23 (kV l) d [] := by
  obtain ⟨l, hl, rfl, rfl, rfl, hw⟩ := open_arr Tryd.underlying23 Tryd.underlying5 cellsU8 cellsKey hval h
  exact ⟨l, hl, fun b hb => wf_u8 (hw b hb), rfl, rfl, fun {w'} {base'} {spare'} {held'} => shut_arr Tryd.underlying23 Tryd.underlying5 cellsU8 cellsKey hl hw⟩

/-- A block's cells laid anew. -/
def lay (c : Array Value) : Obj → Obj
  | .cells _ t frozen => .cells c t frozen
  | o => o
/-- A world for the witness: the package's numbers hold what their initialisers lay. -/
noncomputable def laidWorld (os : Os) : World :=
  { World.holding Tryd.prog os ⟨#[], #[], []⟩ with heap := ((World.holding Tryd.prog os ⟨#[], #[], []⟩).heap.modify 1 (lay #[.int .u64 18446744073709551597, .int .u64 18446744073709551615, .int .u64 18446744073709551615, .int .u64 9223372036854775807])).modify 0 (lay #[.int .u64 18446744073709551595, .int .u64 18446744073709551615, .int .u64 18446744073709551615, .int .u64 9223372036854775807]) }
end Go.Proofs.YtegebgbmnddopaaDoor
