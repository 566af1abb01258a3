/- A signature's 64 bytes as an argument. -/
import Derived.Test.YtefaihdhnnldmaaDoorOpenSl
namespace Go.Proofs.YtefaihdhnnldmaaDoor
open Go.ChangeShapes Go.WideShapes Go.ChangeAt Go.RowKit
set_option maxRecDepth 20000

theorem open_s8 {H : Type} {enc : TypeId × Value → H} {w : World} {r : Reach} {b0 base : Nat} {spare : Nat → Bool} {held : Bool} {v : Value} {d : DataW H} {p : List MemPlace} (hval : Value.okWide Tryd.prog w r b0 30 v) (h : DataW.Trod enc Tryd.prog w base spare held 30 v d p) :
    ∃ m : List (BitVec 8), m.length = 64 ∧ v = .agg (m.map b8).toArray ∧ p = [] ∧ ∀ (w' : World) (base' : Nat) (spare' : Nat → Bool) (held' : Bool), DataW.Trod enc Tryd.prog w' base' spare' held' 30 (.agg (m.map b8).toArray) d [] := by
  have c64 : Tryd.prog.cellsOf 30 = 64 := by kernel_rfl
  obtain ⟨l, hl, rfl, rfl, rfl, hw⟩ := open_arr Tryd.underlying30 Tryd.underlying5 cellsU8 c64 hval h
  obtain ⟨m, rfl⟩ := bytes_of l fun x hx => wf_u8 (hw x hx)
  have e : ((m.map fun y => (y.toNat : Int)).map (Value.int .u8)) = m.map b8 := by rw [List.map_map]; rfl
  refine ⟨m, by simpa using hl, by rw [e], rfl, fun w' base' spare' held' => ?_⟩
  have := shut_arr (enc := enc) (w := w') (base := base') (spare := spare') (held := held') Tryd.underlying30 Tryd.underlying5 cellsU8 c64 hl hw
  rw [e] at this
  exact this
end Go.Proofs.YtefaihdhnnldmaaDoor
