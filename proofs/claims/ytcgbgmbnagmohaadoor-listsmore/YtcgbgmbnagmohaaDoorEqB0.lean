import Derived.Test.YtcgbgmbnagmohaaDoorGen
namespace Go.Proofs.YtcgbgmbnagmohaaDoor
open Go.RowKit
set_option maxRecDepth 20000
theorem extB {l m : List (BitVec 8)} (h : l.length = m.length) (hi : ∀ i, i < l.length → l.getD i 0 = m.getD i 0) : l = m := by
  apply List.ext_getElem h
  intro i h1 h2
  have := hi i h1
  rw [List.getD_eq_getElem?_getD, List.getD_eq_getElem?_getD, List.getElem?_eq_getElem h1, List.getElem?_eq_getElem h2] at this
  exact this
theorem all_eqB {l m : List (BitVec 8)} (n : Nat) (hl : l.length = n) (hm : m.length = n) : ((List.range' 0 n).all fun i => (((l.getD i 0).toNat : Int) == ((m.getD i 0).toNat : Int))) = decide (l = m) := by
  rw [Bool.eq_iff_iff, List.all_eq_true, decide_eq_true_eq]
  constructor
  · intro h
    refine extB (by omega) fun i hi => ?_
    have := h i (List.mem_range'_1.2 ⟨Nat.zero_le _, by omega⟩)
    exact BitVec.eq_of_toNat_eq (Int.ofNat.inj (eq_of_beq this))
  · intro h i _
    rw [h]; simp
end Go.Proofs.YtcgbgmbnagmohaaDoor
