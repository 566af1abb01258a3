/- Rows of bytes that are filled from the front; keys of one byte. -/
import Derived.Test.YtgioojahadlmhaaFlB
namespace Go.Proofs.Ytgioojahadlmhaa
open Go.RowKit
set_option maxRecDepth 20000

/-- The first n of the one, then the other. -/
def mixB (X l : List (BitVec 8)) (n : Nat) : List (BitVec 8) := X.take n ++ l.drop n
theorem mixB_len {X l : List (BitVec 8)} {n : Nat} (hX : n ≤ X.length) (hl : n ≤ l.length) : (mixB X l n).length = l.length := by unfold mixB; rw [List.length_append, List.length_take, List.length_drop]; omega
theorem mixB_zero (X l : List (BitVec 8)) : mixB X l 0 = l := by unfold mixB; simp
theorem mixB_set {X l : List (BitVec 8)} {n : Nat} (hX : n < X.length) (hl : n < l.length) : (mixB X l n).set n (X.getD n 0) = mixB X l (n + 1) := by
  unfold mixB
  rw [List.set_append_right _ _ (by rw [List.length_take]; omega), List.length_take, Nat.min_eq_left (by omega), Nat.sub_self, List.drop_eq_getElem_cons hl, List.set_cons_zero, List.take_succ_eq_append_getElem hX, List.append_assoc]
  simp [hX]
theorem szSg {l : List (BitVec 8)} (h : l.length = 64) : (Try.prog.info? 38).map (·.size) = some (l.map b8).length := by rw [List.length_map, h]; kernel_rfl
theorem szSz : (Try.prog.info? 38).map (·.size) = some (z8 64).length := by kernel_rfl
def kB (x : BitVec 8) : List (BitVec 8) := x :: List.replicate 31 0
theorem kB_len (x : BitVec 8) : (kB x).length = 32 := rfl
theorem built_kB (x : BitVec 8) : Try.prog.built 35 [(0, b8 x)] = some ((kB x).map b8).toArray := by kernel_rfl
theorem built_k0 : Try.prog.built 35 [] = some ((List.replicate 32 (0 : BitVec 8)).map b8).toArray := by kernel_rfl
end Go.Proofs.Ytgioojahadlmhaa
