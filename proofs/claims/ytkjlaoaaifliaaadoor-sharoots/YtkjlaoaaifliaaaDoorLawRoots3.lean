/- What keywardlaw03.ShaRoots answers: the walk. -/
import Derived.Test.YtkjlaoaaifliaaaDoorLawLimbs
namespace Go.Proofs.YtkjlaoaaifliaaaDoor
open Go.RowKit

def cubeR (p : BitVec 64) : Nat → BitVec 64 → Option (BitVec 64)
  | 0, _ => none
  | f + 1, x => if (x + 1) * (x + 1) * (x + 1) ≤ p then cubeR p f (x + 1) else some x
def squareR (p : BitVec 64) : Nat → BitVec 64 → Option (BitVec 64)
  | 0, _ => none
  | f + 1, x => if (x + 1) * (x + 1) ≤ p then squareR p f (x + 1) else some x
def cubeW (p : BitVec 64) : BitVec 64 := (cubeR p 20 1).getD 0
def squareW (p : BitVec 64) : BitVec 64 := (squareR p 20 1).getD 0
def okC (i : Nat) : Bool :=
  let p := ptab.getD i 0
  let r := rtab.getD i 0
  let x := rootL (cubeW p) r
  let y := rootL (cubeW p) (r + 1)
  (cubeR p 20 1).isSome && decide (r + 1 ≠ 0) && !over (limbsL x (limbsL x x)) p 12 && over (limbsL y (limbsL y y)) p 12
def okS (j : Nat) : Bool :=
  let q := ptab.getD j 0
  let r := btab.getD j 0
  let x := rootL (squareW q) r
  let y := rootL (squareW q) (r + 1)
  (squareR q 20 1).isSome && !over (limbsL x x) q 8 && over (limbsL y y) q 8
set_option maxRecDepth 100000 in
theorem okC_all : (List.range 80).all okC = true := by decide +kernel
set_option maxRecDepth 100000 in
theorem okS_all : (List.range 8).all okS = true := by decide +kernel
theorem cube_ok {i : Nat} (h : i < 80) : cubeR (ptab.getD i 0) 20 1 = some (cubeW (ptab.getD i 0)) ∧ rtab.getD i 0 + 1 ≠ 0 ∧
    over (limbsL (rootL (cubeW (ptab.getD i 0)) (rtab.getD i 0)) (limbsL (rootL (cubeW (ptab.getD i 0)) (rtab.getD i 0)) (rootL (cubeW (ptab.getD i 0)) (rtab.getD i 0)))) (ptab.getD i 0) 12 = false ∧
    over (limbsL (rootL (cubeW (ptab.getD i 0)) (rtab.getD i 0 + 1)) (limbsL (rootL (cubeW (ptab.getD i 0)) (rtab.getD i 0 + 1)) (rootL (cubeW (ptab.getD i 0)) (rtab.getD i 0 + 1)))) (ptab.getD i 0) 12 = true := by
  have h1 := List.all_eq_true.1 okC_all i (List.mem_range.2 h)
  unfold okC at h1
  simp only [Bool.and_eq_true, decide_eq_true_eq, Bool.not_eq_true'] at h1
  obtain ⟨⟨⟨h2, h3⟩, h4⟩, h5⟩ := h1
  refine ⟨?_, h3, h4, h5⟩
  unfold cubeW
  obtain ⟨z, hz⟩ := Option.isSome_iff_exists.1 h2
  rw [hz]; rfl
theorem square_ok {i : Nat} (h : i < 8) : squareR (ptab.getD i 0) 20 1 = some (squareW (ptab.getD i 0)) ∧
    over (limbsL (rootL (squareW (ptab.getD i 0)) (btab.getD i 0)) (rootL (squareW (ptab.getD i 0)) (btab.getD i 0))) (ptab.getD i 0) 8 = false ∧
    over (limbsL (rootL (squareW (ptab.getD i 0)) (btab.getD i 0 + 1)) (rootL (squareW (ptab.getD i 0)) (btab.getD i 0 + 1))) (ptab.getD i 0) 8 = true := by
  have h1 := List.all_eq_true.1 okS_all i (List.mem_range.2 h)
  unfold okS at h1
  simp only [Bool.and_eq_true, Bool.not_eq_true'] at h1
  obtain ⟨⟨h2, h4⟩, h5⟩ := h1
  refine ⟨?_, h4, h5⟩
  unfold squareW
  obtain ⟨z, hz⟩ := Option.isSome_iff_exists.1 h2
  rw [hz]; rfl
theorem limbsL_len (a b : List (BitVec 64)) : (limbsL a b).length = a.length + b.length := limO_len a b a.length
theorem rootL_len (a b : BitVec 64) : (rootL a b).length = 5 := rfl
end Go.Proofs.YtkjlaoaaifliaaaDoor
