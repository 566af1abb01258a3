/- The ladder on whole numbers. -/
import Derived.Test.YtegebgbmnddopaaDoorRung
import Derived.Test.YtegebgbmnddopaaDoorClamp
namespace Go.Proofs.YtegebgbmnddopaaDoor
open Go.RowKit

/-- The ladder's four numbers. -/
structure LS where
  x2 : Int
  z2 : Int
  x3 : Int
  z3 : Int
  deriving DecidableEq
def LS.turn (s : LS) : LS := ⟨s.x3, s.z3, s.x2, s.z2⟩
def LS.rung (X1 : Int) (s : LS) : LS := ⟨rgX2 s.x2 s.z2, rgZ2 s.x2 s.z2, rgX3 s.x2 s.z2 s.x3 s.z3, rgZ3 X1 s.x2 s.z2 s.x3 s.z3⟩
def bitL (c : List Int) (j : Nat) : Bool := bits .and .u8 (nth c (j / 8) / 2 ^ (j % 8)) 1 == 1
def lstep (X1 : Int) : Bool → LS → LS
  | true, s => (LS.rung X1 s.turn).turn
  | false, s => LS.rung X1 s
/-- k rounds on, the first of them at the bit number j - 1; those below are still to come. -/
def ladF (X1 : Int) (c : List Int) : Nat → Nat → LS → LS
  | 0, _, s => s
  | k + 1, j, s => ladF X1 c k (j - 1) (lstep X1 (bitL c (j - 1)) s)
/-- What is left of the ladder when the bits below j are still to come. -/
def lad (X1 : Int) (c : List Int) (j : Nat) (s : LS) : LS := ladF X1 c j j s
theorem lad_zero (X1 : Int) (c : List Int) (s : LS) : lad X1 c 0 s = s := rfl
theorem lad_succ (X1 : Int) (c : List Int) (j : Nat) (s : LS) : lad X1 c (j + 1) s = lad X1 c j (lstep X1 (bitL c j) s) := rfl
structure LS.Ok (s : LS) : Prop where
  x2 : Num s.x2
  z2 : Num s.z2
  x3 : Num s.x3
  z3 : Num s.z3
theorem LS.Ok.turn {s : LS} (h : s.Ok) : s.turn.Ok := ⟨h.x3, h.z3, h.x2, h.z2⟩
theorem LS.Ok.rung (X1 : Int) (s : LS) : (LS.rung X1 s).Ok := ⟨num_emod_pp _, num_emod_pp _, num_emod_pp _, num_emod_pp _⟩
def ladStart (X1 : Int) : LS := ⟨1, 0, X1, 1⟩
/-- What Mul tells. -/
def ladNum (X1 : Int) (c : List Int) : Int := (lad X1 c 255 (ladStart X1)).x2 * ((lad X1 c 255 (ladStart X1)).z2 ^ (pp - 2).toNat % pp) % pp
def mulL (k u : List Int) : List Int := bzAll (ladNum (le (mask u) % pp) (clampL k) % pp)
theorem mulL_len (k u : List Int) : (mulL k u).length = 32 := bzAll_len _
theorem mulL_bytes (k u : List Int) : Bytes8 (mulL k u) := bzAll_bytes _
theorem mulL_top (k u : List Int) : nth (mulL k u) 31 < 128 := by
  unfold mulL
  rw [bzAll_nth _ (by omega)]
  have h := emod_pp_lt (ladNum (le (mask u) % pp) (clampL k))
  generalize ladNum (le (mask u) % pp) (clampL k) % pp = n at *
  unfold bz pp at *
  rw [show (256 : Int) ^ 31 = 452312848583266388373324160190187140051835877600158453279131187530910662656 by decide]
  omega
end Go.Proofs.YtegebgbmnddopaaDoor
