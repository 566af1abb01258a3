import Derived.Test.YtcgbgmbnagmohaaGreatWrG
namespace Go.Proofs.YtcgbgmbnagmohaaGreat
open Go.RowKit
set_option maxRecDepth 20000
attribute [local irreducible] wpList
def usM (b : List (BitVec 8)) (s : Nat × Int) : (Nat × Int) × MUs :=
  let r1 := byM b s
  let r2 := nM b 1099511627776 r1.1
  let r3 := trM b r2.1
  (r3.1, ⟨r1.2, r2.2, r3.2⟩)
def ussM (b : List (BitVec 8)) (s : Nat × Int) : (Nat × Int) × List MUs := rowsM (usM b) (nM b 60000 s).2.toNat (nM b 60000 s).1
def rdUs (b : List (BitVec 8)) : List MUs × Int :=
  let r := ussM (qb0 b).1 (0, (qb0 b).2)
  if endM (qb0 b).1.length r.1.1 r.1.2 = 0 then (r.2, 0) else ([], endM (qb0 b).1.length r.1.1 r.1.2)
end Go.Proofs.YtcgbgmbnagmohaaGreat
