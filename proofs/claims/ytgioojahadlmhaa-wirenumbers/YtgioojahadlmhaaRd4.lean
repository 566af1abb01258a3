/- What keywardref10's getPrekey and getHeader answer: readers of a row. -/
import Derived.Test.YtgioojahadlmhaaRd3
import Derived.Test.YtgioojahadlmhaaWr4
namespace Go.Proofs.Ytgioojahadlmhaa
open Go.RowKit
set_option maxRecDepth 20000
attribute [local irreducible] wpList

/-- A number, and so many bytes, with the place and the error behind. -/
def nM (b : List (BitVec 8)) (most : Int) (s : Nat × Int) : (Nat × Int) × Int := (((gn b most s.1 s.2).1, (gn b most s.1 s.2).2.1), (gn b most s.1 s.2).2.2)
def kM (n : Nat) (b : List (BitVec 8)) (s : Nat × Int) : (Nat × Int) × List (BitVec 8) := ((tkI b.length s.1 s.2 n, tkE b.length s.1 s.2 n), gkX n b s.1 s.2)
theorem gnL_le {b : List (BitVec 8)} {most : Int} : ∀ {k i n t : Nat}, i ≤ b.length → (gnL b most k i n t).1 ≤ b.length
  | 0, _, _, _, h => h
  | k + 1, i, n, t, h => by
    unfold gnL
    split
    · exact h
    · split
      · split
        · show i + 1 ≤ _; omega
        · show i + 1 ≤ _; omega
      · exact gnL_le (by omega)
theorem nM_le {b : List (BitVec 8)} {most : Int} {s : Nat × Int} (h : s.1 ≤ b.length) : (nM b most s).1.1 ≤ b.length := by
  unfold nM gn
  by_cases he : s.2 = 0
  · rw [if_pos he]; exact gnL_le h
  · rw [if_neg he]; exact h
theorem kM_le {n : Nat} {b : List (BitVec 8)} {s : Nat × Int} (h : s.1 ≤ b.length) : (kM n b s).1.1 ≤ b.length := by
  unfold kM tkI
  by_cases he : tkE b.length s.1 s.2 n = 0
  · have := tk_room h he
    simp only [if_pos he]; exact this
  · simp only [if_neg he]; exact h
theorem kM_len {n : Nat} {b : List (BitVec 8)} {s : Nat × Int} (h : s.1 ≤ b.length) : (kM n b s).2.length = n := gkX_len h
theorem pkC_row {p : MPk} : pkC p = pkR (.int .i64 p.id) (p.key.map b8) := by unfold pkC pkR; rfl
theorem hdC_row {h : MHd} : hdC h = hdR (h.r.map b8) (.int .i64 h.prev) (.int .i64 h.n) := by unfold hdC hdR; rfl
def pkM (b : List (BitVec 8)) (s : Nat × Int) : (Nat × Int) × MPk :=
  let r1 := nM b 1099511627776 s
  let r2 := kM 32 b r1.1
  (r2.1, ⟨r1.2, r2.2⟩)
theorem pkM_le {b : List (BitVec 8)} {s : Nat × Int} (h : s.1 ≤ b.length) : (pkM b s).1.1 ≤ b.length := (kM_le (nM_le h))
def hdM (b : List (BitVec 8)) (s : Nat × Int) : (Nat × Int) × MHd :=
  let r1 := kM 32 b s
  let r2 := nM b 1099511627776 r1.1
  let r3 := nM b 1099511627776 r2.1
  (r3.1, ⟨r1.2, r2.2, r3.2⟩)
theorem hdM_le {b : List (BitVec 8)} {s : Nat × Int} (h : s.1 ≤ b.length) : (hdM b s).1.1 ≤ b.length := (nM_le (nM_le (kM_le h)))
end Go.Proofs.Ytgioojahadlmhaa
