/- The sums behind keywardref01.Mul. -/
import Derived.Test.YtfdjmdfaidiliaaDoorLimbs6
namespace Go.Proofs.YtfdjmdfaidiliaaDoor
open Go.RowKit Go.Sort
set_option maxRecDepth 20000

theorem lb_set : ∀ {m : List Int} {j : Nat}, j < m.length → ∀ x : Int, lb (m.set j x) = lb m + 65536 ^ j * (x - nth m j)
  | [], j, h, _ => by simp at h
  | y :: t, 0, _, x => by simp [lb, nth]; omega
  | y :: t, j + 1, h, x => by
    have e := lb_set (m := t) (j := j) (by simpa using h) x
    rw [List.set_cons_succ, lb, lb, e, show nth (y :: t) (j + 1) = nth t j by simp [nth], Int.pow_succ, Int.mul_add, Int.mul_comm (65536 ^ j) 65536, Int.mul_assoc, Int.add_assoc]

theorem nth_zero (n j : Nat) : nth (List.replicate n 0) j = 0 := by
  simp only [nth, List.getElem?_replicate]; split <;> rfl
/-- Mul's loops: i limbs of the one, and k of the other by the next. -/
structure MuI (w : World) (a b : List Int) (g1 ga gb gr i k : Nat) (u : World) : Prop where
  bl : Below w.heap.size w u
  R : Var4 g1 0 u
  A : LRow ga a u
  B : LRow gb b u
  V : ∃ (r : List Int) (t : Int), r.length = 16 ∧ LRow gr r u ∧ (∀ j, j < 16 → 0 ≤ nth r j ∧ nth r j ≤ (16 * (i : Int) + k) * 163203776550) ∧ lb r + pp * t = lb (a.take i) * lb b + 65536 ^ i * (nth a i * lb (b.take k))
theorem mul_le {x y : Int} (h0 : 0 ≤ x) (h1 : x < 65536) (h2 : 0 ≤ y) (h3 : y < 65536) : 0 ≤ x * y ∧ x * y ≤ 4294836225 := by
  refine ⟨Int.mul_nonneg h0 h2, ?_⟩
  have := Int.mul_le_mul (show x ≤ 65535 by omega) (show y ≤ 65535 by omega) h2 (by omega)
  omega
theorem MuI.put {w u u' : World} {a b r : List Int} {g1 ga gb gr i k j : Nat} {t v : Int} (hb : b.length = 16) (hk : k < 16) (hw : w.heap.size ≤ gr) (h1 : g1 ≠ gr) (h2 : ga ≠ gr) (h3 : gb ≠ gr)
    (bl : Below w.heap.size w u) (R : Var4 g1 0 u) (A : LRow ga a u) (B : LRow gb b u) (hr : r.length = 16) (hV : LRow gr r u) (hn : ∀ j, j < 16 → 0 ≤ nth r j ∧ nth r j ≤ (16 * (i : Int) + k) * 163203776550) (ht : lb r + pp * t = lb (a.take i) * lb b + 65536 ^ i * (nth a i * lb (b.take k)))
    (hj : j < 16) (v0 : 0 ≤ v) (v1 : v ≤ 163203776550) (t' : Int) (hv : 65536 ^ j * v + pp * t' = 65536 ^ i * (nth a i * (65536 ^ k * nth b k)))
    (hu : u' = (u.setCell ⟨gr, j, none⟩ (.int .u64 (nth r j + v))).drew) : MuI w a b g1 ga gb gr i (k + 1) u' := by
  subst hu
  refine ⟨(bl.setCell (p := ⟨gr, j, none⟩) hw _).drew, (R.far (Ne.symm h1) _ _).drew, (A.far (Ne.symm h2) _ _).drew, (B.far (Ne.symm h3) _ _).drew, r.set j (nth r j + v), t + t', by rw [List.length_set, hr], (hV.set (by omega) _).drew, fun q hq => ?_, ?_⟩
  · have h := hn q hq
    have hb2 : (16 * (i : Int) + k) * 163203776550 + 163203776550 = (16 * (i : Int) + (k + 1 : Nat)) * 163203776550 := by rw [Int.natCast_add]; omega
    by_cases e : j = q
    · subst e; rw [nth_set_same (by omega)]; omega
    · rw [nth_set_other e]; omega
  · rw [lb_set (by omega), lb_take_succ (l := b) (by omega), show nth r j + v - nth r j = v by omega]
    generalize lb (b.take k) = B' at *
    generalize lb (a.take i) = A' at *
    generalize (65536 : Int) ^ i = M at *
    generalize (65536 : Int) ^ k = K at *
    generalize (65536 : Int) ^ j = J at *
    generalize pp = p at *
    grind
theorem MuI.turn {w u : World} {a b : List Int} {g1 ga gb gr i : Nat} (ha : a.length = 16) (hb : b.length = 16) (hi : i < 16) (h : MuI w a b g1 ga gb gr i 16 u) : MuI w a b g1 ga gb gr (i + 1) 0 u := by
  obtain ⟨bl, R, A, B, r, t, hr, hV, hn, ht⟩ := h
  refine ⟨bl, R, A, B, r, t, hr, hV, fun j hj => ?_, ?_⟩
  · have h := hn j hj
    have e : (16 * (i : Int) + (16 : Nat)) * 163203776550 = (16 * ((i + 1 : Nat) : Int) + (0 : Nat)) * 163203776550 := by rw [Int.natCast_add]; omega
    omega
  · rw [ht, List.take_of_length_le (l := b) (by omega), lb_take_succ (by omega), List.take_zero, show lb ([] : List Int) = 0 from rfl, Int.mul_zero, Int.mul_zero, Int.add_zero, Int.add_mul, Int.mul_assoc]
theorem wides_of_nth {m : List Int} (hm : m.length = 16) (h : ∀ j, j < 16 → 0 ≤ nth m j ∧ nth m j < 4611686018427387904) : Wides m := fun b hb => by
  obtain ⟨i, hi, rfl⟩ := List.getElem_of_mem hb
  have e := h i (by omega)
  unfold nth at e
  rwa [List.getElem?_eq_getElem hi, Option.getD_some] at e
theorem pow_turn {i k j : Nat} (h : i + k = j + 16) : (65536 : Int) ^ i * 65536 ^ k = 65536 ^ j * (2 * pp + 38) := by
  rw [← Int.pow_add, h, Int.pow_add, pow16]; rfl
end Go.Proofs.YtfdjmdfaidiliaaDoor
