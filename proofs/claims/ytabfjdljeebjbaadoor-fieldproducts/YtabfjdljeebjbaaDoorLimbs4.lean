/- The sums behind keywardref01.fe. -/
import Derived.Test.YtabfjdljeebjbaaDoorLimbs3
namespace Go.Proofs.YtabfjdljeebjbaaDoor
open Go.RowKit Go.Sort

theorem add_word0 {T v : Int} {k : Nat} (hq : (k : Int) / 4 = 0) (h0 : 0 ≤ T) (h1 : T < 65536 ^ k) (v0 : 0 ≤ v) (v1 : v < 65536) :
    IntKind.u64.wrap (w0 T + IntKind.u64.wrap (v * 2 ^ (16 * (k % 4)))) = w0 (T + 65536 ^ k * v) ∧ w1 T = w1 (T + 65536 ^ k * v) ∧ w2 T = w2 (T + 65536 ^ k * v) ∧ w3 T = w3 (T + 65536 ^ k * v) := by
  rcases (show k = 0 ∨ k = 1 ∨ k = 2 ∨ k = 3 by omega) with rfl | rfl | rfl | rfl
  · rw [show (65536 : Int) ^ 0 = 1 by decide] at *
    rw [show (2 : Int) ^ (16 * (0 % 4)) = 1 by decide, IntKind.wrap_u64, IntKind.wrap_u64]
    refine ⟨by unfold w0; omega, by unfold w1; omega, by unfold w2; omega, by unfold w3; omega⟩
  · rw [show (65536 : Int) ^ 1 = 65536 by decide] at *
    rw [show (2 : Int) ^ (16 * (1 % 4)) = 65536 by decide, IntKind.wrap_u64, IntKind.wrap_u64]
    refine ⟨by unfold w0; omega, by unfold w1; omega, by unfold w2; omega, by unfold w3; omega⟩
  · rw [show (65536 : Int) ^ 2 = 4294967296 by decide] at *
    rw [show (2 : Int) ^ (16 * (2 % 4)) = 4294967296 by decide, IntKind.wrap_u64, IntKind.wrap_u64]
    refine ⟨by unfold w0; omega, by unfold w1; omega, by unfold w2; omega, by unfold w3; omega⟩
  · rw [show (65536 : Int) ^ 3 = 281474976710656 by decide] at *
    rw [show (2 : Int) ^ (16 * (3 % 4)) = 281474976710656 by decide, IntKind.wrap_u64, IntKind.wrap_u64]
    refine ⟨by unfold w0; omega, by unfold w1; omega, by unfold w2; omega, by unfold w3; omega⟩
theorem add_word1 {T v : Int} {k : Nat} (hq : (k : Int) / 4 = 1) (h0 : 0 ≤ T) (h1 : T < 65536 ^ k) (v0 : 0 ≤ v) (v1 : v < 65536) :
    IntKind.u64.wrap (w1 T + IntKind.u64.wrap (v * 2 ^ (16 * (k % 4)))) = w1 (T + 65536 ^ k * v) ∧ w0 T = w0 (T + 65536 ^ k * v) ∧ w2 T = w2 (T + 65536 ^ k * v) ∧ w3 T = w3 (T + 65536 ^ k * v) := by
  rcases (show k = 4 ∨ k = 5 ∨ k = 6 ∨ k = 7 by omega) with rfl | rfl | rfl | rfl
  · rw [show (65536 : Int) ^ 4 = 18446744073709551616 by decide] at *
    rw [show (2 : Int) ^ (16 * (4 % 4)) = 1 by decide, IntKind.wrap_u64, IntKind.wrap_u64]
    refine ⟨by unfold w1; omega, by unfold w0; omega, by unfold w2; omega, by unfold w3; omega⟩
  · rw [show (65536 : Int) ^ 5 = 1208925819614629174706176 by decide] at *
    rw [show (2 : Int) ^ (16 * (5 % 4)) = 65536 by decide, IntKind.wrap_u64, IntKind.wrap_u64]
    refine ⟨by unfold w1; omega, by unfold w0; omega, by unfold w2; omega, by unfold w3; omega⟩
  · rw [show (65536 : Int) ^ 6 = 79228162514264337593543950336 by decide] at *
    rw [show (2 : Int) ^ (16 * (6 % 4)) = 4294967296 by decide, IntKind.wrap_u64, IntKind.wrap_u64]
    refine ⟨by unfold w1; omega, by unfold w0; omega, by unfold w2; omega, by unfold w3; omega⟩
  · rw [show (65536 : Int) ^ 7 = 5192296858534827628530496329220096 by decide] at *
    rw [show (2 : Int) ^ (16 * (7 % 4)) = 281474976710656 by decide, IntKind.wrap_u64, IntKind.wrap_u64]
    refine ⟨by unfold w1; omega, by unfold w0; omega, by unfold w2; omega, by unfold w3; omega⟩
theorem add_word2 {T v : Int} {k : Nat} (hq : (k : Int) / 4 = 2) (h0 : 0 ≤ T) (h1 : T < 65536 ^ k) (v0 : 0 ≤ v) (v1 : v < 65536) :
    IntKind.u64.wrap (w2 T + IntKind.u64.wrap (v * 2 ^ (16 * (k % 4)))) = w2 (T + 65536 ^ k * v) ∧ w0 T = w0 (T + 65536 ^ k * v) ∧ w1 T = w1 (T + 65536 ^ k * v) ∧ w3 T = w3 (T + 65536 ^ k * v) := by
  rcases (show k = 8 ∨ k = 9 ∨ k = 10 ∨ k = 11 by omega) with rfl | rfl | rfl | rfl
  · rw [show (65536 : Int) ^ 8 = 340282366920938463463374607431768211456 by decide] at *
    rw [show (2 : Int) ^ (16 * (8 % 4)) = 1 by decide, IntKind.wrap_u64, IntKind.wrap_u64]
    refine ⟨by unfold w2; omega, by unfold w0; omega, by unfold w1; omega, by unfold w3; omega⟩
  · rw [show (65536 : Int) ^ 9 = 22300745198530623141535718272648361505980416 by decide] at *
    rw [show (2 : Int) ^ (16 * (9 % 4)) = 65536 by decide, IntKind.wrap_u64, IntKind.wrap_u64]
    refine ⟨by unfold w2; omega, by unfold w0; omega, by unfold w1; omega, by unfold w3; omega⟩
  · rw [show (65536 : Int) ^ 10 = 1461501637330902918203684832716283019655932542976 by decide] at *
    rw [show (2 : Int) ^ (16 * (10 % 4)) = 4294967296 by decide, IntKind.wrap_u64, IntKind.wrap_u64]
    refine ⟨by unfold w2; omega, by unfold w0; omega, by unfold w1; omega, by unfold w3; omega⟩
  · rw [show (65536 : Int) ^ 11 = 95780971304118053647396689196894323976171195136475136 by decide] at *
    rw [show (2 : Int) ^ (16 * (11 % 4)) = 281474976710656 by decide, IntKind.wrap_u64, IntKind.wrap_u64]
    refine ⟨by unfold w2; omega, by unfold w0; omega, by unfold w1; omega, by unfold w3; omega⟩
theorem add_word3 {T v : Int} {k : Nat} (hq : (k : Int) / 4 = 3) (h0 : 0 ≤ T) (h1 : T < 65536 ^ k) (_v0 : 0 ≤ v) (_v1 : v < 65536) :
    IntKind.u64.wrap (w3 T + IntKind.u64.wrap (v * 2 ^ (16 * (k % 4)))) = w3 (T + 65536 ^ k * v) ∧ w0 T = w0 (T + 65536 ^ k * v) ∧ w1 T = w1 (T + 65536 ^ k * v) ∧ w2 T = w2 (T + 65536 ^ k * v) := by
  rcases (show k = 12 ∨ k = 13 ∨ k = 14 ∨ k = 15 by omega) with rfl | rfl | rfl | rfl
  · rw [show (65536 : Int) ^ 12 = 6277101735386680763835789423207666416102355444464034512896 by decide] at *
    rw [show (2 : Int) ^ (16 * (12 % 4)) = 1 by decide, IntKind.wrap_u64, IntKind.wrap_u64]
    refine ⟨by unfold w3; omega, by unfold w0; omega, by unfold w1; omega, by unfold w2; omega⟩
  · rw [show (65536 : Int) ^ 13 = 411376139330301510538742295639337626245683966408394965837152256 by decide] at *
    rw [show (2 : Int) ^ (16 * (13 % 4)) = 65536 by decide, IntKind.wrap_u64, IntKind.wrap_u64]
    refine ⟨by unfold w3; omega, by unfold w0; omega, by unfold w1; omega, by unfold w2; omega⟩
  · rw [show (65536 : Int) ^ 14 = 26959946667150639794667015087019630673637144422540572481103610249216 by decide] at *
    rw [show (2 : Int) ^ (16 * (14 % 4)) = 4294967296 by decide, IntKind.wrap_u64, IntKind.wrap_u64]
    refine ⟨by unfold w3; omega, by unfold w0; omega, by unfold w1; omega, by unfold w2; omega⟩
  · rw [show (65536 : Int) ^ 15 = 1766847064778384329583297500742918515827483896875618958121606201292619776 by decide] at *
    rw [show (2 : Int) ^ (16 * (15 % 4)) = 281474976710656 by decide, IntKind.wrap_u64, IntKind.wrap_u64]
    refine ⟨by unfold w3; omega, by unfold w0; omega, by unfold w1; omega, by unfold w2; omega⟩

/-- The number that a block's sixteen cells hold. -/
def lbAt (u : World) (b : Nat) : Nat := (lb ((List.range 16).map fun i => match u.cell? ⟨b, i, none⟩ with | some (.int _ z) => z | _ => 0)).toNat
theorem lbAt_eq {u : World} {b : Nat} {m : List Int} (hm : m.length = 16) (h : LRow b m u) : lbAt u b = (lb m).toNat := by
  unfold lbAt
  congr 2
  apply List.ext_getElem?
  intro i
  by_cases hi : i < 16
  · have hc := h.c i (by omega)
    simp only [List.getElem?_map, List.getElem?_range hi, Option.map_some, hc]
    unfold nth
    rw [List.getElem?_eq_getElem (by omega), Option.getD_some]
  · rw [List.getElem?_eq_none (by simp; omega), List.getElem?_eq_none (by omega)]

/-- The prime is taken away: k limbs are done. -/
structure SubI (w : World) (m : List Int) (g1 k : Nat) (b : Int) (u : World) : Prop where
  bl : Below w.heap.size w u
  b0 : 0 ≤ b
  b1 : b ≤ 1
  R : Var4 g1 0 u
  V : ∃ r : List Int, r.length = 16 ∧ LRow w.heap.size r u ∧ (∀ j, j < k → 0 ≤ nth r j ∧ nth r j < 65536) ∧ (∀ j, k ≤ j → j < 16 → nth r j = nth m j) ∧ lb (r.take k) = lb (m.take k) - lb (prAll.take k) + 65536 ^ k * b
theorem SubI.step {w u : World} {m r : List Int} {g1 k : Nat} {b x : Int} (hm : m.length = 16) (hM : Limbs m) (hk : k < 16) (hg : g1 ≠ w.heap.size) (bl : Below w.heap.size w u) (b0 : 0 ≤ b) (b1 : b ≤ 1) (R : Var4 g1 0 u)
    (hr : r.length = 16) (hV : LRow w.heap.size r u) (h1 : ∀ j, j < k → 0 ≤ nth r j ∧ nth r j < 65536) (h2 : ∀ j, k ≤ j → j < 16 → nth r j = nth m j) (h3 : lb (r.take k) = lb (m.take k) - lb (prAll.take k) + 65536 ^ k * b) (hx : x = nth m k + 65536 - prL k - b) :
    SubI w m g1 (k + 1) (1 - x / 65536) (u.setCell ⟨w.heap.size, k, none⟩ (.int .u64 (x % 65536))) := by
  have hb := hM.nth (k := k) (by omega)
  have hp := prL_bound k
  refine ⟨bl.setCell (p := ⟨w.heap.size, k, none⟩) (Nat.le_refl _) _, by omega, by omega, R.far (Ne.symm hg) _ _, r.set k (x % 65536), by rw [List.length_set, hr], hV.set (by omega) _, ?_, ?_, ?_⟩
  · intro j hj
    by_cases e : k = j
    · subst e; rw [nth_set_same (by omega)]; omega
    · rw [nth_set_other e]; exact h1 j (by omega)
  · intro j hj hj2
    rw [nth_set_other (by omega)]; exact h2 j (by omega) hj2
  · rw [take_set_lb (by omega), lb_take_succ (by omega), lb_take_succ (by rw [prAll_len]; omega), prAll_nth hk, h3, Int.pow_succ]
    generalize (65536 : Int) ^ k = M
    have e : x = 65536 * (x / 65536) + x % 65536 := by omega
    generalize x / 65536 = q at *
    generalize x % 65536 = s at *
    have e2 : nth m k = 65536 * q + s - 65536 + prL k + b := by omega
    rw [e2]; grind

/-- The words are made: k limbs are in. -/
structure OutI (w : World) (m : List Int) (g1 g2 k : Nat) (u : World) : Prop where
  bl : Below w.heap.size w u
  L : LRow w.heap.size m u
  R : Var4 g1 0 u
  V : Var4 g2 (lb (m.take k)) u
theorem OutI.put {w u u' : World} {m : List Int} {g1 g2 k : Nat} (h : OutI w m g1 g2 k u) (hw : w.heap.size < g2) (h12 : g1 ≠ g2) {o : Nat} {v : Value} (hu : u' = (u.setCell ⟨g2, o, none⟩ v).drew) (hV : Var4 g2 (lb (m.take (k + 1))) (u.setCell ⟨g2, o, none⟩ v)) : OutI w m g1 g2 (k + 1) u' := by
  subst hu
  exact ⟨(h.bl.setCell (p := ⟨g2, o, none⟩) (Nat.le_of_lt hw) _).drew, (h.L.far (by omega) _ _).drew, (h.R.far (Ne.symm h12) _ _).drew, hV.drew⟩

end Go.Proofs.YtabfjdljeebjbaaDoor
