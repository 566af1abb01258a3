/- FieldLaws: its walk. -/
import Derived.Test.YtabfjdljeebjbaaDoorKnown
namespace Go.Proofs.YtabfjdljeebjbaaDoor
open Go.RowKit

theorem pow_emod (a : Int) : ∀ n : Nat, (a % pp) ^ n % pp = a ^ n % pp
  | 0 => by rw [Int.pow_zero, Int.pow_zero]
  | n + 1 => by rw [Int.pow_succ, Int.pow_succ, ← mulmodl, pow_emod a n, mulmod]
theorem small_mul' {a b : Int} (a0 : 0 ≤ a) (a1 : a < 4294967296) (b0 : 0 ≤ b) (b1 : b < 4294967296) : 0 ≤ a * b ∧ a * b < 18446744073709551616 := by
  refine ⟨Int.mul_nonneg a0 b0, ?_⟩
  have h := Int.mul_le_mul (a := a) (b := b) (c := 4294967295) (d := 4294967295) (by omega) (by omega) b0 (by omega)
  omega
/-- A number of one word in its block. -/
theorem cells_word {u : World} {b : Nat} {n : Int} (hn : Word n) (c0 : u.cell? ⟨b, 0, none⟩ = some (.int .u64 n)) (c1 : u.cell? ⟨b, 1, none⟩ = some (.int .u64 0)) (c2 : u.cell? ⟨b, 2, none⟩ = some (.int .u64 0)) (c3 : u.cell? ⟨b, 3, none⟩ = some (.int .u64 0)) : Cells4 b n u := by
  unfold Word at hn
  have e0 : w0 n = n := by unfold w0; omega
  have e1 : w1 n = 0 := by unfold w1; omega
  have e2 : w2 n = 0 := by unfold w2; omega
  have e3 : w3 n = 0 := by unfold w3; omega
  unfold Cells4
  rw [e0, e1, e2, e3]
  exact ⟨c0, c1, c2, c3⟩

theorem pow_nought (X : Int) (w : World) (hX : Num X) (hG : GCell 0 pp w) :
    Calls Tryd.prog 28 #[feV X, .agg #[.int .u64 0, .int .u64 0, .int .u64 0, .int .u64 0]] w fun e w' => e = .returned (feV 1) ∧ Below w.heap.size w w' := by
  rw [fe_word word0]
  refine (pow_any X 0 w hX num0 hG).mono ?_
  rintro e w' ⟨rfl, hb⟩
  refine ⟨?_, hb⟩
  rw [show (0 : Int).toNat = 0 from rfl, Int.pow_zero, show (1 : Int) % pp = 1 by unfold pp; decide +kernel]
set_option maxHeartbeats 4000000 in
theorem laws_walk (X a b : Int) (w : World) (hX : Num X) (a0 : 0 ≤ a) (a1 : a < 4294967296) (b0 : 0 ≤ b) (b1 : b < 4294967296) (hG : Globs w) :
    Calls Tryd.prog 11 #[feV X, .int .u32 a, .int .u32 b] w fun e w' => e = .returned (.bool true) ∧ Below w.heap.size w w' := by
  obtain ⟨m0, m1⟩ := small_mul' a0 a1 b0 b1
  have hw : IntKind.u64.wrap (a * b) = a * b := by rw [IntKind.wrap_u64]; omega
  have hm : Word (a * b) := ⟨m0, m1⟩
  clear m0 m1
  have ha : Word a := ⟨a0, by omega⟩
  have hb : Word b := ⟨b0, by omega⟩
  have hab : Word (a + b) := ⟨by omega, by omega⟩
  have na := ha.num
  have nb := hb.num
  have nab := hab.num
  have nm := hm.num
  have c0 : Below w.heap.size w (((((w.alloc (.cells #[.int .u64 (w0 X), .int .u64 (w1 X), .int .u64 (w2 X), .int .u64 (w3 X)] 26)).alloc (.cells #[.int .u64 a, .int .u64 0, .int .u64 0, .int .u64 0] 26)).alloc (.cells #[.int .u64 b, .int .u64 0, .int .u64 0, .int .u64 0] 26)).alloc (.cells #[.int .u64 (a + b), .int .u64 0, .int .u64 0, .int .u64 0] 26)).alloc (.cells #[.int .u64 (a * b), .int .u64 0, .int .u64 0, .int .u64 0] 26)) := by repeat' (first | exact Below.refl _ _ | assumption | refine Below.setCell ?_ ?_ _ | refine Below.alloc ?_ ?_ _ | refine Below.drew ?_ | refine Below.trans ?_ (Below.mono (by assumption) ?_) | (simp; done) | (simp; omega))
  have vX : Cells4 w.heap.size X (((((w.alloc (.cells #[.int .u64 (w0 X), .int .u64 (w1 X), .int .u64 (w2 X), .int .u64 (w3 X)] 26)).alloc (.cells #[.int .u64 a, .int .u64 0, .int .u64 0, .int .u64 0] 26)).alloc (.cells #[.int .u64 b, .int .u64 0, .int .u64 0, .int .u64 0] 26)).alloc (.cells #[.int .u64 (a + b), .int .u64 0, .int .u64 0, .int .u64 0] 26)).alloc (.cells #[.int .u64 (a * b), .int .u64 0, .int .u64 0, .int .u64 0] 26)) := by unfold Cells4; simp [go_sem]
  have vP : Cells4 (w.heap.size + 1) a (((((w.alloc (.cells #[.int .u64 (w0 X), .int .u64 (w1 X), .int .u64 (w2 X), .int .u64 (w3 X)] 26)).alloc (.cells #[.int .u64 a, .int .u64 0, .int .u64 0, .int .u64 0] 26)).alloc (.cells #[.int .u64 b, .int .u64 0, .int .u64 0, .int .u64 0] 26)).alloc (.cells #[.int .u64 (a + b), .int .u64 0, .int .u64 0, .int .u64 0] 26)).alloc (.cells #[.int .u64 (a * b), .int .u64 0, .int .u64 0, .int .u64 0] 26)) := cells_word ha (by simp [go_sem]) (by simp [go_sem]) (by simp [go_sem]) (by simp [go_sem])
  have vQ : Cells4 (w.heap.size + 1 + 1) b (((((w.alloc (.cells #[.int .u64 (w0 X), .int .u64 (w1 X), .int .u64 (w2 X), .int .u64 (w3 X)] 26)).alloc (.cells #[.int .u64 a, .int .u64 0, .int .u64 0, .int .u64 0] 26)).alloc (.cells #[.int .u64 b, .int .u64 0, .int .u64 0, .int .u64 0] 26)).alloc (.cells #[.int .u64 (a + b), .int .u64 0, .int .u64 0, .int .u64 0] 26)).alloc (.cells #[.int .u64 (a * b), .int .u64 0, .int .u64 0, .int .u64 0] 26)) := cells_word hb (by simp [go_sem]) (by simp [go_sem]) (by simp [go_sem]) (by simp [go_sem])
  have vS : Cells4 (w.heap.size + 1 + 1 + 1) (a + b) (((((w.alloc (.cells #[.int .u64 (w0 X), .int .u64 (w1 X), .int .u64 (w2 X), .int .u64 (w3 X)] 26)).alloc (.cells #[.int .u64 a, .int .u64 0, .int .u64 0, .int .u64 0] 26)).alloc (.cells #[.int .u64 b, .int .u64 0, .int .u64 0, .int .u64 0] 26)).alloc (.cells #[.int .u64 (a + b), .int .u64 0, .int .u64 0, .int .u64 0] 26)).alloc (.cells #[.int .u64 (a * b), .int .u64 0, .int .u64 0, .int .u64 0] 26)) := cells_word hab (by simp [go_sem]) (by simp [go_sem]) (by simp [go_sem]) (by simp [go_sem])
  have vM : Cells4 (w.heap.size + 1 + 1 + 1 + 1) (a * b) (((((w.alloc (.cells #[.int .u64 (w0 X), .int .u64 (w1 X), .int .u64 (w2 X), .int .u64 (w3 X)] 26)).alloc (.cells #[.int .u64 a, .int .u64 0, .int .u64 0, .int .u64 0] 26)).alloc (.cells #[.int .u64 b, .int .u64 0, .int .u64 0, .int .u64 0] 26)).alloc (.cells #[.int .u64 (a + b), .int .u64 0, .int .u64 0, .int .u64 0] 26)).alloc (.cells #[.int .u64 (a * b), .int .u64 0, .int .u64 0, .int .u64 0] 26)) := cells_word hm (by simp [go_sem]) (by simp [go_sem]) (by simp [go_sem]) (by simp [go_sem])
  have hs : w.heap.size + 1 + 1 + 1 + 1 < (((((w.alloc (.cells #[.int .u64 (w0 X), .int .u64 (w1 X), .int .u64 (w2 X), .int .u64 (w3 X)] 26)).alloc (.cells #[.int .u64 a, .int .u64 0, .int .u64 0, .int .u64 0] 26)).alloc (.cells #[.int .u64 b, .int .u64 0, .int .u64 0, .int .u64 0] 26)).alloc (.cells #[.int .u64 (a + b), .int .u64 0, .int .u64 0, .int .u64 0] 26)).alloc (.cells #[.int .u64 (a * b), .int .u64 0, .int .u64 0, .int .u64 0] 26)).heap.size := by simp
  go_enter Tryd.func11, Tryd.ntmps11
  go_upto_region 5 with fail
  generalize (((((w.alloc (.cells #[.int .u64 (w0 X), .int .u64 (w1 X), .int .u64 (w2 X), .int .u64 (w3 X)] 26)).alloc (.cells #[.int .u64 a, .int .u64 0, .int .u64 0, .int .u64 0] 26)).alloc (.cells #[.int .u64 b, .int .u64 0, .int .u64 0, .int .u64 0] 26)).alloc (.cells #[.int .u64 (a + b), .int .u64 0, .int .u64 0, .int .u64 0] 26)).alloc (.cells #[.int .u64 (a * b), .int .u64 0, .int .u64 0, .int .u64 0] 26)) = u0 at *
  replace hG := hG.below c0
  clear hw
  have HS : Hid (∀ V, Below u0.heap.size u0 V → Cells4 w.heap.size X V ∧ Cells4 (w.heap.size + 1) a V ∧ Cells4 (w.heap.size + 1 + 1) b V ∧ Cells4 (w.heap.size + 1 + 1 + 1) (a + b) V ∧ Cells4 (w.heap.size + 1 + 1 + 1 + 1) (a * b) V) := Lib.hid fun V hV => ⟨vX.of_below (by omega) hV, vP.of_below (by omega) hV, vQ.of_below (by omega) hV, vS.of_below (by omega) hV, vM.of_below hs hV⟩
  clear vX vP vQ vS vM
  unfold Cells4 at HS
  have hE1 := eqFe_true (M := X ^ a.toNat % pp * (X ^ b.toNat % pp) % pp) (Z := X ^ (a + b).toNat % pp) (num_emod_pp _) (by rw [mulmod, ← Int.pow_add, Int.toNat_add a0 b0])
  have hE2 := eqFe_true (M := (X ^ a.toNat % pp) ^ b.toNat % pp) (Z := X ^ (a * b).toNat % pp) (num_emod_pp _) (by rw [pow_emod, ← Int.pow_mul, Int.toNat_mul a0 b0])
  have hE3 := eqFe_true (M := 1) (Z := 1) (num_small (by omega) (by omega)) rfl
  have h1 : (1 : Int) % pp = 1 := by unfold pp; decide +kernel
  go_region_held3 (fun u => (u.cell? ⟨w.heap.size, 0, none⟩ = some (.int .u64 (w0 X)) ∧ u.cell? ⟨w.heap.size, 1, none⟩ = some (.int .u64 (w1 X)) ∧ u.cell? ⟨w.heap.size, 2, none⟩ = some (.int .u64 (w2 X)) ∧ u.cell? ⟨w.heap.size, 3, none⟩ = some (.int .u64 (w3 X))) ∧ (u.cell? ⟨(w.heap.size + 1), 0, none⟩ = some (.int .u64 (w0 a)) ∧ u.cell? ⟨(w.heap.size + 1), 1, none⟩ = some (.int .u64 (w1 a)) ∧ u.cell? ⟨(w.heap.size + 1), 2, none⟩ = some (.int .u64 (w2 a)) ∧ u.cell? ⟨(w.heap.size + 1), 3, none⟩ = some (.int .u64 (w3 a))) ∧ (u.cell? ⟨(w.heap.size + 1 + 1), 0, none⟩ = some (.int .u64 (w0 b)) ∧ u.cell? ⟨(w.heap.size + 1 + 1), 1, none⟩ = some (.int .u64 (w1 b)) ∧ u.cell? ⟨(w.heap.size + 1 + 1), 2, none⟩ = some (.int .u64 (w2 b)) ∧ u.cell? ⟨(w.heap.size + 1 + 1), 3, none⟩ = some (.int .u64 (w3 b))) ∧ (u.cell? ⟨(w.heap.size + 1 + 1 + 1), 0, none⟩ = some (.int .u64 (w0 (a + b))) ∧ u.cell? ⟨(w.heap.size + 1 + 1 + 1), 1, none⟩ = some (.int .u64 (w1 (a + b))) ∧ u.cell? ⟨(w.heap.size + 1 + 1 + 1), 2, none⟩ = some (.int .u64 (w2 (a + b))) ∧ u.cell? ⟨(w.heap.size + 1 + 1 + 1), 3, none⟩ = some (.int .u64 (w3 (a + b)))) ∧ (u.cell? ⟨(w.heap.size + 1 + 1 + 1 + 1), 0, none⟩ = some (.int .u64 (w0 (a * b))) ∧ u.cell? ⟨(w.heap.size + 1 + 1 + 1 + 1), 1, none⟩ = some (.int .u64 (w1 (a * b))) ∧ u.cell? ⟨(w.heap.size + 1 + 1 + 1 + 1), 2, none⟩ = some (.int .u64 (w2 (a * b))) ∧ u.cell? ⟨(w.heap.size + 1 + 1 + 1 + 1), 3, none⟩ = some (.int .u64 (w3 (a * b))))) (exact HS.out _ (by repeat' (first | exact Below.refl _ _ | assumption | refine Below.setCell ?_ ?_ _ | refine Below.alloc ?_ ?_ _ | refine Below.drew ?_ | refine Below.trans ?_ (Below.mono (by assumption) ?_) | (simp; done) | (simp; omega))))
    (first | ((go_at_call_of 28 (Value.agg #[Value.int IntKind.u64 0, Value.int IntKind.u64 0, Value.int IntKind.u64 0, Value.int IntKind.u64 0])); (go_at_call 28; refine (pow_nought X _ hX (hG.O.below (by first | exact Below.refl _ _ | assumption | (repeat' (first | exact Below.refl _ _ | assumption | refine Below.setCell ?_ ?_ _ | refine Below.alloc ?_ ?_ _ | refine Below.drew ?_ | refine Below.trans ?_ (Below.mono (by assumption) ?_) | (simp; done) | (simp; omega)))))).mono ?_; rintro e u1 ⟨rfl, hu1⟩; have bu1 : Below u0.heap.size u0 u1 := (by repeat' (first | exact Below.refl _ _ | assumption | refine Below.setCell ?_ ?_ _ | refine Below.alloc ?_ ?_ _ | refine Below.drew ?_ | refine Below.trans ?_ (Below.mono (by assumption) ?_) | (simp; done) | (simp; omega))); have su1 : u0.heap.size ≤ u1.heap.size := Below.size bu1; clear hu1)) | (go_at_call 28; refine (pow_any _ _ _ (by first | assumption | exact num_emod_pp _ | exact num_small (by omega) (by omega)) (by first | assumption | exact num_emod_pp _ | exact num_small (by omega) (by omega)) (hG.O.below (by first | exact Below.refl _ _ | assumption | (repeat' (first | exact Below.refl _ _ | assumption | refine Below.setCell ?_ ?_ _ | refine Below.alloc ?_ ?_ _ | refine Below.drew ?_ | refine Below.trans ?_ (Below.mono (by assumption) ?_) | (simp; done) | (simp; omega)))))).mono ?_; rintro e u1 ⟨rfl, hu1⟩; have bu1 : Below u0.heap.size u0 u1 := (by repeat' (first | exact Below.refl _ _ | assumption | refine Below.setCell ?_ ?_ _ | refine Below.alloc ?_ ?_ _ | refine Below.drew ?_ | refine Below.trans ?_ (Below.mono (by assumption) ?_) | (simp; done) | (simp; omega))); have su1 : u0.heap.size ≤ u1.heap.size := Below.size bu1; clear hu1) | (go_at_call 15; refine (mul_any _ _ _ (by first | assumption | exact num_emod_pp _ | exact num_small (by omega) (by omega)) (by first | assumption | exact num_emod_pp _ | exact num_small (by omega) (by omega)) (hG.O.below (by first | exact Below.refl _ _ | assumption | (repeat' (first | exact Below.refl _ _ | assumption | refine Below.setCell ?_ ?_ _ | refine Below.alloc ?_ ?_ _ | refine Below.drew ?_ | refine Below.trans ?_ (Below.mono (by assumption) ?_) | (simp; done) | (simp; omega)))))).mono ?_; rintro e u1 ⟨rfl, hu1⟩; have bu1 : Below u0.heap.size u0 u1 := (by repeat' (first | exact Below.refl _ _ | assumption | refine Below.setCell ?_ ?_ _ | refine Below.alloc ?_ ?_ _ | refine Below.drew ?_ | refine Below.trans ?_ (Below.mono (by assumption) ?_) | (simp; done) | (simp; omega))); have su1 : u0.heap.size ≤ u1.heap.size := Below.size bu1; clear hu1) | (go_at_call 14; refine (small_any 1 _ (by omega) (by omega)).mono ?_; rintro e u1 ⟨rfl, hu1⟩; have bu1 : Below u0.heap.size u0 u1 := (by repeat' (first | exact Below.refl _ _ | assumption | refine Below.setCell ?_ ?_ _ | refine Below.alloc ?_ ?_ _ | refine Below.drew ?_ | refine Below.trans ?_ (Below.mono (by assumption) ?_) | (simp; done) | (simp; omega))); have su1 : u0.heap.size ≤ u1.heap.size := Below.size bu1; clear hu1) | (go_at_call 12; refine (known_any _ (hG.below (by first | exact Below.refl _ _ | assumption | (repeat' (first | exact Below.refl _ _ | assumption | refine Below.setCell ?_ ?_ _ | refine Below.alloc ?_ ?_ _ | refine Below.drew ?_ | refine Below.trans ?_ (Below.mono (by assumption) ?_) | (simp; done) | (simp; omega)))))).mono ?_; rintro e u1 ⟨rfl, hu1⟩; have bu1 : Below u0.heap.size u0 u1 := (by repeat' (first | exact Below.refl _ _ | assumption | refine Below.setCell ?_ ?_ _ | refine Below.alloc ?_ ?_ _ | refine Below.drew ?_ | refine Below.trans ?_ (Below.mono (by assumption) ?_) | (simp; done) | (simp; omega))); have su1 : u0.heap.size ≤ u1.heap.size := Below.size bu1; clear hu1))
  go_wp2_with fail
  go_ret
  exact ⟨rfl, c0.trans (bu1.mono c0.size)⟩
end Go.Proofs.YtabfjdljeebjbaaDoor
