/- What field.Pow does. -/
import Derived.Test.YtefaihdhnnldmaaDoorSub
namespace Go.Proofs.YtefaihdhnnldmaaDoor
open Go.RowKit
set_option maxRecDepth 20000

/-- A number put into a block. -/
abbrev set4 (u : World) (g : Nat) (Z : Int) : World := (((u.setCell ⟨g, 0, none⟩ (.int .u64 (w0 Z))).setCell ⟨g, 1, none⟩ (.int .u64 (w1 Z))).setCell ⟨g, 2, none⟩ (.int .u64 (w2 Z))).setCell ⟨g, 3, none⟩ (.int .u64 (w3 Z))
theorem set4_cell {u : World} {g : Nat} {Z : Int} {b o : Nat} (h : g ≠ b) : (set4 u g Z).cell? ⟨b, o, none⟩ = u.cell? ⟨b, o, none⟩ := by
  unfold set4
  rw [World.cell?_setCell_far _ ⟨g, _, none⟩ ⟨b, _, none⟩ _ h, World.cell?_setCell_far _ ⟨g, _, none⟩ ⟨b, _, none⟩ _ h, World.cell?_setCell_far _ ⟨g, _, none⟩ ⟨b, _, none⟩ _ h, World.cell?_setCell_far _ ⟨g, _, none⟩ ⟨b, _, none⟩ _ h]
theorem set4_size (u : World) (g : Nat) (Z : Int) : (set4 u g Z).heap.size = u.heap.size := by unfold set4; simp
theorem set4_frozen (u : World) (g : Nat) (Z : Int) (a : Addr) : (set4 u g Z).frozen? a = u.frozen? a := by unfold set4; simp [go_sem]
theorem set4_below {w u : World} {g B : Nat} (hg : B ≤ g) (h : Below B w u) (Z : Int) : Below B w (set4 u g Z) := (((h.setCell hg _).setCell hg _).setCell hg _).setCell hg _
theorem Box2.set4 {w u : World} {X Y : Int} (h : Box2 w X Y u) {g : Nat} (hg : w.heap.size + 1 + 1 < g) (Z : Int) : Box2 w X Y (set4 u g Z) := by
  obtain ⟨bl, l0, l1, l2, x0, x1, x2, x3, y0, y1, y2, y3, r0, r1, r2, r3, f0, f1, f2, f3⟩ := h
  have n0 : g ≠ w.heap.size := by omega
  have n1 : g ≠ w.heap.size + 1 := by omega
  have n2 : g ≠ w.heap.size + 1 + 1 := by omega
  constructor
  · exact set4_below (by omega) bl Z
  · rw [set4_size]; exact l0
  · rw [set4_size]; exact l1
  · rw [set4_size]; exact l2
  · rw [set4_cell n0]; exact x0
  · rw [set4_cell n0]; exact x1
  · rw [set4_cell n0]; exact x2
  · rw [set4_cell n0]; exact x3
  · rw [set4_cell n1]; exact y0
  · rw [set4_cell n1]; exact y1
  · rw [set4_cell n1]; exact y2
  · rw [set4_cell n1]; exact y3
  · rw [set4_cell n2]; exact r0
  · rw [set4_cell n2]; exact r1
  · rw [set4_cell n2]; exact r2
  · rw [set4_cell n2]; exact r3
  · rw [set4_frozen]; exact f0
  · rw [set4_frozen]; exact f1
  · rw [set4_frozen]; exact f2
  · rw [set4_frozen]; exact f3
theorem GCell.set4 {b : Nat} {N : Int} {u : World} (h : GCell b N u) {g : Nat} (hg : g ≠ b) (Z : Int) : GCell b N (set4 u g Z) := by
  obtain ⟨l, c0, c1, c2, c3⟩ := h
  constructor
  · rw [set4_size]; exact l
  · rw [set4_cell hg]; exact c0
  · rw [set4_cell hg]; exact c1
  · rw [set4_cell hg]; exact c2
  · rw [set4_cell hg]; exact c3

/-- A number's block that may be written. -/
structure Var4 (g : Nat) (Z : Int) (u : World) : Prop where
  lt : g < u.heap.size
  c0 : u.cell? ⟨g, 0, none⟩ = some (.int .u64 (w0 Z))
  c1 : u.cell? ⟨g, 1, none⟩ = some (.int .u64 (w1 Z))
  c2 : u.cell? ⟨g, 2, none⟩ = some (.int .u64 (w2 Z))
  c3 : u.cell? ⟨g, 3, none⟩ = some (.int .u64 (w3 Z))
  f0 : u.frozen? ⟨g, 0, none⟩ = false
  f1 : u.frozen? ⟨g, 1, none⟩ = false
  f2 : u.frozen? ⟨g, 2, none⟩ = false
  f3 : u.frozen? ⟨g, 3, none⟩ = false
theorem Var4.below {g : Nat} {Z : Int} {u u' : World} (h : Var4 g Z u) (hb : Below u.heap.size u u') : Var4 g Z u' := by
  obtain ⟨l, c0, c1, c2, c3, f0, f1, f2, f3⟩ := h
  constructor
  · exact Nat.lt_of_lt_of_le l hb.size
  · rw [hb.cell (p := ⟨g, 0, none⟩) l]; exact c0
  · rw [hb.cell (p := ⟨g, 1, none⟩) l]; exact c1
  · rw [hb.cell (p := ⟨g, 2, none⟩) l]; exact c2
  · rw [hb.cell (p := ⟨g, 3, none⟩) l]; exact c3
  · rw [hb.frozen (p := ⟨g, 0, none⟩) l]; exact f0
  · rw [hb.frozen (p := ⟨g, 1, none⟩) l]; exact f1
  · rw [hb.frozen (p := ⟨g, 2, none⟩) l]; exact f2
  · rw [hb.frozen (p := ⟨g, 3, none⟩) l]; exact f3
theorem Var4.set4 {g : Nat} {Z : Int} {u : World} (h : Var4 g Z u) (Z' : Int) : Var4 g Z' (set4 u g Z') := by
  obtain ⟨l, c0, c1, c2, c3, f0, f1, f2, f3⟩ := h
  obtain ⟨d0, d1, d2, d3⟩ := read4 (Z := Z') (by rw [c0]; rfl) (by rw [c1]; rfl) (by rw [c2]; rfl) (by rw [c3]; rfl)
  constructor
  · rw [set4_size]; exact l
  · exact d0
  · exact d1
  · exact d2
  · exact d3
  · rw [set4_frozen]; exact f0
  · rw [set4_frozen]; exact f1
  · rw [set4_frozen]; exact f2
  · rw [set4_frozen]; exact f3
theorem Var4.new (u : World) (Z : Int) : Var4 u.heap.size Z (u.alloc (.cells #[.int .u64 (w0 Z), .int .u64 (w1 Z), .int .u64 (w2 Z), .int .u64 (w3 Z)] 40)) := by
  constructor <;> simp [go_sem]

/-- What holds of memory while a power is made: k bits are still to come. -/
structure PowI (w : World) (X N : Int) (g : Nat) (k : Nat) (u : World) : Prop where
  B : Box2 w X N u
  G : GCell 3 pp u
  V : Var4 g (X ^ (N.toNat / 2 ^ k) % pp) u

theorem pow_start {X N : Int} (hN : Num N) : X ^ (N.toNat / 2 ^ 256) % pp = 1 := by
  have : N.toNat / 2 ^ 256 = 0 := by
    apply Nat.div_eq_of_lt
    unfold Num at hN
    have h : (2 : Nat) ^ 256 = 115792089237316195423570985008687907853269984665640564039457584007913129639936 := by decide
    rw [h]; omega
  rw [this, Int.pow_zero]; unfold pp; decide
theorem pow_end (X N : Int) : X ^ (N.toNat / 2 ^ 0) % pp = X ^ N.toNat % pp := by rw [Nat.pow_zero, Nat.div_one]
theorem mulmodl (a b : Int) : a % pp * b % pp = a * b % pp := by rw [Int.mul_emod, Int.emod_emod_of_dvd _ (Int.dvd_refl _), ← Int.mul_emod]
theorem mulmod (a b : Int) : a % pp * (b % pp) % pp = a * b % pp := by rw [← Int.mul_emod]
/-- One bit more: nothing. -/
theorem pow_step0 (X N : Int) (j : Nat) : Num (X ^ (N.toNat / 2 ^ (j + 1)) % pp) ∧ (N.toNat / 2 ^ j % 2 = 0 → X ^ (N.toNat / 2 ^ (j + 1)) % pp * (X ^ (N.toNat / 2 ^ (j + 1)) % pp) % pp = X ^ (N.toNat / 2 ^ j) % pp) := by
  refine ⟨num_emod_pp _, fun h => ?_⟩
  have e : N.toNat / 2 ^ (j + 1) = N.toNat / 2 ^ j / 2 := by rw [Nat.pow_succ, Nat.div_div_eq_div_mul]
  rw [e, mulmod, ← Int.pow_add]
  congr 2
  omega
/-- One bit more: one. -/
theorem pow_step1 (X N : Int) (j : Nat) : N.toNat / 2 ^ j % 2 = 1 → X ^ (N.toNat / 2 ^ (j + 1)) % pp * (X ^ (N.toNat / 2 ^ (j + 1)) % pp) % pp * X % pp = X ^ (N.toNat / 2 ^ j) % pp := by
  intro h
  have e : N.toNat / 2 ^ (j + 1) = N.toNat / 2 ^ j / 2 := by rw [Nat.pow_succ, Nat.div_div_eq_div_mul]
  rw [e, mulmod, ← Int.pow_add, mulmodl, ← Int.pow_succ]
  congr 2
  omega
theorem bit_of (A r : Nat) (hr : r < 64) : A % 18446744073709551616 / 2 ^ r % 2 = A / 2 ^ r % 2 := by
  have h := Nat.testBit_mod_two_pow A 64 r
  rw [Nat.testBit_eq_decide_div_mod_eq, Nat.testBit_eq_decide_div_mod_eq, decide_eq_true hr, Bool.true_and] at h
  have h' : (A % 2 ^ 64 / 2 ^ r % 2 = 1) ↔ (A / 2 ^ r % 2 = 1) := by simpa using h
  have e : (2 : Nat) ^ 64 = 18446744073709551616 := by decide
  rw [e] at h'
  omega
theorem bit_gen (M q j : Nat) (hq : j / 64 = q) : bits .and .u64 (((M / 2 ^ (64 * q) % 18446744073709551616 : Nat) : Int) / 2 ^ (j % 64)) 1 = ((M / 2 ^ j % 2 : Nat) : Int) := by
  have e1 : ((M / 2 ^ (64 * q) % 18446744073709551616 : Nat) : Int) / 2 ^ (j % 64) = ((M / 2 ^ (64 * q) % 18446744073709551616 / 2 ^ (j % 64) : Nat) : Int) := by
    rw [Int.natCast_ediv, Int.natCast_pow]; rfl
  have hlt : M / 2 ^ (64 * q) % 18446744073709551616 / 2 ^ (j % 64) < 18446744073709551616 := Nat.lt_of_le_of_lt (Nat.div_le_self _ _) (Nat.mod_lt _ (by omega))
  rw [e1, show (1 : Int) = ((1 : Nat) : Int) from rfl, u64_and_nat _ _ hlt (by omega), nat_mask1, bit_of _ _ (Nat.mod_lt _ (by omega)), Nat.div_div_eq_div_mul, ← Nat.pow_add]
  have : 64 * q + j % 64 = j := by omega
  rw [this]
theorem bit0_of {N : Int} (hN : Num N) {j : Nat} (hq : (j : Int) / 64 = 0) : bits .and .u64 (w0 N / 2 ^ (j % 64)) 1 = ((N.toNat / 2 ^ j % 2 : Nat) : Int) := by
  rw [← bit_gen N.toNat 0 j (by omega)]
  congr 2
  unfold w0 Num at *; rw [Nat.mul_zero, Nat.pow_zero, Nat.div_one]; omega
theorem bit1_of {N : Int} (hN : Num N) {j : Nat} (hq : (j : Int) / 64 = 1) : bits .and .u64 (w1 N / 2 ^ (j % 64)) 1 = ((N.toNat / 2 ^ j % 2 : Nat) : Int) := by
  rw [← bit_gen N.toNat 1 j (by omega)]
  congr 2
  have e : (2 : Nat) ^ (64 * 1) = 18446744073709551616 := by decide
  unfold w1 Num at *; rw [e]; omega
theorem bit2_of {N : Int} (hN : Num N) {j : Nat} (hq : (j : Int) / 64 = 2) : bits .and .u64 (w2 N / 2 ^ (j % 64)) 1 = ((N.toNat / 2 ^ j % 2 : Nat) : Int) := by
  rw [← bit_gen N.toNat 2 j (by omega)]
  congr 2
  have e : (2 : Nat) ^ (64 * 2) = 340282366920938463463374607431768211456 := by decide
  unfold w2 Num at *; rw [e]; omega
theorem bit3_of {N : Int} (hN : Num N) {j : Nat} (hq : (j : Int) / 64 = 3) : bits .and .u64 (w3 N / 2 ^ (j % 64)) 1 = ((N.toNat / 2 ^ j % 2 : Nat) : Int) := by
  rw [← bit_gen N.toNat 3 j (by omega)]
  congr 2
  have e : (2 : Nat) ^ (64 * 3) = 6277101735386680763835789423207666416102355444464034512896 := by decide
  unfold w3 Num at *; rw [e]; omega
theorem bit_true {b : Int} {M j : Nat} (h : b = ((M / 2 ^ j % 2 : Nat) : Int)) (h1 : M / 2 ^ j % 2 = 1) : (b == 1) = true := by rw [h, h1]; rfl
theorem bit_false {b : Int} {M j : Nat} (h : b = ((M / 2 ^ j % 2 : Nat) : Int)) (h1 : M / 2 ^ j % 2 = 0) : (b == 1) = false := by rw [h, h1]; rfl
set_option maxHeartbeats 2000000 in
theorem pow_any (X N : Int) (w : World) (hX : Num X) (hN : Num N) (hG : GCell 3 pp w) :
    Calls Tryd.prog 70 #[feV X, feV N] w fun e w' => e = .returned (feV (X ^ N.toNat % pp)) ∧ Below w.heap.size w w' := by
  have B := Lib.hid (Box2.start w X N)
  have HGL := Lib.hid hG.lt
  replace hG := hG.below B.out.bl
  go_enter Tryd.func70, Tryd.ntmps70
  go_wp2_with fail
  refine (small_any 1 _ (by omega) (by omega)).mono ?_
  rintro e u ⟨rfl, hb⟩
  replace hG := hG.below hb
  replace B := Lib.hid (B.out.next hb); obtain ⟨bl, l0, l1, l2, x0, x1, x2, x3, y0, y1, y2, y3, r0, r1, r2, r3, f0, f1, f2, f3⟩ := B.out; clear hb
  go_wp2_with fail
  have hV := Var4.new u 1
  have hb1 : Below u.heap.size u (u.alloc (.cells #[.int .u64 (w0 1), .int .u64 (w1 1), .int .u64 (w2 1), .int .u64 (w3 1)] 40)) := (Below.refl _ _).alloc (Nat.le_refl _) _
  replace B := Lib.hid (B.out.next hb1)
  replace hG := hG.below hb1
  have hg : w.heap.size + 1 + 1 < u.heap.size := l2
  clear bl l0 l1 l2 x0 x1 x2 x3 y0 y1 y2 y3 r0 r1 r2 r3 f0 f1 f2 f3
  clear hb1
  generalize u.alloc (.cells #[.int .u64 (w0 1), .int .u64 (w1 1), .int .u64 (w2 1), .int .u64 (w3 1)] 40) = u0 at *
  generalize u.heap.size = g at *
  have n0 : ¬ g = w.heap.size := by omega
  have n1 : ¬ g = w.heap.size + 1 := by omega
  have n2 : ¬ g = w.heap.size + 1 + 1 := by omega
  go_loopw [6] (fun s u' => ∃ k : Nat, k ≤ 256 ∧ s = .int .i64 ((k : Int) - 1) ∧ PowI w X N g k u') (fun s _ => (intOf s + 1).toNat)
  case atStart => exact ⟨256, by omega, rfl, B.out, hG, by rw [pow_start hN]; exact hV⟩
  case round =>
    obtain ⟨k, hk, rfl, hI⟩ := hrel
    clear B hG hV
    obtain ⟨B, hG, hV⟩ := hI
    replace B := Lib.hid B
    obtain ⟨bl, l0, l1, l2, x0, x1, x2, x3, y0, y1, y2, y3, r0, r1, r2, r3, f0, f1, f2, f3⟩ := B.out
    obtain ⟨vl, v0, v1, v2, v3, vf0, vf1, vf2, vf3⟩ := id hV
    by_cases hlt : k = 0
    · subst hlt
      have E := Lib.hid (pow_end X N)
      have hd : decide ((0 : Int) ≤ ((0 : Nat) : Int) - 1) = false := by decide
      go_wp2_with fail
      refine bodyPost_ret (v := feV (X ^ N.toNat % pp)) (by simp [results, Tryd.results70, go_sem, r0, r1, r2, r3]) rfl ⟨rfl, ?_⟩
      repeat' (first | exact Below.refl _ _ | assumption | refine Below.setCell ?_ ?_ _ | refine Below.alloc ?_ ?_ _ | refine Below.drew ?_ | refine Below.trans ?_ (Below.mono (by assumption) ?_) | (simp; done) | (simp; omega))
    · obtain ⟨j, rfl⟩ : ∃ j, k = j + 1 := ⟨k - 1, by omega⟩
      rw [show (((j + 1 : Nat) : Int) - 1) = (j : Int) from by omega]
      have hj : (j : Int) ≤ 255 := by omega
      have hj0 : (0 : Int) ≤ (j : Int) := by omega
      have E0 := Lib.hid (pow_step0 X N j)
      have E1 := Lib.hid (pow_step1 X N j)
      generalize X ^ (N.toNat / 2 ^ (j + 1)) % pp = Z at *
      go_upto_region 6 with (go_at_call 52; refine (mul_any _ _ _ (E0.out.1) (E0.out.1) hG).mono ?_; rintro e u1 ⟨rfl, hb⟩; clear bl l0 l1 l2 x0 x1 x2 x3 y0 y1 y2 y3 r0 r1 r2 r3 f0 f1 f2 f3; clear vl v0 v1 v2 v3 vf0 vf1 vf2 vf3; replace hG := hG.below hb; replace hV := hV.below hb; replace B := Lib.hid (B.out.next hb); obtain ⟨bl, l0, l1, l2, x0, x1, x2, x3, y0, y1, y2, y3, r0, r1, r2, r3, f0, f1, f2, f3⟩ := B.out; clear hb; obtain ⟨vl, v0, v1, v2, v3, vf0, vf1, vf2, vf3⟩ := id hV)
      have hZ2 : Num (Z * Z % pp) := num_emod_pp _
      replace B : Hid (Box2 w X N ((((u1.setCell ⟨g, 0, none⟩ (.int .u64 (w0 (Z * Z % pp)))).setCell ⟨g, 1, none⟩ (.int .u64 (w1 (Z * Z % pp)))).setCell ⟨g, 2, none⟩ (.int .u64 (w2 (Z * Z % pp)))).setCell ⟨g, 3, none⟩ (.int .u64 (w3 (Z * Z % pp))))) := Lib.hid (B.out.set4 hg _)
      replace hG : GCell 3 pp ((((u1.setCell ⟨g, 0, none⟩ (.int .u64 (w0 (Z * Z % pp)))).setCell ⟨g, 1, none⟩ (.int .u64 (w1 (Z * Z % pp)))).setCell ⟨g, 2, none⟩ (.int .u64 (w2 (Z * Z % pp)))).setCell ⟨g, 3, none⟩ (.int .u64 (w3 (Z * Z % pp)))) := hG.set4 (by have := HGL.out; omega) _
      replace hV : Var4 g (Z * Z % pp) ((((u1.setCell ⟨g, 0, none⟩ (.int .u64 (w0 (Z * Z % pp)))).setCell ⟨g, 1, none⟩ (.int .u64 (w1 (Z * Z % pp)))).setCell ⟨g, 2, none⟩ (.int .u64 (w2 (Z * Z % pp)))).setCell ⟨g, 3, none⟩ (.int .u64 (w3 (Z * Z % pp)))) := hV.set4 _
      clear bl l0 l1 l2 x0 x1 x2 x3 y0 y1 y2 y3 r0 r1 r2 r3 f0 f1 f2 f3
      clear vl v0 v1 v2 v3 vf0 vf1 vf2 vf3
      generalize ((((u1.setCell ⟨g, 0, none⟩ (.int .u64 (w0 (Z * Z % pp)))).setCell ⟨g, 1, none⟩ (.int .u64 (w1 (Z * Z % pp)))).setCell ⟨g, 2, none⟩ (.int .u64 (w2 (Z * Z % pp)))).setCell ⟨g, 3, none⟩ (.int .u64 (w3 (Z * Z % pp)))) = u2 at *
      generalize Z * Z % pp = Z2 at *
      obtain ⟨bl, l0, l1, l2, x0, x1, x2, x3, y0, y1, y2, y3, r0, r1, r2, r3, f0, f1, f2, f3⟩ := B.out
      obtain ⟨vl, v0, v1, v2, v3, vf0, vf1, vf2, vf3⟩ := id hV
      rcases (show (j : Int) / 64 = 0 ∨ (j : Int) / 64 = 1 ∨ (j : Int) / 64 = 2 ∨ (j : Int) / 64 = 3 by omega) with hq | hq | hq | hq
      · rcases (show N.toNat / 2 ^ j % 2 = 0 ∨ N.toNat / 2 ^ j % 2 = 1 by omega) with hbit | hbit
        · have hbb := bit_false (bit0_of hN hq) hbit
          have HB := Lib.hid hbit; clear hbit
          go_wp2_with fail
          exact ⟨⟨j, by omega, rfl, B.out, hG, by rw [← E0.out.2 HB.out]; exact hV⟩, by simp [intOf]⟩
        · have hbb := bit_true (bit0_of hN hq) hbit
          have HB := Lib.hid hbit; clear hbit
          go_wp2_with (go_at_call 52; refine (mul_any _ _ _ hZ2 hX hG).mono ?_; rintro e u3 ⟨rfl, hb⟩; clear bl l0 l1 l2 x0 x1 x2 x3 y0 y1 y2 y3 r0 r1 r2 r3 f0 f1 f2 f3; clear vl v0 v1 v2 v3 vf0 vf1 vf2 vf3; replace hG := hG.below hb; replace hV := hV.below hb; replace B := Lib.hid (B.out.next hb); obtain ⟨bl, l0, l1, l2, x0, x1, x2, x3, y0, y1, y2, y3, r0, r1, r2, r3, f0, f1, f2, f3⟩ := B.out; clear hb; obtain ⟨vl, v0, v1, v2, v3, vf0, vf1, vf2, vf3⟩ := id hV)
          exact ⟨⟨j, by omega, rfl, B.out.set4 hg _, hG.set4 (by have := HGL.out; omega) _, by rw [← E1.out HB.out]; exact hV.set4 _⟩, by simp [intOf]⟩
      · rcases (show N.toNat / 2 ^ j % 2 = 0 ∨ N.toNat / 2 ^ j % 2 = 1 by omega) with hbit | hbit
        · have hbb := bit_false (bit1_of hN hq) hbit
          have HB := Lib.hid hbit; clear hbit
          go_wp2_with fail
          exact ⟨⟨j, by omega, rfl, B.out, hG, by rw [← E0.out.2 HB.out]; exact hV⟩, by simp [intOf]⟩
        · have hbb := bit_true (bit1_of hN hq) hbit
          have HB := Lib.hid hbit; clear hbit
          go_wp2_with (go_at_call 52; refine (mul_any _ _ _ hZ2 hX hG).mono ?_; rintro e u3 ⟨rfl, hb⟩; clear bl l0 l1 l2 x0 x1 x2 x3 y0 y1 y2 y3 r0 r1 r2 r3 f0 f1 f2 f3; clear vl v0 v1 v2 v3 vf0 vf1 vf2 vf3; replace hG := hG.below hb; replace hV := hV.below hb; replace B := Lib.hid (B.out.next hb); obtain ⟨bl, l0, l1, l2, x0, x1, x2, x3, y0, y1, y2, y3, r0, r1, r2, r3, f0, f1, f2, f3⟩ := B.out; clear hb; obtain ⟨vl, v0, v1, v2, v3, vf0, vf1, vf2, vf3⟩ := id hV)
          exact ⟨⟨j, by omega, rfl, B.out.set4 hg _, hG.set4 (by have := HGL.out; omega) _, by rw [← E1.out HB.out]; exact hV.set4 _⟩, by simp [intOf]⟩
      · rcases (show N.toNat / 2 ^ j % 2 = 0 ∨ N.toNat / 2 ^ j % 2 = 1 by omega) with hbit | hbit
        · have hbb := bit_false (bit2_of hN hq) hbit
          have HB := Lib.hid hbit; clear hbit
          go_wp2_with fail
          exact ⟨⟨j, by omega, rfl, B.out, hG, by rw [← E0.out.2 HB.out]; exact hV⟩, by simp [intOf]⟩
        · have hbb := bit_true (bit2_of hN hq) hbit
          have HB := Lib.hid hbit; clear hbit
          go_wp2_with (go_at_call 52; refine (mul_any _ _ _ hZ2 hX hG).mono ?_; rintro e u3 ⟨rfl, hb⟩; clear bl l0 l1 l2 x0 x1 x2 x3 y0 y1 y2 y3 r0 r1 r2 r3 f0 f1 f2 f3; clear vl v0 v1 v2 v3 vf0 vf1 vf2 vf3; replace hG := hG.below hb; replace hV := hV.below hb; replace B := Lib.hid (B.out.next hb); obtain ⟨bl, l0, l1, l2, x0, x1, x2, x3, y0, y1, y2, y3, r0, r1, r2, r3, f0, f1, f2, f3⟩ := B.out; clear hb; obtain ⟨vl, v0, v1, v2, v3, vf0, vf1, vf2, vf3⟩ := id hV)
          exact ⟨⟨j, by omega, rfl, B.out.set4 hg _, hG.set4 (by have := HGL.out; omega) _, by rw [← E1.out HB.out]; exact hV.set4 _⟩, by simp [intOf]⟩
      · rcases (show N.toNat / 2 ^ j % 2 = 0 ∨ N.toNat / 2 ^ j % 2 = 1 by omega) with hbit | hbit
        · have hbb := bit_false (bit3_of hN hq) hbit
          have HB := Lib.hid hbit; clear hbit
          go_wp2_with fail
          exact ⟨⟨j, by omega, rfl, B.out, hG, by rw [← E0.out.2 HB.out]; exact hV⟩, by simp [intOf]⟩
        · have hbb := bit_true (bit3_of hN hq) hbit
          have HB := Lib.hid hbit; clear hbit
          go_wp2_with (go_at_call 52; refine (mul_any _ _ _ hZ2 hX hG).mono ?_; rintro e u3 ⟨rfl, hb⟩; clear bl l0 l1 l2 x0 x1 x2 x3 y0 y1 y2 y3 r0 r1 r2 r3 f0 f1 f2 f3; clear vl v0 v1 v2 v3 vf0 vf1 vf2 vf3; replace hG := hG.below hb; replace hV := hV.below hb; replace B := Lib.hid (B.out.next hb); obtain ⟨bl, l0, l1, l2, x0, x1, x2, x3, y0, y1, y2, y3, r0, r1, r2, r3, f0, f1, f2, f3⟩ := B.out; clear hb; obtain ⟨vl, v0, v1, v2, v3, vf0, vf1, vf2, vf3⟩ := id hV)
          exact ⟨⟨j, by omega, rfl, B.out.set4 hg _, hG.set4 (by have := HGL.out; omega) _, by rw [← E1.out HB.out]; exact hV.set4 _⟩, by simp [intOf]⟩
end Go.Proofs.YtefaihdhnnldmaaDoor
