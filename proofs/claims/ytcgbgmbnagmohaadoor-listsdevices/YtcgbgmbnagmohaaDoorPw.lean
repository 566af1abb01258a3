import Derived.Test.YtcgbgmbnagmohaaDoorWords
namespace Go.Proofs.YtcgbgmbnagmohaaDoor
open Go.RowKit
set_option maxRecDepth 20000
def pp : Int := 57896044618658097711785492504343953926634992332820282019728792003956564819949
def Num (x : Int) : Prop := 0 ≤ x ∧ x < 115792089237316195423570985008687907853269984665640564039457584007913129639936
def val (a b c d : Int) : Int := a + 18446744073709551616 * b + 340282366920938463463374607431768211456 * c + 6277101735386680763835789423207666416102355444464034512896 * d
def w0 (n : Int) : Int := n % 18446744073709551616
def w1 (n : Int) : Int := n / 18446744073709551616 % 18446744073709551616
def w2 (n : Int) : Int := n / 340282366920938463463374607431768211456 % 18446744073709551616
def w3 (n : Int) : Int := n / 6277101735386680763835789423207666416102355444464034512896 % 18446744073709551616
abbrev feV (n : Int) : Value := .agg #[.int .u64 (w0 n), .int .u64 (w1 n), .int .u64 (w2 n), .int .u64 (w3 n)]
theorem qba (n : Int) : Word (w0 n) := by unfold Word w0; omega
theorem qbd (n : Int) : Word (w1 n) := by unfold Word w1; omega
theorem qbc (n : Int) : Word (w2 n) := by unfold Word w2; omega
theorem qbb (n : Int) : Word (w3 n) := by unfold Word w3; omega
theorem val_num {a b c d : Int} (ha : Word a) (hb : Word b) (hc : Word c) (hd : Word d) : Num (val a b c d) := by
 unfold Word Num val at *; omega
theorem w0_val {a b c d : Int} (ha : Word a) (_hb : Word b) (_hc : Word c) (_hd : Word d) : w0 (val a b c d) = a := by
 unfold Word w0 val at *; omega
theorem w1_val {a b c d : Int} (ha : Word a) (hb : Word b) (_hc : Word c) (_hd : Word d) : w1 (val a b c d) = b := by
 unfold Word w1 val at *; omega
theorem w2_val {a b c d : Int} (ha : Word a) (hb : Word b) (hc : Word c) (_hd : Word d) : w2 (val a b c d) = c := by
 unfold Word w2 val at *; omega
theorem w3_val {a b c d : Int} (ha : Word a) (hb : Word b) (hc : Word c) (hd : Word d) : w3 (val a b c d) = d := by
 unfold Word w3 val at *; omega
theorem feV_val {a b c d : Int} (ha : Word a) (hb : Word b) (hc : Word c) (hd : Word d) : feV (val a b c d) = .agg #[.int .u64 a, .int .u64 b, .int .u64 c, .int .u64 d] := by
 unfold feV; rw [w0_val ha hb hc hd, w1_val ha hb hc hd, w2_val ha hb hc hd, w3_val ha hb hc hd]
theorem val_w {n : Int} (h : Num n) : val (w0 n) (w1 n) (w2 n) (w3 n) = n := by
 unfold Num val w0 w1 w2 w3 at *; omega
theorem qa0 (n : Int) : Num (n % pp) := by unfold Num pp; omega
theorem qca (n : Int) : 0 ≤ n % pp ∧ n % pp < pp := ⟨Int.emod_nonneg _ (by unfold pp; omega), Int.emod_lt_of_pos _ (by unfold pp; omega)⟩
theorem num_pp : Num pp := by unfold Num pp; omega
theorem feV_inj {m n : Int} (hm : Num m) (hn : Num n) (h0 : w0 m = w0 n) (h1 : w1 m = w1 n) (h2 : w2 m = w2 n) (h3 : w3 m = w3 n) : m = n := by
 rw [← val_w hm, ← val_w hn, h0, h1, h2, h3]
theorem minus_math {x0 x1 x2 x3 y0 y1 y2 y3 : Int} (hx0 : Word x0) (hx1 : Word x1) (hx2 : Word x2) (hx3 : Word x3) (hy0 : Word y0) (hy1 : Word y1) (hy2 : Word y2) (hy3 : Word y3) :
  val (sbW x0 y0 0) (sbW x1 y1 (sbB x0 y0 0)) (sbW x2 y2 (sbB x1 y1 (sbB x0 y0 0))) (sbW x3 y3 (sbB x2 y2 (sbB x1 y1 (sbB x0 y0 0)))) = (val x0 x1 x2 x3 - val y0 y1 y2 y3) % 115792089237316195423570985008687907853269984665640564039457584007913129639936
  ∧ ((sbB x3 y3 (sbB x2 y2 (sbB x1 y1 (sbB x0 y0 0))) == 1) = decide (val x0 x1 x2 x3 < val y0 y1 y2 y3)) := by
 have e0 := sb_eq hx0 hy0 bit0
 have e1 := sb_eq hx1 hy1 (sbB_bit x0 y0 0)
 have e2 := sb_eq hx2 hy2 (sbB_bit x1 y1 (sbB x0 y0 0))
 have e3 := sb_eq hx3 hy3 (sbB_bit x2 y2 (sbB x1 y1 (sbB x0 y0 0)))
 have k0 := qa6 x0 y0 0
 have k1 := qa6 x1 y1 (sbB x0 y0 0)
 have k2 := qa6 x2 y2 (sbB x1 y1 (sbB x0 y0 0))
 have k3 := qa6 x3 y3 (sbB x2 y2 (sbB x1 y1 (sbB x0 y0 0)))
 have b := sbB_bit x3 y3 (sbB x2 y2 (sbB x1 y1 (sbB x0 y0 0)))
 generalize sbW x0 y0 0 = d0 at *
 generalize sbW x1 y1 (sbB x0 y0 0) = d1 at *
 generalize sbW x2 y2 (sbB x1 y1 (sbB x0 y0 0)) = d2 at *
 generalize sbW x3 y3 (sbB x2 y2 (sbB x1 y1 (sbB x0 y0 0))) = d3 at *
 generalize sbB x3 y3 (sbB x2 y2 (sbB x1 y1 (sbB x0 y0 0))) = b4 at *
 generalize sbB x2 y2 (sbB x1 y1 (sbB x0 y0 0)) = b3 at *
 generalize sbB x1 y1 (sbB x0 y0 0) = b2 at *
 generalize sbB x0 y0 0 = b1 at *
 unfold Word Bit val at *
 constructor
 ·omega
 ·rw [Bool.eq_iff_iff]; simp only [beq_iff_eq, decide_eq_true_eq]; omega
end Go.Proofs.YtcgbgmbnagmohaaDoor
namespace Go.Proofs.YtcgbgmbnagmohaaDoor
set_option maxRecDepth 20000
def pw (b m : Nat) : List Bool → Nat → Nat
 | [], acc => acc
 | c :: t, acc => pw b m t (cond c (acc * acc % m * b % m) (acc * acc % m))
def bn : List Bool → Nat → Nat
 | [], acc => acc
 | c :: t, acc => bn t (cond c (2 * acc + 1) (2 * acc))
theorem pw_eq (b m : Nat) : ∀ (l : List Bool) (acc k : Nat), acc = b ^ k % m → pw b m l acc = b ^ bn l k % m
 | [], _, _, h => h
 | c :: t, acc, k, h => by
  unfold pw bn
  apply pw_eq b m t
  have e : acc * acc % m = b ^ (2 * k) % m := by rw [h, ← Nat.mul_mod, ← Nat.pow_add]; congr 2; omega
  cases c with
  | true =>
   show acc * acc % m * b % m = b ^ (2 * k + 1) % m
   rw [e, Nat.mod_mul_mod, Nat.pow_succ]
  | false => exact e
theorem ipow_eval (b m n : Nat) (l : List Bool) (hn : bn l 0 = n) : ((b : Int) ^ n) % (m : Int) = ((pw b m l (1 % m) : Nat) : Int) := by
 rw [pw_eq b m l (1 % m) 0 (by rw [Nat.pow_zero]), hn, Int.natCast_emod, Int.natCast_pow]
def ones (n : Nat) : List Bool := List.replicate n true
theorem pp_nat : pp = ((57896044618658097711785492504343953926634992332820282019728792003956564819949 : Nat) : Int) := rfl
end Go.Proofs.YtcgbgmbnagmohaaDoor
