import Derived.Test.YtcgbgmbnagmohaaDoorPw
import Derived.WalkSpells
import Derived.Lib.Hide
import Derived.Deep.RegionHeld3
import Derived.Deep.DeepCutAuto
namespace Go.Proofs.YtcgbgmbnagmohaaDoor
open Go.RowKit
set_option maxRecDepth 20000
set_option maxHeartbeats 400000 in
theorem minus_raw (x0 x1 x2 x3 y0 y1 y2 y3 : Int) (w : World) (hx0 : Word x0) (hx1 : Word x1) (hx2 : Word x2) (hx3 : Word x3) (hy0 : Word y0) (hy1 : Word y1) (hy2 : Word y2) (hy3 : Word y3) :
  Calls Tryd.prog 92 #[.agg #[.int .u64 x0, .int .u64 x1, .int .u64 x2, .int .u64 x3], .agg #[.int .u64 y0, .int .u64 y1, .int .u64 y2, .int .u64 y3]] w fun e w' => 
   e = .returned (.tuple #[.agg #[.int .u64 (sbW x0 y0 0), .int .u64 (sbW x1 y1 (sbB x0 y0 0)), .int .u64 (sbW x2 y2 (sbB x1 y1 (sbB x0 y0 0))), .int .u64 (sbW x3 y3 (sbB x2 y2 (sbB x1 y1 (sbB x0 y0 0))))], .bool (sbB x3 y3 (sbB x2 y2 (sbB x1 y1 (sbB x0 y0 0))) == 1)]) ∧ Below w.heap.size w w' := by
 go_enter Tryd.func92, Tryd.ntmps92
 go_wp2_with (simp only [run_sub64_at hx0 hy0 bit0, run_sub64_at hx1 hy1 (sbB_bit _ _ _), run_sub64_at hx2 hy2 (sbB_bit _ _ _), run_sub64_at hx3 hy3 (sbB_bit _ _ _)])
 refine bodyPost_ret (v := .tuple #[.agg #[.int .u64 (sbW x0 y0 0), .int .u64 (sbW x1 y1 (sbB x0 y0 0)), .int .u64 (sbW x2 y2 (sbB x1 y1 (sbB x0 y0 0))), .int .u64 (sbW x3 y3 (sbB x2 y2 (sbB x1 y1 (sbB x0 y0 0))))], .bool (sbB x3 y3 (sbB x2 y2 (sbB x1 y1 (sbB x0 y0 0))) == 1)]) (by simp [results, Tryd.results92, go_sem]) rfl ⟨rfl, ?_⟩
 repeat' (first | exact Below.refl _ _ | refine Below.setCell ?_ ?_ _ | refine Below.alloc ?_ ?_ _ | refine Below.drew ?_)
 all_goals (simp <;> omega)
theorem minus_at (x0 x1 x2 x3 Y : Int) (w : World) (hx0 : Word x0) (hx1 : Word x1) (hx2 : Word x2) (hx3 : Word x3) (hY : Num Y) :
  Calls Tryd.prog 92 #[.agg #[.int .u64 x0, .int .u64 x1, .int .u64 x2, .int .u64 x3], feV Y] w fun e w' =>
   e = .returned (.tuple #[feV ((val x0 x1 x2 x3 - Y) % 115792089237316195423570985008687907853269984665640564039457584007913129639936), .bool (decide (val x0 x1 x2 x3 < Y))]) ∧ Below w.heap.size w w' := by
 refine (minus_raw _ _ _ _ _ _ _ _ w hx0 hx1 hx2 hx3 (qba Y) (qbd Y) (qbc Y) (qbb Y)).mono ?_
 rintro e w' ⟨rfl, hb⟩
 refine ⟨?_, hb⟩
 have hm := minus_math hx0 hx1 hx2 hx3 (qba Y) (qbd Y) (qbc Y) (qbb Y)
 rw [val_w hY] at hm
 rw [hm.2, ← hm.1, feV_val (qa6 _ _ _) (qa6 _ _ _) (qa6 _ _ _) (qa6 _ _ _)]
theorem minus_any (X Y : Int) (w : World) (hX : Num X) (hY : Num Y) :
  Calls Tryd.prog 92 #[feV X, feV Y] w fun e w' =>
   e = .returned (.tuple #[feV ((X - Y) % 115792089237316195423570985008687907853269984665640564039457584007913129639936), .bool (decide (X < Y))]) ∧ Below w.heap.size w w' := by
 have h := minus_at (w0 X) (w1 X) (w2 X) (w3 X) Y w (qba X) (qbd X) (qbc X) (qbb X) hY
 rw [val_w hX] at h
 exact h
theorem bcell {W w1 : World} (hb : Below W.heap.size W w1) : (∀ b o, b < W.heap.size → w1.cell? ⟨b, o, none⟩ = W.cell? ⟨b, o, none⟩) ∧ (∀ b o, b < W.heap.size → w1.frozen? ⟨b, o, none⟩ = W.frozen? ⟨b, o, none⟩) :=
 ⟨fun b o h => hb.cell (p := ⟨b, o, none⟩) h, fun b o h => hb.frozen (p := ⟨b, o, none⟩) h⟩
end Go.Proofs.YtcgbgmbnagmohaaDoor
namespace Go.Proofs.YtcgbgmbnagmohaaDoor
open Go.RowKit
set_option maxRecDepth 20000
def tp (o d : Int) : Int := 2 * o + d / 9223372036854775808
def lo63 (d : Int) : Int := d % 9223372036854775808
def t19 (o d : Int) : Int := 19 * tp o d
theorem tp_eq {o d : Int} (hd : Word d) (h0 : 0 ≤ o) (h1 : o ≤ 38) : bits .or .u64 (o * 2) (d / 9223372036854775808) = tp o d := by
 unfold Word at hd
 rw [u64_or _ _ (by omega) (by omega) (by omega) (by omega), nat_join 1 _ _ (by omega) (by omega)]
 unfold tp; omega
theorem lo63_eq {d : Int} (hd : Word d) : bits .and .u64 d 9223372036854775807 = lo63 d := by
 unfold Word at hd
 rw [u64_and _ _ (by omega) (by omega) (by omega) (by omega)]
 have e : d.toNat &&& (9223372036854775807 : Int).toNat = d.toNat % 9223372036854775808 := Nat.and_two_pow_sub_one_eq_mod d.toNat 63
 rw [e]; unfold lo63; omega
theorem t19_eq {o d : Int} (hd : Word d) (h0 : 0 ≤ o) (h1 : o ≤ 38) : IntKind.u64.wrap (tp o d * 19) = t19 o d := by
 unfold Word at hd
 rw [IntKind.wrap_u64]; unfold t19 tp; omega
theorem t19_word {o d : Int} (hd : Word d) (h0 : 0 ≤ o) (h1 : o ≤ 38) : Word (t19 o d) := by
 unfold Word t19 tp at *; omega
theorem top_eq {c d : Int} (hc : Bit c) : IntKind.u64.wrap (lo63 d + c) = lo63 d + c := by
 rw [IntKind.wrap_u64]; unfold Bit lo63 at *; omega
theorem top_word {c d : Int} (hc : Bit c) : Word (lo63 d + c) := by
 unfold Word Bit lo63 at *; omega
def sumS (a b c d o : Int) : Int := val a b c (lo63 d) + t19 o d
theorem settle_math (a b c d o : Int) :
  val (adW a (t19 o d) 0) (adW b 0 (adC a (t19 o d) 0)) (adW c 0 (adC b 0 (adC a (t19 o d) 0))) (lo63 d + adC c 0 (adC b 0 (adC a (t19 o d) 0))) = sumS a b c d o := by
 have e0 := ad_eq a (t19 o d) 0
 have e1 := ad_eq b 0 (adC a (t19 o d) 0)
 have e2 := ad_eq c 0 (adC b 0 (adC a (t19 o d) 0))
 generalize adC c 0 (adC b 0 (adC a (t19 o d) 0)) = c3 at *
 generalize adW c 0 (adC b 0 (adC a (t19 o d) 0)) = s2 at *
 generalize adC b 0 (adC a (t19 o d) 0) = c2 at *
 generalize adW b 0 (adC a (t19 o d) 0) = s1 at *
 generalize adC a (t19 o d) 0 = c1 at *
 generalize adW a (t19 o d) 0 = s0 at *
 unfold sumS val
 omega
theorem sumS_rest {a b c d o : Int} (ha : Word a) (hb : Word b) (hc : Word c) (hd : Word d) (h0 : 0 ≤ o) (h1 : o ≤ 38) :
  0 ≤ sumS a b c d o ∧ sumS a b c d o < 2 * pp ∧ (val a b c d + 115792089237316195423570985008687907853269984665640564039457584007913129639936 * o) % pp = sumS a b c d o % pp := by
 refine ⟨by unfold Word at *; unfold sumS val t19 tp lo63; omega, by unfold Word at *; unfold sumS val t19 tp lo63 pp; omega, ?_⟩
 have e : val a b c d + 115792089237316195423570985008687907853269984665640564039457584007913129639936 * o = sumS a b c d o + pp * tp o d := by
  unfold sumS val t19 tp lo63 pp; omega
 rw [e, Int.add_mul_emod_self_left]
set_option maxHeartbeats 400000 in
theorem settle_any (a b c d o : Int) (w : World) (ha : Word a) (hb : Word b) (hc : Word c) (hd : Word d) (ho0 : 0 ≤ o) (ho : o ≤ 38) (hz : 5 < w.heap.size)
  (g0 : w.cell? ⟨5, 0, none⟩ = some (.int .u64 (w0 pp))) (g1 : w.cell? ⟨5, 1, none⟩ = some (.int .u64 (w1 pp))) (g2 : w.cell? ⟨5, 2, none⟩ = some (.int .u64 (w2 pp))) (g3 : w.cell? ⟨5, 3, none⟩ = some (.int .u64 (w3 pp))) :
  Calls Tryd.prog 88 #[.int .u64 a, .int .u64 b, .int .u64 c, .int .u64 d, .int .u64 o] w fun e w' => 
   e = .returned (feV ((val a b c d + 115792089237316195423570985008687907853269984665640564039457584007913129639936 * o) % pp)) ∧ Below w.heap.size w w' := by
 have h1 := tp_eq hd ho0 ho
 have h2 := lo63_eq hd
 have h3 := t19_eq hd ho0 ho
 have k0 := t19_word hd ho0 ho
 have k1 := adC_bit ha k0 bit0
 have k2 := adC_bit hb word0 k1
 have k3 := adC_bit hc word0 k2
 have h4 := top_eq (d := d) k3
 have k4 := top_word (d := d) k3
 obtain ⟨m0, m1, m2⟩ := sumS_rest ha hb hc hd ho0 ho
 have M := Lib.hid m2; clear m2
 have M' := Lib.hid (settle_math a b c d o)
 have z0 : 0 < w.heap.size := by omega
 by_cases hlt : sumS a b c d o < pp
 ·have hdec : decide (val (adW a (t19 o d) 0) (adW b 0 (adC a (t19 o d) 0)) (adW c 0 (adC b 0 (adC a (t19 o d) 0))) (lo63 d + adC c 0 (adC b 0 (adC a (t19 o d) 0))) < pp) = true := by rw [M'.out]; simpa using hlt
  go_enter Tryd.func88, Tryd.ntmps88
  go_wp2_with (first | simp only [qb7 ha k0 bit0, qb7 hb word0 k1, qb7 hc word0 k2] | (go_at_call 92; refine (minus_at _ _ _ _ pp _ (qa5 _ _ _) (qa5 _ _ _) (qa5 _ _ _) k4 num_pp).mono ?_; rintro e w' ⟨rfl, hbl⟩; obtain ⟨hcc, hff⟩ := bcell hbl; have hz1 : w.heap.size + 1 < w'.heap.size := (by have := hbl.size; simp at this; omega); have hz2 : w.heap.size < w'.heap.size := (by omega); have q0 : (w'.cell? ⟨w.heap.size, 0, none⟩).isSome = true := (by rw [hcc _ _ (by simp <;> omega)]; simp [go_sem]); have q1 : (w'.cell? ⟨w.heap.size, 1, none⟩).isSome = true := (by rw [hcc _ _ (by simp <;> omega)]; simp [go_sem]); have q2 : (w'.cell? ⟨w.heap.size, 2, none⟩).isSome = true := (by rw [hcc _ _ (by simp <;> omega)]; simp [go_sem]); have q3 : (w'.cell? ⟨w.heap.size, 3, none⟩).isSome = true := (by rw [hcc _ _ (by simp <;> omega)]; simp [go_sem])))
  refine bodyPost_ret (v := .agg #[.int .u64 (adW a (t19 o d) 0), .int .u64 (adW b 0 (adC a (t19 o d) 0)), .int .u64 (adW c 0 (adC b 0 (adC a (t19 o d) 0))), .int .u64 (lo63 d + adC c 0 (adC b 0 (adC a (t19 o d) 0)))]) (by simp [results, Tryd.results88, go_sem, hz2, q0, q1, q2, q3]) rfl ⟨?_, ?_⟩
  ·rw [M.out, Int.emod_eq_of_lt m0 hlt, ← M'.out, feV_val (qa5 _ _ _) (qa5 _ _ _) (qa5 _ _ _) k4]
  repeat' (first | exact Below.refl _ _ | refine Below.setCell ?_ ?_ _ | refine Below.alloc ?_ ?_ _ | refine Below.drew ?_ | refine Below.trans ?_ (Below.mono hbl ?_))
  all_goals (simp <;> omega)
 ·have hdec : decide (val (adW a (t19 o d) 0) (adW b 0 (adC a (t19 o d) 0)) (adW c 0 (adC b 0 (adC a (t19 o d) 0))) (lo63 d + adC c 0 (adC b 0 (adC a (t19 o d) 0))) < pp) = false := by rw [M'.out]; simpa using hlt
  go_enter Tryd.func88, Tryd.ntmps88
  go_wp2_with (first | simp only [qb7 ha k0 bit0, qb7 hb word0 k1, qb7 hc word0 k2] | (go_at_call 92; refine (minus_at _ _ _ _ pp _ (qa5 _ _ _) (qa5 _ _ _) (qa5 _ _ _) k4 num_pp).mono ?_; rintro e w' ⟨rfl, hbl⟩; obtain ⟨hcc, hff⟩ := bcell hbl; have hz1 : w.heap.size + 1 < w'.heap.size := (by have := hbl.size; simp at this; omega); have hz2 : w.heap.size < w'.heap.size := (by omega); have q0 : (w'.cell? ⟨w.heap.size, 0, none⟩).isSome = true := (by rw [hcc _ _ (by simp <;> omega)]; simp [go_sem]); have q1 : (w'.cell? ⟨w.heap.size, 1, none⟩).isSome = true := (by rw [hcc _ _ (by simp <;> omega)]; simp [go_sem]); have q2 : (w'.cell? ⟨w.heap.size, 2, none⟩).isSome = true := (by rw [hcc _ _ (by simp <;> omega)]; simp [go_sem]); have q3 : (w'.cell? ⟨w.heap.size, 3, none⟩).isSome = true := (by rw [hcc _ _ (by simp <;> omega)]; simp [go_sem])))
  refine bodyPost_ret (v := feV ((val (adW a (t19 o d) 0) (adW b 0 (adC a (t19 o d) 0)) (adW c 0 (adC b 0 (adC a (t19 o d) 0))) (lo63 d + adC c 0 (adC b 0 (adC a (t19 o d) 0))) - pp) % 115792089237316195423570985008687907853269984665640564039457584007913129639936)) (by simp [results, Tryd.results88, go_sem, hz2, q0, q1, q2, q3]) rfl ⟨?_, ?_⟩
  ·have e : sumS a b c d o % pp = (val (adW a (t19 o d) 0) (adW b 0 (adC a (t19 o d) 0)) (adW c 0 (adC b 0 (adC a (t19 o d) 0))) (lo63 d + adC c 0 (adC b 0 (adC a (t19 o d) 0))) - pp) % 115792089237316195423570985008687907853269984665640564039457584007913129639936 := by
    rw [M'.out]; generalize sumS a b c d o = s at *; unfold pp at *; omega
   rw [M.out, e]
  repeat' (first | exact Below.refl _ _ | refine Below.setCell ?_ ?_ _ | refine Below.alloc ?_ ?_ _ | refine Below.drew ?_ | refine Below.trans ?_ (Below.mono hbl ?_))
  all_goals (simp <;> omega)
end Go.Proofs.YtcgbgmbnagmohaaDoor
namespace Go.Proofs.YtcgbgmbnagmohaaDoor
open Go.RowKit
set_option maxRecDepth 20000
def mhi (x y : Int) : Int := x * y / 18446744073709551616
def mlo (x y : Int) : Int := x * y % 18446744073709551616
theorem mlo_word (x y : Int) : Word (mlo x y) := by unfold Word mlo; omega
set_option maxHeartbeats 1000000 in
theorem mul64_any (x y : Int) (hx : Word x) (hy : Word y) (w : World) :
  Calls Tryd.prog 100 #[.int .u64 x, .int .u64 y] w fun e w' => e = .returned (.tuple #[.int .u64 (mhi x y), .int .u64 (mlo x y)]) ∧ w = w' := by
 have hm := mul64_arith x y hx.1 hx.2 hy.1 hy.2
 go_enter Tryd.func100, Tryd.ntmps100
 go_wp2
 have hl : ∀ z : Int, bits .and .u64 (z % 18446744073709551616) 4294967295 = z % 18446744073709551616 % 4294967296 := fun z => and_low32 _ (by omega) (by omega)
 simp only [IntKind.wrap_u64, and_low32 x hx.1 hx.2, and_low32 y hy.1 hy.2, hl, hm]
 go_ret2
 exact ⟨rfl, rfl⟩
def maH (m n a b : Int) : Int := (m * n + a + b) / 18446744073709551616
def maL (m n a b : Int) : Int := (m * n + a + b) % 18446744073709551616
theorem maL_word (m n a b : Int) : Word (maL m n a b) := by unfold Word maL; omega
theorem mul_words {m n : Int} (hm : Word m) (hn : Word n) : 0 ≤ m * n ∧ m * n ≤ 340282366920938463426481119284349108225 := by
 unfold Word at *
 refine ⟨Int.mul_nonneg hm.1 hn.1, ?_⟩
 have h := Int.mul_le_mul (a := m) (b := n) (c := 18446744073709551615) (d := 18446744073709551615) (by omega) (by omega) hn.1 (by omega)
 simpa using h
theorem maH_word {m n a b : Int} (hm : Word m) (hn : Word n) (ha : Word a) (hb : Word b) : Word (maH m n a b) := by
 have h := mul_words hm hn
 unfold maH; generalize m * n = p at *; unfold Word at *; omega
theorem ma_eq (m n a b : Int) : maL m n a b + 18446744073709551616 * maH m n a b = m * n + a + b := by unfold maL maH; omega
theorem mulAdd_math {m n a b : Int} (hm : Word m) (hn : Word n) (ha : Word a) (hb : Word b) :
  IntKind.u64.wrap (mhi m n + adC (mlo m n) a 0) = mhi m n + adC (mlo m n) a 0 ∧
  IntKind.u64.wrap (mhi m n + adC (mlo m n) a 0 + adC (adW (mlo m n) a 0) b 0) = maH m n a b ∧ adW (adW (mlo m n) a 0) b 0 = maL m n a b := by
 have h := mul_words hm hn
 rw [IntKind.wrap_u64, IntKind.wrap_u64]
 unfold mhi mlo adC adW maH maL
 generalize m * n = p at *
 unfold Word at *
 refine ⟨by omega, by omega, by omega⟩
set_option maxHeartbeats 400000 in
theorem mulAdd_any (m n a b : Int) (w : World) (hm : Word m) (hn : Word n) (ha : Word a) (hb : Word b) :
  Calls Tryd.prog 97 #[.int .u64 m, .int .u64 n, .int .u64 a, .int .u64 b] w fun e w' => e = .returned (.tuple #[.int .u64 (maH m n a b), .int .u64 (maL m n a b)]) ∧ w = w' := by
 obtain ⟨h1, h2, h3⟩ := mulAdd_math hm hn ha hb
 have k0 := mlo_word m n
 have k1 := qa5 (mlo m n) a 0
 go_enter Tryd.func97, Tryd.ntmps97
 go_wp2_with (first | simp only [qb7 k0 ha bit0, qb7 k1 hb bit0] | (go_at_call 100; refine (mul64_any _ _ hm hn _).mono ?_; rintro e w' ⟨rfl, rfl⟩))
 go_ret2
 exact ⟨rfl, rfl⟩
end Go.Proofs.YtcgbgmbnagmohaaDoor
namespace Go.Proofs.YtcgbgmbnagmohaaDoor
open Go.RowKit
set_option maxRecDepth 20000
structure GCell (b : Nat) (N : Int) (w : World) : Prop where
 lt : b < w.heap.size
 c0 : w.cell? ⟨b, 0, none⟩ = some (.int .u64 (w0 N))
 c1 : w.cell? ⟨b, 1, none⟩ = some (.int .u64 (w1 N))
 c2 : w.cell? ⟨b, 2, none⟩ = some (.int .u64 (w2 N))
 c3 : w.cell? ⟨b, 3, none⟩ = some (.int .u64 (w3 N))
theorem GCell.below {b : Nat} {N : Int} {w w' : World} (h : GCell b N w) (hb : Below w.heap.size w w') : GCell b N w' := by
 obtain ⟨l, c0, c1, c2, c3⟩ := h
 refine ⟨Nat.lt_of_lt_of_le l hb.size, ?_, ?_, ?_, ?_⟩ <;> rw [hb.cell (p := ⟨b, _, none⟩) l] <;> assumption
theorem settle_g (a b c d o : Int) (w : World) (ha : Word a) (hb : Word b) (hc : Word c) (hd : Word d) (ho0 : 0 ≤ o) (ho : o ≤ 38) (hG : GCell 5 pp w) :
  Calls Tryd.prog 88 #[.int .u64 a, .int .u64 b, .int .u64 c, .int .u64 d, .int .u64 o] w fun e w' =>
   e = .returned (feV ((val a b c d + 115792089237316195423570985008687907853269984665640564039457584007913129639936 * o) % pp)) ∧ Below w.heap.size w w' :=
 settle_any a b c d o w ha hb hc hd ho0 ho hG.lt hG.c0 hG.c1 hG.c2 hG.c3
def w4 (n : Int) : Int := n / 115792089237316195423570985008687907853269984665640564039457584007913129639936
def sT (a b c d x0 x1 x2 x3 n : Int) : Int := val a b c d + val x0 x1 x2 x3 * n
theorem addTimes_math (a b c d x0 x1 x2 x3 n : Int) :
  maL x0 n a 0 = w0 (sT a b c d x0 x1 x2 x3 n) ∧ maL x1 n b (maH x0 n a 0) = w1 (sT a b c d x0 x1 x2 x3 n) ∧
  maL x2 n c (maH x1 n b (maH x0 n a 0)) = w2 (sT a b c d x0 x1 x2 x3 n) ∧ maL x3 n d (maH x2 n c (maH x1 n b (maH x0 n a 0))) = w3 (sT a b c d x0 x1 x2 x3 n) ∧
  maH x3 n d (maH x2 n c (maH x1 n b (maH x0 n a 0))) = w4 (sT a b c d x0 x1 x2 x3 n) := by
 have e0 := ma_eq x0 n a 0
 have e1 := ma_eq x1 n b (maH x0 n a 0)
 have e2 := ma_eq x2 n c (maH x1 n b (maH x0 n a 0))
 have e3 := ma_eq x3 n d (maH x2 n c (maH x1 n b (maH x0 n a 0)))
 have k0 := maL_word x0 n a 0
 have k1 := maL_word x1 n b (maH x0 n a 0)
 have k2 := maL_word x2 n c (maH x1 n b (maH x0 n a 0))
 have k3 := maL_word x3 n d (maH x2 n c (maH x1 n b (maH x0 n a 0)))
 generalize maH x3 n d (maH x2 n c (maH x1 n b (maH x0 n a 0))) = h3 at *
 generalize maL x3 n d (maH x2 n c (maH x1 n b (maH x0 n a 0))) = l3 at *
 generalize maH x2 n c (maH x1 n b (maH x0 n a 0)) = h2 at *
 generalize maL x2 n c (maH x1 n b (maH x0 n a 0)) = l2 at *
 generalize maH x1 n b (maH x0 n a 0) = h1 at *
 generalize maL x1 n b (maH x0 n a 0) = l1 at *
 generalize maH x0 n a 0 = h0 at *
 generalize maL x0 n a 0 = l0 at *
 have es : sT a b c d x0 x1 x2 x3 n = a + 18446744073709551616 * b + 340282366920938463463374607431768211456 * c + 6277101735386680763835789423207666416102355444464034512896 * d + (x0 * n + 18446744073709551616 * (x1 * n) + 340282366920938463463374607431768211456 * (x2 * n) + 6277101735386680763835789423207666416102355444464034512896 * (x3 * n)) := by
  unfold sT val; rw [Int.add_mul, Int.add_mul, Int.add_mul, Int.mul_assoc, Int.mul_assoc, Int.mul_assoc]
 rw [es]
 generalize x0 * n = p0 at *
 generalize x1 * n = p1 at *
 generalize x2 * n = p2 at *
 generalize x3 * n = p3 at *
 unfold Word w0 w1 w2 w3 w4 at *
 refine ⟨by omega, by omega, by omega, by omega, by omega⟩
set_option maxHeartbeats 400000 in
theorem addTimes_raw (a b c d x0 x1 x2 x3 n : Int) (w : World) (ha : Word a) (hb : Word b) (hc : Word c) (hd : Word d) (hx0 : Word x0) (hx1 : Word x1) (hx2 : Word x2) (hx3 : Word x3) (hn : Word n) :
  Calls Tryd.prog 93 #[.int .u64 a, .int .u64 b, .int .u64 c, .int .u64 d, .agg #[.int .u64 x0, .int .u64 x1, .int .u64 x2, .int .u64 x3], .int .u64 n] w fun e w' =>
   e = .returned (.tuple #[.int .u64 (w0 (sT a b c d x0 x1 x2 x3 n)), .int .u64 (w1 (sT a b c d x0 x1 x2 x3 n)), .int .u64 (w2 (sT a b c d x0 x1 x2 x3 n)), .int .u64 (w3 (sT a b c d x0 x1 x2 x3 n)), .int .u64 (w4 (sT a b c d x0 x1 x2 x3 n))]) ∧ Below w.heap.size w w' := by
 have k0 := maH_word hx0 hn ha word0
 have k1 := maH_word hx1 hn hb k0
 have k2 := maH_word hx2 hn hc k1
 have M := Lib.hid (addTimes_math a b c d x0 x1 x2 x3 n)
 go_enter Tryd.func93, Tryd.ntmps93
 go_wp2_with (go_at_call 97; refine (mulAdd_any _ _ _ _ _ (by first | exact word0 | exact qba _ | exact qbd _ | exact qbc _ | exact qbb _ | exact qa5 _ _ _ | exact qa6 _ _ _ | assumption) (by first | exact word0 | exact qba _ | exact qbd _ | exact qbc _ | exact qbb _ | exact qa5 _ _ _ | exact qa6 _ _ _ | assumption) (by first | exact word0 | exact qba _ | exact qbd _ | exact qbc _ | exact qbb _ | exact qa5 _ _ _ | exact qa6 _ _ _ | assumption) (by first | exact word0 | exact qba _ | exact qbd _ | exact qbc _ | exact qbb _ | exact qa5 _ _ _ | exact qa6 _ _ _ | assumption)).mono ?_; rintro e w' ⟨rfl, rfl⟩)
 refine bodyPost_ret (v := .tuple #[.int .u64 (maL x0 n a 0), .int .u64 (maL x1 n b (maH x0 n a 0)), .int .u64 (maL x2 n c (maH x1 n b (maH x0 n a 0))), .int .u64 (maL x3 n d (maH x2 n c (maH x1 n b (maH x0 n a 0)))), .int .u64 (maH x3 n d (maH x2 n c (maH x1 n b (maH x0 n a 0))))]) (by simp [results, Tryd.results93, go_sem]) rfl ⟨?_, ?_⟩
 ·obtain ⟨m0, m1, m2, m3, m4⟩ := M.out
  rw [m0, m1, m2, m3, m4]
 ·repeat' (first | exact Below.refl _ _ | assumption | refine Below.setCell ?_ ?_ _ | refine Below.alloc ?_ ?_ _ | refine Below.drew ?_ | refine Below.trans ?_ (Below.mono (by assumption) ?_) | (simp; done) | (simp; omega))
theorem w4_word {a b c d x0 x1 x2 x3 n : Int} (ha : Word a) (hb : Word b) (hc : Word c) (hd : Word d) (hx0 : Word x0) (hx1 : Word x1) (hx2 : Word x2) (hx3 : Word x3) (hn : Word n) : Word (w4 (sT a b c d x0 x1 x2 x3 n)) := by
 have h := (addTimes_math a b c d x0 x1 x2 x3 n).2.2.2.2
 rw [← h]
 exact maH_word hx3 hn hd (maH_word hx2 hn hc (maH_word hx1 hn hb (maH_word hx0 hn ha word0)))
theorem val_shift (T : Int) : val (w1 T) (w2 T) (w3 T) (w4 T) = T / 18446744073709551616 := by
 unfold val w1 w2 w3 w4; omega
theorem mul_math {X Y T0 T1 T2 T3 S : Int} (hX : Num X) (hY : Num Y)
  (h0 : sT 0 0 0 0 (w0 X) (w1 X) (w2 X) (w3 X) (w0 Y) = T0) (h1 : sT (w1 T0) (w2 T0) (w3 T0) (w4 T0) (w0 X) (w1 X) (w2 X) (w3 X) (w1 Y) = T1)
  (h2 : sT (w1 T1) (w2 T1) (w3 T1) (w4 T1) (w0 X) (w1 X) (w2 X) (w3 X) (w2 Y) = T2) (h3 : sT (w1 T2) (w2 T2) (w3 T2) (w4 T2) (w0 X) (w1 X) (w2 X) (w3 X) (w3 Y) = T3)
  (hS : sT (w0 T0) (w0 T1) (w0 T2) (w0 T3) (w1 T3) (w2 T3) (w3 T3) (w4 T3) 38 = S)
  (k3 : Word (w4 T3)) :
  0 ≤ w4 S ∧ w4 S ≤ 38 ∧ (val (w0 S) (w1 S) (w2 S) (w3 S) + 115792089237316195423570985008687907853269984665640564039457584007913129639936 * w4 S) % pp = X * Y % pp := by
 have eY := val_w hY
 unfold sT at h0 h1 h2 h3 hS
 rw [val_w hX] at h0 h1 h2 h3
 rw [val_shift T0] at h1
 rw [val_shift T1] at h2
 rw [val_shift T2] at h3
 rw [val_shift T3] at hS
 have b3 : 0 ≤ T3 / 18446744073709551616 ∧ T3 / 18446744073709551616 < 115792089237316195423570985008687907853269984665640564039457584007913129639936 := by
  have := val_num (qbd T3) (qbc T3) (qbb T3) k3
  rw [val_shift T3] at this; exact this
 have bl := val_num (qba T0) (qba T1) (qba T2) (qba T3)
 have eXY : X * Y = val (w0 T0) (w0 T1) (w0 T2) (w0 T3) + 115792089237316195423570985008687907853269984665640564039457584007913129639936 * (T3 / 18446744073709551616) := by
  have e : X * Y = X * w0 Y + 18446744073709551616 * (X * w1 Y) + 340282366920938463463374607431768211456 * (X * w2 Y) + 6277101735386680763835789423207666416102355444464034512896 * (X * w3 Y) := by
   conv => lhs; rw [← eY]
   unfold val
   rw [Int.mul_add, Int.mul_add, Int.mul_add, Int.mul_left_comm X 18446744073709551616, Int.mul_left_comm X 340282366920938463463374607431768211456, Int.mul_left_comm X 6277101735386680763835789423207666416102355444464034512896]
  rw [e]
  generalize X * w0 Y = p0 at *
  generalize X * w1 Y = p1 at *
  generalize X * w2 Y = p2 at *
  generalize X * w3 Y = p3 at *
  clear e eY
  have z : val 0 0 0 0 = 0 := by unfold val; omega
  rw [z] at h0
  unfold val w0
  omega
 have nS : 0 ≤ S := by have := bl.1; omega
 have w4S : w4 S ≤ 38 := by unfold w4; unfold Num at bl; omega
 have w4n : 0 ≤ w4 S := by unfold w4; omega
 refine ⟨w4n, w4S, ?_⟩
 have eS : val (w0 S) (w1 S) (w2 S) (w3 S) + 115792089237316195423570985008687907853269984665640564039457584007913129639936 * w4 S = S := by unfold val w0 w1 w2 w3 w4; omega
 rw [eS, eXY]
 have : val (w0 T0) (w0 T1) (w0 T2) (w0 T3) + 115792089237316195423570985008687907853269984665640564039457584007913129639936 * (T3 / 18446744073709551616) = S + pp * (2 * (T3 / 18446744073709551616)) := by
  rw [← hS]; unfold pp; omega
 rw [this, Int.add_mul_emod_self_left]
structure Box2 (w : World) (X Y : Int) (u : World) : Prop where
 bl : Below w.heap.size w u
 l0 : w.heap.size < u.heap.size
 l1 : w.heap.size + 1 < u.heap.size
 l2 : w.heap.size + 1 + 1 < u.heap.size
 x0 : u.cell? ⟨w.heap.size, 0, none⟩ = some (.int .u64 (w0 X))
 x1 : u.cell? ⟨w.heap.size, 1, none⟩ = some (.int .u64 (w1 X))
 x2 : u.cell? ⟨w.heap.size, 2, none⟩ = some (.int .u64 (w2 X))
 x3 : u.cell? ⟨w.heap.size, 3, none⟩ = some (.int .u64 (w3 X))
 y0 : u.cell? ⟨w.heap.size + 1, 0, none⟩ = some (.int .u64 (w0 Y))
 y1 : u.cell? ⟨w.heap.size + 1, 1, none⟩ = some (.int .u64 (w1 Y))
 y2 : u.cell? ⟨w.heap.size + 1, 2, none⟩ = some (.int .u64 (w2 Y))
 y3 : u.cell? ⟨w.heap.size + 1, 3, none⟩ = some (.int .u64 (w3 Y))
 r0 : u.cell? ⟨w.heap.size + 1 + 1, 0, none⟩ = some (.int .u64 0)
 r1 : u.cell? ⟨w.heap.size + 1 + 1, 1, none⟩ = some (.int .u64 0)
 r2 : u.cell? ⟨w.heap.size + 1 + 1, 2, none⟩ = some (.int .u64 0)
 r3 : u.cell? ⟨w.heap.size + 1 + 1, 3, none⟩ = some (.int .u64 0)
 f0 : u.frozen? ⟨w.heap.size + 1 + 1, 0, none⟩ = false
 f1 : u.frozen? ⟨w.heap.size + 1 + 1, 1, none⟩ = false
 f2 : u.frozen? ⟨w.heap.size + 1 + 1, 2, none⟩ = false
 f3 : u.frozen? ⟨w.heap.size + 1 + 1, 3, none⟩ = false
theorem Box2.start (w : World) (X Y : Int) : Box2 w X Y (((w.alloc (.cells #[.int .u64 (w0 X), .int .u64 (w1 X), .int .u64 (w2 X), .int .u64 (w3 X)] 66)).alloc (.cells #[.int .u64 (w0 Y), .int .u64 (w1 Y), .int .u64 (w2 Y), .int .u64 (w3 Y)] 66)).alloc (.cells #[.int .u64 0, .int .u64 0, .int .u64 0, .int .u64 0] 66)) := by
 constructor
 ·repeat' (first | exact Below.refl _ _ | assumption | refine Below.setCell ?_ ?_ _ | refine Below.alloc ?_ ?_ _ | refine Below.drew ?_ | refine Below.trans ?_ (Below.mono (by assumption) ?_) | (simp; done) | (simp; omega))
 all_goals simp [go_sem]
theorem Box2.next {w u u' : World} {X Y : Int} (h : Box2 w X Y u) (hb : Below u.heap.size u u') : Box2 w X Y u' := by
 obtain ⟨bl, l0, l1, l2, x0, x1, x2, x3, y0, y1, y2, y3, r0, r1, r2, r3, f0, f1, f2, f3⟩ := h
 have hs := hb.size
 refine ⟨bl.trans (hb.mono bl.size), Nat.lt_of_lt_of_le l0 hs, Nat.lt_of_lt_of_le l1 hs, Nat.lt_of_lt_of_le l2 hs, ?_, ?_, ?_, ?_, ?_, ?_, ?_, ?_, ?_, ?_, ?_, ?_, ?_, ?_, ?_, ?_⟩
 ·rw [hb.cell (p := ⟨w.heap.size, 0, none⟩) l0]; exact x0
 ·rw [hb.cell (p := ⟨w.heap.size, 1, none⟩) l0]; exact x1
 ·rw [hb.cell (p := ⟨w.heap.size, 2, none⟩) l0]; exact x2
 ·rw [hb.cell (p := ⟨w.heap.size, 3, none⟩) l0]; exact x3
 ·rw [hb.cell (p := ⟨w.heap.size + 1, 0, none⟩) l1]; exact y0
 ·rw [hb.cell (p := ⟨w.heap.size + 1, 1, none⟩) l1]; exact y1
 ·rw [hb.cell (p := ⟨w.heap.size + 1, 2, none⟩) l1]; exact y2
 ·rw [hb.cell (p := ⟨w.heap.size + 1, 3, none⟩) l1]; exact y3
 ·rw [hb.cell (p := ⟨w.heap.size + 1 + 1, 0, none⟩) l2]; exact r0
 ·rw [hb.cell (p := ⟨w.heap.size + 1 + 1, 1, none⟩) l2]; exact r1
 ·rw [hb.cell (p := ⟨w.heap.size + 1 + 1, 2, none⟩) l2]; exact r2
 ·rw [hb.cell (p := ⟨w.heap.size + 1 + 1, 3, none⟩) l2]; exact r3
 ·rw [hb.frozen (p := ⟨w.heap.size + 1 + 1, 0, none⟩) l2]; exact f0
 ·rw [hb.frozen (p := ⟨w.heap.size + 1 + 1, 1, none⟩) l2]; exact f1
 ·rw [hb.frozen (p := ⟨w.heap.size + 1 + 1, 2, none⟩) l2]; exact f2
 ·rw [hb.frozen (p := ⟨w.heap.size + 1 + 1, 3, none⟩) l2]; exact f3
set_option maxHeartbeats 1000000 in
theorem qby (X Y : Int) (w : World) (hX : Num X) (hY : Num Y) (hG : GCell 5 pp w) :
  Calls Tryd.prog 82 #[feV X, feV Y] w fun e w' => e = .returned (feV (X * Y % pp)) ∧ Below w.heap.size w w' := by
 have B := Lib.hid (Box2.start w X Y)
 go_enter Tryd.func82, Tryd.ntmps82
 go_wp2_with fail
 refine (addTimes_raw _ _ _ _ _ _ _ _ _ _ (by first | exact word0 | exact qba _ | exact qbd _ | exact qbc _ | exact qbb _ | exact qa5 _ _ _ | exact qa6 _ _ _ | assumption) (by first | exact word0 | exact qba _ | exact qbd _ | exact qbc _ | exact qbb _ | exact qa5 _ _ _ | exact qa6 _ _ _ | assumption) (by first | exact word0 | exact qba _ | exact qbd _ | exact qbc _ | exact qbb _ | exact qa5 _ _ _ | exact qa6 _ _ _ | assumption) (by first | exact word0 | exact qba _ | exact qbd _ | exact qbc _ | exact qbb _ | exact qa5 _ _ _ | exact qa6 _ _ _ | assumption) (by first | exact word0 | exact qba _ | exact qbd _ | exact qbc _ | exact qbb _ | exact qa5 _ _ _ | exact qa6 _ _ _ | assumption) (by first | exact word0 | exact qba _ | exact qbd _ | exact qbc _ | exact qbb _ | exact qa5 _ _ _ | exact qa6 _ _ _ | assumption) (by first | exact word0 | exact qba _ | exact qbd _ | exact qbc _ | exact qbb _ | exact qa5 _ _ _ | exact qa6 _ _ _ | assumption) (by first | exact word0 | exact qba _ | exact qbd _ | exact qbc _ | exact qbb _ | exact qa5 _ _ _ | exact qa6 _ _ _ | assumption) (by first | exact word0 | exact qba _ | exact qbd _ | exact qbc _ | exact qbb _ | exact qa5 _ _ _ | exact qa6 _ _ _ | assumption)).mono ?_
 rintro e u ⟨rfl, hb⟩
 have k0 := w4_word word0 word0 word0 word0 (qba X) (qbd X) (qbc X) (qbb X) (qba Y)
 generalize e0 : sT 0 0 0 0 (w0 X) (w1 X) (w2 X) (w3 X) (w0 Y) = T0 at *
 have E0 := Lib.hid e0; clear e0
 replace B := Lib.hid (B.out.next hb); obtain ⟨bl, l0, l1, l2, x0, x1, x2, x3, y0, y1, y2, y3, r0, r1, r2, r3, f0, f1, f2, f3⟩ := B.out; clear hb
 go_wp2_with fail
 refine (addTimes_raw _ _ _ _ _ _ _ _ _ _ (by first | exact word0 | exact qba _ | exact qbd _ | exact qbc _ | exact qbb _ | exact qa5 _ _ _ | exact qa6 _ _ _ | assumption) (by first | exact word0 | exact qba _ | exact qbd _ | exact qbc _ | exact qbb _ | exact qa5 _ _ _ | exact qa6 _ _ _ | assumption) (by first | exact word0 | exact qba _ | exact qbd _ | exact qbc _ | exact qbb _ | exact qa5 _ _ _ | exact qa6 _ _ _ | assumption) (by first | exact word0 | exact qba _ | exact qbd _ | exact qbc _ | exact qbb _ | exact qa5 _ _ _ | exact qa6 _ _ _ | assumption) (by first | exact word0 | exact qba _ | exact qbd _ | exact qbc _ | exact qbb _ | exact qa5 _ _ _ | exact qa6 _ _ _ | assumption) (by first | exact word0 | exact qba _ | exact qbd _ | exact qbc _ | exact qbb _ | exact qa5 _ _ _ | exact qa6 _ _ _ | assumption) (by first | exact word0 | exact qba _ | exact qbd _ | exact qbc _ | exact qbb _ | exact qa5 _ _ _ | exact qa6 _ _ _ | assumption) (by first | exact word0 | exact qba _ | exact qbd _ | exact qbc _ | exact qbb _ | exact qa5 _ _ _ | exact qa6 _ _ _ | assumption) (by first | exact word0 | exact qba _ | exact qbd _ | exact qbc _ | exact qbb _ | exact qa5 _ _ _ | exact qa6 _ _ _ | assumption)).mono ?_
 clear bl l0 l1 l2 x0 x1 x2 x3 y0 y1 y2 y3 r0 r1 r2 r3 f0 f1 f2 f3
 rintro e u ⟨rfl, hb⟩
 have k1 := w4_word (qbd T0) (qbc T0) (qbb T0) k0 (qba X) (qbd X) (qbc X) (qbb X) (qbd Y)
 generalize e0 : sT (w1 T0) (w2 T0) (w3 T0) (w4 T0) (w0 X) (w1 X) (w2 X) (w3 X) (w1 Y) = T1 at *
 have E1 := Lib.hid e0; clear e0
 replace B := Lib.hid (B.out.next hb); obtain ⟨bl, l0, l1, l2, x0, x1, x2, x3, y0, y1, y2, y3, r0, r1, r2, r3, f0, f1, f2, f3⟩ := B.out; clear hb
 go_wp2_with fail
 refine (addTimes_raw _ _ _ _ _ _ _ _ _ _ (by first | exact word0 | exact qba _ | exact qbd _ | exact qbc _ | exact qbb _ | exact qa5 _ _ _ | exact qa6 _ _ _ | assumption) (by first | exact word0 | exact qba _ | exact qbd _ | exact qbc _ | exact qbb _ | exact qa5 _ _ _ | exact qa6 _ _ _ | assumption) (by first | exact word0 | exact qba _ | exact qbd _ | exact qbc _ | exact qbb _ | exact qa5 _ _ _ | exact qa6 _ _ _ | assumption) (by first | exact word0 | exact qba _ | exact qbd _ | exact qbc _ | exact qbb _ | exact qa5 _ _ _ | exact qa6 _ _ _ | assumption) (by first | exact word0 | exact qba _ | exact qbd _ | exact qbc _ | exact qbb _ | exact qa5 _ _ _ | exact qa6 _ _ _ | assumption) (by first | exact word0 | exact qba _ | exact qbd _ | exact qbc _ | exact qbb _ | exact qa5 _ _ _ | exact qa6 _ _ _ | assumption) (by first | exact word0 | exact qba _ | exact qbd _ | exact qbc _ | exact qbb _ | exact qa5 _ _ _ | exact qa6 _ _ _ | assumption) (by first | exact word0 | exact qba _ | exact qbd _ | exact qbc _ | exact qbb _ | exact qa5 _ _ _ | exact qa6 _ _ _ | assumption) (by first | exact word0 | exact qba _ | exact qbd _ | exact qbc _ | exact qbb _ | exact qa5 _ _ _ | exact qa6 _ _ _ | assumption)).mono ?_
 clear bl l0 l1 l2 x0 x1 x2 x3 y0 y1 y2 y3 r0 r1 r2 r3 f0 f1 f2 f3
 rintro e u ⟨rfl, hb⟩
 have k2 := w4_word (qbd T1) (qbc T1) (qbb T1) k1 (qba X) (qbd X) (qbc X) (qbb X) (qbc Y)
 generalize e0 : sT (w1 T1) (w2 T1) (w3 T1) (w4 T1) (w0 X) (w1 X) (w2 X) (w3 X) (w2 Y) = T2 at *
 have E2 := Lib.hid e0; clear e0
 replace B := Lib.hid (B.out.next hb); obtain ⟨bl, l0, l1, l2, x0, x1, x2, x3, y0, y1, y2, y3, r0, r1, r2, r3, f0, f1, f2, f3⟩ := B.out; clear hb
 go_wp2_with fail
 refine (addTimes_raw _ _ _ _ _ _ _ _ _ _ (by first | exact word0 | exact qba _ | exact qbd _ | exact qbc _ | exact qbb _ | exact qa5 _ _ _ | exact qa6 _ _ _ | assumption) (by first | exact word0 | exact qba _ | exact qbd _ | exact qbc _ | exact qbb _ | exact qa5 _ _ _ | exact qa6 _ _ _ | assumption) (by first | exact word0 | exact qba _ | exact qbd _ | exact qbc _ | exact qbb _ | exact qa5 _ _ _ | exact qa6 _ _ _ | assumption) (by first | exact word0 | exact qba _ | exact qbd _ | exact qbc _ | exact qbb _ | exact qa5 _ _ _ | exact qa6 _ _ _ | assumption) (by first | exact word0 | exact qba _ | exact qbd _ | exact qbc _ | exact qbb _ | exact qa5 _ _ _ | exact qa6 _ _ _ | assumption) (by first | exact word0 | exact qba _ | exact qbd _ | exact qbc _ | exact qbb _ | exact qa5 _ _ _ | exact qa6 _ _ _ | assumption) (by first | exact word0 | exact qba _ | exact qbd _ | exact qbc _ | exact qbb _ | exact qa5 _ _ _ | exact qa6 _ _ _ | assumption) (by first | exact word0 | exact qba _ | exact qbd _ | exact qbc _ | exact qbb _ | exact qa5 _ _ _ | exact qa6 _ _ _ | assumption) (by first | exact word0 | exact qba _ | exact qbd _ | exact qbc _ | exact qbb _ | exact qa5 _ _ _ | exact qa6 _ _ _ | assumption)).mono ?_
 clear bl l0 l1 l2 x0 x1 x2 x3 y0 y1 y2 y3 r0 r1 r2 r3 f0 f1 f2 f3
 rintro e u ⟨rfl, hb⟩
 have k3 := w4_word (qbd T2) (qbc T2) (qbb T2) k2 (qba X) (qbd X) (qbc X) (qbb X) (qbb Y)
 generalize e0 : sT (w1 T2) (w2 T2) (w3 T2) (w4 T2) (w0 X) (w1 X) (w2 X) (w3 X) (w3 Y) = T3 at *
 have E3 := Lib.hid e0; clear e0
 replace B := Lib.hid (B.out.next hb); obtain ⟨bl, l0, l1, l2, x0, x1, x2, x3, y0, y1, y2, y3, r0, r1, r2, r3, f0, f1, f2, f3⟩ := B.out; clear hb
 go_wp2_with fail
 have k38 : Word 38 := by unfold Word; omega
 refine (addTimes_raw _ _ _ _ _ _ _ _ _ _ (by first | exact word0 | exact qba _ | exact qbd _ | exact qbc _ | exact qbb _ | exact qa5 _ _ _ | exact qa6 _ _ _ | assumption) (by first | exact word0 | exact qba _ | exact qbd _ | exact qbc _ | exact qbb _ | exact qa5 _ _ _ | exact qa6 _ _ _ | assumption) (by first | exact word0 | exact qba _ | exact qbd _ | exact qbc _ | exact qbb _ | exact qa5 _ _ _ | exact qa6 _ _ _ | assumption) (by first | exact word0 | exact qba _ | exact qbd _ | exact qbc _ | exact qbb _ | exact qa5 _ _ _ | exact qa6 _ _ _ | assumption) (by first | exact word0 | exact qba _ | exact qbd _ | exact qbc _ | exact qbb _ | exact qa5 _ _ _ | exact qa6 _ _ _ | assumption) (by first | exact word0 | exact qba _ | exact qbd _ | exact qbc _ | exact qbb _ | exact qa5 _ _ _ | exact qa6 _ _ _ | assumption) (by first | exact word0 | exact qba _ | exact qbd _ | exact qbc _ | exact qbb _ | exact qa5 _ _ _ | exact qa6 _ _ _ | assumption) (by first | exact word0 | exact qba _ | exact qbd _ | exact qbc _ | exact qbb _ | exact qa5 _ _ _ | exact qa6 _ _ _ | assumption) (by first | exact word0 | exact qba _ | exact qbd _ | exact qbc _ | exact qbb _ | exact qa5 _ _ _ | exact qa6 _ _ _ | assumption)).mono ?_
 clear bl l0 l1 l2 x0 x1 x2 x3 y0 y1 y2 y3 r0 r1 r2 r3 f0 f1 f2 f3
 rintro e u ⟨rfl, hb⟩
 generalize e0 : sT (w0 T0) (w0 T1) (w0 T2) (w0 T3) (w1 T3) (w2 T3) (w3 T3) (w4 T3) 38 = S at *
 obtain ⟨s0, s1, s2⟩ := mul_math hX hY E0.out E1.out E2.out E3.out e0 k3
 have ES := Lib.hid s2; clear s2
 clear e0
 replace B := Lib.hid (B.out.next hb); obtain ⟨bl, l0, l1, l2, x0, x1, x2, x3, y0, y1, y2, y3, r0, r1, r2, r3, f0, f1, f2, f3⟩ := B.out; clear hb
 go_wp2_with fail
 refine (settle_g _ _ _ _ _ _ (by first | exact word0 | exact qba _ | exact qbd _ | exact qbc _ | exact qbb _ | exact qa5 _ _ _ | exact qa6 _ _ _ | assumption) (by first | exact word0 | exact qba _ | exact qbd _ | exact qbc _ | exact qbb _ | exact qa5 _ _ _ | exact qa6 _ _ _ | assumption) (by first | exact word0 | exact qba _ | exact qbd _ | exact qbc _ | exact qbb _ | exact qa5 _ _ _ | exact qa6 _ _ _ | assumption) (by first | exact word0 | exact qba _ | exact qbd _ | exact qbc _ | exact qbb _ | exact qa5 _ _ _ | exact qa6 _ _ _ | assumption) s0 s1 (hG.below bl)).mono ?_
 clear bl l0 l1 l2 x0 x1 x2 x3 y0 y1 y2 y3 r0 r1 r2 r3 f0 f1 f2 f3
 rintro e u ⟨rfl, hb⟩
 rw [ES.out]
 replace B := Lib.hid (B.out.next hb); obtain ⟨bl, l0, l1, l2, x0, x1, x2, x3, y0, y1, y2, y3, r0, r1, r2, r3, f0, f1, f2, f3⟩ := B.out; clear hb
 go_wp2_with fail
 refine bodyPost_ret (v := feV (X * Y % pp)) (by simp [results, Tryd.results82, go_sem, r0, r1, r2, r3]) rfl ⟨rfl, ?_⟩
 repeat' (first | exact Below.refl _ _ | assumption | refine Below.setCell ?_ ?_ _ | refine Below.alloc ?_ ?_ _ | refine Below.drew ?_ | refine Below.trans ?_ (Below.mono (by assumption) ?_) | (simp; done) | (simp; omega))
end Go.Proofs.YtcgbgmbnagmohaaDoor
namespace Go.Proofs.YtcgbgmbnagmohaaDoor
open Go.RowKit
set_option maxRecDepth 20000
structure Box1 (w : World) (X : Int) (u : World) : Prop where
 bl : Below w.heap.size w u
 l0 : w.heap.size < u.heap.size
 l1 : w.heap.size + 1 < u.heap.size
 x0 : u.cell? ⟨w.heap.size, 0, none⟩ = some (.int .u64 (w0 X))
 x1 : u.cell? ⟨w.heap.size, 1, none⟩ = some (.int .u64 (w1 X))
 x2 : u.cell? ⟨w.heap.size, 2, none⟩ = some (.int .u64 (w2 X))
 x3 : u.cell? ⟨w.heap.size, 3, none⟩ = some (.int .u64 (w3 X))
 r0 : u.cell? ⟨w.heap.size + 1, 0, none⟩ = some (.int .u64 0)
 r1 : u.cell? ⟨w.heap.size + 1, 1, none⟩ = some (.int .u64 0)
 r2 : u.cell? ⟨w.heap.size + 1, 2, none⟩ = some (.int .u64 0)
 r3 : u.cell? ⟨w.heap.size + 1, 3, none⟩ = some (.int .u64 0)
 f0 : u.frozen? ⟨w.heap.size + 1, 0, none⟩ = false
 f1 : u.frozen? ⟨w.heap.size + 1, 1, none⟩ = false
 f2 : u.frozen? ⟨w.heap.size + 1, 2, none⟩ = false
 f3 : u.frozen? ⟨w.heap.size + 1, 3, none⟩ = false
theorem Box1.start (w : World) (X : Int) : Box1 w X ((w.alloc (.cells #[.int .u64 (w0 X), .int .u64 (w1 X), .int .u64 (w2 X), .int .u64 (w3 X)] 66)).alloc (.cells #[.int .u64 0, .int .u64 0, .int .u64 0, .int .u64 0] 66)) := by
 constructor
 ·repeat' (first | exact Below.refl _ _ | assumption | refine Below.setCell ?_ ?_ _ | refine Below.alloc ?_ ?_ _ | refine Below.drew ?_ | refine Below.trans ?_ (Below.mono (by assumption) ?_) | (simp; done) | (simp; omega))
 all_goals simp [go_sem]
theorem Box1.next {w u u' : World} {X : Int} (h : Box1 w X u) (hb : Below u.heap.size u u') : Box1 w X u' := by
 obtain ⟨bl, l0, l1, x0, x1, x2, x3, r0, r1, r2, r3, f0, f1, f2, f3⟩ := h
 have hs := hb.size
 refine ⟨bl.trans (hb.mono bl.size), Nat.lt_of_lt_of_le l0 hs, Nat.lt_of_lt_of_le l1 hs, ?_, ?_, ?_, ?_, ?_, ?_, ?_, ?_, ?_, ?_, ?_, ?_⟩
 ·rw [hb.cell (p := ⟨w.heap.size, 0, none⟩) l0]; exact x0
 ·rw [hb.cell (p := ⟨w.heap.size, 1, none⟩) l0]; exact x1
 ·rw [hb.cell (p := ⟨w.heap.size, 2, none⟩) l0]; exact x2
 ·rw [hb.cell (p := ⟨w.heap.size, 3, none⟩) l0]; exact x3
 ·rw [hb.cell (p := ⟨w.heap.size + 1, 0, none⟩) l1]; exact r0
 ·rw [hb.cell (p := ⟨w.heap.size + 1, 1, none⟩) l1]; exact r1
 ·rw [hb.cell (p := ⟨w.heap.size + 1, 2, none⟩) l1]; exact r2
 ·rw [hb.cell (p := ⟨w.heap.size + 1, 3, none⟩) l1]; exact r3
 ·rw [hb.frozen (p := ⟨w.heap.size + 1, 0, none⟩) l1]; exact f0
 ·rw [hb.frozen (p := ⟨w.heap.size + 1, 1, none⟩) l1]; exact f1
 ·rw [hb.frozen (p := ⟨w.heap.size + 1, 2, none⟩) l1]; exact f2
 ·rw [hb.frozen (p := ⟨w.heap.size + 1, 3, none⟩) l1]; exact f3
theorem GCell.drew {b : Nat} {N : Int} {w : World} (h : GCell b N w) : GCell b N w.drew := h.below (Below.refl _ _).drew
set_option maxHeartbeats 400000 in
theorem canon_any (X : Int) (w : World) (hX : Num X) (hG : GCell 5 pp w) :
  Calls Tryd.prog 72 #[feV X] w fun e w' => e = .returned (feV (X % pp)) ∧ Below w.heap.size w w' := by
 have B := Lib.hid (Box1.start w X)
 go_enter Tryd.func72, Tryd.ntmps72
 go_wp2_with fail
 refine (settle_g _ _ _ _ _ _ (by first | exact word0 | exact qba _ | exact qbd _ | exact qbc _ | exact qbb _ | exact qa5 _ _ _ | exact qa6 _ _ _ | assumption) (by first | exact word0 | exact qba _ | exact qbd _ | exact qbc _ | exact qbb _ | exact qa5 _ _ _ | exact qa6 _ _ _ | assumption) (by first | exact word0 | exact qba _ | exact qbd _ | exact qbc _ | exact qbb _ | exact qa5 _ _ _ | exact qa6 _ _ _ | assumption) (by first | exact word0 | exact qba _ | exact qbd _ | exact qbc _ | exact qbb _ | exact qa5 _ _ _ | exact qa6 _ _ _ | assumption) (by omega) (by omega) (hG.below B.out.bl)).mono ?_
 rintro e u ⟨rfl, hb⟩
 rw [val_w hX, Int.mul_zero, Int.add_zero]
 replace B := Lib.hid (B.out.next hb); obtain ⟨bl, l0, l1, x0, x1, x2, x3, r0, r1, r2, r3, f0, f1, f2, f3⟩ := B.out; clear hb
 go_wp2_with fail
 refine bodyPost_ret (v := feV (X % pp)) (by simp [results, Tryd.results72, go_sem, r0, r1, r2, r3]) rfl ⟨rfl, ?_⟩
 repeat' (first | exact Below.refl _ _ | assumption | refine Below.setCell ?_ ?_ _ | refine Below.alloc ?_ ?_ _ | refine Below.drew ?_ | refine Below.trans ?_ (Below.mono (by assumption) ?_) | (simp; done) | (simp; omega))
theorem add_math {x0 x1 x2 x3 y0 y1 y2 y3 : Int} :
  val (adW x0 y0 0) (adW x1 y1 (adC x0 y0 0)) (adW x2 y2 (adC x1 y1 (adC x0 y0 0))) (adW x3 y3 (adC x2 y2 (adC x1 y1 (adC x0 y0 0)))) + 115792089237316195423570985008687907853269984665640564039457584007913129639936 * adC x3 y3 (adC x2 y2 (adC x1 y1 (adC x0 y0 0))) = val x0 x1 x2 x3 + val y0 y1 y2 y3 := by
 have e0 := ad_eq x0 y0 0
 have e1 := ad_eq x1 y1 (adC x0 y0 0)
 have e2 := ad_eq x2 y2 (adC x1 y1 (adC x0 y0 0))
 have e3 := ad_eq x3 y3 (adC x2 y2 (adC x1 y1 (adC x0 y0 0)))
 generalize adC x3 y3 (adC x2 y2 (adC x1 y1 (adC x0 y0 0))) = c3 at *
 generalize adW x3 y3 (adC x2 y2 (adC x1 y1 (adC x0 y0 0))) = s3 at *
 generalize adC x2 y2 (adC x1 y1 (adC x0 y0 0)) = c2 at *
 generalize adW x2 y2 (adC x1 y1 (adC x0 y0 0)) = s2 at *
 generalize adC x1 y1 (adC x0 y0 0) = c1 at *
 generalize adW x1 y1 (adC x0 y0 0) = s1 at *
 generalize adC x0 y0 0 = c0 at *
 generalize adW x0 y0 0 = s0 at *
 unfold val
 omega
set_option maxHeartbeats 400000 in
theorem add_any (X Y : Int) (w : World) (hX : Num X) (hY : Num Y) (hG : GCell 5 pp w) :
  Calls Tryd.prog 81 #[feV X, feV Y] w fun e w' => e = .returned (feV ((X + Y) % pp)) ∧ Below w.heap.size w w' := by
 have B := Lib.hid (Box2.start w X Y)
 have k0 := adC_bit (qba X) (qba Y) bit0
 have k1 := adC_bit (qbd X) (qbd Y) k0
 have k2 := adC_bit (qbc X) (qbc Y) k1
 have k3 := adC_bit (qbb X) (qbb Y) k2
 go_enter Tryd.func81, Tryd.ntmps81
 go_wp2_with (first | simp only [qb7 (qba X) (qba Y) bit0, qb7 (qbd X) (qbd Y) k0, qb7 (qbc X) (qbc Y) k1, qb7 (qbb X) (qbb Y) k2] | fail)
 refine (settle_g _ _ _ _ _ _ (by first | exact word0 | exact qba _ | exact qbd _ | exact qbc _ | exact qbb _ | exact qa5 _ _ _ | exact qa6 _ _ _ | assumption) (by first | exact word0 | exact qba _ | exact qbd _ | exact qbc _ | exact qbb _ | exact qa5 _ _ _ | exact qa6 _ _ _ | assumption) (by first | exact word0 | exact qba _ | exact qbd _ | exact qbc _ | exact qbb _ | exact qa5 _ _ _ | exact qa6 _ _ _ | assumption) (by first | exact word0 | exact qba _ | exact qbd _ | exact qbc _ | exact qbb _ | exact qa5 _ _ _ | exact qa6 _ _ _ | assumption) k3.1 (by have := k3.2; omega) (hG.below B.out.bl)).mono ?_
 rintro e u ⟨rfl, hb⟩
 rw [add_math, val_w hX, val_w hY]
 replace B := Lib.hid (B.out.next hb); obtain ⟨bl, l0, l1, l2, x0, x1, x2, x3, y0, y1, y2, y3, r0, r1, r2, r3, f0, f1, f2, f3⟩ := B.out; clear hb
 go_wp2_with fail
 refine bodyPost_ret (v := feV ((X + Y) % pp)) (by simp [results, Tryd.results81, go_sem, r0, r1, r2, r3]) rfl ⟨rfl, ?_⟩
 repeat' (first | exact Below.refl _ _ | assumption | refine Below.setCell ?_ ?_ _ | refine Below.alloc ?_ ?_ _ | refine Below.drew ?_ | refine Below.trans ?_ (Below.mono (by assumption) ?_) | (simp; done) | (simp; omega))
set_option maxHeartbeats 400000 in
theorem small_any (n : Int) (w : World) (h0 : 0 ≤ n) (h1 : n < 4294967296) :
  Calls Tryd.prog 77 #[.int .u32 n] w fun e w' => e = .returned (feV n) ∧ Below w.heap.size w w' := by
 have e0 : IntKind.u64.wrap n = w0 n := by rw [IntKind.wrap_u64]; rfl
 have e1 : w1 n = 0 := by unfold w1; omega
 have e2 : w2 n = 0 := by unfold w2; omega
 have e3 : w3 n = 0 := by unfold w3; omega
 have E1 := Lib.hid e1; clear e1
 have E2 := Lib.hid e2; clear e2
 have E3 := Lib.hid e3; clear e3
 go_enter Tryd.func77, Tryd.ntmps77
 go_wp2_with fail
 refine bodyPost_ret (v := .agg #[.int .u64 (w0 n), .int .u64 0, .int .u64 0, .int .u64 0]) (by simp [results, Tryd.results77, go_sem]) rfl ⟨by unfold feV; rw [E1.out, E2.out, E3.out], ?_⟩
 repeat' (first | exact Below.refl _ _ | assumption | refine Below.setCell ?_ ?_ _ | refine Below.alloc ?_ ?_ _ | refine Below.drew ?_ | refine Below.trans ?_ (Below.mono (by assumption) ?_) | (simp; done) | (simp; omega))
end Go.Proofs.YtcgbgmbnagmohaaDoor
namespace Go.Proofs.YtcgbgmbnagmohaaDoor
open Go.RowKit
set_option maxRecDepth 20000
def Cells4 (b : Nat) (N : Int) (u : World) : Prop := u.cell? ⟨b, 0, none⟩ = some (.int .u64 (w0 N)) ∧ u.cell? ⟨b, 1, none⟩ = some (.int .u64 (w1 N)) ∧ u.cell? ⟨b, 2, none⟩ = some (.int .u64 (w2 N)) ∧ u.cell? ⟨b, 3, none⟩ = some (.int .u64 (w3 N))
theorem Cells4.of_below {b : Nat} {N : Int} {u V : World} (h : Cells4 b N u) (hlt : b < u.heap.size) (hb : Below u.heap.size u V) : Cells4 b N V := by
 obtain ⟨h0, h1, h2, h3⟩ := h
 refine ⟨?_, ?_, ?_, ?_⟩
 ·rw [hb.cell (p := ⟨b, 0, none⟩) hlt]; exact h0
 ·rw [hb.cell (p := ⟨b, 1, none⟩) hlt]; exact h1
 ·rw [hb.cell (p := ⟨b, 2, none⟩) hlt]; exact h2
 ·rw [hb.cell (p := ⟨b, 3, none⟩) hlt]; exact h3
theorem GCell.cells {b : Nat} {N : Int} {w : World} (h : GCell b N w) : Cells4 b N w := ⟨h.c0, h.c1, h.c2, h.c3⟩
theorem Box2.xcells {w u : World} {X Y : Int} (h : Box2 w X Y u) : Cells4 w.heap.size X u := ⟨h.x0, h.x1, h.x2, h.x3⟩
theorem Box2.ycells {w u : World} {X Y : Int} (h : Box2 w X Y u) : Cells4 (w.heap.size + 1) Y u := ⟨h.y0, h.y1, h.y2, h.y3⟩
def Made (u0 : World) (Z : Int) (s : Value) (u : World) : Prop := ∃ g : Nat, s = .pointer (some ⟨g, 0, none⟩) ∧ u0.heap.size ≤ g ∧ g < u.heap.size ∧ Below u0.heap.size u0 u ∧ Cells4 g Z u
theorem made_new {u0 u : World} {Z : Int} (hb : Below u0.heap.size u0 u) : Made u0 Z (.pointer (some ⟨u.heap.size, 0, none⟩)) (u.alloc (.cells #[.int .u64 (w0 Z), .int .u64 (w1 Z), .int .u64 (w2 Z), .int .u64 (w3 Z)] 66)) := by
 refine ⟨u.heap.size, rfl, hb.size, by simp, hb.alloc hb.size _, ?_⟩
 unfold Cells4; simp [go_sem]
theorem read4 {u : World} {g : Nat} {Z : Int} (q0 : (u.cell? ⟨g, 0, none⟩).isSome = true) (q1 : (u.cell? ⟨g, 1, none⟩).isSome = true) (q2 : (u.cell? ⟨g, 2, none⟩).isSome = true) (q3 : (u.cell? ⟨g, 3, none⟩).isSome = true) :
  Cells4 g Z ((((u.setCell ⟨g, 0, none⟩ (.int .u64 (w0 Z))).setCell ⟨g, 1, none⟩ (.int .u64 (w1 Z))).setCell ⟨g, 2, none⟩ (.int .u64 (w2 Z))).setCell ⟨g, 3, none⟩ (.int .u64 (w3 Z))) := by
 unfold Cells4; simp [go_sem, q0, q1, q2, q3]
theorem made_old {u0 u : World} {Z : Int} {g : Nat} (hg : u0.heap.size ≤ g) (hlt : g < u.heap.size) (hb : Below u0.heap.size u0 u) (q0 : (u.cell? ⟨g, 0, none⟩).isSome = true) (q1 : (u.cell? ⟨g, 1, none⟩).isSome = true) (q2 : (u.cell? ⟨g, 2, none⟩).isSome = true) (q3 : (u.cell? ⟨g, 3, none⟩).isSome = true) :
  Made u0 Z (.pointer (some ⟨g, 0, none⟩)) ((((u.setCell ⟨g, 0, none⟩ (.int .u64 (w0 Z))).setCell ⟨g, 1, none⟩ (.int .u64 (w1 Z))).setCell ⟨g, 2, none⟩ (.int .u64 (w2 Z))).setCell ⟨g, 3, none⟩ (.int .u64 (w3 Z))) :=
 ⟨g, rfl, hg, by simpa using hlt, (((hb.setCell hg _).setCell hg _).setCell hg _).setCell hg _, read4 q0 q1 q2 q3⟩
theorem num0 : Num 0 := by unfold Num; omega
theorem sub_num (Y : Int) : Num ((pp - Y % pp) % 115792089237316195423570985008687907853269984665640564039457584007913129639936) := by unfold Num pp; omega
theorem sub_math (X Y : Int) : (X + (pp - Y % pp) % 115792089237316195423570985008687907853269984665640564039457584007913129639936) % pp = (X - Y) % pp := by
 have h : (pp - Y % pp) % 115792089237316195423570985008687907853269984665640564039457584007913129639936 = pp - Y % pp := by unfold pp; omega
 rw [h]; unfold pp; omega
set_option maxHeartbeats 1000000 in
theorem sub_any (X Y : Int) (w : World) (hX : Num X) (hY : Num Y) (hG : GCell 5 pp w) :
  Calls Tryd.prog 80 #[feV X, feV Y] w fun e w' => e = .returned (feV ((X - Y) % pp)) ∧ Below w.heap.size w w' := by
 have B := Lib.hid (Box2.start w X Y)
 replace hG := hG.below B.out.bl
 go_enter Tryd.func80, Tryd.ntmps80
 go_upto_region 1 with fail
 generalize (((w.alloc (.cells #[.int .u64 (w0 X), .int .u64 (w1 X), .int .u64 (w2 X), .int .u64 (w3 X)] 66)).alloc (.cells #[.int .u64 (w0 Y), .int .u64 (w1 Y), .int .u64 (w2 Y), .int .u64 (w3 Y)] 66)).alloc (.cells #[.int .u64 0, .int .u64 0, .int .u64 0, .int .u64 0] 66)) = u0 at *
 have HS : Hid (∀ V, Below u0.heap.size u0 V → Cells4 5 pp V ∧ Cells4 (w.heap.size + 1) Y V) := Lib.hid fun V hV => ⟨hG.cells.of_below hG.lt hV, B.out.ycells.of_below B.out.l1 hV⟩
 obtain ⟨bl, l0, l1, l2, x0, x1, x2, x3, y0, y1, y2, y3, r0, r1, r2, r3, f0, f1, f2, f3⟩ := B.out
 have gl := hG.lt
 go_cut [5] (fun s5 u => Made u0 ((pp - Y % pp) % 115792089237316195423570985008687907853269984665640564039457584007913129639936) s5 u)
 case first =>
  unfold Cells4 at HS
  go_region_held3 (fun u => (u.cell? ⟨5, 0, none⟩ = some (.int .u64 (w0 pp)) ∧ u.cell? ⟨5, 1, none⟩ = some (.int .u64 (w1 pp)) ∧ u.cell? ⟨5, 2, none⟩ = some (.int .u64 (w2 pp)) ∧ u.cell? ⟨5, 3, none⟩ = some (.int .u64 (w3 pp))) ∧
   (u.cell? ⟨w.heap.size + 1, 0, none⟩ = some (.int .u64 (w0 Y)) ∧ u.cell? ⟨w.heap.size + 1, 1, none⟩ = some (.int .u64 (w1 Y)) ∧ u.cell? ⟨w.heap.size + 1, 2, none⟩ = some (.int .u64 (w2 Y)) ∧ u.cell? ⟨w.heap.size + 1, 3, none⟩ = some (.int .u64 (w3 Y)))) (exact HS.out _ (by repeat' (first | exact Below.refl _ _ | assumption | refine Below.setCell ?_ ?_ _ | refine Below.alloc ?_ ?_ _ | refine Below.drew ?_ | refine Below.trans ?_ (Below.mono (by assumption) ?_) | (simp; done) | (simp; omega))))
   (first | (go_at_call 72; refine (canon_any Y _ hY (hG.below (by repeat' (first | exact Below.refl _ _ | assumption | refine Below.setCell ?_ ?_ _ | refine Below.alloc ?_ ?_ _ | refine Below.drew ?_ | refine Below.trans ?_ (Below.mono (by assumption) ?_) | (simp; done) | (simp; omega))))).mono ?_; rintro e u1 ⟨rfl, hu1⟩; have bu1 : Below u0.heap.size u0 u1 := (by repeat' (first | exact Below.refl _ _ | assumption | refine Below.setCell ?_ ?_ _ | refine Below.alloc ?_ ?_ _ | refine Below.drew ?_ | refine Below.trans ?_ (Below.mono (by assumption) ?_) | (simp; done) | (simp; omega))); have su1 : u0.heap.size ≤ u1.heap.size := Below.size bu1; obtain ⟨cu1, fu1⟩ := bcell hu1; have tu1 := Below.size hu1; (try simp at tu1); (try rw [Nat.add_one_le_iff] at tu1)) | (go_at_call 92; refine (minus_any _ _ _ num_pp (qa0 Y)).mono ?_; rintro e u2 ⟨rfl, hu2⟩; have bu2 : Below u0.heap.size u0 u2 := (by repeat' (first | exact Below.refl _ _ | assumption | refine Below.setCell ?_ ?_ _ | refine Below.alloc ?_ ?_ _ | refine Below.drew ?_ | refine Below.trans ?_ (Below.mono (by assumption) ?_) | (simp; done) | (simp; omega))); have su2 : u0.heap.size ≤ u2.heap.size := Below.size bu2; obtain ⟨cu2, fu2⟩ := bcell hu2; have tu2 := Below.size hu2; (try simp at tu2); (try rw [Nat.add_one_le_iff] at tu2)))
  all_goals (go_wp2_with fail; go_meet; first | ((with_reducible refine made_new ?_); repeat' (first | exact Below.refl _ _ | assumption | refine Below.setCell ?_ ?_ _ | refine Below.alloc ?_ ?_ _ | refine Below.drew ?_ | refine Below.trans ?_ (Below.mono (by assumption) ?_) | (simp; done) | (simp; omega)); done) | ((with_reducible refine made_old ?_ ?_ ?_ ?_ ?_ ?_ ?_) <;> (first | exact Nat.le_refl _ | assumption | omega | (first | (rw [cu2 _ _ (by simp; done)]; simp [go_sem]; done) | (rw [cu2 _ _ tu1, cu1 _ _ (by simp; done)]; simp [go_sem]; done)) | (repeat' (first | exact Below.refl _ _ | assumption | refine Below.setCell ?_ ?_ _ | refine Below.alloc ?_ ?_ _ | refine Below.drew ?_ | refine Below.trans ?_ (Below.mono (by assumption) ?_) | (simp; done) | (simp; omega)); done))))
 case rest =>
  obtain ⟨g, rfl, hg1, hg2, hb, c0, c1, c2, c3⟩ := hcut
  clear bl l0 l1 l2 x0 x1 x2 x3 y0 y1 y2 y3 r0 r1 r2 r3 f0 f1 f2 f3
  replace hG := hG.below hb
  replace B := Lib.hid (B.out.next hb); obtain ⟨bl, l0, l1, l2, x0, x1, x2, x3, y0, y1, y2, y3, r0, r1, r2, r3, f0, f1, f2, f3⟩ := B.out; clear hb
  go_wp2_with fail
  refine (add_any X _ _ hX (sub_num Y) hG).mono ?_
  clear bl l0 l1 l2 x0 x1 x2 x3 y0 y1 y2 y3 r0 r1 r2 r3 f0 f1 f2 f3
  rintro e u ⟨rfl, hb⟩
  rw [sub_math]
  replace B := Lib.hid (B.out.next hb); obtain ⟨bl, l0, l1, l2, x0, x1, x2, x3, y0, y1, y2, y3, r0, r1, r2, r3, f0, f1, f2, f3⟩ := B.out; clear hb
  go_wp2_with fail
  refine bodyPost_ret (v := feV ((X - Y) % pp)) (by simp [results, Tryd.results80, go_sem, r0, r1, r2, r3]) rfl ⟨rfl, ?_⟩
  repeat' (first | exact Below.refl _ _ | assumption | refine Below.setCell ?_ ?_ _ | refine Below.alloc ?_ ?_ _ | refine Below.drew ?_ | refine Below.trans ?_ (Below.mono (by assumption) ?_) | (simp; done) | (simp; omega))
theorem Box1.xcells {w u : World} {X : Int} (h : Box1 w X u) : Cells4 w.heap.size X u := ⟨h.x0, h.x1, h.x2, h.x3⟩
theorem Cells4.far {b c : Nat} {N : Int} {V : World} (hne : c ≠ b) (v0 v1 v2 v3 : Value) (h : Cells4 b N V) : Cells4 b N ((((V.setCell ⟨c, 0, none⟩ v0).setCell ⟨c, 1, none⟩ v1).setCell ⟨c, 2, none⟩ v2).setCell ⟨c, 3, none⟩ v3) := by
 obtain ⟨h0, h1, h2, h3⟩ := h
 refine ⟨?_, ?_, ?_, ?_⟩ <;> (rw [World.cell?_setCell_far _ ⟨c, _, none⟩ ⟨b, _, none⟩ _ hne, World.cell?_setCell_far _ ⟨c, _, none⟩ ⟨b, _, none⟩ _ hne, World.cell?_setCell_far _ ⟨c, _, none⟩ ⟨b, _, none⟩ _ hne, World.cell?_setCell_far _ ⟨c, _, none⟩ ⟨b, _, none⟩ _ hne]; assumption)
set_option maxHeartbeats 400000 in
theorem neg_any (X : Int) (w : World) (hX : Num X) (hG : GCell 5 pp w) :
  Calls Tryd.prog 83 #[feV X] w fun e w' => e = .returned (feV (-X % pp)) ∧ Below w.heap.size w w' := by
 have B := Lib.hid (Box1.start w X)
 replace hG := hG.below B.out.bl
 go_enter Tryd.func83, Tryd.ntmps83
 go_wp2_with fail
 generalize ((w.alloc (.cells #[.int .u64 (w0 X), .int .u64 (w1 X), .int .u64 (w2 X), .int .u64 (w3 X)] 66)).alloc (.cells #[.int .u64 0, .int .u64 0, .int .u64 0, .int .u64 0] 66)) = u0 at *
 have HS : Hid (∀ V, Below u0.heap.size u0 V → Cells4 w.heap.size X V) := Lib.hid fun V hV => B.out.xcells.of_below B.out.l0 hV
 have HF : Hid (∀ V v0 v1 v2 v3, Cells4 w.heap.size X V → Cells4 w.heap.size X ((((V.setCell ⟨w.heap.size + 1, 0, none⟩ v0).setCell ⟨w.heap.size + 1, 1, none⟩ v1).setCell ⟨w.heap.size + 1, 2, none⟩ v2).setCell ⟨w.heap.size + 1, 3, none⟩ v3)) := Lib.hid fun V v0 v1 v2 v3 h => h.far (by omega) v0 v1 v2 v3
 unfold Cells4 at HF HS
 obtain ⟨bl, l0, l1, x0, x1, x2, x3, r0, r1, r2, r3, f0, f1, f2, f3⟩ := B.out
 go_region_held3 (fun u => (u.cell? ⟨w.heap.size, 0, none⟩ = some (.int .u64 (w0 X)) ∧ u.cell? ⟨w.heap.size, 1, none⟩ = some (.int .u64 (w1 X)) ∧ u.cell? ⟨w.heap.size, 2, none⟩ = some (.int .u64 (w2 X)) ∧ u.cell? ⟨w.heap.size, 3, none⟩ = some (.int .u64 (w3 X)))) (first | ((with_reducible refine HF.out _ _ _ _ _ ?_); exact HS.out _ (by repeat' (first | exact Below.refl _ _ | assumption | refine Below.setCell ?_ ?_ _ | refine Below.alloc ?_ ?_ _ | refine Below.drew ?_ | refine Below.trans ?_ (Below.mono (by assumption) ?_) | (simp; done) | (simp; omega)))) | (exact HS.out _ (by repeat' (first | exact Below.refl _ _ | assumption | refine Below.setCell ?_ ?_ _ | refine Below.alloc ?_ ?_ _ | refine Below.drew ?_ | refine Below.trans ?_ (Below.mono (by assumption) ?_) | (simp; done) | (simp; omega)))))
  (first | ((go_at_call 77; refine (small_any 0 _ (by omega) (by omega)).mono ?_; rintro e u1 ⟨rfl, hu1⟩; have bu1 : Below u0.heap.size u0 u1 := (by repeat' (first | exact Below.refl _ _ | assumption | refine Below.setCell ?_ ?_ _ | refine Below.alloc ?_ ?_ _ | refine Below.drew ?_ | refine Below.trans ?_ (Below.mono (by assumption) ?_) | (simp; done) | (simp; omega))); have su1 : u0.heap.size ≤ u1.heap.size := Below.size bu1; obtain ⟨cu1, fu1⟩ := bcell hu1; have tu1 := Below.size hu1; (try simp at tu1); (try rw [Nat.add_one_le_iff] at tu1)); obtain ⟨bl, l0, l1, x0, x1, x2, x3, r0, r1, r2, r3, f0, f1, f2, f3⟩ := B.out.next bu1) | ((go_at_call 80; refine (sub_any _ _ _ num0 hX (hG.below (by repeat' (first | exact Below.refl _ _ | assumption | refine Below.setCell ?_ ?_ _ | refine Below.alloc ?_ ?_ _ | refine Below.drew ?_ | refine Below.trans ?_ (Below.mono (by assumption) ?_) | (simp; done) | (simp; omega))))).mono ?_; rintro e u2 ⟨rfl, hu2⟩; have bu2 : Below u0.heap.size u0 u2 := (by repeat' (first | exact Below.refl _ _ | assumption | refine Below.setCell ?_ ?_ _ | refine Below.alloc ?_ ?_ _ | refine Below.drew ?_ | refine Below.trans ?_ (Below.mono (by assumption) ?_) | (simp; done) | (simp; omega))); have su2 : u0.heap.size ≤ u2.heap.size := Below.size bu2; obtain ⟨cu2, fu2⟩ := bcell hu2; have tu2 := Below.size hu2; (try simp at tu2); (try rw [Nat.add_one_le_iff] at tu2)); obtain ⟨bl, l0, l1, x0, x1, x2, x3, r0, r1, r2, r3, f0, f1, f2, f3⟩ := B.out.next bu2))
 go_wp2_with fail
 refine bodyPost_ret (v := feV (-X % pp)) (by simp [results, Tryd.results83, go_sem, r0, r1, r2, r3]) rfl ⟨rfl, ?_⟩
 repeat' (first | exact Below.refl _ _ | assumption | refine Below.setCell ?_ ?_ _ | refine Below.alloc ?_ ?_ _ | refine Below.drew ?_ | refine Below.trans ?_ (Below.mono (by assumption) ?_) | (simp; done) | (simp; omega))
end Go.Proofs.YtcgbgmbnagmohaaDoor
namespace Go.Proofs.YtcgbgmbnagmohaaDoor
open Go.RowKit
set_option maxRecDepth 20000
abbrev set4 (u : World) (g : Nat) (Z : Int) : World := (((u.setCell ⟨g, 0, none⟩ (.int .u64 (w0 Z))).setCell ⟨g, 1, none⟩ (.int .u64 (w1 Z))).setCell ⟨g, 2, none⟩ (.int .u64 (w2 Z))).setCell ⟨g, 3, none⟩ (.int .u64 (w3 Z))
theorem qci {u : World} {g : Nat} {Z : Int} {b o : Nat} (h : g ≠ b) : (set4 u g Z).cell? ⟨b, o, none⟩ = u.cell? ⟨b, o, none⟩ := by
 unfold set4
 rw [World.cell?_setCell_far _ ⟨g, _, none⟩ ⟨b, _, none⟩ _ h, World.cell?_setCell_far _ ⟨g, _, none⟩ ⟨b, _, none⟩ _ h, World.cell?_setCell_far _ ⟨g, _, none⟩ ⟨b, _, none⟩ _ h, World.cell?_setCell_far _ ⟨g, _, none⟩ ⟨b, _, none⟩ _ h]
theorem set4_size (u : World) (g : Nat) (Z : Int) : (set4 u g Z).heap.size = u.heap.size := by unfold set4; simp
theorem qc4 (u : World) (g : Nat) (Z : Int) (a : Addr) : (set4 u g Z).frozen? a = u.frozen? a := by unfold set4; simp [go_sem]
theorem set4_below {w u : World} {g B : Nat} (hg : B ≤ g) (h : Below B w u) (Z : Int) : Below B w (set4 u g Z) := (((h.setCell hg _).setCell hg _).setCell hg _).setCell hg _
theorem Box2.set4 {w u : World} {X Y : Int} (h : Box2 w X Y u) {g : Nat} (hg : w.heap.size + 1 + 1 < g) (Z : Int) : Box2 w X Y (set4 u g Z) := by
 obtain ⟨bl, l0, l1, l2, x0, x1, x2, x3, y0, y1, y2, y3, r0, r1, r2, r3, f0, f1, f2, f3⟩ := h
 have n0 : g ≠ w.heap.size := by omega
 have n1 : g ≠ w.heap.size + 1 := by omega
 have n2 : g ≠ w.heap.size + 1 + 1 := by omega
 constructor
 ·exact set4_below (by omega) bl Z
 ·rw [set4_size]; exact l0
 ·rw [set4_size]; exact l1
 ·rw [set4_size]; exact l2
 ·rw [qci n0]; exact x0
 ·rw [qci n0]; exact x1
 ·rw [qci n0]; exact x2
 ·rw [qci n0]; exact x3
 ·rw [qci n1]; exact y0
 ·rw [qci n1]; exact y1
 ·rw [qci n1]; exact y2
 ·rw [qci n1]; exact y3
 ·rw [qci n2]; exact r0
 ·rw [qci n2]; exact r1
 ·rw [qci n2]; exact r2
 ·rw [qci n2]; exact r3
 ·rw [qc4]; exact f0
 ·rw [qc4]; exact f1
 ·rw [qc4]; exact f2
 ·rw [qc4]; exact f3
theorem GCell.set4 {b : Nat} {N : Int} {u : World} (h : GCell b N u) {g : Nat} (hg : g ≠ b) (Z : Int) : GCell b N (set4 u g Z) := by
 obtain ⟨l, c0, c1, c2, c3⟩ := h
 constructor
 ·rw [set4_size]; exact l
 ·rw [qci hg]; exact c0
 ·rw [qci hg]; exact c1
 ·rw [qci hg]; exact c2
 ·rw [qci hg]; exact c3
structure Var4 (g : Nat) (Z : Int) (u : World) : Prop where
 lt : g < u.heap.size
 c0 : u.cell? ⟨g, 0, none⟩ = some (.int .u64 (w0 Z))
 c1 : u.cell? ⟨g, 1, none⟩ = some (.int .u64 (w1 Z))
 c2 : u.cell? ⟨g, 2, none⟩ = some (.int .u64 (w2 Z))
 c3 : u.cell? ⟨g, 3, none⟩ = some (.int .u64 (w3 Z))
 f0 : u.frozen? ⟨g, 0, none⟩ = false
 f1 : u.frozen? ⟨g, 1, none⟩ = false
 f2 : u.frozen? ⟨g, 2, none⟩ = false
 f3 : u.frozen? ⟨g, 3, none⟩ = false
theorem Var4.below {g : Nat} {Z : Int} {u u' : World} (h : Var4 g Z u) (hb : Below u.heap.size u u') : Var4 g Z u' := by
 obtain ⟨l, c0, c1, c2, c3, f0, f1, f2, f3⟩ := h
 constructor
 ·exact Nat.lt_of_lt_of_le l hb.size
 ·rw [hb.cell (p := ⟨g, 0, none⟩) l]; exact c0
 ·rw [hb.cell (p := ⟨g, 1, none⟩) l]; exact c1
 ·rw [hb.cell (p := ⟨g, 2, none⟩) l]; exact c2
 ·rw [hb.cell (p := ⟨g, 3, none⟩) l]; exact c3
 ·rw [hb.frozen (p := ⟨g, 0, none⟩) l]; exact f0
 ·rw [hb.frozen (p := ⟨g, 1, none⟩) l]; exact f1
 ·rw [hb.frozen (p := ⟨g, 2, none⟩) l]; exact f2
 ·rw [hb.frozen (p := ⟨g, 3, none⟩) l]; exact f3
theorem Var4.set4 {g : Nat} {Z : Int} {u : World} (h : Var4 g Z u) (Z' : Int) : Var4 g Z' (set4 u g Z') := by
 obtain ⟨l, c0, c1, c2, c3, f0, f1, f2, f3⟩ := h
 obtain ⟨d0, d1, d2, d3⟩ := read4 (Z := Z') (by rw [c0]; rfl) (by rw [c1]; rfl) (by rw [c2]; rfl) (by rw [c3]; rfl)
 constructor
 ·rw [set4_size]; exact l
 ·exact d0
 ·exact d1
 ·exact d2
 ·exact d3
 ·rw [qc4]; exact f0
 ·rw [qc4]; exact f1
 ·rw [qc4]; exact f2
 ·rw [qc4]; exact f3
theorem Var4.new (u : World) (Z : Int) : Var4 u.heap.size Z (u.alloc (.cells #[.int .u64 (w0 Z), .int .u64 (w1 Z), .int .u64 (w2 Z), .int .u64 (w3 Z)] 66)) := by
 constructor <;> simp [go_sem]
structure PowI (w : World) (X N : Int) (g : Nat) (k : Nat) (u : World) : Prop where
 B : Box2 w X N u
 G : GCell 5 pp u
 V : Var4 g (X ^ (N.toNat / 2 ^ k) % pp) u
theorem pow_start {X N : Int} (hN : Num N) : X ^ (N.toNat / 2 ^ 256) % pp = 1 := by
 have : N.toNat / 2 ^ 256 = 0 := by
  apply Nat.div_eq_of_lt
  unfold Num at hN
  have h : (2 : Nat) ^ 256 = 115792089237316195423570985008687907853269984665640564039457584007913129639936 := by decide
  rw [h]; omega
 rw [this, Int.pow_zero]; unfold pp; decide
theorem pow_end (X N : Int) : X ^ (N.toNat / 2 ^ 0) % pp = X ^ N.toNat % pp := by rw [Nat.pow_zero, Nat.div_one]
theorem mulmodl (a b : Int) : a % pp * b % pp = a * b % pp := by rw [Int.mul_emod, Int.emod_emod_of_dvd _ (Int.dvd_refl _), ← Int.mul_emod]
theorem mulmod (a b : Int) : a % pp * (b % pp) % pp = a * b % pp := by rw [← Int.mul_emod]
theorem pow_step0 (X N : Int) (j : Nat) : Num (X ^ (N.toNat / 2 ^ (j + 1)) % pp) ∧ (N.toNat / 2 ^ j % 2 = 0 → X ^ (N.toNat / 2 ^ (j + 1)) % pp * (X ^ (N.toNat / 2 ^ (j + 1)) % pp) % pp = X ^ (N.toNat / 2 ^ j) % pp) := by
 refine ⟨qa0 _, fun h => ?_⟩
 have e : N.toNat / 2 ^ (j + 1) = N.toNat / 2 ^ j / 2 := by rw [Nat.pow_succ, Nat.div_div_eq_div_mul]
 rw [e, mulmod, ← Int.pow_add]
 congr 2
 omega
theorem pow_step1 (X N : Int) (j : Nat) : N.toNat / 2 ^ j % 2 = 1 → X ^ (N.toNat / 2 ^ (j + 1)) % pp * (X ^ (N.toNat / 2 ^ (j + 1)) % pp) % pp * X % pp = X ^ (N.toNat / 2 ^ j) % pp := by
 intro h
 have e : N.toNat / 2 ^ (j + 1) = N.toNat / 2 ^ j / 2 := by rw [Nat.pow_succ, Nat.div_div_eq_div_mul]
 rw [e, mulmod, ← Int.pow_add, mulmodl, ← Int.pow_succ]
 congr 2
 omega
theorem bit_of (A r : Nat) (hr : r < 64) : A % 18446744073709551616 / 2 ^ r % 2 = A / 2 ^ r % 2 := by
 have h := Nat.testBit_mod_two_pow A 64 r
 rw [Nat.testBit_eq_decide_div_mod_eq, Nat.testBit_eq_decide_div_mod_eq, decide_eq_true hr, Bool.true_and] at h
 have h' : (A % 2 ^ 64 / 2 ^ r % 2 = 1) ↔ (A / 2 ^ r % 2 = 1) := by simpa using h
 have e : (2 : Nat) ^ 64 = 18446744073709551616 := by decide
 rw [e] at h'
 omega
theorem bit_gen (M q j : Nat) (hq : j / 64 = q) : bits .and .u64 (((M / 2 ^ (64 * q) % 18446744073709551616 : Nat) : Int) / 2 ^ (j % 64)) 1 = ((M / 2 ^ j % 2 : Nat) : Int) := by
 have e1 : ((M / 2 ^ (64 * q) % 18446744073709551616 : Nat) : Int) / 2 ^ (j % 64) = ((M / 2 ^ (64 * q) % 18446744073709551616 / 2 ^ (j % 64) : Nat) : Int) := by
  rw [Int.natCast_ediv, Int.natCast_pow]; rfl
 have hlt : M / 2 ^ (64 * q) % 18446744073709551616 / 2 ^ (j % 64) < 18446744073709551616 := Nat.lt_of_le_of_lt (Nat.div_le_self _ _) (Nat.mod_lt _ (by omega))
 rw [e1, show (1 : Int) = ((1 : Nat) : Int) from rfl, u64_and_nat _ _ hlt (by omega), nat_mask1, bit_of _ _ (Nat.mod_lt _ (by omega)), Nat.div_div_eq_div_mul, ← Nat.pow_add]
 have : 64 * q + j % 64 = j := by omega
 rw [this]
theorem bit0_of {N : Int} (hN : Num N) {j : Nat} (hq : (j : Int) / 64 = 0) : bits .and .u64 (w0 N / 2 ^ (j % 64)) 1 = ((N.toNat / 2 ^ j % 2 : Nat) : Int) := by
 rw [← bit_gen N.toNat 0 j (by omega)]
 congr 2
 unfold w0 Num at *; rw [Nat.mul_zero, Nat.pow_zero, Nat.div_one]; omega
theorem bit1_of {N : Int} (hN : Num N) {j : Nat} (hq : (j : Int) / 64 = 1) : bits .and .u64 (w1 N / 2 ^ (j % 64)) 1 = ((N.toNat / 2 ^ j % 2 : Nat) : Int) := by
 rw [← bit_gen N.toNat 1 j (by omega)]
 congr 2
 have e : (2 : Nat) ^ (64 * 1) = 18446744073709551616 := by decide
 unfold w1 Num at *; rw [e]; omega
theorem bit2_of {N : Int} (hN : Num N) {j : Nat} (hq : (j : Int) / 64 = 2) : bits .and .u64 (w2 N / 2 ^ (j % 64)) 1 = ((N.toNat / 2 ^ j % 2 : Nat) : Int) := by
 rw [← bit_gen N.toNat 2 j (by omega)]
 congr 2
 have e : (2 : Nat) ^ (64 * 2) = 340282366920938463463374607431768211456 := by decide
 unfold w2 Num at *; rw [e]; omega
theorem bit3_of {N : Int} (hN : Num N) {j : Nat} (hq : (j : Int) / 64 = 3) : bits .and .u64 (w3 N / 2 ^ (j % 64)) 1 = ((N.toNat / 2 ^ j % 2 : Nat) : Int) := by
 rw [← bit_gen N.toNat 3 j (by omega)]
 congr 2
 have e : (2 : Nat) ^ (64 * 3) = 6277101735386680763835789423207666416102355444464034512896 := by decide
 unfold w3 Num at *; rw [e]; omega
theorem bit_true {b : Int} {M j : Nat} (h : b = ((M / 2 ^ j % 2 : Nat) : Int)) (h1 : M / 2 ^ j % 2 = 1) : (b == 1) = true := by rw [h, h1]; rfl
theorem bit_false {b : Int} {M j : Nat} (h : b = ((M / 2 ^ j % 2 : Nat) : Int)) (h1 : M / 2 ^ j % 2 = 0) : (b == 1) = false := by rw [h, h1]; rfl
set_option maxHeartbeats 2000000 in
theorem pow_any (X N : Int) (w : World) (hX : Num X) (hN : Num N) (hG : GCell 5 pp w) :
  Calls Tryd.prog 91 #[feV X, feV N] w fun e w' => e = .returned (feV (X ^ N.toNat % pp)) ∧ Below w.heap.size w w' := by
 have B := Lib.hid (Box2.start w X N)
 have HGL := Lib.hid hG.lt
 replace hG := hG.below B.out.bl
 go_enter Tryd.func91, Tryd.ntmps91
 go_wp2_with fail
 refine (small_any 1 _ (by omega) (by omega)).mono ?_
 rintro e u ⟨rfl, hb⟩
 replace hG := hG.below hb
 replace B := Lib.hid (B.out.next hb); obtain ⟨bl, l0, l1, l2, x0, x1, x2, x3, y0, y1, y2, y3, r0, r1, r2, r3, f0, f1, f2, f3⟩ := B.out; clear hb
 go_wp2_with fail
 have hV := Var4.new u 1
 have hb1 : Below u.heap.size u (u.alloc (.cells #[.int .u64 (w0 1), .int .u64 (w1 1), .int .u64 (w2 1), .int .u64 (w3 1)] 66)) := (Below.refl _ _).alloc (Nat.le_refl _) _
 replace B := Lib.hid (B.out.next hb1)
 replace hG := hG.below hb1
 have hg : w.heap.size + 1 + 1 < u.heap.size := l2
 clear bl l0 l1 l2 x0 x1 x2 x3 y0 y1 y2 y3 r0 r1 r2 r3 f0 f1 f2 f3
 clear hb1
 generalize u.alloc (.cells #[.int .u64 (w0 1), .int .u64 (w1 1), .int .u64 (w2 1), .int .u64 (w3 1)] 66) = u0 at *
 generalize u.heap.size = g at *
 have n0 : ¬ g = w.heap.size := by omega
 have n1 : ¬ g = w.heap.size + 1 := by omega
 have n2 : ¬ g = w.heap.size + 1 + 1 := by omega
 go_loopw [6] (fun s u' => ∃ k : Nat, k ≤ 256 ∧ s = .int .i64 ((k : Int) - 1) ∧ PowI w X N g k u') (fun s _ => (intOf s + 1).toNat)
 case atStart => exact ⟨256, by omega, rfl, B.out, hG, by rw [pow_start hN]; exact hV⟩
 case round =>
  obtain ⟨k, hk, rfl, hI⟩ := hrel
  clear B hG hV
  obtain ⟨B, hG, hV⟩ := hI
  replace B := Lib.hid B
  obtain ⟨bl, l0, l1, l2, x0, x1, x2, x3, y0, y1, y2, y3, r0, r1, r2, r3, f0, f1, f2, f3⟩ := B.out
  obtain ⟨vl, v0, v1, v2, v3, vf0, vf1, vf2, vf3⟩ := id hV
  by_cases hlt : k = 0
  ·subst hlt
   have E := Lib.hid (pow_end X N)
   have hd : decide ((0 : Int) ≤ ((0 : Nat) : Int) - 1) = false := by decide
   go_wp2_with fail
   refine bodyPost_ret (v := feV (X ^ N.toNat % pp)) (by simp [results, Tryd.results91, go_sem, r0, r1, r2, r3]) rfl ⟨rfl, ?_⟩
   repeat' (first | exact Below.refl _ _ | assumption | refine Below.setCell ?_ ?_ _ | refine Below.alloc ?_ ?_ _ | refine Below.drew ?_ | refine Below.trans ?_ (Below.mono (by assumption) ?_) | (simp; done) | (simp; omega))
  ·obtain ⟨j, rfl⟩ : ∃ j, k = j + 1 := ⟨k - 1, by omega⟩
   rw [show (((j + 1 : Nat) : Int) - 1) = (j : Int) from by omega]
   have hj : (j : Int) ≤ 255 := by omega
   have hj0 : (0 : Int) ≤ (j : Int) := by omega
   have E0 := Lib.hid (pow_step0 X N j)
   have E1 := Lib.hid (pow_step1 X N j)
   generalize X ^ (N.toNat / 2 ^ (j + 1)) % pp = Z at *
   go_upto_region 6 with (go_at_call 82; refine (qby _ _ _ (E0.out.1) (E0.out.1) hG).mono ?_; rintro e u1 ⟨rfl, hb⟩; clear bl l0 l1 l2 x0 x1 x2 x3 y0 y1 y2 y3 r0 r1 r2 r3 f0 f1 f2 f3; clear vl v0 v1 v2 v3 vf0 vf1 vf2 vf3; replace hG := hG.below hb; replace hV := hV.below hb; replace B := Lib.hid (B.out.next hb); obtain ⟨bl, l0, l1, l2, x0, x1, x2, x3, y0, y1, y2, y3, r0, r1, r2, r3, f0, f1, f2, f3⟩ := B.out; clear hb; obtain ⟨vl, v0, v1, v2, v3, vf0, vf1, vf2, vf3⟩ := id hV)
   have hZ2 : Num (Z * Z % pp) := qa0 _
   replace B : Hid (Box2 w X N ((((u1.setCell ⟨g, 0, none⟩ (.int .u64 (w0 (Z * Z % pp)))).setCell ⟨g, 1, none⟩ (.int .u64 (w1 (Z * Z % pp)))).setCell ⟨g, 2, none⟩ (.int .u64 (w2 (Z * Z % pp)))).setCell ⟨g, 3, none⟩ (.int .u64 (w3 (Z * Z % pp))))) := Lib.hid (B.out.set4 hg _)
   replace hG : GCell 5 pp ((((u1.setCell ⟨g, 0, none⟩ (.int .u64 (w0 (Z * Z % pp)))).setCell ⟨g, 1, none⟩ (.int .u64 (w1 (Z * Z % pp)))).setCell ⟨g, 2, none⟩ (.int .u64 (w2 (Z * Z % pp)))).setCell ⟨g, 3, none⟩ (.int .u64 (w3 (Z * Z % pp)))) := hG.set4 (by have := HGL.out; omega) _
   replace hV : Var4 g (Z * Z % pp) ((((u1.setCell ⟨g, 0, none⟩ (.int .u64 (w0 (Z * Z % pp)))).setCell ⟨g, 1, none⟩ (.int .u64 (w1 (Z * Z % pp)))).setCell ⟨g, 2, none⟩ (.int .u64 (w2 (Z * Z % pp)))).setCell ⟨g, 3, none⟩ (.int .u64 (w3 (Z * Z % pp)))) := hV.set4 _
   clear bl l0 l1 l2 x0 x1 x2 x3 y0 y1 y2 y3 r0 r1 r2 r3 f0 f1 f2 f3
   clear vl v0 v1 v2 v3 vf0 vf1 vf2 vf3
   generalize ((((u1.setCell ⟨g, 0, none⟩ (.int .u64 (w0 (Z * Z % pp)))).setCell ⟨g, 1, none⟩ (.int .u64 (w1 (Z * Z % pp)))).setCell ⟨g, 2, none⟩ (.int .u64 (w2 (Z * Z % pp)))).setCell ⟨g, 3, none⟩ (.int .u64 (w3 (Z * Z % pp)))) = u2 at *
   generalize Z * Z % pp = Z2 at *
   obtain ⟨bl, l0, l1, l2, x0, x1, x2, x3, y0, y1, y2, y3, r0, r1, r2, r3, f0, f1, f2, f3⟩ := B.out
   obtain ⟨vl, v0, v1, v2, v3, vf0, vf1, vf2, vf3⟩ := id hV
   rcases (show (j : Int) / 64 = 0 ∨ (j : Int) / 64 = 1 ∨ (j : Int) / 64 = 2 ∨ (j : Int) / 64 = 3 by omega) with hq | hq | hq | hq
   ·rcases (show N.toNat / 2 ^ j % 2 = 0 ∨ N.toNat / 2 ^ j % 2 = 1 by omega) with hbit | hbit
    ·have hbb := bit_false (bit0_of hN hq) hbit
     have HB := Lib.hid hbit; clear hbit
     go_wp2_with fail
     exact ⟨⟨j, by omega, rfl, B.out, hG, by rw [← E0.out.2 HB.out]; exact hV⟩, by simp [intOf]⟩
    ·have hbb := bit_true (bit0_of hN hq) hbit
     have HB := Lib.hid hbit; clear hbit
     go_wp2_with (go_at_call 82; refine (qby _ _ _ hZ2 hX hG).mono ?_; rintro e u3 ⟨rfl, hb⟩; clear bl l0 l1 l2 x0 x1 x2 x3 y0 y1 y2 y3 r0 r1 r2 r3 f0 f1 f2 f3; clear vl v0 v1 v2 v3 vf0 vf1 vf2 vf3; replace hG := hG.below hb; replace hV := hV.below hb; replace B := Lib.hid (B.out.next hb); obtain ⟨bl, l0, l1, l2, x0, x1, x2, x3, y0, y1, y2, y3, r0, r1, r2, r3, f0, f1, f2, f3⟩ := B.out; clear hb; obtain ⟨vl, v0, v1, v2, v3, vf0, vf1, vf2, vf3⟩ := id hV)
     exact ⟨⟨j, by omega, rfl, B.out.set4 hg _, hG.set4 (by have := HGL.out; omega) _, by rw [← E1.out HB.out]; exact hV.set4 _⟩, by simp [intOf]⟩
   ·rcases (show N.toNat / 2 ^ j % 2 = 0 ∨ N.toNat / 2 ^ j % 2 = 1 by omega) with hbit | hbit
    ·have hbb := bit_false (bit1_of hN hq) hbit
     have HB := Lib.hid hbit; clear hbit
     go_wp2_with fail
     exact ⟨⟨j, by omega, rfl, B.out, hG, by rw [← E0.out.2 HB.out]; exact hV⟩, by simp [intOf]⟩
    ·have hbb := bit_true (bit1_of hN hq) hbit
     have HB := Lib.hid hbit; clear hbit
     go_wp2_with (go_at_call 82; refine (qby _ _ _ hZ2 hX hG).mono ?_; rintro e u3 ⟨rfl, hb⟩; clear bl l0 l1 l2 x0 x1 x2 x3 y0 y1 y2 y3 r0 r1 r2 r3 f0 f1 f2 f3; clear vl v0 v1 v2 v3 vf0 vf1 vf2 vf3; replace hG := hG.below hb; replace hV := hV.below hb; replace B := Lib.hid (B.out.next hb); obtain ⟨bl, l0, l1, l2, x0, x1, x2, x3, y0, y1, y2, y3, r0, r1, r2, r3, f0, f1, f2, f3⟩ := B.out; clear hb; obtain ⟨vl, v0, v1, v2, v3, vf0, vf1, vf2, vf3⟩ := id hV)
     exact ⟨⟨j, by omega, rfl, B.out.set4 hg _, hG.set4 (by have := HGL.out; omega) _, by rw [← E1.out HB.out]; exact hV.set4 _⟩, by simp [intOf]⟩
   ·rcases (show N.toNat / 2 ^ j % 2 = 0 ∨ N.toNat / 2 ^ j % 2 = 1 by omega) with hbit | hbit
    ·have hbb := bit_false (bit2_of hN hq) hbit
     have HB := Lib.hid hbit; clear hbit
     go_wp2_with fail
     exact ⟨⟨j, by omega, rfl, B.out, hG, by rw [← E0.out.2 HB.out]; exact hV⟩, by simp [intOf]⟩
    ·have hbb := bit_true (bit2_of hN hq) hbit
     have HB := Lib.hid hbit; clear hbit
     go_wp2_with (go_at_call 82; refine (qby _ _ _ hZ2 hX hG).mono ?_; rintro e u3 ⟨rfl, hb⟩; clear bl l0 l1 l2 x0 x1 x2 x3 y0 y1 y2 y3 r0 r1 r2 r3 f0 f1 f2 f3; clear vl v0 v1 v2 v3 vf0 vf1 vf2 vf3; replace hG := hG.below hb; replace hV := hV.below hb; replace B := Lib.hid (B.out.next hb); obtain ⟨bl, l0, l1, l2, x0, x1, x2, x3, y0, y1, y2, y3, r0, r1, r2, r3, f0, f1, f2, f3⟩ := B.out; clear hb; obtain ⟨vl, v0, v1, v2, v3, vf0, vf1, vf2, vf3⟩ := id hV)
     exact ⟨⟨j, by omega, rfl, B.out.set4 hg _, hG.set4 (by have := HGL.out; omega) _, by rw [← E1.out HB.out]; exact hV.set4 _⟩, by simp [intOf]⟩
   ·rcases (show N.toNat / 2 ^ j % 2 = 0 ∨ N.toNat / 2 ^ j % 2 = 1 by omega) with hbit | hbit
    ·have hbb := bit_false (bit3_of hN hq) hbit
     have HB := Lib.hid hbit; clear hbit
     go_wp2_with fail
     exact ⟨⟨j, by omega, rfl, B.out, hG, by rw [← E0.out.2 HB.out]; exact hV⟩, by simp [intOf]⟩
    ·have hbb := bit_true (bit3_of hN hq) hbit
     have HB := Lib.hid hbit; clear hbit
     go_wp2_with (go_at_call 82; refine (qby _ _ _ hZ2 hX hG).mono ?_; rintro e u3 ⟨rfl, hb⟩; clear bl l0 l1 l2 x0 x1 x2 x3 y0 y1 y2 y3 r0 r1 r2 r3 f0 f1 f2 f3; clear vl v0 v1 v2 v3 vf0 vf1 vf2 vf3; replace hG := hG.below hb; replace hV := hV.below hb; replace B := Lib.hid (B.out.next hb); obtain ⟨bl, l0, l1, l2, x0, x1, x2, x3, y0, y1, y2, y3, r0, r1, r2, r3, f0, f1, f2, f3⟩ := B.out; clear hb; obtain ⟨vl, v0, v1, v2, v3, vf0, vf1, vf2, vf3⟩ := id hV)
     exact ⟨⟨j, by omega, rfl, B.out.set4 hg _, hG.set4 (by have := HGL.out; omega) _, by rw [← E1.out HB.out]; exact hV.set4 _⟩, by simp [intOf]⟩
end Go.Proofs.YtcgbgmbnagmohaaDoor
