/- What field.settle does. -/
import Derived.Test.YtefaihdhnnldmaaDoorMinus
namespace Go.Proofs.YtefaihdhnnldmaaDoor
open Go.RowKit
set_option maxRecDepth 20000

def tp (o d : Int) : Int := 2 * o + d / 9223372036854775808
def lo63 (d : Int) : Int := d % 9223372036854775808
def t19 (o d : Int) : Int := 19 * tp o d

theorem tp_eq {o d : Int} (hd : Word d) (h0 : 0 ≤ o) (h1 : o ≤ 38) : bits .or .u64 (o * 2) (d / 9223372036854775808) = tp o d := by
  unfold Word at hd
  rw [u64_or _ _ (by omega) (by omega) (by omega) (by omega), nat_join 1 _ _ (by omega) (by omega)]
  unfold tp; omega
theorem lo63_eq {d : Int} (hd : Word d) : bits .and .u64 d 9223372036854775807 = lo63 d := by
  unfold Word at hd
  rw [u64_and _ _ (by omega) (by omega) (by omega) (by omega)]
  have e : d.toNat &&& (9223372036854775807 : Int).toNat = d.toNat % 9223372036854775808 := Nat.and_two_pow_sub_one_eq_mod d.toNat 63
  rw [e]; unfold lo63; omega
theorem t19_eq {o d : Int} (hd : Word d) (h0 : 0 ≤ o) (h1 : o ≤ 38) : IntKind.u64.wrap (tp o d * 19) = t19 o d := by
  unfold Word at hd
  rw [IntKind.wrap_u64]; unfold t19 tp; omega
theorem t19_word {o d : Int} (hd : Word d) (h0 : 0 ≤ o) (h1 : o ≤ 38) : Word (t19 o d) := by
  unfold Word t19 tp at *; omega
theorem top_eq {c d : Int} (hc : Bit c) : IntKind.u64.wrap (lo63 d + c) = lo63 d + c := by
  rw [IntKind.wrap_u64]; unfold Bit lo63 at *; omega
theorem top_word {c d : Int} (hc : Bit c) : Word (lo63 d + c) := by
  unfold Word Bit lo63 at *; omega

/-- The number whose rest is told: below twice the prime. -/
def sumS (a b c d o : Int) : Int := val a b c (lo63 d) + t19 o d
theorem settle_math (a b c d o : Int) :
    val (adW a (t19 o d) 0) (adW b 0 (adC a (t19 o d) 0)) (adW c 0 (adC b 0 (adC a (t19 o d) 0))) (lo63 d + adC c 0 (adC b 0 (adC a (t19 o d) 0))) = sumS a b c d o := by
  have e0 := ad_eq a (t19 o d) 0
  have e1 := ad_eq b 0 (adC a (t19 o d) 0)
  have e2 := ad_eq c 0 (adC b 0 (adC a (t19 o d) 0))
  generalize adC c 0 (adC b 0 (adC a (t19 o d) 0)) = c3 at *
  generalize adW c 0 (adC b 0 (adC a (t19 o d) 0)) = s2 at *
  generalize adC b 0 (adC a (t19 o d) 0) = c2 at *
  generalize adW b 0 (adC a (t19 o d) 0) = s1 at *
  generalize adC a (t19 o d) 0 = c1 at *
  generalize adW a (t19 o d) 0 = s0 at *
  unfold sumS val
  omega
theorem sumS_rest {a b c d o : Int} (ha : Word a) (hb : Word b) (hc : Word c) (hd : Word d) (h0 : 0 ≤ o) (h1 : o ≤ 38) :
    0 ≤ sumS a b c d o ∧ sumS a b c d o < 2 * pp ∧ (val a b c d + 115792089237316195423570985008687907853269984665640564039457584007913129639936 * o) % pp = sumS a b c d o % pp := by
  refine ⟨by unfold Word at *; unfold sumS val t19 tp lo63; omega, by unfold Word at *; unfold sumS val t19 tp lo63 pp; omega, ?_⟩
  have e : val a b c d + 115792089237316195423570985008687907853269984665640564039457584007913129639936 * o = sumS a b c d o + pp * tp o d := by
    unfold sumS val t19 tp lo63 pp; omega
  rw [e, Int.add_mul_emod_self_left]

set_option maxHeartbeats 400000 in
theorem settle_any (a b c d o : Int) (w : World) (ha : Word a) (hb : Word b) (hc : Word c) (hd : Word d) (ho0 : 0 ≤ o) (ho : o ≤ 38) (hz : 3 < w.heap.size)
    (g0 : w.cell? ⟨3, 0, none⟩ = some (.int .u64 (w0 pp))) (g1 : w.cell? ⟨3, 1, none⟩ = some (.int .u64 (w1 pp))) (g2 : w.cell? ⟨3, 2, none⟩ = some (.int .u64 (w2 pp))) (g3 : w.cell? ⟨3, 3, none⟩ = some (.int .u64 (w3 pp))) :
    Calls Tryd.prog 68 #[.int .u64 a, .int .u64 b, .int .u64 c, .int .u64 d, .int .u64 o] w fun e w' => 
      e = .returned (feV ((val a b c d + 115792089237316195423570985008687907853269984665640564039457584007913129639936 * o) % pp)) ∧ Below w.heap.size w w' := by
  have h1 := tp_eq hd ho0 ho
  have h2 := lo63_eq hd
  have h3 := t19_eq hd ho0 ho
  have k0 := t19_word hd ho0 ho
  have k1 := adC_bit ha k0 bit0
  have k2 := adC_bit hb word0 k1
  have k3 := adC_bit hc word0 k2
  have h4 := top_eq (d := d) k3
  have k4 := top_word (d := d) k3
  obtain ⟨m0, m1, m2⟩ := sumS_rest ha hb hc hd ho0 ho
  have M := Lib.hid m2; clear m2
  have M' := Lib.hid (settle_math a b c d o)
  have z0 : 0 < w.heap.size := by omega
  by_cases hlt : sumS a b c d o < pp
  · have hdec : decide (val (adW a (t19 o d) 0) (adW b 0 (adC a (t19 o d) 0)) (adW c 0 (adC b 0 (adC a (t19 o d) 0))) (lo63 d + adC c 0 (adC b 0 (adC a (t19 o d) 0))) < pp) = true := by rw [M'.out]; simpa using hlt
    go_enter Tryd.func68, Tryd.ntmps68
    go_wp2_with (first | simp only [run_add64_at ha k0 bit0, run_add64_at hb word0 k1, run_add64_at hc word0 k2] | (go_at_call 66; refine (minus_at _ _ _ _ pp _ (adW_word _ _ _) (adW_word _ _ _) (adW_word _ _ _) k4 num_pp).mono ?_; rintro e w' ⟨rfl, hbl⟩; obtain ⟨hcc, hff⟩ := bcell hbl; have hz1 : w.heap.size + 1 < w'.heap.size := (by have := hbl.size; simp at this; omega); have hz2 : w.heap.size < w'.heap.size := (by omega); have q0 : (w'.cell? ⟨w.heap.size, 0, none⟩).isSome = true := (by rw [hcc _ _ (by simp <;> omega)]; simp [go_sem]); have q1 : (w'.cell? ⟨w.heap.size, 1, none⟩).isSome = true := (by rw [hcc _ _ (by simp <;> omega)]; simp [go_sem]); have q2 : (w'.cell? ⟨w.heap.size, 2, none⟩).isSome = true := (by rw [hcc _ _ (by simp <;> omega)]; simp [go_sem]); have q3 : (w'.cell? ⟨w.heap.size, 3, none⟩).isSome = true := (by rw [hcc _ _ (by simp <;> omega)]; simp [go_sem])))
    refine bodyPost_ret (v := .agg #[.int .u64 (adW a (t19 o d) 0), .int .u64 (adW b 0 (adC a (t19 o d) 0)), .int .u64 (adW c 0 (adC b 0 (adC a (t19 o d) 0))), .int .u64 (lo63 d + adC c 0 (adC b 0 (adC a (t19 o d) 0)))]) (by simp [results, Tryd.results68, go_sem, hz2, q0, q1, q2, q3]) rfl ⟨?_, ?_⟩
    · rw [M.out, Int.emod_eq_of_lt m0 hlt, ← M'.out, feV_val (adW_word _ _ _) (adW_word _ _ _) (adW_word _ _ _) k4]
    repeat' (first | exact Below.refl _ _ | refine Below.setCell ?_ ?_ _ | refine Below.alloc ?_ ?_ _ | refine Below.drew ?_ | refine Below.trans ?_ (Below.mono hbl ?_))
    all_goals (simp <;> omega)
  · have hdec : decide (val (adW a (t19 o d) 0) (adW b 0 (adC a (t19 o d) 0)) (adW c 0 (adC b 0 (adC a (t19 o d) 0))) (lo63 d + adC c 0 (adC b 0 (adC a (t19 o d) 0))) < pp) = false := by rw [M'.out]; simpa using hlt
    go_enter Tryd.func68, Tryd.ntmps68
    go_wp2_with (first | simp only [run_add64_at ha k0 bit0, run_add64_at hb word0 k1, run_add64_at hc word0 k2] | (go_at_call 66; refine (minus_at _ _ _ _ pp _ (adW_word _ _ _) (adW_word _ _ _) (adW_word _ _ _) k4 num_pp).mono ?_; rintro e w' ⟨rfl, hbl⟩; obtain ⟨hcc, hff⟩ := bcell hbl; have hz1 : w.heap.size + 1 < w'.heap.size := (by have := hbl.size; simp at this; omega); have hz2 : w.heap.size < w'.heap.size := (by omega); have q0 : (w'.cell? ⟨w.heap.size, 0, none⟩).isSome = true := (by rw [hcc _ _ (by simp <;> omega)]; simp [go_sem]); have q1 : (w'.cell? ⟨w.heap.size, 1, none⟩).isSome = true := (by rw [hcc _ _ (by simp <;> omega)]; simp [go_sem]); have q2 : (w'.cell? ⟨w.heap.size, 2, none⟩).isSome = true := (by rw [hcc _ _ (by simp <;> omega)]; simp [go_sem]); have q3 : (w'.cell? ⟨w.heap.size, 3, none⟩).isSome = true := (by rw [hcc _ _ (by simp <;> omega)]; simp [go_sem])))
    refine bodyPost_ret (v := feV ((val (adW a (t19 o d) 0) (adW b 0 (adC a (t19 o d) 0)) (adW c 0 (adC b 0 (adC a (t19 o d) 0))) (lo63 d + adC c 0 (adC b 0 (adC a (t19 o d) 0))) - pp) % 115792089237316195423570985008687907853269984665640564039457584007913129639936)) (by simp [results, Tryd.results68, go_sem, hz2, q0, q1, q2, q3]) rfl ⟨?_, ?_⟩
    · have e : sumS a b c d o % pp = (val (adW a (t19 o d) 0) (adW b 0 (adC a (t19 o d) 0)) (adW c 0 (adC b 0 (adC a (t19 o d) 0))) (lo63 d + adC c 0 (adC b 0 (adC a (t19 o d) 0))) - pp) % 115792089237316195423570985008687907853269984665640564039457584007913129639936 := by
        rw [M'.out]; generalize sumS a b c d o = s at *; unfold pp at *; omega
      rw [M.out, e]
    repeat' (first | exact Below.refl _ _ | refine Below.setCell ?_ ?_ _ | refine Below.alloc ?_ ?_ _ | refine Below.drew ?_ | refine Below.trans ?_ (Below.mono hbl ?_))
    all_goals (simp <;> omega)
end Go.Proofs.YtefaihdhnnldmaaDoor
