/- What keywardlaw01.Fe and keywardlaw01.below do. -/
import Derived.Test.YtabfjdljeebjbaaDoorKnown
namespace Go.Proofs.YtabfjdljeebjbaaDoor
open Go.RowKit

/-- Some number of four words is told. -/
def SomeFe (w : World) (e : Ending) (w' : World) : Prop := ∃ U : Int, Num U ∧ e = .returned (feV U) ∧ Below w.heap.size w w'
theorem SomeFe.mk {w w' : World} {a b c d : Int} (ha : Word a) (hb : Word b) (hc : Word c) (hd : Word d) (hw : Below w.heap.size w w') : SomeFe w (.returned (.agg #[.int .u64 a, .int .u64 b, .int .u64 c, .int .u64 d])) w' :=
  ⟨val a b c d, val_num ha hb hc hd, by rw [feV_val ha hb hc hd], hw⟩
theorem wrap_word (n : Int) : Word (IntKind.u64.wrap n) := by rw [IntKind.wrap_u64]; unfold Word; omega
theorem xor_word {a b : Int} (ha : Word a) (hb : Word b) : Word (bits .xor .u64 a b) := by
  unfold Word at *
  rw [u64_xor _ _ ha.1 ha.2 hb.1 hb.2]
  have h : a.toNat ^^^ b.toNat < 2 ^ 64 := Nat.xor_lt_two_pow (by omega) (by omega)
  omega

set_option maxHeartbeats 400000 in
theorem fe_any (a b k : Int) (w : World) (ha : Word a) (hb : Word b) (k0 : 0 ≤ k) (k1 : k ≤ 255) :
    Calls Tryd.prog 17 #[.int .u64 a, .int .u64 b, .int .u8 k] w (SomeFe w) := by
  have a0 := ha.1
  have b0 := hb.1
  rcases (show k % 6 = 0 ∨ k % 6 = 1 ∨ k % 6 = 2 ∨ k % 6 = 3 ∨ k % 6 = 4 ∨ k % 6 = 5 by omega) with hq | hq | hq | hq | hq | hq
  · go_enter Tryd.func17, Tryd.ntmps17
    go_wp2_with fail
    refine bodyPost_ret (v := .agg #[.int .u64 (a % 50), .int .u64 (0), .int .u64 (0), .int .u64 (0)]) (by simp [results, Tryd.results17, go_sem]) rfl (SomeFe.mk ⟨by omega, by omega⟩ word0 word0 word0 ?_)
    repeat' (first | exact Below.refl _ _ | assumption | refine Below.setCell ?_ ?_ _ | refine Below.alloc ?_ ?_ _ | refine Below.drew ?_ | refine Below.trans ?_ (Below.mono (by assumption) ?_) | (simp; done) | (simp; omega))
  · go_enter Tryd.func17, Tryd.ntmps17
    go_wp2_with fail
    refine bodyPost_ret (v := .agg #[.int .u64 (18446744073709551615 - a % 50), .int .u64 (18446744073709551615), .int .u64 (18446744073709551615), .int .u64 (9223372036854775807)]) (by simp [results, Tryd.results17, go_sem]) rfl (SomeFe.mk ⟨by omega, by omega⟩ ⟨by omega, by omega⟩ ⟨by omega, by omega⟩ ⟨by omega, by omega⟩ ?_)
    repeat' (first | exact Below.refl _ _ | assumption | refine Below.setCell ?_ ?_ _ | refine Below.alloc ?_ ?_ _ | refine Below.drew ?_ | refine Below.trans ?_ (Below.mono (by assumption) ?_) | (simp; done) | (simp; omega))
  · go_enter Tryd.func17, Tryd.ntmps17
    go_wp2_with fail
    refine bodyPost_ret (v := .agg #[.int .u64 (18446744073709551615 - a % 60), .int .u64 (18446744073709551615), .int .u64 (18446744073709551615), .int .u64 (18446744073709551615)]) (by simp [results, Tryd.results17, go_sem]) rfl (SomeFe.mk ⟨by omega, by omega⟩ ⟨by omega, by omega⟩ ⟨by omega, by omega⟩ ⟨by omega, by omega⟩ ?_)
    repeat' (first | exact Below.refl _ _ | assumption | refine Below.setCell ?_ ?_ _ | refine Below.alloc ?_ ?_ _ | refine Below.drew ?_ | refine Below.trans ?_ (Below.mono (by assumption) ?_) | (simp; done) | (simp; omega))
  · go_enter Tryd.func17, Tryd.ntmps17
    go_wp2_with fail
    refine bodyPost_ret (v := .agg #[.int .u64 (a % 50), .int .u64 (0), .int .u64 (0), .int .u64 (9223372036854775808)]) (by simp [results, Tryd.results17, go_sem]) rfl (SomeFe.mk ⟨by omega, by omega⟩ word0 word0 ⟨by omega, by omega⟩ ?_)
    repeat' (first | exact Below.refl _ _ | assumption | refine Below.setCell ?_ ?_ _ | refine Below.alloc ?_ ?_ _ | refine Below.drew ?_ | refine Below.trans ?_ (Below.mono (by assumption) ?_) | (simp; done) | (simp; omega))
  · go_enter Tryd.func17, Tryd.ntmps17
    go_wp2_with fail
    refine bodyPost_ret (v := .agg #[.int .u64 (a), .int .u64 (b), .int .u64 (IntKind.u64.wrap (IntKind.u64.wrap (a * b) + 1)), .int .u64 (bits .xor .u64 b (IntKind.u64.wrap (a * 128)))]) (by simp [results, Tryd.results17, go_sem]) rfl (SomeFe.mk ha hb (wrap_word _) (xor_word hb (wrap_word _)) ?_)
    repeat' (first | exact Below.refl _ _ | assumption | refine Below.setCell ?_ ?_ _ | refine Below.alloc ?_ ?_ _ | refine Below.drew ?_ | refine Below.trans ?_ (Below.mono (by assumption) ?_) | (simp; done) | (simp; omega))
  · go_enter Tryd.func17, Tryd.ntmps17
    go_wp2_with fail
    refine bodyPost_ret (v := .agg #[.int .u64 (a), .int .u64 (b), .int .u64 (IntKind.u64.wrap (IntKind.u64.wrap (a * b) + 1)), .int .u64 (bits .xor .u64 b (IntKind.u64.wrap (a * 128)))]) (by simp [results, Tryd.results17, go_sem]) rfl (SomeFe.mk ha hb (wrap_word _) (xor_word hb (wrap_word _)) ?_)
    repeat' (first | exact Below.refl _ _ | assumption | refine Below.setCell ?_ ?_ _ | refine Below.alloc ?_ ?_ _ | refine Below.drew ?_ | refine Below.trans ?_ (Below.mono (by assumption) ?_) | (simp; done) | (simp; omega))

set_option maxHeartbeats 400000 in
theorem below_any (X : Int) (w : World) (hX : 0 ≤ X) (hp : X < pp) :
    Calls Tryd.prog 18 #[feV X] w fun e w' => e = .returned (.bool true) ∧ Below w.heap.size w w' := by
  have h3 : w3 X ≤ 9223372036854775807 := by unfold w3 pp at *; omega
  have hb : Below w.heap.size w (w.alloc (.cells #[.int .u64 (w0 X), .int .u64 (w1 X), .int .u64 (w2 X), .int .u64 (w3 X)] 26)) := (Below.refl _ _).alloc (Nat.le_refl _) _
  by_cases c3 : w3 X < 9223372036854775807
  · have d3 : decide (w3 X < 9223372036854775807) = true := by simpa using c3
    clear h3
    go_enter Tryd.func18, Tryd.ntmps18
    go_wp2_with fail
    go_ret
    exact ⟨rfl, hb⟩
  · have d3 : decide (w3 X < 9223372036854775807) = false := by simpa using c3
    have e3 : (w3 X == 9223372036854775807) = true := beq_iff_eq.2 (by omega)
    by_cases c2 : w2 X = 18446744073709551615
    · have e2 : (w2 X != 18446744073709551615) = false := by rw [c2]; rfl
      by_cases c1 : w1 X = 18446744073709551615
      · have e1 : (w1 X != 18446744073709551615) = false := by rw [c1]; rfl
        have d0 : decide (w0 X < 18446744073709551597) = true := by
          have : w0 X < 18446744073709551597 := by
            have hv : w3 X = 9223372036854775807 := by omega
            unfold w0 w1 w2 w3 pp at *; omega
          simpa using this
        clear c1 c2 c3 h3
        go_enter Tryd.func18, Tryd.ntmps18
        go_wp2_with fail
        go_ret
        exact ⟨rfl, hb⟩
      · have e1 : (w1 X != 18446744073709551615) = true := by rw [bne_iff_ne]; exact c1
        clear c1 c2 c3 h3
        go_enter Tryd.func18, Tryd.ntmps18
        go_wp2_with fail
        go_ret
        exact ⟨rfl, hb⟩
    · have e2 : (w2 X != 18446744073709551615) = true := by rw [bne_iff_ne]; exact c2
      clear c2 c3 h3
      go_enter Tryd.func18, Tryd.ntmps18
      go_wp2_with fail
      go_ret
      exact ⟨rfl, hb⟩
end Go.Proofs.YtabfjdljeebjbaaDoor
