/- FieldSmalls: its walk. -/
import Derived.Test.YtabfjdljeebjbaaDoorKnown
namespace Go.Proofs.YtabfjdljeebjbaaDoor
open Go.RowKit

theorem small_mul {a b : Int} (a0 : 0 ≤ a) (a1 : a < 4294967296) (b0 : 0 ≤ b) (b1 : b < 4294967296) : 0 ≤ a * b ∧ a * b < 18446744073709551616 := by
  refine ⟨Int.mul_nonneg a0 b0, ?_⟩
  have h := Int.mul_le_mul (a := a) (b := b) (c := 4294967295) (d := 4294967295) (by omega) (by omega) b0 (by omega)
  omega

set_option maxHeartbeats 2000000 in
theorem smalls_lt (a b : Int) (w : World) (a0 : 0 ≤ a) (a1 : a < 4294967296) (b0 : 0 ≤ b) (b1 : b < 4294967296) (hab : a < b) (hG : Globs w) :
    Calls Tryd.prog 3 #[.int .u32 a, .int .u32 b] w fun e w' => e = .returned (.bool true) ∧ Below w.heap.size w w' := by
  obtain ⟨m0, m1⟩ := small_mul a0 a1 b0 b1
  have hw : IntKind.u64.wrap (a * b) = a * b := by rw [IntKind.wrap_u64]; omega
  have hE1 := eq_word (M := (a + b) % pp) (n := a + b) (num_emod_pp _) ⟨by omega, by omega⟩ (by unfold pp; omega)
  have hE2 := eq_word (M := a * b % pp) (n := a * b) (num_emod_pp _) ⟨m0, m1⟩ (by generalize a * b = m at *; unfold pp; omega)
  have hN := Lib.hid m1; clear m1 m0
  have hE3 := eqFe_true (M := (b - a) % pp) (Z := b - a) (num_emod_pp _) (by unfold pp; omega)
  have d0 : 0 ≤ b - a := by omega
  have d1 : b - a < 4294967296 := by omega
  go_enter Tryd.func3, Tryd.ntmps3
  go_wp2_with fail
  refine (known_any _ hG).mono ?_
  rintro e u1 ⟨rfl, hb⟩
  replace hG := hG.below hb
  go_wp2_with fail
  refine (small_any _ _ a0 a1).mono ?_
  rintro e u2 ⟨rfl, hd⟩
  replace hb := hb.trans (hd.mono hb.size)
  replace hG := hG.below hd
  go_wp2_with fail
  refine (small_any _ _ b0 b1).mono ?_
  rintro e u3 ⟨rfl, hd⟩
  replace hb := hb.trans (hd.mono hb.size)
  replace hG := hG.below hd
  go_wp2_with fail
  refine (add_any _ _ _ (num_small a0 a1) (num_small b0 b1) hG.O).mono ?_
  rintro e u4 ⟨rfl, hd⟩
  replace hb := hb.trans (hd.mono hb.size)
  replace hG := hG.below hd
  go_wp2_with fail
  refine (small_any _ _ a0 a1).mono ?_
  rintro e u5 ⟨rfl, hd⟩
  replace hb := hb.trans (hd.mono hb.size)
  replace hG := hG.below hd
  go_wp2_with fail
  refine (small_any _ _ b0 b1).mono ?_
  rintro e u6 ⟨rfl, hd⟩
  replace hb := hb.trans (hd.mono hb.size)
  replace hG := hG.below hd
  go_wp2_with fail
  refine (mul_any _ _ _ (num_small a0 a1) (num_small b0 b1) hG.O).mono ?_
  rintro e u7 ⟨rfl, hd⟩
  replace hb := hb.trans (hd.mono hb.size)
  replace hG := hG.below hd
  go_wp2_with fail
  refine (small_any _ _ b0 b1).mono ?_
  rintro e u8 ⟨rfl, hd⟩
  replace hb := hb.trans (hd.mono hb.size)
  replace hG := hG.below hd
  go_wp2_with fail
  refine (small_any _ _ a0 a1).mono ?_
  rintro e u9 ⟨rfl, hd⟩
  replace hb := hb.trans (hd.mono hb.size)
  replace hG := hG.below hd
  go_wp2_with fail
  refine (sub_any _ _ _ (num_small b0 b1) (num_small a0 a1) hG.O).mono ?_
  rintro e u10 ⟨rfl, hd⟩
  replace hb := hb.trans (hd.mono hb.size)
  replace hG := hG.below hd
  go_wp2_with fail
  refine (small_any _ _ d0 d1).mono ?_
  rintro e u11 ⟨rfl, hd⟩
  replace hb := hb.trans (hd.mono hb.size)
  go_wp2_with fail
  go_ret
  exact ⟨rfl, hb⟩

set_option maxHeartbeats 2000000 in
theorem smalls_gt (a b : Int) (w : World) (a0 : 0 ≤ a) (a1 : a < 4294967296) (b0 : 0 ≤ b) (b1 : b < 4294967296) (hab : b < a) (hG : Globs w) :
    Calls Tryd.prog 3 #[.int .u32 a, .int .u32 b] w fun e w' => e = .returned (.bool true) ∧ Below w.heap.size w w' := by
  obtain ⟨m0, m1⟩ := small_mul a0 a1 b0 b1
  have hw : IntKind.u64.wrap (a * b) = a * b := by rw [IntKind.wrap_u64]; omega
  have hE1 := eq_word (M := (a + b) % pp) (n := a + b) (num_emod_pp _) ⟨by omega, by omega⟩ (by unfold pp; omega)
  have hE2 := eq_word (M := a * b % pp) (n := a * b) (num_emod_pp _) ⟨m0, m1⟩ (by generalize a * b = m at *; unfold pp; omega)
  have hN := Lib.hid m1; clear m1 m0
  have hE3 := eqFe_true (M := (a - b) % pp) (Z := a - b) (num_emod_pp _) (by unfold pp; omega)
  have d0 : 0 ≤ a - b := by omega
  have d1 : a - b < 4294967296 := by omega
  go_enter Tryd.func3, Tryd.ntmps3
  go_wp2_with fail
  refine (known_any _ hG).mono ?_
  rintro e u1 ⟨rfl, hb⟩
  replace hG := hG.below hb
  go_wp2_with fail
  refine (small_any _ _ a0 a1).mono ?_
  rintro e u2 ⟨rfl, hd⟩
  replace hb := hb.trans (hd.mono hb.size)
  replace hG := hG.below hd
  go_wp2_with fail
  refine (small_any _ _ b0 b1).mono ?_
  rintro e u3 ⟨rfl, hd⟩
  replace hb := hb.trans (hd.mono hb.size)
  replace hG := hG.below hd
  go_wp2_with fail
  refine (add_any _ _ _ (num_small a0 a1) (num_small b0 b1) hG.O).mono ?_
  rintro e u4 ⟨rfl, hd⟩
  replace hb := hb.trans (hd.mono hb.size)
  replace hG := hG.below hd
  go_wp2_with fail
  refine (small_any _ _ a0 a1).mono ?_
  rintro e u5 ⟨rfl, hd⟩
  replace hb := hb.trans (hd.mono hb.size)
  replace hG := hG.below hd
  go_wp2_with fail
  refine (small_any _ _ b0 b1).mono ?_
  rintro e u6 ⟨rfl, hd⟩
  replace hb := hb.trans (hd.mono hb.size)
  replace hG := hG.below hd
  go_wp2_with fail
  refine (mul_any _ _ _ (num_small a0 a1) (num_small b0 b1) hG.O).mono ?_
  rintro e u7 ⟨rfl, hd⟩
  replace hb := hb.trans (hd.mono hb.size)
  replace hG := hG.below hd
  go_wp2_with fail
  refine (small_any _ _ a0 a1).mono ?_
  rintro e u8 ⟨rfl, hd⟩
  replace hb := hb.trans (hd.mono hb.size)
  replace hG := hG.below hd
  go_wp2_with fail
  refine (small_any _ _ b0 b1).mono ?_
  rintro e u9 ⟨rfl, hd⟩
  replace hb := hb.trans (hd.mono hb.size)
  replace hG := hG.below hd
  go_wp2_with fail
  refine (sub_any _ _ _ (num_small a0 a1) (num_small b0 b1) hG.O).mono ?_
  rintro e u10 ⟨rfl, hd⟩
  replace hb := hb.trans (hd.mono hb.size)
  replace hG := hG.below hd
  go_wp2_with fail
  refine (small_any _ _ d0 d1).mono ?_
  rintro e u11 ⟨rfl, hd⟩
  replace hb := hb.trans (hd.mono hb.size)
  go_wp2_with fail
  go_ret
  exact ⟨rfl, hb⟩

set_option maxHeartbeats 2000000 in
theorem smalls_eq (a : Int) (w : World) (a0 : 0 ≤ a) (a1 : a < 4294967296) (hG : Globs w) :
    Calls Tryd.prog 3 #[.int .u32 a, .int .u32 a] w fun e w' => e = .returned (.bool true) ∧ Below w.heap.size w w' := by
  obtain ⟨m0, m1⟩ := small_mul a0 a1 a0 a1
  have hw : IntKind.u64.wrap (a * a) = a * a := by rw [IntKind.wrap_u64]; omega
  have hE1 := eq_word (M := (a + a) % pp) (n := a + a) (num_emod_pp _) ⟨by omega, by omega⟩ (by unfold pp; omega)
  have hE2 := eq_word (M := a * a % pp) (n := a * a) (num_emod_pp _) ⟨m0, m1⟩ (by generalize a * a = m at *; unfold pp; omega)
  have hN := Lib.hid m1; clear m1 m0
  have hE3 := eqFe_true (M := 0) (Z := 0) num0 rfl
  have d0 : (0 : Int) ≤ 0 := by omega
  have d1 : (0 : Int) < 4294967296 := by omega
  go_enter Tryd.func3, Tryd.ntmps3
  go_wp2_with fail
  refine (known_any _ hG).mono ?_
  rintro e u1 ⟨rfl, hb⟩
  replace hG := hG.below hb
  go_wp2_with fail
  refine (small_any _ _ a0 a1).mono ?_
  rintro e u2 ⟨rfl, hd⟩
  replace hb := hb.trans (hd.mono hb.size)
  replace hG := hG.below hd
  go_wp2_with fail
  refine (small_any _ _ a0 a1).mono ?_
  rintro e u3 ⟨rfl, hd⟩
  replace hb := hb.trans (hd.mono hb.size)
  replace hG := hG.below hd
  go_wp2_with fail
  refine (add_any _ _ _ (num_small a0 a1) (num_small a0 a1) hG.O).mono ?_
  rintro e u4 ⟨rfl, hd⟩
  replace hb := hb.trans (hd.mono hb.size)
  replace hG := hG.below hd
  go_wp2_with fail
  refine (small_any _ _ a0 a1).mono ?_
  rintro e u5 ⟨rfl, hd⟩
  replace hb := hb.trans (hd.mono hb.size)
  replace hG := hG.below hd
  go_wp2_with fail
  refine (small_any _ _ a0 a1).mono ?_
  rintro e u6 ⟨rfl, hd⟩
  replace hb := hb.trans (hd.mono hb.size)
  replace hG := hG.below hd
  go_wp2_with fail
  refine (mul_any _ _ _ (num_small a0 a1) (num_small a0 a1) hG.O).mono ?_
  rintro e u7 ⟨rfl, hd⟩
  replace hb := hb.trans (hd.mono hb.size)
  replace hG := hG.below hd
  go_wp2_with fail
  refine (small_any _ _ a0 a1).mono ?_
  rintro e u8 ⟨rfl, hd⟩
  replace hb := hb.trans (hd.mono hb.size)
  replace hG := hG.below hd
  go_wp2_with fail
  refine (small_any _ _ a0 a1).mono ?_
  rintro e u9 ⟨rfl, hd⟩
  replace hb := hb.trans (hd.mono hb.size)
  replace hG := hG.below hd
  go_wp2_with fail
  refine (sub_any _ _ _ (num_small a0 a1) (num_small a0 a1) hG.O).mono ?_
  rintro e u10 ⟨rfl, hd⟩
  replace hb := hb.trans (hd.mono hb.size)
  replace hG := hG.below hd
  go_wp2_with fail
  refine (small_any _ _ d0 d1).mono ?_
  rintro e u11 ⟨rfl, hd⟩
  replace hb := hb.trans (hd.mono hb.size)
  go_wp2_with fail
  go_ret
  exact ⟨rfl, hb⟩

theorem smalls_walk (a b : Int) (w : World) (a0 : 0 ≤ a) (a1 : a < 4294967296) (b0 : 0 ≤ b) (b1 : b < 4294967296) (hG : Globs w) :
    Calls Tryd.prog 3 #[.int .u32 a, .int .u32 b] w fun e w' => e = .returned (.bool true) ∧ Below w.heap.size w w' := by
  rcases Int.lt_trichotomy a b with h | h | h
  · exact smalls_lt a b w a0 a1 b0 b1 h hG
  · subst h; exact smalls_eq a w a0 a1 hG
  · exact smalls_gt a b w a0 a1 b0 b1 h hG
end Go.Proofs.YtabfjdljeebjbaaDoor
