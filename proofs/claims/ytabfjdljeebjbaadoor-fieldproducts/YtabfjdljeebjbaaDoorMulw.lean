/- What math/bits.Mul64 and field.mulAdd do. -/
import Derived.Test.YtabfjdljeebjbaaDoorMinus
import Derived.Lib.Mul64
namespace Go.Proofs.YtabfjdljeebjbaaDoor
open Go.RowKit

namespace Mw
theorem maskN (a : Nat) (ha : a < 18446744073709551616) : bits .and .u64 (a : Int) 4294967295 = ((a % 4294967296 : Nat) : Int) := by
  have h := bits_and_u64_nat a 4294967295 ha (by omega)
  have e : a &&& 4294967295 = a % 4294967296 := Nat.and_two_pow_sub_one_eq_mod a 32
  rw [e] at h
  exact h
theorem divN (a : Nat) : (a : Int) / 4294967296 = ((a / 4294967296 : Nat) : Int) := by omega
theorem mulN (a b : Nat) : (a : Int) * (b : Int) = ((a * b : Nat) : Int) := (Int.natCast_mul a b).symm
theorem addN (a b : Nat) : (a : Int) + (b : Int) = ((a + b : Nat) : Int) := (Int.natCast_add a b).symm
theorem wrapN (a : Nat) (ha : a < 18446744073709551616) : IntKind.u64.wrap (a : Int) = (a : Int) := by rw [IntKind.wrap_u64]; omega
theorem wrapM (a : Nat) : IntKind.u64.wrap (a : Int) = ((a % 18446744073709551616 : Nat) : Int) := by rw [IntKind.wrap_u64]; omega
end Mw

set_option maxHeartbeats 1000000 in
theorem mul64_nat (x y : Nat) (hx : x < 18446744073709551616) (hy : y < 18446744073709551616) (w : World) :
    Calls Tryd.prog 43 #[.int .u64 x, .int .u64 y] w fun e w' => e = .returned (.tuple #[.int .u64 ((x * y / 18446744073709551616 : Nat) : Int), .int .u64 ((x * y % 18446744073709551616 : Nat) : Int)]) ∧ w = w' := by
  obtain ⟨bd, bt, bw, hhi⟩ := Lib.mul64_hi x y hx hy
  have ba := Lib.half_mul_le (a := x / 4294967296) (b := y / 4294967296) (by omega) (by omega)
  have bb := Lib.half_mul_le (a := x / 4294967296) (b := y % 4294967296) (by omega) (by omega)
  have bc := Lib.half_mul_le (a := x % 4294967296) (b := y / 4294967296) (by omega) (by omega)
  have ba' : x / 4294967296 * (y / 4294967296) < 18446744073709551616 := by omega
  have bb' : x / 4294967296 * (y % 4294967296) < 18446744073709551616 := by omega
  have bc' : x % 4294967296 * (y / 4294967296) < 18446744073709551616 := by omega
  have bh1 : x / 4294967296 * (y / 4294967296) + (x / 4294967296 * (y % 4294967296) + x % 4294967296 * (y % 4294967296) / 4294967296) / 4294967296 < 18446744073709551616 := by omega
  have bh : x / 4294967296 * (y / 4294967296) + (x / 4294967296 * (y % 4294967296) + x % 4294967296 * (y % 4294967296) / 4294967296) / 4294967296 + ((x / 4294967296 * (y % 4294967296) + x % 4294967296 * (y % 4294967296) / 4294967296) % 4294967296 + x % 4294967296 * (y / 4294967296)) / 4294967296 < 18446744073709551616 := by omega
  go_enter Tryd.func43, Tryd.ntmps43
  go_wp2
  simp only [Mw.maskN x hx, Mw.maskN y hy, Mw.divN, Mw.mulN, Mw.addN, Mw.wrapN _ bd, Mw.wrapN _ bb', Mw.wrapN _ bt, Mw.maskN _ bt, Mw.wrapN _ bc', Mw.wrapN _ bw, Mw.wrapN _ ba', Mw.wrapN _ bh1, Mw.wrapN _ bh, Mw.wrapM (x * y)]
  rw [hhi]
  go_ret2
  exact ⟨rfl, rfl⟩

def mhi (x y : Int) : Int := x * y / 18446744073709551616
def mlo (x y : Int) : Int := x * y % 18446744073709551616
theorem mlo_word (x y : Int) : Word (mlo x y) := by unfold Word mlo; omega
theorem mul64_any (x y : Int) (hx : Word x) (hy : Word y) (w : World) :
    Calls Tryd.prog 43 #[.int .u64 x, .int .u64 y] w fun e w' => e = .returned (.tuple #[.int .u64 (mhi x y), .int .u64 (mlo x y)]) ∧ w = w' := by
  obtain ⟨X, rfl⟩ := Int.eq_ofNat_of_zero_le hx.1
  obtain ⟨Y, rfl⟩ := Int.eq_ofNat_of_zero_le hy.1
  have h1 := hx.2
  have h2 := hy.2
  have h := mul64_nat X Y (by omega) (by omega) w
  have e1 : ((X * Y / 18446744073709551616 : Nat) : Int) = mhi X Y := by unfold mhi; rw [Int.natCast_ediv, Int.natCast_mul]; rfl
  have e2 : ((X * Y % 18446744073709551616 : Nat) : Int) = mlo X Y := by unfold mlo; rw [Int.natCast_emod, Int.natCast_mul]; rfl
  rw [e1, e2] at h
  exact h

/-- The upper and the lower word of m·n + a + b. -/
def maH (m n a b : Int) : Int := (m * n + a + b) / 18446744073709551616
def maL (m n a b : Int) : Int := (m * n + a + b) % 18446744073709551616
theorem maL_word (m n a b : Int) : Word (maL m n a b) := by unfold Word maL; omega
theorem mul_words {m n : Int} (hm : Word m) (hn : Word n) : 0 ≤ m * n ∧ m * n ≤ 340282366920938463426481119284349108225 := by
  unfold Word at *
  refine ⟨Int.mul_nonneg hm.1 hn.1, ?_⟩
  have h := Int.mul_le_mul (a := m) (b := n) (c := 18446744073709551615) (d := 18446744073709551615) (by omega) (by omega) hn.1 (by omega)
  simpa using h
theorem maH_word {m n a b : Int} (hm : Word m) (hn : Word n) (ha : Word a) (hb : Word b) : Word (maH m n a b) := by
  have h := mul_words hm hn
  unfold maH; generalize m * n = p at *; unfold Word at *; omega
theorem ma_eq (m n a b : Int) : maL m n a b + 18446744073709551616 * maH m n a b = m * n + a + b := by unfold maL maH; omega

theorem mulAdd_math {m n a b : Int} (hm : Word m) (hn : Word n) (ha : Word a) (hb : Word b) :
    IntKind.u64.wrap (mhi m n + adC (mlo m n) a 0) = mhi m n + adC (mlo m n) a 0 ∧
    IntKind.u64.wrap (mhi m n + adC (mlo m n) a 0 + adC (adW (mlo m n) a 0) b 0) = maH m n a b ∧ adW (adW (mlo m n) a 0) b 0 = maL m n a b := by
  have h := mul_words hm hn
  rw [IntKind.wrap_u64, IntKind.wrap_u64]
  unfold mhi mlo adC adW maH maL
  generalize m * n = p at *
  unfold Word at *
  refine ⟨by omega, by omega, by omega⟩

set_option maxHeartbeats 400000 in
theorem mulAdd_any (m n a b : Int) (w : World) (hm : Word m) (hn : Word n) (ha : Word a) (hb : Word b) :
    Calls Tryd.prog 38 #[.int .u64 m, .int .u64 n, .int .u64 a, .int .u64 b] w fun e w' => e = .returned (.tuple #[.int .u64 (maH m n a b), .int .u64 (maL m n a b)]) ∧ w = w' := by
  obtain ⟨h1, h2, h3⟩ := mulAdd_math hm hn ha hb
  have k0 := mlo_word m n
  have k1 := adW_word (mlo m n) a 0
  go_enter Tryd.func38, Tryd.ntmps38
  go_wp2_with (first | simp only [run_add64_at k0 ha bit0, run_add64_at k1 hb bit0] | (go_at_call 43; refine (mul64_any _ _ hm hn _).mono ?_; rintro e w' ⟨rfl, rfl⟩))
  go_ret2
  exact ⟨rfl, rfl⟩
end Go.Proofs.YtabfjdljeebjbaaDoor
