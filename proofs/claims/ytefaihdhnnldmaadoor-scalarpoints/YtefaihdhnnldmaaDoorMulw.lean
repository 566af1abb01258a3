/- What math/bits.Mul64 and field.mulAdd do. -/
import Derived.Test.YtefaihdhnnldmaaDoorMinus
namespace Go.Proofs.YtefaihdhnnldmaaDoor
open Go.RowKit
set_option maxRecDepth 20000

def mhi (x y : Int) : Int := x * y / 18446744073709551616
def mlo (x y : Int) : Int := x * y % 18446744073709551616
theorem mlo_word (x y : Int) : Word (mlo x y) := by unfold Word mlo; omega
set_option maxHeartbeats 1000000 in
theorem mul64_any (x y : Int) (hx : Word x) (hy : Word y) (w : World) :
    Calls Tryd.prog 80 #[.int .u64 x, .int .u64 y] w fun e w' => e = .returned (.tuple #[.int .u64 (mhi x y), .int .u64 (mlo x y)]) ∧ w = w' := by
  have hm := mul64_arith x y hx.1 hx.2 hy.1 hy.2
  go_enter Tryd.func80, Tryd.ntmps80
  go_wp2
  have hl : ∀ z : Int, bits .and .u64 (z % 18446744073709551616) 4294967295 = z % 18446744073709551616 % 4294967296 := fun z => and_low32 _ (by omega) (by omega)
  simp only [IntKind.wrap_u64, and_low32 x hx.1 hx.2, and_low32 y hy.1 hy.2, hl, hm]
  go_ret2
  exact ⟨rfl, rfl⟩

/-- The upper and the lower word of m·n + a + b. -/
def maH (m n a b : Int) : Int := (m * n + a + b) / 18446744073709551616
def maL (m n a b : Int) : Int := (m * n + a + b) % 18446744073709551616
theorem maL_word (m n a b : Int) : Word (maL m n a b) := by unfold Word maL; omega
theorem mul_words {m n : Int} (hm : Word m) (hn : Word n) : 0 ≤ m * n ∧ m * n ≤ 340282366920938463426481119284349108225 := by
  unfold Word at *
  refine ⟨Int.mul_nonneg hm.1 hn.1, ?_⟩
  have h := Int.mul_le_mul (a := m) (b := n) (c := 18446744073709551615) (d := 18446744073709551615) (by omega) (by omega) hn.1 (by omega)
  simpa using h
theorem maH_word {m n a b : Int} (hm : Word m) (hn : Word n) (ha : Word a) (hb : Word b) : Word (maH m n a b) := by
  have h := mul_words hm hn
  unfold maH; generalize m * n = p at *; unfold Word at *; omega
theorem ma_eq (m n a b : Int) : maL m n a b + 18446744073709551616 * maH m n a b = m * n + a + b := by unfold maL maH; omega

theorem mulAdd_math {m n a b : Int} (hm : Word m) (hn : Word n) (ha : Word a) (hb : Word b) :
    IntKind.u64.wrap (mhi m n + adC (mlo m n) a 0) = mhi m n + adC (mlo m n) a 0 ∧
    IntKind.u64.wrap (mhi m n + adC (mlo m n) a 0 + adC (adW (mlo m n) a 0) b 0) = maH m n a b ∧ adW (adW (mlo m n) a 0) b 0 = maL m n a b := by
  have h := mul_words hm hn
  rw [IntKind.wrap_u64, IntKind.wrap_u64]
  unfold mhi mlo adC adW maH maL
  generalize m * n = p at *
  unfold Word at *
  refine ⟨by omega, by omega, by omega⟩

set_option maxHeartbeats 400000 in
theorem mulAdd_any (m n a b : Int) (w : World) (hm : Word m) (hn : Word n) (ha : Word a) (hb : Word b) :
    Calls Tryd.prog 76 #[.int .u64 m, .int .u64 n, .int .u64 a, .int .u64 b] w fun e w' => e = .returned (.tuple #[.int .u64 (maH m n a b), .int .u64 (maL m n a b)]) ∧ w = w' := by
  obtain ⟨h1, h2, h3⟩ := mulAdd_math hm hn ha hb
  have k0 := mlo_word m n
  have k1 := adW_word (mlo m n) a 0
  go_enter Tryd.func76, Tryd.ntmps76
  go_wp2_with (first | simp only [run_add64_at k0 ha bit0, run_add64_at k1 hb bit0] | (go_at_call 80; refine (mul64_any _ _ hm hn _).mono ?_; rintro e w' ⟨rfl, rfl⟩))
  go_ret2
  exact ⟨rfl, rfl⟩
end Go.Proofs.YtefaihdhnnldmaaDoor
