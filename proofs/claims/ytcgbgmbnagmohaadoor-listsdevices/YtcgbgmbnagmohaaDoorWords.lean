import Derived.Test.YtcgbgmbnagmohaaDoorProg
import Derived.WalkKit
namespace Go.Proofs.YtcgbgmbnagmohaaDoor
open Go.RowKit
set_option maxRecDepth 20000
def Word (x : Int) : Prop := 0 ≤ x ∧ x < 18446744073709551616
def Bit (x : Int) : Prop := 0 ≤ x ∧ x ≤ 1
def adW (x y c : Int) : Int := (x + y + c) % 18446744073709551616
def adC (x y c : Int) : Int := (x + y + c) / 18446744073709551616
def sbW (x y b : Int) : Int := (x - y - b) % 18446744073709551616
def sbB (x y b : Int) : Int := if x < y + b then 1 else 0
theorem bit0 : Bit 0 := ⟨by omega, by omega⟩
theorem word0 : Word 0 := ⟨by omega, by omega⟩
theorem qa5 (x y c : Int) : Word (adW x y c) := by unfold Word adW; omega
theorem qa6 (x y c : Int) : Word (sbW x y c) := by unfold Word sbW; omega
theorem adC_bit {x y c : Int} (hx : Word x) (hy : Word y) (hc : Bit c) : Bit (adC x y c) := by
 unfold Word Bit adC at *; omega
theorem sbB_bit (x y b : Int) : Bit (sbB x y b) := by unfold Bit sbB; split <;> omega
theorem ad_eq (x y c : Int) : adW x y c + 18446744073709551616 * adC x y c = x + y + c := by unfold adW adC; omega
theorem sb_eq {x y b : Int} (hx : Word x) (hy : Word y) (hb : Bit b) : sbW x y b + y + b = x + 18446744073709551616 * sbB x y b := by
 unfold Word Bit sbW sbB at *; split <;> omega
theorem qb7 {x y c : Int} (hx : Word x) (hy : Word y) (hc : Bit c) (w : World) :
  (callFunc 73 #[.int .u64 x, .int .u64 y, .int .u64 c]).run Tryd.prog w =
   .ok (.value (.tuple #[.int .u64 (adW x y c), .int .u64 (adC x y c)])) w := by
 rw [run_callFunc_extern Tryd.func73 (by kernel_rfl) (by kernel_rfl) (by kernel_rfl) (e := add64Entry) (by kernel_rfl), run_add64 x y c hx.1 hy.1 hc.1 hc.2]
 rfl
def sub64E : Array Value → Sem Value := fun args => do
 let (x, y, b) ← Extern.MathBitsCarry.three "Sub64" args
 pure (Extern.MathBitsCarry.pair ((x + Extern.MathBitsCarry.m64 - y - b) % Extern.MathBitsCarry.m64) (if x < y + b then 1 else 0))
theorem run_sub64E (x y b : Nat) (hb : b ≤ 1) (w : World) :
  (sub64E #[.int .u64 x, .int .u64 y, .int .u64 b]).run Tryd.prog w =
   .ok (.tuple #[.int .u64 (((x + 18446744073709551616 - y - b) % 18446744073709551616 : Nat) : Int), .int .u64 ((if x < y + b then 1 else 0 : Nat) : Int)]) w := by
 have : b = 0 ∨ b = 1 := by omega
 rcases this with rfl | rfl <;> rfl
theorem run_sub64_at {x y b : Int} (hx : Word x) (hy : Word y) (hb : Bit b) (w : World) :
  (callFunc 76 #[.int .u64 x, .int .u64 y, .int .u64 b]).run Tryd.prog w =
   .ok (.value (.tuple #[.int .u64 (sbW x y b), .int .u64 (sbB x y b)])) w := by
 obtain ⟨X, rfl⟩ := Int.eq_ofNat_of_zero_le hx.1
 obtain ⟨Y, rfl⟩ := Int.eq_ofNat_of_zero_le hy.1
 obtain ⟨B, rfl⟩ := Int.eq_ofNat_of_zero_le hb.1
 have h1 := hx.2
 have h2 := hy.2
 have h3 := hb.2
 rw [run_callFunc_extern Tryd.func76 (by kernel_rfl) (by kernel_rfl) (by kernel_rfl) (e := sub64E) (by kernel_rfl), run_sub64E X Y B (by omega)]
 have e1 : (((X + 18446744073709551616 - Y - B) % 18446744073709551616 : Nat) : Int) = sbW X Y B := by unfold sbW; omega
 have e2 : ((if X < Y + B then 1 else 0 : Nat) : Int) = sbB X Y B := by unfold sbB; split <;> split <;> omega
 rw [e1, e2]
 rfl
end Go.Proofs.YtcgbgmbnagmohaaDoor
