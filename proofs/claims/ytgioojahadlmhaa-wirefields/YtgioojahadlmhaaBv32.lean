/- Words of 32 bits as the model's values: one operation at a time. -/
import Derived.Test.YtgioojahadlmhaaOps
namespace Go.Proofs.Ytgioojahadlmhaa
open Go.RowKit
set_option maxRecDepth 20000

/-- A word of 32 bits. -/
def b32 (x : BitVec 32) : Value := .int .u32 (x.toNat : Int)
/-- Noughts. -/
def z32 (n : Nat) : List Value := (List.replicate n (0 : BitVec 32)).map b32
theorem b32_inj {x y : BitVec 32} (h : b32 x = b32 y) : x = y := by
  unfold b32 at h; injection h with _ h; exact BitVec.eq_of_toNat_eq (by omega)
theorem wrap32 (n : Int) : IntKind.u32.wrap n = n % 4294967296 := by simp [IntKind.wrap, IntKind.bits, IntKind.signed]
section
variable {w : World} {ρ : Operand → Value} {o : Oper} {t t' : TypeId} {x y : Operand} {a b : BitVec 32}
theorem run_xor32 (ho : o.op = .binOp .xor t x y t') (hx : ρ x = b32 a) (hy : ρ y = b32 b) : (execOp ρ o).run Try.prog w = .ok (.value (b32 (a ^^^ b))) w := by
  obtain ⟨dst, op, type, pos, after, guard⟩ := o
  subst ho
  unfold b32 at *
  have e := u32_xor_nat a.toNat b.toNat a.isLt b.isLt
  rw [BitVec.toNat_xor]
  go_simp
theorem run_and32 (ho : o.op = .binOp .and t x y t') (hx : ρ x = b32 a) (hy : ρ y = b32 b) : (execOp ρ o).run Try.prog w = .ok (.value (b32 (a &&& b))) w := by
  obtain ⟨dst, op, type, pos, after, guard⟩ := o
  subst ho
  unfold b32 at *
  have e := u32_and_nat a.toNat b.toNat a.isLt b.isLt
  rw [BitVec.toNat_and]
  go_simp
theorem run_or32 (ho : o.op = .binOp .or t x y t') (hx : ρ x = b32 a) (hy : ρ y = b32 b) : (execOp ρ o).run Try.prog w = .ok (.value (b32 (a ||| b))) w := by
  obtain ⟨dst, op, type, pos, after, guard⟩ := o
  subst ho
  unfold b32 at *
  have e := u32_or_nat a.toNat b.toNat a.isLt b.isLt
  rw [BitVec.toNat_or]
  go_simp
theorem run_add32 (ho : o.op = .binOp .add t x y t') (hx : ρ x = b32 a) (hy : ρ y = b32 b) : (execOp ρ o).run Try.prog w = .ok (.value (b32 (a + b))) w := by
  obtain ⟨dst, op, type, pos, after, guard⟩ := o
  subst ho
  unfold b32 at *
  have e : IntKind.u32.wrap ((a.toNat : Int) + (b.toNat : Int)) = (((a + b).toNat : Nat) : Int) := by
    rw [wrap32, BitVec.toNat_add]; omega
  generalize (a + b).toNat = z at *
  go_simp
  try exact e
theorem run_not32 (ho : o.op = .unOp .xor t x) (hx : ρ x = b32 a) : (execOp ρ o).run Try.prog w = .ok (.value (b32 (~~~a))) w := by
  obtain ⟨dst, op, type, pos, after, guard⟩ := o
  subst ho
  unfold b32 at *
  have e : bits .xor .u32 4294967295 (a.toNat : Int) = (((~~~a).toNat : Nat) : Int) := by
    have h := u32_xor_nat 4294967295 a.toNat (by omega) a.isLt
    rw [show ((4294967295 : Nat) : Int) = (4294967295 : Int) from rfl] at h
    rw [h, show ~~~a = BitVec.allOnes 32 ^^^ a by rw [BitVec.allOnes_xor], BitVec.toNat_xor]
    rfl
  generalize (~~~a).toNat = z at *
  go_simp
  try exact e
theorem run_shr32 {n : Nat} (ho : o.op = .binOp .shr t x y t') (hx : ρ x = b32 a) (hy : ρ y = .int .u64 (n : Int)) (hn : n ≤ 32) : (execOp ρ o).run Try.prog w = .ok (.value (b32 (a >>> n))) w := by
  obtain ⟨dst, op, type, pos, after, guard⟩ := o
  subst ho
  unfold b32 at *
  have e : (a.toNat : Int) / 2 ^ n = (((a >>> n).toNat : Nat) : Int) := by
    rw [BitVec.toNat_ushiftRight, Nat.shiftRight_eq_div_pow]; simp
  generalize (a >>> n).toNat = z at *
  have hn0 : (0 : Int) ≤ (n : Int) := by omega
  go_simp
  try exact e
theorem run_shl32 {n : Nat} (ho : o.op = .binOp .shl t x y t') (hx : ρ x = b32 a) (hy : ρ y = .int .u64 (n : Int)) (hn : n ≤ 32) : (execOp ρ o).run Try.prog w = .ok (.value (b32 (a <<< n))) w := by
  obtain ⟨dst, op, type, pos, after, guard⟩ := o
  subst ho
  unfold b32 at *
  have e : IntKind.u32.wrap ((a.toNat : Int) * 2 ^ n) = (((a <<< n).toNat : Nat) : Int) := by
    rw [wrap32, BitVec.toNat_shiftLeft, Nat.shiftLeft_eq]; simp
  generalize (a <<< n).toNat = z at *
  have hn0 : (0 : Int) ≤ (n : Int) := by omega
  go_simp
  try exact e
/-- A load of one word. -/
theorem run_ld32 {g i : Nat} {v : Value} (ho : o.op = .load 204 x) (hx : ρ x = .pointer (some ⟨g, i, none⟩)) (hc : w.cell? ⟨g, i, none⟩ = some v) : (execOp ρ o).run Try.prog w = .ok (.value v) w := by
  obtain ⟨dst, op, type, pos, after, guard⟩ := o
  subst ho
  go_simp
theorem run_st32 {g i : Nat} {v : Value} (ho : o.op = .store 204 x y) (hx : ρ x = .pointer (some ⟨g, i, none⟩)) (hy : ρ y = b32 a) (hc : w.cell? ⟨g, i, none⟩ = some v) (hf : w.frozen? ⟨g, i, none⟩ = false) : (execOp ρ o).run Try.prog w = .ok .skip (w.setCell ⟨g, i, none⟩ (b32 a)) := by
  obtain ⟨dst, op, type, pos, after, guard⟩ := o
  subst ho
  unfold b32 at *
  go_simp
end
end Go.Proofs.Ytgioojahadlmhaa
