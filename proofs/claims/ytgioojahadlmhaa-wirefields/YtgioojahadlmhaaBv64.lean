/- Words of 64 bits as the model's values: one operation at a time. -/
import Derived.Test.YtgioojahadlmhaaBv32
namespace Go.Proofs.Ytgioojahadlmhaa
open Go.RowKit
set_option maxRecDepth 20000

/-- A word of 64 bits. -/
def b64 (x : BitVec 64) : Value := .int .u64 (x.toNat : Int)
/-- Noughts. -/
def z64 (n : Nat) : List Value := (List.replicate n (0 : BitVec 64)).map b64
theorem b64_inj {x y : BitVec 64} (h : b64 x = b64 y) : x = y := by
  unfold b64 at h; injection h with _ h; exact BitVec.eq_of_toNat_eq (by omega)
theorem wrap64 (n : Int) : IntKind.u64.wrap n = n % 18446744073709551616 := by simp [IntKind.wrap, IntKind.bits, IntKind.signed]
section
variable {w : World} {ρ : Operand → Value} {o : Oper} {t t' : TypeId} {x y : Operand} {a b : BitVec 64}
theorem run_xor64 (ho : o.op = .binOp .xor t x y t') (hx : ρ x = b64 a) (hy : ρ y = b64 b) : (execOp ρ o).run Try.prog w = .ok (.value (b64 (a ^^^ b))) w := by
  obtain ⟨dst, op, type, pos, after, guard⟩ := o
  subst ho
  unfold b64 at *
  have e := u64_xor_nat a.toNat b.toNat a.isLt b.isLt
  rw [BitVec.toNat_xor]
  go_simp
theorem run_and64 (ho : o.op = .binOp .and t x y t') (hx : ρ x = b64 a) (hy : ρ y = b64 b) : (execOp ρ o).run Try.prog w = .ok (.value (b64 (a &&& b))) w := by
  obtain ⟨dst, op, type, pos, after, guard⟩ := o
  subst ho
  unfold b64 at *
  have e := u64_and_nat a.toNat b.toNat a.isLt b.isLt
  rw [BitVec.toNat_and]
  go_simp
theorem run_or64 (ho : o.op = .binOp .or t x y t') (hx : ρ x = b64 a) (hy : ρ y = b64 b) : (execOp ρ o).run Try.prog w = .ok (.value (b64 (a ||| b))) w := by
  obtain ⟨dst, op, type, pos, after, guard⟩ := o
  subst ho
  unfold b64 at *
  have e := u64_or_nat a.toNat b.toNat a.isLt b.isLt
  rw [BitVec.toNat_or]
  go_simp
theorem run_add64 (ho : o.op = .binOp .add t x y t') (hx : ρ x = b64 a) (hy : ρ y = b64 b) : (execOp ρ o).run Try.prog w = .ok (.value (b64 (a + b))) w := by
  obtain ⟨dst, op, type, pos, after, guard⟩ := o
  subst ho
  unfold b64 at *
  have e : IntKind.u64.wrap ((a.toNat : Int) + (b.toNat : Int)) = (((a + b).toNat : Nat) : Int) := by
    rw [wrap64, BitVec.toNat_add]; omega
  generalize (a + b).toNat = z at *
  go_simp
  try exact e
theorem run_not64 (ho : o.op = .unOp .xor t x) (hx : ρ x = b64 a) : (execOp ρ o).run Try.prog w = .ok (.value (b64 (~~~a))) w := by
  obtain ⟨dst, op, type, pos, after, guard⟩ := o
  subst ho
  unfold b64 at *
  have e : bits .xor .u64 18446744073709551615 (a.toNat : Int) = (((~~~a).toNat : Nat) : Int) := by
    have h := u64_xor_nat 18446744073709551615 a.toNat (by omega) a.isLt
    rw [show ((18446744073709551615 : Nat) : Int) = (18446744073709551615 : Int) from rfl] at h
    rw [h, show ~~~a = BitVec.allOnes 64 ^^^ a by rw [BitVec.allOnes_xor], BitVec.toNat_xor]
    rfl
  generalize (~~~a).toNat = z at *
  go_simp
  try exact e
theorem run_shr64 {n : Nat} (ho : o.op = .binOp .shr t x y t') (hx : ρ x = b64 a) (hy : ρ y = .int .u64 (n : Int)) (hn : n ≤ 64) : (execOp ρ o).run Try.prog w = .ok (.value (b64 (a >>> n))) w := by
  obtain ⟨dst, op, type, pos, after, guard⟩ := o
  subst ho
  unfold b64 at *
  have e : (a.toNat : Int) / 2 ^ n = (((a >>> n).toNat : Nat) : Int) := by
    rw [BitVec.toNat_ushiftRight, Nat.shiftRight_eq_div_pow]; simp
  generalize (a >>> n).toNat = z at *
  have hn0 : (0 : Int) ≤ (n : Int) := by omega
  go_simp
  try exact e
theorem run_shl64 {n : Nat} (ho : o.op = .binOp .shl t x y t') (hx : ρ x = b64 a) (hy : ρ y = .int .u64 (n : Int)) (hn : n ≤ 64) : (execOp ρ o).run Try.prog w = .ok (.value (b64 (a <<< n))) w := by
  obtain ⟨dst, op, type, pos, after, guard⟩ := o
  subst ho
  unfold b64 at *
  have e : IntKind.u64.wrap ((a.toNat : Int) * 2 ^ n) = (((a <<< n).toNat : Nat) : Int) := by
    rw [wrap64, BitVec.toNat_shiftLeft, Nat.shiftLeft_eq]; simp
  generalize (a <<< n).toNat = z at *
  have hn0 : (0 : Int) ≤ (n : Int) := by omega
  go_simp
  try exact e
/-- A load of one word. -/
theorem run_ld64 {g i : Nat} {v : Value} (ho : o.op = .load 192 x) (hx : ρ x = .pointer (some ⟨g, i, none⟩)) (hc : w.cell? ⟨g, i, none⟩ = some v) : (execOp ρ o).run Try.prog w = .ok (.value v) w := by
  obtain ⟨dst, op, type, pos, after, guard⟩ := o
  subst ho
  go_simp
theorem run_st64 {g i : Nat} {v : Value} (ho : o.op = .store 192 x y) (hx : ρ x = .pointer (some ⟨g, i, none⟩)) (hy : ρ y = b64 a) (hc : w.cell? ⟨g, i, none⟩ = some v) (hf : w.frozen? ⟨g, i, none⟩ = false) : (execOp ρ o).run Try.prog w = .ok .skip (w.setCell ⟨g, i, none⟩ (b64 a)) := by
  obtain ⟨dst, op, type, pos, after, guard⟩ := o
  subst ho
  unfold b64 at *
  go_simp
end
end Go.Proofs.Ytgioojahadlmhaa
