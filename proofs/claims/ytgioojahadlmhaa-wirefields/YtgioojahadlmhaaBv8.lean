/- Words of 8 bits as the model's values: one operation at a time. -/
import Derived.Test.YtgioojahadlmhaaBv64
namespace Go.Proofs.Ytgioojahadlmhaa
open Go.RowKit
set_option maxRecDepth 20000

/-- A word of 8 bits. -/
def b8 (x : BitVec 8) : Value := .int .u8 (x.toNat : Int)
/-- Noughts. -/
def z8 (n : Nat) : List Value := (List.replicate n (0 : BitVec 8)).map b8
theorem b8_inj {x y : BitVec 8} (h : b8 x = b8 y) : x = y := by
  unfold b8 at h; injection h with _ h; exact BitVec.eq_of_toNat_eq (by omega)
theorem wrap8 (n : Int) : IntKind.u8.wrap n = n % 256 := by simp [IntKind.wrap, IntKind.bits, IntKind.signed]
section
variable {w : World} {ρ : Operand → Value} {o : Oper} {t t' : TypeId} {x y : Operand} {a b : BitVec 8}
theorem run_xor8 (ho : o.op = .binOp .xor t x y t') (hx : ρ x = b8 a) (hy : ρ y = b8 b) : (execOp ρ o).run Try.prog w = .ok (.value (b8 (a ^^^ b))) w := by
  obtain ⟨dst, op, type, pos, after, guard⟩ := o
  subst ho
  unfold b8 at *
  have e := u8_xor_nat a.toNat b.toNat a.isLt b.isLt
  rw [BitVec.toNat_xor]
  go_simp
theorem run_and8 (ho : o.op = .binOp .and t x y t') (hx : ρ x = b8 a) (hy : ρ y = b8 b) : (execOp ρ o).run Try.prog w = .ok (.value (b8 (a &&& b))) w := by
  obtain ⟨dst, op, type, pos, after, guard⟩ := o
  subst ho
  unfold b8 at *
  have e := u8_and_nat a.toNat b.toNat a.isLt b.isLt
  rw [BitVec.toNat_and]
  go_simp
theorem run_or8 (ho : o.op = .binOp .or t x y t') (hx : ρ x = b8 a) (hy : ρ y = b8 b) : (execOp ρ o).run Try.prog w = .ok (.value (b8 (a ||| b))) w := by
  obtain ⟨dst, op, type, pos, after, guard⟩ := o
  subst ho
  unfold b8 at *
  have e := u8_or_nat a.toNat b.toNat a.isLt b.isLt
  rw [BitVec.toNat_or]
  go_simp
theorem run_add8 (ho : o.op = .binOp .add t x y t') (hx : ρ x = b8 a) (hy : ρ y = b8 b) : (execOp ρ o).run Try.prog w = .ok (.value (b8 (a + b))) w := by
  obtain ⟨dst, op, type, pos, after, guard⟩ := o
  subst ho
  unfold b8 at *
  have e : IntKind.u8.wrap ((a.toNat : Int) + (b.toNat : Int)) = (((a + b).toNat : Nat) : Int) := by
    rw [wrap8, BitVec.toNat_add]; omega
  generalize (a + b).toNat = z at *
  go_simp
  try exact e
theorem run_not8 (ho : o.op = .unOp .xor t x) (hx : ρ x = b8 a) : (execOp ρ o).run Try.prog w = .ok (.value (b8 (~~~a))) w := by
  obtain ⟨dst, op, type, pos, after, guard⟩ := o
  subst ho
  unfold b8 at *
  have e : bits .xor .u8 255 (a.toNat : Int) = (((~~~a).toNat : Nat) : Int) := by
    have h := u8_xor_nat 255 a.toNat (by omega) a.isLt
    rw [show ((255 : Nat) : Int) = (255 : Int) from rfl] at h
    rw [h, show ~~~a = BitVec.allOnes 8 ^^^ a by rw [BitVec.allOnes_xor], BitVec.toNat_xor]
    rfl
  generalize (~~~a).toNat = z at *
  go_simp
  try exact e
theorem run_shr8 {n : Nat} (ho : o.op = .binOp .shr t x y t') (hx : ρ x = b8 a) (hy : ρ y = .int .u64 (n : Int)) (hn : n ≤ 8) : (execOp ρ o).run Try.prog w = .ok (.value (b8 (a >>> n))) w := by
  obtain ⟨dst, op, type, pos, after, guard⟩ := o
  subst ho
  unfold b8 at *
  have e : (a.toNat : Int) / 2 ^ n = (((a >>> n).toNat : Nat) : Int) := by
    rw [BitVec.toNat_ushiftRight, Nat.shiftRight_eq_div_pow]; simp
  generalize (a >>> n).toNat = z at *
  have hn0 : (0 : Int) ≤ (n : Int) := by omega
  go_simp
  try exact e
theorem run_shl8 {n : Nat} (ho : o.op = .binOp .shl t x y t') (hx : ρ x = b8 a) (hy : ρ y = .int .u64 (n : Int)) (hn : n ≤ 8) : (execOp ρ o).run Try.prog w = .ok (.value (b8 (a <<< n))) w := by
  obtain ⟨dst, op, type, pos, after, guard⟩ := o
  subst ho
  unfold b8 at *
  have e : IntKind.u8.wrap ((a.toNat : Int) * 2 ^ n) = (((a <<< n).toNat : Nat) : Int) := by
    rw [wrap8, BitVec.toNat_shiftLeft, Nat.shiftLeft_eq]; simp
  generalize (a <<< n).toNat = z at *
  have hn0 : (0 : Int) ≤ (n : Int) := by omega
  go_simp
  try exact e
/-- A load of one word. -/
theorem run_ld8 {g i : Nat} {v : Value} (ho : o.op = .load 5 x) (hx : ρ x = .pointer (some ⟨g, i, none⟩)) (hc : w.cell? ⟨g, i, none⟩ = some v) : (execOp ρ o).run Try.prog w = .ok (.value v) w := by
  obtain ⟨dst, op, type, pos, after, guard⟩ := o
  subst ho
  go_simp
theorem run_st8 {g i : Nat} {v : Value} (ho : o.op = .store 5 x y) (hx : ρ x = .pointer (some ⟨g, i, none⟩)) (hy : ρ y = b8 a) (hc : w.cell? ⟨g, i, none⟩ = some v) (hf : w.frozen? ⟨g, i, none⟩ = false) : (execOp ρ o).run Try.prog w = .ok .skip (w.setCell ⟨g, i, none⟩ (b8 a)) := by
  obtain ⟨dst, op, type, pos, after, guard⟩ := o
  subst ho
  unfold b8 at *
  go_simp
end
end Go.Proofs.Ytgioojahadlmhaa
