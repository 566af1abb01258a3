import Derived.Test.YtcgbgmbnagmohaaDoorOps
namespace Go.Proofs.YtcgbgmbnagmohaaDoor
open Go.RowKit
set_option maxRecDepth 20000
def b32 (x : BitVec 32) : Value := .int .u32 (x.toNat : Int)
theorem wrap32 (n : Int) : IntKind.u32.wrap n = n % 4294967296 := by simp [IntKind.wrap, IntKind.bits, IntKind.signed]
section
variable {w : World} {ρ : Operand → Value} {o : Oper} {t t' : TypeId} {x y : Operand} {a b : BitVec 32}
theorem qcy (ho : o.op = .binOp .xor t x y t') (hx : ρ x = b32 a) (hy : ρ y = b32 b) : (execOp ρ o).run Tryd.prog w = .ok (.value (b32 (a ^^^ b))) w := by
 obtain ⟨dst, op, type, pos, after, guard⟩ := o
 subst ho
 unfold b32 at *
 have e := u32_xor_nat a.toNat b.toNat a.isLt b.isLt
 rw [BitVec.toNat_xor]
 go_simp
theorem qc0 (ho : o.op = .binOp .and t x y t') (hx : ρ x = b32 a) (hy : ρ y = b32 b) : (execOp ρ o).run Tryd.prog w = .ok (.value (b32 (a &&& b))) w := by
 obtain ⟨dst, op, type, pos, after, guard⟩ := o
 subst ho
 unfold b32 at *
 have e := u32_and_nat a.toNat b.toNat a.isLt b.isLt
 rw [BitVec.toNat_and]
 go_simp
theorem qde (ho : o.op = .binOp .or t x y t') (hx : ρ x = b32 a) (hy : ρ y = b32 b) : (execOp ρ o).run Tryd.prog w = .ok (.value (b32 (a ||| b))) w := by
 obtain ⟨dst, op, type, pos, after, guard⟩ := o
 subst ho
 unfold b32 at *
 have e := u32_or_nat a.toNat b.toNat a.isLt b.isLt
 rw [BitVec.toNat_or]
 go_simp
theorem qc1 (ho : o.op = .binOp .add t x y t') (hx : ρ x = b32 a) (hy : ρ y = b32 b) : (execOp ρ o).run Tryd.prog w = .ok (.value (b32 (a + b))) w := by
 obtain ⟨dst, op, type, pos, after, guard⟩ := o
 subst ho
 unfold b32 at *
 have e : IntKind.u32.wrap ((a.toNat : Int) + (b.toNat : Int)) = (((a + b).toNat : Nat) : Int) := by
  rw [wrap32, BitVec.toNat_add]; omega
 generalize (a + b).toNat = z at *
 go_simp
 try exact e
theorem qcz (ho : o.op = .unOp .xor t x) (hx : ρ x = b32 a) : (execOp ρ o).run Tryd.prog w = .ok (.value (b32 (~~~a))) w := by
 obtain ⟨dst, op, type, pos, after, guard⟩ := o
 subst ho
 unfold b32 at *
 have e : bits .xor .u32 4294967295 (a.toNat : Int) = (((~~~a).toNat : Nat) : Int) := by
  have h := u32_xor_nat 4294967295 a.toNat (by omega) a.isLt
  rw [show ((4294967295 : Nat) : Int) = (4294967295 : Int) from rfl] at h
  rw [h, show ~~~a = BitVec.allOnes 32 ^^^ a by rw [BitVec.allOnes_xor], BitVec.toNat_xor]
  rfl
 generalize (~~~a).toNat = z at *
 go_simp
 try exact e
end
end Go.Proofs.YtcgbgmbnagmohaaDoor
namespace Go.Proofs.YtcgbgmbnagmohaaDoor
open Go.RowKit
set_option maxRecDepth 20000
def b64 (x : BitVec 64) : Value := .int .u64 (x.toNat : Int)
def z64 (n : Nat) : List Value := (List.replicate n (0 : BitVec 64)).map b64
theorem wrap64 (n : Int) : IntKind.u64.wrap n = n % 18446744073709551616 := by simp [IntKind.wrap, IntKind.bits, IntKind.signed]
section
variable {w : World} {ρ : Operand → Value} {o : Oper} {t t' : TypeId} {x y : Operand} {a b : BitVec 64}
theorem qb6 (ho : o.op = .binOp .xor t x y t') (hx : ρ x = b64 a) (hy : ρ y = b64 b) : (execOp ρ o).run Tryd.prog w = .ok (.value (b64 (a ^^^ b))) w := by
 obtain ⟨dst, op, type, pos, after, guard⟩ := o
 subst ho
 unfold b64 at *
 have e := u64_xor_nat a.toNat b.toNat a.isLt b.isLt
 rw [BitVec.toNat_xor]
 go_simp
theorem qb2 (ho : o.op = .binOp .and t x y t') (hx : ρ x = b64 a) (hy : ρ y = b64 b) : (execOp ρ o).run Tryd.prog w = .ok (.value (b64 (a &&& b))) w := by
 obtain ⟨dst, op, type, pos, after, guard⟩ := o
 subst ho
 unfold b64 at *
 have e := u64_and_nat a.toNat b.toNat a.isLt b.isLt
 rw [BitVec.toNat_and]
 go_simp
theorem qcp (ho : o.op = .binOp .or t x y t') (hx : ρ x = b64 a) (hy : ρ y = b64 b) : (execOp ρ o).run Tryd.prog w = .ok (.value (b64 (a ||| b))) w := by
 obtain ⟨dst, op, type, pos, after, guard⟩ := o
 subst ho
 unfold b64 at *
 have e := u64_or_nat a.toNat b.toNat a.isLt b.isLt
 rw [BitVec.toNat_or]
 go_simp
theorem run_add64 (ho : o.op = .binOp .add t x y t') (hx : ρ x = b64 a) (hy : ρ y = b64 b) : (execOp ρ o).run Tryd.prog w = .ok (.value (b64 (a + b))) w := by
 obtain ⟨dst, op, type, pos, after, guard⟩ := o
 subst ho
 unfold b64 at *
 have e : IntKind.u64.wrap ((a.toNat : Int) + (b.toNat : Int)) = (((a + b).toNat : Nat) : Int) := by
  rw [wrap64, BitVec.toNat_add]; omega
 generalize (a + b).toNat = z at *
 go_simp
 try exact e
theorem qcs (ho : o.op = .unOp .xor t x) (hx : ρ x = b64 a) : (execOp ρ o).run Tryd.prog w = .ok (.value (b64 (~~~a))) w := by
 obtain ⟨dst, op, type, pos, after, guard⟩ := o
 subst ho
 unfold b64 at *
 have e : bits .xor .u64 18446744073709551615 (a.toNat : Int) = (((~~~a).toNat : Nat) : Int) := by
  have h := u64_xor_nat 18446744073709551615 a.toNat (by omega) a.isLt
  rw [show ((18446744073709551615 : Nat) : Int) = (18446744073709551615 : Int) from rfl] at h
  rw [h, show ~~~a = BitVec.allOnes 64 ^^^ a by rw [BitVec.allOnes_xor], BitVec.toNat_xor]
  rfl
 generalize (~~~a).toNat = z at *
 go_simp
 try exact e
theorem run_shr64 {n : Nat} (ho : o.op = .binOp .shr t x y t') (hx : ρ x = b64 a) (hy : ρ y = .int .u64 (n : Int)) (hn : n ≤ 64) : (execOp ρ o).run Tryd.prog w = .ok (.value (b64 (a >>> n))) w := by
 obtain ⟨dst, op, type, pos, after, guard⟩ := o
 subst ho
 unfold b64 at *
 have e : (a.toNat : Int) / 2 ^ n = (((a >>> n).toNat : Nat) : Int) := by
  rw [BitVec.toNat_ushiftRight, Nat.shiftRight_eq_div_pow]; simp
 generalize (a >>> n).toNat = z at *
 have hn0 : (0 : Int) ≤ (n : Int) := by omega
 go_simp
 try exact e
theorem run_shl64 {n : Nat} (ho : o.op = .binOp .shl t x y t') (hx : ρ x = b64 a) (hy : ρ y = .int .u64 (n : Int)) (hn : n ≤ 64) : (execOp ρ o).run Tryd.prog w = .ok (.value (b64 (a <<< n))) w := by
 obtain ⟨dst, op, type, pos, after, guard⟩ := o
 subst ho
 unfold b64 at *
 have e : IntKind.u64.wrap ((a.toNat : Int) * 2 ^ n) = (((a <<< n).toNat : Nat) : Int) := by
  rw [wrap64, BitVec.toNat_shiftLeft, Nat.shiftLeft_eq]; simp
 generalize (a <<< n).toNat = z at *
 have hn0 : (0 : Int) ≤ (n : Int) := by omega
 go_simp
 try exact e
theorem qbu {g i : Nat} {v : Value} (ho : o.op = .load 64 x) (hx : ρ x = .pointer (some ⟨g, i, none⟩)) (hc : w.cell? ⟨g, i, none⟩ = some v) : (execOp ρ o).run Tryd.prog w = .ok (.value v) w := by
 obtain ⟨dst, op, type, pos, after, guard⟩ := o
 subst ho
 go_simp
theorem run_st64 {g i : Nat} {v : Value} (ho : o.op = .store 64 x y) (hx : ρ x = .pointer (some ⟨g, i, none⟩)) (hy : ρ y = b64 a) (hc : w.cell? ⟨g, i, none⟩ = some v) (hf : w.frozen? ⟨g, i, none⟩ = false) : (execOp ρ o).run Tryd.prog w = .ok .skip (w.setCell ⟨g, i, none⟩ (b64 a)) := by
 obtain ⟨dst, op, type, pos, after, guard⟩ := o
 subst ho
 unfold b64 at *
 go_simp
end
end Go.Proofs.YtcgbgmbnagmohaaDoor
namespace Go.Proofs.YtcgbgmbnagmohaaDoor
open Go.RowKit
set_option maxRecDepth 20000
def b8 (x : BitVec 8) : Value := .int .u8 (x.toNat : Int)
def z8 (n : Nat) : List Value := (List.replicate n (0 : BitVec 8)).map b8
theorem wrap8 (n : Int) : IntKind.u8.wrap n = n % 256 := by simp [IntKind.wrap, IntKind.bits, IntKind.signed]
section
variable {w : World} {ρ : Operand → Value} {o : Oper} {t t' : TypeId} {x y : Operand} {a b : BitVec 8}
theorem qdd (ho : o.op = .binOp .xor t x y t') (hx : ρ x = b8 a) (hy : ρ y = b8 b) : (execOp ρ o).run Tryd.prog w = .ok (.value (b8 (a ^^^ b))) w := by
 obtain ⟨dst, op, type, pos, after, guard⟩ := o
 subst ho
 unfold b8 at *
 have e := u8_xor_nat a.toNat b.toNat a.isLt b.isLt
 rw [BitVec.toNat_xor]
 go_simp
theorem qcw (ho : o.op = .binOp .and t x y t') (hx : ρ x = b8 a) (hy : ρ y = b8 b) : (execOp ρ o).run Tryd.prog w = .ok (.value (b8 (a &&& b))) w := by
 obtain ⟨dst, op, type, pos, after, guard⟩ := o
 subst ho
 unfold b8 at *
 have e := u8_and_nat a.toNat b.toNat a.isLt b.isLt
 rw [BitVec.toNat_and]
 go_simp
theorem qdj (ho : o.op = .binOp .or t x y t') (hx : ρ x = b8 a) (hy : ρ y = b8 b) : (execOp ρ o).run Tryd.prog w = .ok (.value (b8 (a ||| b))) w := by
 obtain ⟨dst, op, type, pos, after, guard⟩ := o
 subst ho
 unfold b8 at *
 have e := u8_or_nat a.toNat b.toNat a.isLt b.isLt
 rw [BitVec.toNat_or]
 go_simp
theorem qdi (ho : o.op = .binOp .add t x y t') (hx : ρ x = b8 a) (hy : ρ y = b8 b) : (execOp ρ o).run Tryd.prog w = .ok (.value (b8 (a + b))) w := by
 obtain ⟨dst, op, type, pos, after, guard⟩ := o
 subst ho
 unfold b8 at *
 have e : IntKind.u8.wrap ((a.toNat : Int) + (b.toNat : Int)) = (((a + b).toNat : Nat) : Int) := by
  rw [wrap8, BitVec.toNat_add]; omega
 generalize (a + b).toNat = z at *
 go_simp
 try exact e
theorem qdg (ho : o.op = .unOp .xor t x) (hx : ρ x = b8 a) : (execOp ρ o).run Tryd.prog w = .ok (.value (b8 (~~~a))) w := by
 obtain ⟨dst, op, type, pos, after, guard⟩ := o
 subst ho
 unfold b8 at *
 have e : bits .xor .u8 255 (a.toNat : Int) = (((~~~a).toNat : Nat) : Int) := by
  have h := u8_xor_nat 255 a.toNat (by omega) a.isLt
  rw [show ((255 : Nat) : Int) = (255 : Int) from rfl] at h
  rw [h, show ~~~a = BitVec.allOnes 8 ^^^ a by rw [BitVec.allOnes_xor], BitVec.toNat_xor]
  rfl
 generalize (~~~a).toNat = z at *
 go_simp
 try exact e
theorem run_shr8 {n : Nat} (ho : o.op = .binOp .shr t x y t') (hx : ρ x = b8 a) (hy : ρ y = .int .u64 (n : Int)) (hn : n ≤ 8) : (execOp ρ o).run Tryd.prog w = .ok (.value (b8 (a >>> n))) w := by
 obtain ⟨dst, op, type, pos, after, guard⟩ := o
 subst ho
 unfold b8 at *
 have e : (a.toNat : Int) / 2 ^ n = (((a >>> n).toNat : Nat) : Int) := by
  rw [BitVec.toNat_ushiftRight, Nat.shiftRight_eq_div_pow]; simp
 generalize (a >>> n).toNat = z at *
 have hn0 : (0 : Int) ≤ (n : Int) := by omega
 go_simp
 try exact e
theorem run_ld8 {g i : Nat} {v : Value} (ho : o.op = .load 5 x) (hx : ρ x = .pointer (some ⟨g, i, none⟩)) (hc : w.cell? ⟨g, i, none⟩ = some v) : (execOp ρ o).run Tryd.prog w = .ok (.value v) w := by
 obtain ⟨dst, op, type, pos, after, guard⟩ := o
 subst ho
 go_simp
theorem run_st8 {g i : Nat} {v : Value} (ho : o.op = .store 5 x y) (hx : ρ x = .pointer (some ⟨g, i, none⟩)) (hy : ρ y = b8 a) (hc : w.cell? ⟨g, i, none⟩ = some v) (hf : w.frozen? ⟨g, i, none⟩ = false) : (execOp ρ o).run Tryd.prog w = .ok .skip (w.setCell ⟨g, i, none⟩ (b8 a)) := by
 obtain ⟨dst, op, type, pos, after, guard⟩ := o
 subst ho
 unfold b8 at *
 go_simp
end
end Go.Proofs.YtcgbgmbnagmohaaDoor
namespace Go.Proofs.YtcgbgmbnagmohaaDoor
open Go.RowKit
set_option maxRecDepth 20000
section
variable {w : World} {ρ : Operand → Value} {o : Oper} {s d : TypeId} {x y : Operand}
theorem run_cv {k k' k'' : IntKind} {n : Int} (ho : o.op = .convert s d x) (hs : Tryd.prog.underlying s = some (.int k')) (hd : Tryd.prog.underlying d = some (.int k)) (hx : ρ x = .int k'' n) : (execOp ρ o).run Tryd.prog w = .ok (.value (.int k (k.wrap n))) w := by
 unfold execOp
 simp only [ho, hx, convert, Sem.run_bind, run_underlying hs, run_underlying hd, Result.andThen_ok]
 rfl
theorem qch {a : BitVec 64} (ho : o.op = .convert 64 119 x) (hx : ρ x = b64 a) : (execOp ρ o).run Tryd.prog w = .ok (.value (b32 (a.setWidth 32))) w := by
 rw [run_cv ho Tryd.underlying64 Tryd.underlying119 hx]
 have e : IntKind.u32.wrap (a.toNat : Int) = ((a.setWidth 32).toNat : Int) := by rw [wrap32, BitVec.toNat_setWidth]; omega
 rw [e]; rfl
theorem qcm {a : BitVec 8} (ho : o.op = .convert 5 119 x) (hx : ρ x = b8 a) : (execOp ρ o).run Tryd.prog w = .ok (.value (b32 (a.setWidth 32))) w := by
 rw [run_cv ho Tryd.underlying5 Tryd.underlying119 hx]
 have e : IntKind.u32.wrap (a.toNat : Int) = ((a.setWidth 32).toNat : Int) := by rw [wrap32, BitVec.toNat_setWidth]; omega
 rw [e]; rfl
theorem qce {a : BitVec 8} (ho : o.op = .convert 5 64 x) (hx : ρ x = b8 a) : (execOp ρ o).run Tryd.prog w = .ok (.value (b64 (a.setWidth 64))) w := by
 rw [run_cv ho Tryd.underlying5 Tryd.underlying64 hx]
 have e : IntKind.u64.wrap (a.toNat : Int) = ((a.setWidth 64).toNat : Int) := by rw [wrap64, BitVec.toNat_setWidth]; omega
 rw [e]; rfl
theorem qcn {a : BitVec 32} (ho : o.op = .convert 119 5 x) (hx : ρ x = b32 a) : (execOp ρ o).run Tryd.prog w = .ok (.value (b8 (a.setWidth 8))) w := by
 rw [run_cv ho Tryd.underlying119 Tryd.underlying5 hx]
 have e : IntKind.u8.wrap (a.toNat : Int) = ((a.setWidth 8).toNat : Int) := by rw [wrap8, BitVec.toNat_setWidth]; omega
 rw [e]; rfl
theorem qcf {a : BitVec 64} (ho : o.op = .convert 64 5 x) (hx : ρ x = b64 a) : (execOp ρ o).run Tryd.prog w = .ok (.value (b8 (a.setWidth 8))) w := by
 rw [run_cv ho Tryd.underlying64 Tryd.underlying5 hx]
 have e : IntKind.u8.wrap (a.toNat : Int) = ((a.setWidth 8).toNat : Int) := by rw [wrap8, BitVec.toNat_setWidth]; omega
 rw [e]; rfl
theorem run_cvi_8 {n : Nat} (ho : o.op = .convert 3 5 x) (hx : ρ x = .int .i64 (n : Int)) : (execOp ρ o).run Tryd.prog w = .ok (.value (b8 (BitVec.ofNat 8 n))) w := by
 rw [run_cv ho Tryd.underlying3 Tryd.underlying5 hx]
 have e : IntKind.u8.wrap (n : Int) = ((BitVec.ofNat 8 n).toNat : Int) := by rw [wrap8, BitVec.toNat_ofNat]; omega
 rw [e]; rfl
theorem run_ixa {t e : TypeId} {n g i off : Nat} {k : IntKind} (ho : o.op = .indexAddr t x y) (ht : Tryd.prog.underlying t = some (.array n e)) (hs : (Tryd.prog.info? e).map (·.size) = some 1) (hx : ρ x = .pointer (some ⟨g, off, none⟩)) (hy : ρ y = .int k (i : Int)) (hi : i < n) : (execOp ρ o).run Tryd.prog w = .ok (.value (.pointer (some ⟨g, off + i, none⟩))) w := by
 have el : Tryd.prog.elem t = e := by unfold Program.elem; rw [ht]
 have al : Tryd.prog.arrayLen t = n := by unfold Program.arrayLen; rw [ht]
 have h := run_indexAt_array (P := Tryd.prog) (w := w) t ⟨g, off, none⟩ k (i : Int) (by rw [al, el]; exact ht)
 rw [al, el, if_pos ⟨by omega, by omega⟩] at h
 obtain ⟨inf, h1, h2⟩ := Option.map_eq_some_iff.1 hs
 have hz : (sizeOf e).run Tryd.prog w = .ok 1 w := by simp [sizeOf, typeInfo, go_sem, h1, h2]
 rw [hz] at h
 unfold execOp
 simp only [ho, hx, hy, Sem.run_bind, h]
 simp [go_sem, Addr.add_mid]
theorem qbk {t e : TypeId} {n g i : Nat} {k : IntKind} (ho : o.op = .indexAddr t x y) (ht : Tryd.prog.underlying t = some (.array n e)) (hs : (Tryd.prog.info? e).map (·.size) = some 1) (hx : ρ x = .pointer (some ⟨g, 0, none⟩)) (hy : ρ y = .int k (i : Int)) (hi : i < n) : (execOp ρ o).run Tryd.prog w = .ok (.value (.pointer (some ⟨g, i, none⟩))) w := by
 rw [run_ixa ho ht hs hx hy hi, Nat.zero_add]
theorem qda {t e : TypeId} {g i off n c : Nat} {k : IntKind} (ho : o.op = .indexAddr t x y) (ht : Tryd.prog.underlying t = some (.slice e)) (hs : (Tryd.prog.info? e).map (·.size) = some 1) (hx : ρ x = .slice (some ⟨g, off, none⟩) n c) (hy : ρ y = .int k (i : Int)) (hi : i < n) : (execOp ρ o).run Tryd.prog w = .ok (.value (.pointer (some ⟨g, off + i, none⟩))) w := by
 have el : Tryd.prog.elem t = e := by unfold Program.elem; rw [ht]
 have h := run_indexAt_slice (P := Tryd.prog) (w := w) t ⟨g, off, none⟩ n c k (i : Int) (by rw [el]; exact ht)
 rw [el, if_pos ⟨by omega, by omega⟩] at h
 obtain ⟨inf, h1, h2⟩ := Option.map_eq_some_iff.1 hs
 have hz : (sizeOf e).run Tryd.prog w = .ok 1 w := by simp [sizeOf, typeInfo, go_sem, h1, h2]
 rw [hz] at h
 unfold execOp
 simp only [ho, hx, hy, Sem.run_bind, h]
 simp [go_sem, Addr.add_mid]
theorem qbe {t t' : TypeId} {ao : Option Addr} {n c : Nat} (ho : o.op = .call { callee := .builtin .len, args := #[x], argTypes := #[t] }) (ht : Tryd.prog.underlying t = some (.slice t')) (hx : ρ x = .slice ao n c) : (execOp ρ o).run Tryd.prog w = .ok (.value (.int .i64 (n : Int))) w := by
 obtain ⟨dst, op, type, pos, after, guard⟩ := o
 subst ho
 have el : Tryd.prog.elem t = t' := by unfold Program.elem; rw [ht]
 have ht' : Tryd.prog.underlying t = some (.slice (Tryd.prog.elem t)) := by rw [el]; exact ht
 go_simp
theorem run_ixv {t e : TypeId} {n i : Nat} {k : IntKind} {vs : List Value} {v : Value} (ho : o.op = .index t x y) (ht : Tryd.prog.underlying t = some (.array n e)) (hs : (Tryd.prog.info? e).map (·.size) = some 1) (hg : (isAgg e).run Tryd.prog w = .ok false w) (hx : ρ x = .agg vs.toArray) (hy : ρ y = .int k (i : Int)) (hi : i < n) (hv : vs[i]? = some v) : (execOp ρ o).run Tryd.prog w = .ok (.value v) w := by
 obtain ⟨inf, h1, h2⟩ := Option.map_eq_some_iff.1 hs
 have hz : ∀ w : World, (sizeOf e).run Tryd.prog w = .ok 1 w := fun w => by simp [sizeOf, typeInfo, go_sem, h1, h2]
 unfold execOp
 simp only [ho, hx, hy, Sem.run_bind, Instr.index, run_underlying ht, Result.andThen_ok]
 go_simp
theorem qat {t : TypeId} {vs : List Value} (ho : o.op = .alloc t) (hz : (Tryd.prog.info? t).map (·.zero) = some (some (.agg vs.toArray))) : (execOp ρ o).run Tryd.prog w = .ok (.value (.pointer (some ⟨w.heap.size, 0, none⟩))) (w.alloc (.cells vs.toArray t)) := by
 obtain ⟨inf, h1, h2⟩ := Option.map_eq_some_iff.1 hz
 unfold execOp
 simp only [ho]
 simp [Instr.alloc, zeroValue, typeInfo, newVar, go_sem, h1, h2]
theorem run_box {t : TypeId} {vs : Array Value} (ho : o.op = .box t x) (hx : ρ x = .agg vs) : (execOp ρ o).run Tryd.prog w = .ok (.value (.pointer (some ⟨w.heap.size, 0, none⟩))) (w.alloc (.cells vs t)) := by
 unfold execOp
 simp only [ho, hx]
 simp [Instr.box, newVar, go_sem]
theorem run_ldA {t e : TypeId} {n g : Nat} {vs : List Value} (ho : o.op = .load t x) (ht : Tryd.prog.underlying t = some (.array n e)) (hi : (Tryd.prog.info? t).map (·.size) = some vs.length) (hx : ρ x = .pointer (some ⟨g, 0, none⟩)) (hr : w.rangeAt g 0 vs) : (execOp ρ o).run Tryd.prog w = .ok (.value (.agg vs.toArray)) w := by
 unfold execOp
 simp only [ho, hx, Sem.run_bind, run_loadAt_mid w g 0 t vs (.array n e) hr ht rfl hi, Result.andThen_ok, Sem.run_pure]
theorem run_stA {t : TypeId} {g : Nat} {vs : List Value} (ho : o.op = .store t x y) (hi : (Tryd.prog.info? t).map (·.size) = some vs.length) (hx : ρ x = .pointer (some ⟨g, 0, none⟩)) (hy : ρ y = .agg vs.toArray) (h1 : vs.toArray.all (·.oneCell') = true) (hr : w.there g 0 vs.length) : (execOp ρ o).run Tryd.prog w = .ok .skip (w.setCells g 0 vs) := by
 unfold execOp
 simp only [ho, hx, hy, Sem.run_bind, run_storeAt_mid w g 0 t vs.toArray (by simpa using hr) (by simpa using hi) h1, Result.andThen_ok, Sem.run_pure]
end
structure Arr (g : Nat) (vs : List Value) (u : World) : Prop where
 lt : g < u.heap.size
 c : ∀ i v, vs[i]? = some v → u.cell? ⟨g, i, none⟩ = some v
 f : ∀ i, u.frozen? ⟨g, i, none⟩ = false
theorem Arr.new (w : World) (vs : List Value) (t : TypeId) : Arr w.heap.size vs (w.alloc (.cells vs.toArray t)) := by
 refine ⟨by simp, fun i v hi => ?_, fun i => by simp [go_sem]⟩
 rw [World.cell?_alloc_new]
 simpa using hi
theorem Arr.at {w : World} {n : Nat} (h : w.heap.size = n) (vs : List Value) (t : TypeId) : Arr n vs (w.alloc (.cells vs.toArray t)) := by subst h; exact Arr.new w vs t
theorem Arr.below {b : Nat} {l : List Value} {u u' : World} (h : Arr b l u) (hb : Below u.heap.size u u') : Arr b l u' :=
 ⟨Nat.lt_of_lt_of_le h.lt hb.size, fun i v hi => by rw [hb.cell (p := ⟨b, i, none⟩) h.lt]; exact h.c i v hi, fun i => by rw [hb.frozen (p := ⟨b, i, none⟩) h.lt]; exact h.f i⟩
theorem Arr.set {b : Nat} {l : List Value} {u : World} (h : Arr b l u) {i : Nat} (hi : i < l.length) (v : Value) : Arr b (l.set i v) (u.setCell ⟨b, i, none⟩ v) := by
 refine ⟨by simpa using h.lt, fun j x hj => ?_, fun j => by simpa [go_sem] using h.f j⟩
 by_cases e : i = j
 ·subst e
  rw [World.cell?_setCell_same' _ _ _ (by rw [h.c i _ (List.getElem?_eq_getElem hi)]; rfl)]
  rw [List.getElem?_set_self hi] at hj
  exact hj
 ·rw [World.cell?_setCell_other _ _ _ _ (by intro he; injection he; contradiction)]
  rw [List.getElem?_set_ne e] at hj
  exact h.c j x hj
theorem Arr.far {b c : Nat} {l : List Value} {u : World} (h : Arr b l u) (hne : c ≠ b) (o : Nat) (v : Value) : Arr b l (u.setCell ⟨c, o, none⟩ v) :=
 ⟨by simpa using h.lt, fun i v hi => by rw [World.cell?_setCell_far _ ⟨c, _, none⟩ ⟨b, _, none⟩ _ hne]; exact h.c i v hi, fun i => by simpa [go_sem] using h.f i⟩
theorem Arr.range {b : Nat} {l : List Value} {u : World} (h : Arr b l u) : u.rangeAt b 0 l := fun j v hv => by
 rw [Nat.zero_add]; exact h.c j v hv
theorem Arr.there {b : Nat} {l : List Value} {u : World} (h : Arr b l u) : u.there b 0 l.length := fun j hj => by
 rw [Nat.zero_add, h.c j _ (List.getElem?_eq_getElem hj)]
 exact ⟨rfl, h.f j⟩
theorem qct (g b i : Nat) : ∀ (vs : List Value) (o : Nat) (u : World), (u.setCells g o vs).frozen? ⟨b, i, none⟩ = u.frozen? ⟨b, i, none⟩
 | [], _, _ => rfl
 | v :: vs, o, u => (qct g b i vs (o + 1) (u.setCell ⟨g, o, none⟩ v)).trans (by simp [go_sem])
theorem qdr (g : Nat) : ∀ (vs : List Value) (o : Nat) (u : World), (u.setCells g o vs).heap.size = u.heap.size
 | [], _, _ => rfl
 | v :: vs, o, u => (qdr g vs (o + 1) (u.setCell ⟨g, o, none⟩ v)).trans (by simp)
theorem cell_setCells (g b i : Nat) (h : g ≠ b) : ∀ (vs : List Value) (o : Nat) (u : World), (u.setCells g o vs).cell? ⟨b, i, none⟩ = u.cell? ⟨b, i, none⟩
 | [], _, _ => rfl
 | v :: vs, o, u => (cell_setCells g b i h vs (o + 1) (u.setCell ⟨g, o, none⟩ v)).trans (World.cell?_setCell_far _ ⟨g, _, none⟩ ⟨b, _, none⟩ _ h)
theorem Arr.put {b : Nat} {l l' : List Value} {u : World} (h : Arr b l u) (hl : l'.length = l.length) : Arr b l' (u.setCells b 0 l') := by
 refine ⟨by rw [qdr]; exact h.lt, fun i v hi => ?_, fun i => by rw [qct]; exact h.f i⟩
 have := World.rangeAt_setCells_same u b 0 l' (by rw [hl]; exact h.there) i v hi
 rwa [Nat.zero_add] at this
theorem Arr.farAll {b c : Nat} {l : List Value} {u : World} (h : Arr b l u) (hne : c ≠ b) (o : Nat) (vs : List Value) : Arr b l (u.setCells c o vs) :=
 ⟨by rw [qdr]; exact h.lt, fun i v hi => by rw [cell_setCells c b i hne]; exact h.c i v hi, fun i => by rw [qct]; exact h.f i⟩
theorem qa1 {B : Nat} {a : World} {g : Nat} (hg : B ≤ g) : ∀ (vs : List Value) (o : Nat) {w : World}, Below B a w → Below B a (w.setCells g o vs)
 | [], _, _, h => h
 | v :: vs, o, _, h => qa1 hg vs (o + 1) (h.setCell (p := ⟨g, o, none⟩) hg v)
theorem one_map {α : Type} (f : α → Value) (hf : ∀ x, (f x).oneCell' = true) (l : List α) : (l.map f).toArray.all (·.oneCell') = true := all_oneCell_toArray fun v hv => by
 rw [List.mem_map] at hv
 obtain ⟨x, _, rfl⟩ := hv
 exact hf x
theorem results_cell {fn : Func} {p : Tmp} {ty : TypeId} (h : fn.results = #[.cell p ty]) (tmps : Array Value) (P : Program) (w : World) :
  (results fn tmps).run P w = ((asAddr (tmps.getD p undef)).run P w).andThen fun a w₁ => (loadVar ty a).run P w₁ := by
 simp only [results, h]
 simp [Sem.run_bind, Result.andThen]
theorem results_arr {fn : Func} {p : Tmp} {t e : TypeId} {n : Nat} (h : fn.results = #[.cell p t]) {tmps : Array Value} {w : World} {g : Nat} {l : List Value} (ht : tmps.getD p undef = .pointer (some ⟨g, 0, none⟩)) (hu : Tryd.prog.underlying t = some (.array n e)) (hl : (Tryd.prog.info? t).map (·.size) = some l.length) (hr : w.rangeAt g 0 l) :
  (results fn tmps).run Tryd.prog w = .ok (.agg l.toArray) w := by
 rw [results_cell h, ht]
 have e := run_loadVar_mid (P := Tryd.prog) w g 0 t l (.array n e) hr hu rfl hl
 simp only [asAddr, Sem.run_pure, Result.andThen_ok, e]
theorem Arr.drew {b : Nat} {l : List Value} {u : World} (h : Arr b l u) : Arr b l u.drew := h.below (Below.refl _ _).drew
end Go.Proofs.YtcgbgmbnagmohaaDoor
