/- Operations on words of 64 bits and on arrays of them, one at a time. -/
import Derived.Test.YtefaihdhnnldmaaDoorScW
import Derived.Test.YtefaihdhnnldmaaDoorFlB
import Derived.Test.YtefaihdhnnldmaaDoorWords
import Derived.Laws.IdiomCopy
import Derived.Laws.Slices
import Derived.Laws.Cover3
namespace Go.Proofs.YtefaihdhnnldmaaDoor
open Go.RowKit
set_option maxRecDepth 20000

theorem one64s (l : List (BitVec 64)) : (l.map b64).toArray.all (·.oneCell') = true :=
  all_oneCell_toArray fun v hv => by rw [List.mem_map] at hv; obtain ⟨x, _, rfl⟩ := hv; rfl
theorem one64v (l : List (BitVec 64)) : ∀ v ∈ l.map b64, v.oneCell' = true := fun v hv => by rw [List.mem_map] at hv; obtain ⟨x, _, rfl⟩ := hv; rfl
theorem szS4 {l : List (BitVec 64)} (h : l.length = 4) : (Tryd.prog.info? 48).map (·.size) = some (l.map b64).length := by rw [List.length_map, h]; kernel_rfl
theorem szS8 {l : List (BitVec 64)} (h : l.length = 8) : (Tryd.prog.info? 50).map (·.size) = some (l.map b64).length := by rw [List.length_map, h]; kernel_rfl
theorem z64_len (n : Nat) : (z64 n).length = n := by unfold z64; rw [List.length_map, List.length_replicate]
section
variable {w : World} {ρ : Operand → Value} {o : Oper} {t t' : TypeId} {x y z : Operand} {a b c : BitVec 64}
/-- a[:], a[l:] and a[:h] of an array. -/
theorem run_slW {e : TypeId} {n g f : Nat} (ho : o.op = .slice t x none none none) (ht : Tryd.prog.underlying t = some (.array n e)) (hs : (Tryd.prog.info? e).map (·.size) = some 1) (hx : ρ x = .pointer (some ⟨g, f, none⟩)) : (execOp ρ o).run Tryd.prog w = .ok (.value (.slice (some ⟨g, f, none⟩) n n)) w := by
  have el : Tryd.prog.elem t = e := by unfold Program.elem; rw [ht]
  have al : Tryd.prog.arrayLen t = n := by unfold Program.arrayLen; rw [ht]
  have h1 := run_sliceAt_array_all (P := Tryd.prog) w t ⟨g, f, none⟩ (by rw [al, el]; exact ht)
  obtain ⟨inf, hi, h2⟩ := Option.map_eq_some_iff.1 hs
  have hz : (sizeOf e).run Tryd.prog w = .ok 1 w := by simp [sizeOf, typeInfo, go_sem, hi, h2]
  rw [el, hz, al] at h1
  unfold execOp
  simp only [ho, hx, Option.map_none, Sem.run_bind, h1]
  simp [slicedAt, Addr.add_mid]
theorem run_slWl {e : TypeId} {n g f l : Nat} {k : IntKind} (ho : o.op = .slice t x (some y) none none) (ht : Tryd.prog.underlying t = some (.array n e)) (hs : (Tryd.prog.info? e).map (·.size) = some 1) (hx : ρ x = .pointer (some ⟨g, f, none⟩)) (hy : ρ y = .int k (l : Int)) (hl : l < n) : (execOp ρ o).run Tryd.prog w = .ok (.value (.slice (some ⟨g, f + l, none⟩) (n - l) (n - l))) w := by
  have el : Tryd.prog.elem t = e := by unfold Program.elem; rw [ht]
  have al : Tryd.prog.arrayLen t = n := by unfold Program.arrayLen; rw [ht]
  have h1 := run_sliceAt_array_l (P := Tryd.prog) w t ⟨g, f, none⟩ (by rw [al, el]; exact ht) k (l : Int) (by omega) (by rw [al]; omega)
  obtain ⟨inf, hi, h2⟩ := Option.map_eq_some_iff.1 hs
  have hz : (sizeOf e).run Tryd.prog w = .ok 1 w := by simp [sizeOf, typeInfo, go_sem, hi, h2]
  rw [el, hz, al] at h1
  unfold execOp
  simp only [ho, hx, hy, Option.map_none, Option.map_some, Sem.run_bind, h1]
  simp [slicedAt, Addr.add_mid, show ¬ n = l by omega]
theorem run_slWh {e : TypeId} {n g f h : Nat} {k : IntKind} (ho : o.op = .slice t x none (some y) none) (ht : Tryd.prog.underlying t = some (.array n e)) (hs : (Tryd.prog.info? e).map (·.size) = some 1) (hx : ρ x = .pointer (some ⟨g, f, none⟩)) (hy : ρ y = .int k (h : Int)) (hh : h ≤ n) : (execOp ρ o).run Tryd.prog w = .ok (.value (.slice (some ⟨g, f, none⟩) h n)) w := by
  have el : Tryd.prog.elem t = e := by unfold Program.elem; rw [ht]
  have al : Tryd.prog.arrayLen t = n := by unfold Program.arrayLen; rw [ht]
  have h1 := run_sliceAt_array_h (P := Tryd.prog) w t ⟨g, f, none⟩ (by rw [al, el]; exact ht) k (h : Int) (by omega) (by rw [al]; omega)
  obtain ⟨inf, hi, h2⟩ := Option.map_eq_some_iff.1 hs
  have hz : (sizeOf e).run Tryd.prog w = .ok 1 w := by simp [sizeOf, typeInfo, go_sem, hi, h2]
  rw [el, hz, al] at h1
  unfold execOp
  simp only [ho, hx, hy, Option.map_none, Option.map_some, Sem.run_bind, h1]
  simp [slicedAt, Addr.add_mid]
/-- A slice as an array's place. -/
theorem run_s2a {e : TypeId} {n m c : Nat} {ad : Addr} (ho : o.op = .sliceToArrayPointer t x) (ht : Tryd.prog.underlying t = some (.array n e)) (hx : ρ x = .slice (some ad) m c) (hn : n ≤ m) : (execOp ρ o).run Tryd.prog w = .ok (.value (.pointer (some ad))) w := by
  unfold execOp
  simp only [ho, hx, Sem.run_bind, run_arrayAt (P := Tryd.prog) w t e n (some ad) m c ht hn]
  simp [go_sem]
theorem run_cpyV {e g f n c h f' m c' : Nat} {vs l : List Value} (ho : o.op = .call { callee := .builtin .copy, args := #[x, y], argTypes := #[t, t'] }) (ht : Tryd.prog.underlying t = some (.slice e)) (hs : (Tryd.prog.info? e).map (·.size) = some 1) (hx : ρ x = .slice (some ⟨g, f, none⟩) n c) (hy : ρ y = .slice (some ⟨h, f', none⟩) m c') (hv : w.rangeAt h f' vs) (hl : vs.length = Nat.min m n) (hA : Arr g l w) (hm : f + vs.length ≤ l.length) (h1 : ∀ v ∈ vs, v.oneCell' = true) :
    (execOp ρ o).run Tryd.prog w = .ok (.value (.int .i64 (vs.length : Int))) (w.setCells g f vs) := by
  have h := run_copy_cells (P := Tryd.prog) w t t' o.type e g f n c ⟨h, f', none⟩ m c' vs ht hs hl (fun j v hj => by rw [Addr.add_mid]; exact hv j v hj) (fun j hj => by rw [hA.c (f + j) _ (List.getElem?_eq_getElem (by omega))]; rfl) (fun j _ => hA.f _) h1
  unfold execOp
  simp [ho, resolve, invoke, builtin, hx, hy, h, Result.andThen, goInt]
theorem run_shrW {n : Nat} (ho : o.op = .binOp .shr t x y t') (hx : ρ x = b64 a) (hy : ρ y = .int .i64 (n : Int)) (hn : n ≤ 64) : (execOp ρ o).run Tryd.prog w = .ok (.value (b64 (a >>> n))) w := by
  obtain ⟨dst, op, type, pos, after, guard⟩ := o
  subst ho
  unfold b64 at *
  have e : (a.toNat : Int) / 2 ^ n = (((a >>> n).toNat : Nat) : Int) := by
    rw [BitVec.toNat_ushiftRight, Nat.shiftRight_eq_div_pow]; simp
  generalize (a >>> n).toNat = z at *
  have hn0 : (0 : Int) ≤ (n : Int) := by omega
  go_simp
  try exact e
theorem run_shlW {n : Nat} (ho : o.op = .binOp .shl t x y t') (hx : ρ x = b64 a) (hy : ρ y = .int .i64 (n : Int)) (hn : n ≤ 64) : (execOp ρ o).run Tryd.prog w = .ok (.value (b64 (a <<< n))) w := by
  obtain ⟨dst, op, type, pos, after, guard⟩ := o
  subst ho
  unfold b64 at *
  have e : IntKind.u64.wrap ((a.toNat : Int) * 2 ^ n) = (((a <<< n).toNat : Nat) : Int) := by
    rw [wrap64, BitVec.toNat_shiftLeft, Nat.shiftLeft_eq]; simp
  generalize (a <<< n).toNat = z at *
  have hn0 : (0 : Int) ≤ (n : Int) := by omega
  go_simp
  try exact e
theorem run_negW (ho : o.op = .unOp .neg t x) (hx : ρ x = b64 a) : (execOp ρ o).run Tryd.prog w = .ok (.value (b64 (-a))) w := by
  obtain ⟨dst, op, type, pos, after, guard⟩ := o
  subst ho
  unfold b64 at *
  have e : IntKind.u64.wrap (-(a.toNat : Int)) = (((-a).toNat : Nat) : Int) := by
    rw [wrap64, BitVec.toNat_neg]; have := a.isLt; omega
  generalize (-a).toNat = z at *
  go_simp
  try exact e
theorem run_andnW (ho : o.op = .binOp .andNot t x y t') (hx : ρ x = b64 a) (hy : ρ y = b64 b) : (execOp ρ o).run Tryd.prog w = .ok (.value (b64 (a &&& ~~~b))) w := by
  obtain ⟨dst, op, type, pos, after, guard⟩ := o
  subst ho
  unfold b64 at *
  have e := u64_andNot_nat a.toNat b.toNat a.isLt b.isLt
  have e2 : (a &&& ~~~b).toNat = a.toNat &&& (18446744073709551615 - b.toNat) := by
    rw [BitVec.toNat_and, BitVec.toNat_not]
  rw [← e2] at e
  generalize (a &&& ~~~b).toNat = z at *
  go_simp
  try exact e
theorem run_eqW {r : Bool} (ho : o.op = .binOp .eql t x y t') (hx : ρ x = b64 a) (hy : ρ y = b64 b) (h : decide (a = b) = r) : (execOp ρ o).run Tryd.prog w = .ok (.value (.bool r)) w := by
  rw [run_eqlb (c := r) ho hx hy (by
    rw [← h]
    by_cases e : a = b
    · subst e; simp
    · have : ¬ a.toNat = b.toNat := fun h => e (BitVec.eq_of_toNat_eq h)
      simp only [e, decide_false, beq_eq_false_iff_ne]; omega)]
theorem run_bldW0 {cells : Array Value} (ho : o.op = .build t #[]) (h : Tryd.prog.built t [] = some cells) : (execOp ρ o).run Tryd.prog w = .ok (.value (.agg cells)) w := run_bld ho (by simpa using h)
theorem run_xtr {vs : Array Value} {i : Nat} {v : Value} (ho : o.op = .extract x i) (hx : ρ x = .tuple vs) (hv : vs[i]? = some v) : (execOp ρ o).run Tryd.prog w = .ok (.value v) w := by
  obtain ⟨dst, op, type, pos, after, guard⟩ := o
  subst ho
  go_simp
theorem run_subW {ts : Array TypeId} (hc : c.toNat ≤ 1) (ho : o.op = .call { callee := .value (.func 47), args := #[x, y, z], argTypes := ts }) (hf : ρ (.func 47) = .func (.func 47) #[] #[]) (hx : ρ x = b64 a) (hy : ρ y = b64 b) (hz : ρ z = b64 c) : (execOp ρ o).run Tryd.prog w = .ok (.value (.tuple #[b64 (sbw a b c), b64 (sbc a b c)])) w := by
  obtain ⟨dst, op, type, pos, after, guard⟩ := o
  subst ho
  have ha := a.isLt
  have hb := b.isLt
  have h := run_sub64_at (x := (a.toNat : Int)) (y := (b.toNat : Int)) (b := (c.toNat : Int)) ⟨by omega, by omega⟩ ⟨by omega, by omega⟩ ⟨by omega, by omega⟩ w
  have s := sb_sum (a := a) (b := b) hc
  have e1 : sbW (a.toNat : Int) (b.toNat : Int) (c.toNat : Int) = ((sbw a b c).toNat : Int) := by
    have := (sbw a b c).isLt
    have := sbc_le a b c
    unfold sbW; omega
  have e2 : sbB (a.toNat : Int) (b.toNat : Int) (c.toNat : Int) = ((sbc a b c).toNat : Int) := by
    unfold sbB sbc
    by_cases hh : a.toNat < b.toNat + c.toNat
    · rw [if_pos hh, if_pos (by omega)]; rfl
    · rw [if_neg hh, if_neg (by omega)]; rfl
  rw [e1, e2] at h
  unfold b64 at *
  go_simp
  try exact h
theorem run_addW {ts : Array TypeId} (hc : c.toNat ≤ 1) (ho : o.op = .call { callee := .value (.func 43), args := #[x, y, z], argTypes := ts }) (hf : ρ (.func 43) = .func (.func 43) #[] #[]) (hx : ρ x = b64 a) (hy : ρ y = b64 b) (hz : ρ z = b64 c) : (execOp ρ o).run Tryd.prog w = .ok (.value (.tuple #[b64 (adw a b c), b64 (adc a b c)])) w := by
  obtain ⟨dst, op, type, pos, after, guard⟩ := o
  subst ho
  have ha := a.isLt
  have hb := b.isLt
  have h := run_add64_at (x := (a.toNat : Int)) (y := (b.toNat : Int)) (c := (c.toNat : Int)) ⟨by omega, by omega⟩ ⟨by omega, by omega⟩ ⟨by omega, by omega⟩ w
  have s := ad_sum (a := a) (b := b) hc
  have e1 : adW (a.toNat : Int) (b.toNat : Int) (c.toNat : Int) = ((adw a b c).toNat : Int) := by
    have := (adw a b c).isLt
    have := adc_le a b c
    unfold adW; omega
  have e2 : adC (a.toNat : Int) (b.toNat : Int) (c.toNat : Int) = ((adc a b c).toNat : Int) := by
    have := (adw a b c).isLt
    unfold adC; omega
  rw [e1, e2] at h
  unfold b64 at *
  go_simp
  try exact h
end
/-- Cells are written one behind the other. -/
theorem setCells_snoc (g : Nat) (v : Value) : ∀ (vs : List Value) (o : Nat) (u : World), (u.setCells g o vs).setCell ⟨g, o + vs.length, none⟩ v = u.setCells g o (vs ++ [v])
  | [], o, u => rfl
  | x :: vs, o, u => by
    show ((u.setCell ⟨g, o, none⟩ x).setCells g (o + 1) vs).setCell ⟨g, o + (vs.length + 1), none⟩ v = (u.setCell ⟨g, o, none⟩ x).setCells g (o + 1) (vs ++ [v])
    rw [← setCells_snoc g v vs (o + 1) (u.setCell ⟨g, o, none⟩ x), show o + 1 + vs.length = o + (vs.length + 1) by omega]
end Go.Proofs.YtefaihdhnnldmaaDoor
