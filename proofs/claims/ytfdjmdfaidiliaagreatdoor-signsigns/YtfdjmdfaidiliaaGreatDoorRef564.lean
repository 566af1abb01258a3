import Derived.Test.YtfdjmdfaidiliaaGreatDoorLateD
import Derived.Test.YtfdjmdfaidiliaaGreatDoorLateD
import Derived.Test.YtfdjmdfaidiliaaGreatDoorLateD
import Derived.Test.YtfdjmdfaidiliaaGreatDoorShaPut
import Derived.Test.YtfdjmdfaidiliaaGreatDoorLateD
import Derived.Test.YtfdjmdfaidiliaaGreatDoorCpy
import Derived.Test.YtfdjmdfaidiliaaGreatDoorS5
import Derived.Test.YtfdjmdfaidiliaaGreatDoorLy
import Derived.Test.YtfdjmdfaidiliaaGreatDoorShaMix64
import Derived.Test.YtfdjmdfaidiliaaGreatDoorShaSum64
import Derived.Test.YtfdjmdfaidiliaaGreatDoorShaBlocks64
import Derived.Test.YtfdjmdfaidiliaaGreatDoorShaTab
import Derived.Test.YtfdjmdfaidiliaaGreatDoorShaSpread64
namespace Go.Proofs.YtfdjmdfaidiliaaGreatDoor
open Go.RowKit
set_option maxRecDepth 20000
section
variable {w : World} {ρ : Operand → Value} {o : Oper} {t t' : TypeId} {x y : Operand} {a b : BitVec 64}
theorem run_mul64 (ho : o.op = .binOp .mul t x y t') (hx : ρ x = b64 a) (hy : ρ y = b64 b) : (execOp ρ o).run Tryz.prog w = .ok (.value (b64 (a * b))) w := by
  obtain ⟨dst, op, type, pos, after, guard⟩ := o
  subst ho
  unfold b64 at *
  have e : IntKind.u64.wrap ((a.toNat : Int) * (b.toNat : Int)) = (((a * b).toNat : Nat) : Int) := by
    rw [wrap64, BitVec.toNat_mul]; simp
  generalize (a * b).toNat = z at *
  go_simp
  try exact e
theorem run_rem64 (ho : o.op = .binOp .rem t x y t') (hx : ρ x = b64 a) (hy : ρ y = b64 b) (hb : b ≠ 0) : (execOp ρ o).run Tryz.prog w = .ok (.value (b64 (a % b))) w := by
  obtain ⟨dst, op, type, pos, after, guard⟩ := o
  subst ho
  have hb' : ¬ (b.toNat : Int) = 0 := fun h => hb (BitVec.eq_of_toNat_eq (by simpa using h))
  unfold b64 at *
  have e : ((a.toNat : Int).tmod (b.toNat : Int)) = (((a % b).toNat : Nat) : Int) := by
    rw [BitVec.toNat_umod, Int.tmod_eq_emod_of_nonneg (by omega)]; simp
  generalize (a % b).toNat = z at *
  generalize (b.toNat : Int) = y' at *
  go_simp
  try exact e
theorem run_eqb64 (ho : o.op = .binOp .eql t x y t') (hx : ρ x = b64 a) (hy : ρ y = b64 b) : (execOp ρ o).run Tryz.prog w = .ok (.value (.bool (decide (a = b)))) w := by
  rw [run_eql (k := .u64) (a := (a.toNat : Int)) (b := (b.toNat : Int)) ho hx hy]
  have e : ((a.toNat : Int) == (b.toNat : Int)) = decide (a = b) := by
    rw [Bool.eq_iff_iff]; simp [← BitVec.toNat_inj]; omega
  rw [e]
end
def Ws (v : Value) (l : List (BitVec 64)) (B : Nat) (u : World) : Prop := ∃ g, v = .slice (some ⟨g, 0, none⟩) l.length l.length ∧ B ≤ g ∧ Arr g (l.map b64) u
theorem Ws.below {v : Value} {l : List (BitVec 64)} {B : Nat} {u u' : World} (h : Ws v l B u) (hb : Below u.heap.size u u') : Ws v l B u' := by
  obtain ⟨g, h1, h2, h3⟩ := h
  exact ⟨g, h1, h2, h3.below hb⟩
end Go.Proofs.YtfdjmdfaidiliaaGreatDoor
namespace Go.Proofs.YtfdjmdfaidiliaaGreatDoor
open Go.RowKit
set_option maxRecDepth 20000
section
variable {w : World} {ρ : Operand → Value} {o : Oper} {x y : Operand}
theorem qcy {t : TypeId} {d : TypeDesc} {g : Nat} {vs : List Value} (ho : o.op = .load t x) (ht : Tryz.prog.underlying t = some d) (hd : d.isRow = true) (hi : (Tryz.prog.info? t).map (·.size) = some vs.length) (hx : ρ x = .pointer (some ⟨g, 0, none⟩)) (hr : w.rangeAt g 0 vs) : (execOp ρ o).run Tryz.prog w = .ok (.value (.agg vs.toArray)) w := by
  unfold execOp
  simp only [ho, hx, Sem.run_bind, run_loadAt_mid w g 0 t vs d hr ht hd hi, Result.andThen_ok, Sem.run_pure]
theorem results_row {fn : Func} {p : Tmp} {t : TypeId} {d : TypeDesc} (h : fn.results = #[.cell p t]) {tmps : Array Value} {w : World} {g : Nat} {l : List Value} (ht : tmps.getD p undef = .pointer (some ⟨g, 0, none⟩)) (hu : Tryz.prog.underlying t = some d) (hd : d.isRow = true) (hl : (Tryz.prog.info? t).map (·.size) = some l.length) (hr : w.rangeAt g 0 l) :
    (results fn tmps).run Tryz.prog w = .ok (.agg l.toArray) w := by
  rw [results_cell h, ht]
  have e := run_loadVar_mid (P := Tryz.prog) w g 0 t l d hr hu hd hl
  simp only [asAddr, Sem.run_pure, Result.andThen_ok, e]
theorem qdg {g i : Nat} {v : Value} (ho : o.op = .load 58 x) (hx : ρ x = .pointer (some ⟨g, i, none⟩)) (hc : w.cell? ⟨g, i, none⟩ = some v) : (execOp ρ o).run Tryz.prog w = .ok (.value v) w := by
  obtain ⟨dst, op, type, pos, after, guard⟩ := o
  subst ho
  go_simp
theorem run_ldsl {g i : Nat} {v : Value} (ho : o.op = .load 59 x) (hx : ρ x = .pointer (some ⟨g, i, none⟩)) (hc : w.cell? ⟨g, i, none⟩ = some v) : (execOp ρ o).run Tryz.prog w = .ok (.value v) w := by
  obtain ⟨dst, op, type, pos, after, guard⟩ := o
  subst ho
  go_simp
theorem run_ldin {g i : Nat} {v : Value} (ho : o.op = .load 3 x) (hx : ρ x = .pointer (some ⟨g, i, none⟩)) (hc : w.cell? ⟨g, i, none⟩ = some v) : (execOp ρ o).run Tryz.prog w = .ok (.value v) w := by
  obtain ⟨dst, op, type, pos, after, guard⟩ := o
  subst ho
  go_simp
theorem run_fld0 {g : Nat} (ho : o.op = .fieldAddr 61 x 0) (hx : ρ x = .pointer (some ⟨g, 0, none⟩)) : (execOp ρ o).run Tryz.prog w = .ok (.value (.pointer (some ⟨g, 0, none⟩))) w := by
  obtain ⟨dst, op, type, pos, after, guard⟩ := o
  subst ho
  go_simp
theorem run_fld1 {g : Nat} (ho : o.op = .fieldAddr 61 x 1) (hx : ρ x = .pointer (some ⟨g, 0, none⟩)) : (execOp ρ o).run Tryz.prog w = .ok (.value (.pointer (some ⟨g, 1, none⟩))) w := by
  obtain ⟨dst, op, type, pos, after, guard⟩ := o
  subst ho
  go_simp
theorem run_fld2 {g : Nat} (ho : o.op = .fieldAddr 61 x 2) (hx : ρ x = .pointer (some ⟨g, 0, none⟩)) : (execOp ρ o).run Tryz.prog w = .ok (.value (.pointer (some ⟨g, 2, none⟩))) w := by
  obtain ⟨dst, op, type, pos, after, guard⟩ := o
  subst ho
  go_simp
theorem run_fld3 {g : Nat} (ho : o.op = .fieldAddr 61 x 3) (hx : ρ x = .pointer (some ⟨g, 0, none⟩)) : (execOp ρ o).run Tryz.prog w = .ok (.value (.pointer (some ⟨g, 3, none⟩))) w := by
  obtain ⟨dst, op, type, pos, after, guard⟩ := o
  subst ho
  go_simp
theorem run_fld4 {g : Nat} (ho : o.op = .fieldAddr 61 x 4) (hx : ρ x = .pointer (some ⟨g, 0, none⟩)) : (execOp ρ o).run Tryz.prog w = .ok (.value (.pointer (some ⟨g, 4, none⟩))) w := by
  obtain ⟨dst, op, type, pos, after, guard⟩ := o
  subst ho
  go_simp
theorem run_fld5 {g : Nat} (ho : o.op = .fieldAddr 61 x 5) (hx : ρ x = .pointer (some ⟨g, 0, none⟩)) : (execOp ρ o).run Tryz.prog w = .ok (.value (.pointer (some ⟨g, 5, none⟩))) w := by
  obtain ⟨dst, op, type, pos, after, guard⟩ := o
  subst ho
  go_simp
theorem run_eqT {t t' : TypeId} {a b : BitVec 64} {c : Bool} (ho : o.op = .binOp .eql t x y t') (hx : ρ x = b64 a) (hy : ρ y = b64 b) (h : decide (a = b) = c) : (execOp ρ o).run Tryz.prog w = .ok (.value (.bool c)) w := by
  rw [run_eqb64 ho hx hy, h]
theorem run_bldH {A B : Int} {g0 g1 g2 g3 : Nat} {x0 x1 x2 x3 x4 x5 : Operand} (ho : o.op = .build 61 #[(0, x0), (1, x1), (2, x2), (3, x3), (4, x4), (5, x5)]) (h0 : ρ x0 = .int .u64 A) (h1 : ρ x1 = .int .i64 B) (h2 : ρ x2 = .slice (some ⟨g0, 0, none⟩) 3 3) (h3 : ρ x3 = .slice (some ⟨g1, 0, none⟩) 3 3) (h4 : ρ x4 = .slice (some ⟨g2, 0, none⟩) 3 3) (h5 : ρ x5 = .slice (some ⟨g3, 0, none⟩) 3 3) : (execOp ρ o).run Tryz.prog w = .ok (.value (.agg #[.int .u64 A, .int .i64 B, .slice (some ⟨g0, 0, none⟩) 3 3, .slice (some ⟨g1, 0, none⟩) 3 3, .slice (some ⟨g2, 0, none⟩) 3 3, .slice (some ⟨g3, 0, none⟩) 3 3])) w := by
  obtain ⟨dst, op, type, pos, after, guard⟩ := o
  subst ho
  go_simp
end
end Go.Proofs.YtfdjmdfaidiliaaGreatDoor
namespace Go.Proofs.YtfdjmdfaidiliaaGreatDoor
open Go.RowKit
set_option maxRecDepth 20000
section
variable {w : World} {ρ : Operand → Value} {o : Oper} {x y : Operand} {t t' : TypeId}
end
structure BytI (w : World) (v : Value) (l : List (BitVec 8)) (u : World) : Prop where
  bl : Below w.heap.size w u
  O : u.ownsRow w.heap.size 5 1 v l.length (l.map b8)
end Go.Proofs.YtfdjmdfaidiliaaGreatDoor
namespace Go.Proofs.YtfdjmdfaidiliaaGreatDoor
open Go.RowKit
set_option maxRecDepth 20000
structure G4 where
  a : Nat
  b : Nat
  c : Nat
  d : Nat
def t3 (a b c : Nat) : List Value := [.int .u64 (a : Int), .int .u64 (b : Int), .int .u64 (c : Int)]
theorem run_cvui {w : World} {ρ : Operand → Value} {o : Oper} {x : Operand} {n : Int} (ho : o.op = .convert 58 3 x) (hx : ρ x = .int .u64 n) (h0 : 0 ≤ n) (h1 : n < 9223372036854775808) : (execOp ρ o).run Tryz.prog w = .ok (.value (.int .i64 n)) w := by
  rw [run_cv ho Tryz.underlying58 Tryz.underlying3 hx, i64_fit (by omega) (by omega)]
theorem Sl.cell {v : Value} {l : List (BitVec 8)} {u : World} (h : Sl v l u) (hn : 0 < l.length) : ∃ b f c, v = .slice (some ⟨b, f, none⟩) l.length c ∧ b < u.heap.size ∧ u.rangeAt b f (l.map b8) := by
  obtain ⟨ao, c, rfl, _, h3⟩ := h
  obtain ⟨b, f, rfl, h4, h5⟩ := h3 (by intro e; rw [e] at hn; exact absurd hn (Nat.lt_irrefl _))
  exact ⟨b, f, c, rfl, h4, h5⟩
def zeroH : List Value := [.int .u64 0, .int .i64 0, .slice none 0 0, .slice none 0 0, .slice none 0 0, .slice none 0 0]
theorem putR_get : ∀ (k : Nat) (l : List (BitVec 8)) (n j : Nat), (putR l k n)[j]? = if j < k ∧ j < l.length ∧ n / 256 ^ (k - 1 - j) ≠ 0 then some (BitVec.ofNat 8 (n / 256 ^ (k - 1 - j))) else l[j]?
  | 0, l, n, j => by rw [putR, if_neg (by omega)]
  | k + 1, l, n, j => by
    rw [putR]
    by_cases hn : n = 0
    · rw [if_pos hn, hn, if_neg (by simp)]
    · rw [if_neg hn, putR_get k, List.length_set]
      by_cases hj : j = k
      · subst hj
        rw [if_neg (by omega)]
        by_cases hl : j < l.length
        · rw [List.getElem?_set_self hl, if_pos ⟨by omega, hl, by simpa using hn⟩]; simp
        · rw [if_neg (by omega), List.getElem?_eq_none (by rw [List.length_set]; omega), List.getElem?_eq_none (by omega)]
      · rw [List.getElem?_set_ne (Ne.symm hj)]
        by_cases hjk : j < k
        · have e : n / 256 / 256 ^ (k - 1 - j) = n / 256 ^ (k + 1 - 1 - j) := by
            rw [Nat.div_div_eq_div_mul, Nat.mul_comm, ← Nat.pow_succ, show (k - 1 - j).succ = k + 1 - 1 - j by omega]
          rw [e]
          by_cases hc : j < l.length ∧ n / 256 ^ (k + 1 - 1 - j) ≠ 0
          · rw [if_pos ⟨hjk, hc⟩, if_pos ⟨by omega, hc⟩]
          · rw [if_neg (fun h => hc h.2), if_neg (fun h => hc h.2)]
        · rw [if_neg (by omega), if_neg (by omega)]
def lbX (n i : Nat) : BitVec 8 := if i < 8 then ((BitVec.ofNat 64 n * 8) >>> (8 * i)).setWidth 8 else 0
theorem lbX_eq (n i : Nat) (hn : n < 1152921504606846976) : lbX n i = BitVec.ofNat 8 (n * 8 / 256 ^ i) := by
  unfold lbX
  apply BitVec.eq_of_toNat_eq
  by_cases hi : i < 8
  · rw [if_pos hi, BitVec.toNat_setWidth, BitVec.toNat_ushiftRight, BitVec.toNat_mul, BitVec.toNat_ofNat, BitVec.toNat_ofNat, Nat.shiftRight_eq_div_pow, show (256 : Nat) = 2 ^ 8 from rfl, ← Nat.pow_mul]
    have e : n % 2 ^ 64 * (8 : BitVec 64).toNat % 2 ^ 64 = n * 8 := by
      rw [show (8 : BitVec 64).toNat = 8 from rfl, Nat.mod_eq_of_lt (show n < 2 ^ 64 by omega), Nat.mod_eq_of_lt (by omega)]
    rw [e]
  · rw [if_neg hi, BitVec.toNat_ofNat]
    have h1 : n * 8 / 256 ^ i = 0 := by
      refine Nat.div_eq_of_lt (Nat.lt_of_lt_of_le (show n * 8 < 256 ^ 8 by omega) (Nat.pow_le_pow_right (by omega) (by omega)))
    rw [h1]; rfl
section
variable {w : World} {ρ : Operand → Value} {o : Oper} {x y : Operand} {t t' : TypeId}
theorem run_neqi {a b : Int} {c : Bool} (ho : o.op = .binOp .neq t x y t') (hx : ρ x = .int .i64 a) (hy : ρ y = .int .i64 b) (hc : (!(a == b)) = c) : (execOp ρ o).run Tryz.prog w = .ok (.value (.bool c)) w := by
  obtain ⟨dst, op, type, pos, after, guard⟩ := o
  subst ho
  go_simp
  try exact hc
theorem run_cviu {n : Nat} (ho : o.op = .convert 3 45 x) (hx : ρ x = .int .i64 (n : Int)) : (execOp ρ o).run Tryz.prog w = .ok (.value (b64 (BitVec.ofNat 64 n))) w := by
  rw [run_cv ho Tryz.underlying3 Tryz.underlying45 hx]
  have e : IntKind.u64.wrap (n : Int) = ((BitVec.ofNat 64 n).toNat : Int) := by rw [wrap64, BitVec.toNat_ofNat]; omega
  rw [e]; rfl
theorem run_cvin {n : Nat} (ho : o.op = .convert 3 58 x) (hx : ρ x = .int .i64 (n : Int)) (hn : n < 1000) : (execOp ρ o).run Tryz.prog w = .ok (.value (.int .u64 (n : Int))) w := by
  rw [run_cv ho Tryz.underlying3 Tryz.underlying58 hx]
  have e : IntKind.u64.wrap (n : Int) = (n : Int) := by rw [wrap64]; omega
  rw [e]
end
theorem app_none {w : World} {ops : Array Oper} {Q : Exit → Act → World → Prop} {rest : List Oper} {o : Oper} {a : Act} {s x : Operand} {ao : Option Addr} {c : Nat} (hg : o.guard = none) (ho : o.op = .call { callee := .builtin .append, args := #[s, x], argTypes := #[24, 24] }) (hs : a.eval s = .slice none 0 0) (hx : a.eval x = .slice ao 0 c)
    (h : wpList Tryz.prog ops Q rest (a.put o.dst (.slice none 0 0)) w) : wpList Tryz.prog ops Q (o :: rest) a w := by
  have hi : (Tryz.prog.info? 5).map (·.size) = some 1 := by kernel_rfl
  obtain ⟨inf, h1, _⟩ := Option.map_eq_some_iff.1 hi
  have hl : ∀ b : Addr, (loadCells b 0).run Tryz.prog w = .ok #[] w := fun b => by simpa using run_loadCells_list (P := Tryz.prog) w b [] (by simp)
  have hr : (Builtin.append_ #[24, 24] o.type #[.slice none 0 0, .slice ao 0 c]).run Tryz.prog w = .ok (.slice none 0 0) w := by
    cases ao <;> simp [Builtin.append_, run_underlying Tryz.underlying24, sizeOf, typeInfo, h1, Builtin.lenOf, Builtin.firstCells, hl]
  refine qaa (v := .slice none 0 0) (w' := w) ?_ hg h
  unfold execOp
  simp [ho, resolve, invoke, builtin, hs, hx, hr, Result.andThen]
theorem wpList_appS {w : World} {ops : Array Oper} {Q : Exit → Act → World → Prop} {rest : List Oper} {o : Oper} {a : Act} {s x : Operand} {base : Nat} {v : Value} {l : List (BitVec 8)} (hg : o.guard = none) (ho : o.op = .call { callee := .builtin .append, args := #[s, x], argTypes := #[24, 24] }) (hs : a.eval s = .slice none 0 0) (hx : a.eval x = v) (hv : Sl v l w) (hl : l.length ≤ 16777216) (hb : base ≤ w.heap.size)
    (h : ∀ v' w', w'.ownsRow base 5 1 v' l.length (l.map b8) → Below base w w' → wpList Tryz.prog ops Q rest (a.put o.dst v') w') : wpList Tryz.prog ops Q (o :: rest) a w := by
  by_cases he : l = []
  · subst he
    obtain ⟨ao, c, rfl, _, _⟩ := hv
    exact app_none hg ho hs hx (h _ _ (World.ownsRow_nil _ _ _ _) (Below.refl _ _))
  · obtain ⟨b, f, c, rfl, _, hr⟩ := hv.cell (List.length_pos_iff.2 he)
    exact qb0 (f := b8) (fun _ => rfl) (l := []) (m := l) (bw := 1) (z := .int .u8 0) hg ho Tryz.underlying24 (by kernel_rfl) rfl (by omega) hs (World.ownsRow_nil _ _ _ _) hx hr (by omega) hb fun v' w' h1 h2 => h v' w' (by rwa [Nat.zero_add, List.nil_append] at h1) h2
theorem mod_byte (x : BitVec 64) : (x % 256).setWidth 8 = x.setWidth 8 := by
  apply BitVec.eq_of_toNat_eq
  rw [BitVec.toNat_setWidth, BitVec.toNat_setWidth, BitVec.toNat_umod, show (256 : BitVec 64).toNat = 256 from rfl]
  exact Nat.mod_mod_of_dvd _ (by decide)
theorem enters_rsum : Enters 33 := qao Tryz.func33 (by kernel_rfl) rfl
theorem run_wsub64 {w : World} {ρ : Operand → Value} {o : Oper} {t t' : TypeId} {x y : Operand} {n : Nat} (ho : o.op = .binOp .sub t x y t') (hx : ρ x = .int .u64 64) (hy : ρ y = .int .u64 (n : Int)) (hn : n ≤ 64) : (execOp ρ o).run Tryz.prog w = .ok (.value (.int .u64 ((64 - n : Nat) : Int))) w := by
  obtain ⟨dst, op, type, pos, after, guard⟩ := o
  subst ho
  have e : IntKind.u64.wrap (64 - (n : Int)) = ((64 - n : Nat) : Int) := by rw [wrap64]; omega
  generalize ((64 - n : Nat) : Int) = z at *
  go_simp
  try exact e
end Go.Proofs.YtfdjmdfaidiliaaGreatDoor
namespace Go.Proofs.YtfdjmdfaidiliaaGreatDoor
open Go.RowKit
set_option maxRecDepth 20000
def up64 (x : BitVec 64) : BitVec 64 := x.setWidth 64
def dn64 (x : BitVec 64) : BitVec 64 := x.setWidth 64
theorem dn_up64 (x : BitVec 64) : dn64 (up64 x) = x := by unfold dn64 up64; simp
theorem dn_add64 (x y : BitVec 64) : dn64 (x + y) = dn64 x + dn64 y := by unfold dn64; simp
theorem dn_xor64 (x y : BitVec 64) : dn64 (x ^^^ y) = dn64 x ^^^ dn64 y := by unfold dn64; simp
theorem dn_and64 (x y : BitVec 64) : dn64 (x &&& y) = dn64 x &&& dn64 y := by unfold dn64; simp
theorem dn_or64 (x y : BitVec 64) : dn64 (x ||| y) = dn64 x ||| dn64 y := by unfold dn64; simp
theorem dn_not64 (x : BitVec 64) : dn64 (~~~x) = ~~~dn64 x := by unfold dn64; simp
theorem up_xor64 (x y : BitVec 64) : up64 (x ^^^ y) = up64 x ^^^ up64 y := by unfold up64; simp
theorem up_shr64 (x : BitVec 64) (n : Nat) : up64 (x >>> n) = up64 x >>> n := by
  unfold up64
  apply BitVec.eq_of_toNat_eq
  have h := x.isLt
  have h1 : x.toNat >>> n ≤ x.toNat := Nat.shiftRight_le _ _
  rw [BitVec.toNat_setWidth, BitVec.toNat_ushiftRight, BitVec.toNat_ushiftRight, BitVec.toNat_setWidth, Nat.mod_eq_of_lt (by omega), Nat.mod_eq_of_lt (by omega)]
theorem dn_shl64 (x : BitVec 64) (n : Nat) : dn64 (up64 x <<< n) = x <<< n := by
  unfold up64 dn64
  apply BitVec.eq_of_toNat_eq
  have h := x.isLt
  rw [BitVec.toNat_setWidth, BitVec.toNat_shiftLeft, BitVec.toNat_shiftLeft, BitVec.toNat_setWidth, Nat.mod_eq_of_lt (show x.toNat < 2 ^ 64 by omega)]
  exact Nat.mod_mod _ _
theorem dn_ror64 (x : BitVec 64) (n : Nat) : dn64 (up64 x >>> n ||| up64 x <<< (64 - n)) = ror64 x n := by
  rw [dn_or64, dn_shl64, ← up_shr64, dn_up64, BitVec.or_comm]; rfl
def hC64 (h : G4) : List Value := [.int .u64 64, .int .i64 80, .slice (some ⟨h.a, 0, none⟩) 3 3, .slice (some ⟨h.b, 0, none⟩) 3 3, .slice (some ⟨h.c, 0, none⟩) 3 3, .slice (some ⟨h.d, 0, none⟩) 3 3]
theorem qcg (h : G4) : (Tryz.prog.info? 61).map (·.size) = some (hC64 h).length := by show _ = some 6; kernel_rfl
set_option maxHeartbeats 1000000 in
theorem cut64_any (h : G4) (y : BitVec 64) (w : World) : Calls Tryz.prog 89 #[.agg (hC64 h).toArray, b64 y] w fun e w' => e = .returned (b64 (up64 (dn64 y))) ∧ Below w.heap.size w w' := by
  have A1 := Lib.hid (Arr.new w (hC64 h) 61)
  have b1 : Below w.heap.size w (w.alloc (.cells (hC64 h).toArray 61)) := (Below.refl _ _).alloc (Nat.le_refl _) _
  go_enter Tryz.func89, Tryz.ntmps89
  go_upto_region 0 with fail; refine wp_region_lit ?_
  refine qaa (run_box rfl rfl) rfl ?_; (try simp only [Act.put, lyy])
  refine qaa (qag (v := .int _ _) rfl rfl) rfl ?_; (try simp only [Act.put, lyy])
  refine qac ?_
  generalize w.alloc (.cells (hC64 h).toArray 61) = u1 at *
  go_upto_region 1 with fail; refine wp_region_lit ?_
  refine qaa (run_fld0 rfl rfl) rfl ?_; (try simp only [Act.put, lyy])
  refine qaa (qdg rfl rfl (A1.out.c 0 _ rfl)) rfl ?_; (try simp only [Act.put, lyy])
  refine qaa (run_eqT (a := 64) (b := 32) (c := false) rfl rfl rfl rfl) rfl ?_; (try simp only [Act.put, lyy])
  refine qac ?_
  go_upto_region 3 with fail; refine wp_region_lit ?_
  refine qaa (qaf (v := b64 _) rfl rfl) rfl ?_; (try simp only [Act.put, lyy]); refine qaa (qag (v := b64 _) rfl rfl) rfl ?_; (try simp only [Act.put, lyy])
  refine qac ?_
  go_wp2_with fail
  go_ret
  have e : up64 (dn64 y) = y := by unfold up64 dn64; simp
  exact ⟨by rw [e]; rfl, b1⟩
theorem enters_cut64 : Enters 89 := qao Tryz.func89 (by kernel_rfl) rfl
set_option maxHeartbeats 1000000 in
theorem rror64_any (h : G4) (x : BitVec 64) (n : Nat) (w : World) (h1 : n ≤ 64) : Calls Tryz.prog 110 #[.agg (hC64 h).toArray, b64 (up64 x), .int .u64 (n : Int)] w fun e w' => e = .returned (b64 (up64 (ror64 x n))) ∧ Below w.heap.size w w' := by
  have A1 := Lib.hid (Arr.new w (hC64 h) 61)
  have b1 : Below w.heap.size w (w.alloc (.cells (hC64 h).toArray 61)) := (Below.refl _ _).alloc (Nat.le_refl _) _
  go_enter Tryz.func110, Tryz.ntmps110
  go_upto_region 0 with fail; refine wp_region_lit ?_
  refine qaa (run_box rfl rfl) rfl ?_; (try simp only [Act.put, lyy])
  refine qaa (qag (v := .int _ _) rfl rfl) rfl ?_; (try simp only [Act.put, lyy])
  refine qac ?_
  generalize w.alloc (.cells (hC64 h).toArray 61) = u1 at *
  go_upto_region 1 with fail; refine wp_region_lit ?_
  refine qaa (qcy rfl Tryz.underlying61 rfl (qcg h) rfl A1.out.range) rfl ?_; (try simp only [Act.put, lyy])
  refine qaa (qaf (v := b64 _) rfl rfl) rfl ?_; (try simp only [Act.put, lyy]); refine qaa (qaf (v := .int _ _) rfl rfl) rfl ?_; (try simp only [Act.put, lyy])
  refine qaa (qc1 rfl rfl rfl (by omega)) rfl ?_; (try simp only [Act.put, lyy])
  refine qaa (qaf (v := b64 _) rfl rfl) rfl ?_; (try simp only [Act.put, lyy])
  refine qaa (run_fld0 rfl rfl) rfl ?_; (try simp only [Act.put, lyy])
  refine qaa (qdg rfl rfl (A1.out.c 0 _ rfl)) rfl ?_; (try simp only [Act.put, lyy])
  refine qaa (qaf (v := .int _ _) rfl rfl) rfl ?_; (try simp only [Act.put, lyy])
  refine qaa (run_wsub64 rfl rfl rfl h1) rfl ?_; (try simp only [Act.put, lyy])
  refine qaa (run_shl64 rfl rfl rfl (by omega)) rfl ?_; (try simp only [Act.put, lyy])
  refine qaa (run_or64 rfl rfl rfl) rfl ?_; (try simp only [Act.put, lyy])
  refine qai (qam enters_cut64 rfl rfl rfl rfl) rfl (cut64_any h (up64 x >>> n ||| up64 x <<< (64 - n)) _) (fun u2 hb => ?_); (try simp only [Act.put, lyy])
  rw [dn_ror64]
  refine qaa (qag (v := b64 _) rfl rfl) rfl ?_; (try simp only [Act.put, lyy])
  refine qac ?_
  go_wp2_with fail
  go_ret
  exact ⟨rfl, b1.trans (hb.mono b1.size)⟩
theorem qdm : Enters 110 := qao Tryz.func110 (by kernel_rfl) rfl
end Go.Proofs.YtfdjmdfaidiliaaGreatDoor
namespace Go.Proofs.YtfdjmdfaidiliaaGreatDoor
open Go.RowKit
set_option maxRecDepth 20000
def wk64 (l : List (BitVec 8)) : Nat → BitVec 64
  | 0 => 0
  | k + 1 => wk64 l k <<< 8 ||| (l.getD k 0).setWidth 64
theorem wk_lt64 (l : List (BitVec 8)) : ∀ k, k ≤ 8 → (wk64 l k).toNat < 256 ^ k
  | 0, _ => by simp [wk64]
  | k + 1, h => by
    have h1 := wk_lt64 l k (by omega)
    have h2 := (l.getD k 0).isLt
    rw [wk64, BitVec.toNat_or]
    have h3 : (wk64 l k <<< 8).toNat < 2 ^ (8 * (k + 1)) := by
      rw [BitVec.toNat_shiftLeft, Nat.shiftLeft_eq]
      refine Nat.lt_of_le_of_lt (Nat.mod_le _ _) ?_
      rw [show 2 ^ (8 * (k + 1)) = 256 ^ k * 2 ^ 8 by rw [Nat.pow_mul, Nat.pow_succ]]
      exact Nat.mul_lt_mul_of_pos_right h1 (by omega)
    have h4 : ((l.getD k 0).setWidth 64).toNat < 2 ^ (8 * (k + 1)) := by
      rw [BitVec.toNat_setWidth]
      refine Nat.lt_of_le_of_lt (Nat.mod_le _ _) (Nat.lt_of_lt_of_le h2 (Nat.pow_le_pow_right (by omega) (by omega)))
    have := Nat.or_lt_two_pow h3 h4
    rwa [Nat.pow_mul] at this
theorem pow256x64 (k : Nat) (h : k < 8) : 256 ^ k * 256 ≤ 2 ^ 64 := by
  rw [← Nat.pow_succ, show (256 : Nat) = 2 ^ 8 from rfl, ← Nat.pow_mul]
  exact Nat.pow_le_pow_right (by omega) (by omega)
theorem wk_step64 (l : List (BitVec 8)) (k : Nat) (h : k < 8) : up64 (wk64 l k) <<< 8 + (l.getD k 0).setWidth 64 = up64 (wk64 l (k + 1)) := by
  have h1 := wk_lt64 l k (by omega)
  have h2 := (l.getD k 0).isLt
  have h3 := pow256x64 k h
  rw [wk64]
  unfold up64
  apply BitVec.eq_of_toNat_eq
  generalize wk64 l k = x at *
  generalize l.getD k 0 = b at *
  have hx : x.toNat * 256 + b.toNat < 2 ^ 64 := by
    have : x.toNat * 256 + 256 ≤ 256 ^ k * 256 := by
      have := Nat.mul_le_mul_right 256 (Nat.succ_le_of_lt h1)
      rw [Nat.succ_mul] at this
      exact this
    omega
  rw [BitVec.toNat_add, BitVec.toNat_shiftLeft, BitVec.toNat_setWidth, BitVec.toNat_setWidth, BitVec.toNat_setWidth, BitVec.toNat_or, BitVec.toNat_shiftLeft, BitVec.toNat_setWidth]
  have e0 : x.toNat <<< 8 = x.toNat * 256 := Nat.shiftLeft_eq x.toNat 8
  have e3 : x.toNat <<< 8 ||| b.toNat = x.toNat * 256 + b.toNat := (Nat.shiftLeft_add_eq_or_of_lt (i := 8) h2 x.toNat).symm.trans (congrArg (· + b.toNat) e0)
  have hM : (2 : Nat) ^ 64 = 18446744073709551616 := by decide
  have hM2 : (2 : Nat) ^ 64 = 18446744073709551616 := by decide
  have hx1 := x.isLt
  rw [hM] at hx hx1
  clear h1 h3 h
  have e1 : x.toNat <<< 8 % 2 ^ 64 = x.toNat <<< 8 := by rw [hM, e0]; exact Nat.mod_eq_of_lt (Nat.lt_of_le_of_lt (Nat.le_add_right _ _) hx)
  have e2 : b.toNat % 2 ^ 64 = b.toNat := by rw [hM]; exact Nat.mod_eq_of_lt (Nat.lt_of_le_of_lt (Nat.le_add_left _ _) hx)
  have e4 : x.toNat % 2 ^ 64 = x.toNat := by rw [hM2]; exact Nat.mod_eq_of_lt (by omega)
  rw [e1, e2, e3, e4, e0, hM2]
  omega
end Go.Proofs.YtfdjmdfaidiliaaGreatDoor
namespace Go.Proofs.YtfdjmdfaidiliaaGreatDoor
open Go.RowKit
set_option maxRecDepth 20000
structure WordI64 (w : World) (h : G4) (u : World) : Prop where
  bl : Below w.heap.size w u
  A : Arr w.heap.size (hC64 h) u
set_option maxHeartbeats 1000000 in
theorem word64_any (h : G4) (v : Value) (l : List (BitVec 8)) (w : World) (hv : Sl v l w) (hl : 8 ≤ l.length) : Calls Tryz.prog 88 #[.agg (hC64 h).toArray, v] w fun e w' => e = .returned (b64 (up64 (wk64 l 8))) ∧ Below w.heap.size w w' := by
  obtain ⟨b, f, c, rfl, hb, hr⟩ := hv.cell (by omega)
  have HR := Lib.hid hr; clear hr hv
  have hI : Hid (WordI64 w h (w.alloc (.cells (hC64 h).toArray 61))) := Lib.hid ⟨(Below.refl _ _).alloc (Nat.le_refl _) _, Arr.new w _ _⟩
  go_enter Tryz.func88, Tryz.ntmps88
  go_upto_region 0 with fail; refine wp_region_lit ?_
  refine qaa (run_box rfl rfl) rfl ?_; (try simp only [Act.put, lyy])
  refine qaa (qag (v := .int _ _) rfl rfl) rfl ?_; (try simp only [Act.put, lyy])
  refine qac ?_
  generalize w.alloc (.cells (hC64 h).toArray 61) = u1 at *
  go_upto_region 1 with fail; refine wp_region_lit ?_
  refine qaa (qag (v := b64 (up64 0)) rfl rfl) rfl ?_; (try simp only [Act.put, lyy])
  refine qac ?_
  go_wp2_with fail
  go_loopw [5, 6] (fun v5 v6 u => ∃ k : Nat, k ≤ 8 ∧ v5 = b64 (up64 (wk64 l k)) ∧ v6 = .int .i64 (k : Int) ∧ u = u1) (fun _ v6 _ => (8 - intOf v6).toNat)
  case atStart => exact ⟨0, by omega, rfl, rfl, rfl⟩
  case round =>
    obtain ⟨k, hk, rfl, rfl, rfl⟩ := hrel
    go_upto_region 3 with fail; refine wp_region_lit ?_
    refine qaa (qaf (v := .int _ _) rfl rfl) rfl ?_; (try simp only [Act.put, lyy])
    refine qaa (run_fld0 rfl rfl) rfl ?_; (try simp only [Act.put, lyy])
    refine qaa (qdg rfl rfl (hI.out.A.c 0 _ rfl)) rfl ?_; (try simp only [Act.put, lyy])
    refine qaa (run_cvui rfl rfl (by omega) (by omega)) rfl ?_; (try simp only [Act.put, lyy])
    refine qaa (run_quo rfl rfl rfl (by omega) (by omega) (by omega)) rfl ?_; (try simp only [Act.put, lyy])
    refine qaa (run_lss rfl rfl rfl) rfl ?_; (try simp only [Act.put, lyy])
    refine qac ?_
    by_cases hlt : k = 8
    · subst hlt
      rw [decide_eq_false (by omega)]
      go_upto_region 6 with fail; refine wp_region_lit ?_
      refine qaa (qaf (v := b64 _) rfl rfl) rfl ?_; (try simp only [Act.put, lyy]); refine qaa (qag (v := b64 _) rfl rfl) rfl ?_; (try simp only [Act.put, lyy])
      refine qac ?_
      go_wp2_with fail
      go_ret
      exact ⟨rfl, hI.out.bl⟩
    · rw [decide_eq_true (by omega)]
      have HW := Lib.hid (wk_step64 l k (by omega))
      go_upto_region 5 with fail; refine wp_region_lit ?_
      refine qaa (qaf (v := b64 _) rfl rfl) rfl ?_; (try simp only [Act.put, lyy])
      refine qaa (run_shl64 (n := 8) rfl rfl rfl (by omega)) rfl ?_; (try simp only [Act.put, lyy])
      refine qaa (qaf (v := .slice (some _) _ _) rfl rfl) rfl ?_; (try simp only [Act.put, lyy]); refine qaa (qaf (v := .int _ _) rfl rfl) rfl ?_; (try simp only [Act.put, lyy])
      refine qaa (qa7 rfl Tryz.underlying24 (by kernel_rfl) rfl rfl (by omega)) rfl ?_; (try simp only [Act.put, lyy])
      refine qaa (qby rfl rfl (qa8 HR.out hb hI.out.bl k _ (qa5 b8 0 (by omega)))) rfl ?_; (try simp only [Act.put, lyy])
      refine qaa (run_cv8_64 rfl rfl) rfl ?_; (try simp only [Act.put, lyy]); refine qaa (run_add64 rfl rfl rfl) rfl ?_; (try simp only [Act.put, lyy]); refine qaa (qag (v := b64 _) rfl rfl) rfl ?_; (try simp only [Act.put, lyy])
      refine qac ?_
      rw [HW.out]
      go_wp2_with fail
      go_roundw
      case rel => exact ⟨k + 1, by omega, rfl, by go_num, trivial⟩
      case measure => simp [intOf]; omega
theorem enters_word64 : Enters 88 := qao Tryz.func88 (by kernel_rfl) rfl
structure HM64 (h : G4) (u : World) : Prop where
  la : h.a < u.heap.size
  lb : h.b < u.heap.size
  lc : h.c < u.heap.size
  ld : h.d < u.heap.size
  ra : u.rangeAt h.a 0 (t3 28 34 39)
  rb : u.rangeAt h.b 0 (t3 14 18 41)
  rc : u.rangeAt h.c 0 (t3 1 8 7)
  rd : u.rangeAt h.d 0 (t3 19 61 6)
theorem HM64.below {h : G4} {u u' : World} (m : HM64 h u) (hb : Below u.heap.size u u') : HM64 h u' :=
  ⟨Nat.lt_of_lt_of_le m.la hb.size, Nat.lt_of_lt_of_le m.lb hb.size, Nat.lt_of_lt_of_le m.lc hb.size, Nat.lt_of_lt_of_le m.ld hb.size, qa8 m.ra m.la hb, qa8 m.rb m.lb hb, qa8 m.rc m.lc hb, qa8 m.rd m.ld hb⟩
set_option maxHeartbeats 1000000 in
theorem wide_any (w : World) : Calls Tryz.prog 34 #[] w fun e w' => ∃ v, e = .returned v ∧ ∃ h, v = .agg (hC64 h).toArray ∧ HM64 h w' ∧ Below w.heap.size w w' := by
  go_enter Tryz.func34, Tryz.ntmps34
  go_upto_region 0 with fail; refine wp_region_lit ?_
  refine qaa (qar (vs := zeroH) rfl (by kernel_rfl)) rfl ?_
  simp only [Act.put, List.setIfInBounds_toArray, List.set_cons_zero]
  refine qac ?_
  have bl : Below w.heap.size w (w.alloc (.cells zeroH.toArray 61)) := (Below.refl _ _).alloc (Nat.le_refl _) _
  have Z := Lib.hid (Arr.new w zeroH 61)
  generalize w.alloc (.cells zeroH.toArray 61) = u0 at *
  have hz := Z.out.lt
  go_upto_region 1 with fail; refine wp_region_lit ?_
  refine qaa (qbu (cells := (t3 28 34 39).toArray) (z := .int .u64 0) rfl Tryz.underlying59 (by kernel_rfl) (by omega) (by omega) (by kernel_rfl)) rfl ?_; (try simp only [Act.put, lyy]); have A0 := Lib.hid (Arr.new u0 (t3 28 34 39) 58); have hb : Below u0.heap.size u0 (u0.alloc (.cells (t3 28 34 39).toArray 58)) := (Below.refl _ _).alloc (Nat.le_refl _) _; generalize u0.alloc (.cells (t3 28 34 39).toArray 58) = u1 at *; have R0 := hb.size
  replace bl := bl.trans (hb.mono bl.size); replace Z := Lib.hid (Z.out.below hb); clear hb
  refine qaa (qbu (cells := (t3 14 18 41).toArray) (z := .int .u64 0) rfl Tryz.underlying59 (by kernel_rfl) (by omega) (by omega) (by kernel_rfl)) rfl ?_; (try simp only [Act.put, lyy]); have A1 := Lib.hid (Arr.new u1 (t3 14 18 41) 58); have hb : Below u1.heap.size u1 (u1.alloc (.cells (t3 14 18 41).toArray 58)) := (Below.refl _ _).alloc (Nat.le_refl _) _; generalize u1.alloc (.cells (t3 14 18 41).toArray 58) = u2 at *; have R1 := hb.size
  replace bl := bl.trans (hb.mono bl.size); replace Z := Lib.hid (Z.out.below hb); replace A0 := Lib.hid (A0.out.below hb); clear hb
  refine qaa (qbu (cells := (t3 1 8 7).toArray) (z := .int .u64 0) rfl Tryz.underlying59 (by kernel_rfl) (by omega) (by omega) (by kernel_rfl)) rfl ?_; (try simp only [Act.put, lyy]); have A2 := Lib.hid (Arr.new u2 (t3 1 8 7) 58); have hb : Below u2.heap.size u2 (u2.alloc (.cells (t3 1 8 7).toArray 58)) := (Below.refl _ _).alloc (Nat.le_refl _) _; generalize u2.alloc (.cells (t3 1 8 7).toArray 58) = u3 at *; have R2 := hb.size
  replace bl := bl.trans (hb.mono bl.size); replace Z := Lib.hid (Z.out.below hb); replace A0 := Lib.hid (A0.out.below hb); replace A1 := Lib.hid (A1.out.below hb); clear hb
  refine qaa (qbu (cells := (t3 19 61 6).toArray) (z := .int .u64 0) rfl Tryz.underlying59 (by kernel_rfl) (by omega) (by omega) (by kernel_rfl)) rfl ?_; (try simp only [Act.put, lyy]); have A3 := Lib.hid (Arr.new u3 (t3 19 61 6) 58); have hb : Below u3.heap.size u3 (u3.alloc (.cells (t3 19 61 6).toArray 58)) := (Below.refl _ _).alloc (Nat.le_refl _) _; generalize u3.alloc (.cells (t3 19 61 6).toArray 58) = u4 at *; have R3 := hb.size
  replace bl := bl.trans (hb.mono bl.size); replace Z := Lib.hid (Z.out.below hb); replace A0 := Lib.hid (A0.out.below hb); replace A1 := Lib.hid (A1.out.below hb); replace A2 := Lib.hid (A2.out.below hb); clear hb
  refine qaa (run_bldH rfl rfl rfl rfl rfl rfl rfl) rfl ?_; (try simp only [Act.put, lyy])
  have HL : Hid ((Tryz.prog.info? 61).map (·.size) = some (hC64 ⟨u0.heap.size, u1.heap.size, u2.heap.size, u3.heap.size⟩).length) := Lib.hid (qcg _)
  refine qae (run_stA (vs := hC64 ⟨u0.heap.size, u1.heap.size, u2.heap.size, u3.heap.size⟩) rfl HL.out rfl rfl (by kernel_rfl) Z.out.there) rfl rfl ?_
  refine qac ?_
  have hT := (Z.out.put (l' := hC64 ⟨u0.heap.size, u1.heap.size, u2.heap.size, u3.heap.size⟩) rfl).range
  have HMM : Hid (HM64 ⟨u0.heap.size, u1.heap.size, u2.heap.size, u3.heap.size⟩ (u4.setCells w.heap.size 0 (hC64 ⟨u0.heap.size, u1.heap.size, u2.heap.size, u3.heap.size⟩))) := Lib.hid (by
    have a0 := A0.out.farAll (c := w.heap.size) (by omega) 0 (hC64 ⟨u0.heap.size, u1.heap.size, u2.heap.size, u3.heap.size⟩)
    have a1 := A1.out.farAll (c := w.heap.size) (by omega) 0 (hC64 ⟨u0.heap.size, u1.heap.size, u2.heap.size, u3.heap.size⟩)
    have a2 := A2.out.farAll (c := w.heap.size) (by omega) 0 (hC64 ⟨u0.heap.size, u1.heap.size, u2.heap.size, u3.heap.size⟩)
    have a3 := A3.out.farAll (c := w.heap.size) (by omega) 0 (hC64 ⟨u0.heap.size, u1.heap.size, u2.heap.size, u3.heap.size⟩)
    exact ⟨a0.lt, a1.lt, a2.lt, a3.lt, a0.range, a1.range, a2.range, a3.range⟩)
  replace bl := qas (Nat.le_refl w.heap.size) (hC64 ⟨u0.heap.size, u1.heap.size, u2.heap.size, u3.heap.size⟩) 0 bl
  clear A0 A1 A2 A3 Z
  generalize u4.setCells w.heap.size 0 (hC64 ⟨u0.heap.size, u1.heap.size, u2.heap.size, u3.heap.size⟩) = u5 at *
  go_wp2_with fail
  refine bodyPost_ret (results_row Tryz.results34 rfl Tryz.underlying61 rfl HL.out hT) rfl ⟨_, rfl, ⟨u0.heap.size, u1.heap.size, u2.heap.size, u3.heap.size⟩, rfl, HMM.out, bl⟩
theorem enters_wide : Enters 34 := qao Tryz.func34 (by kernel_rfl) rfl
end Go.Proofs.YtfdjmdfaidiliaaGreatDoor
namespace Go.Proofs.YtfdjmdfaidiliaaGreatDoor
open Go.RowKit
set_option maxRecDepth 20000
set_option maxHeartbeats 1000000 in
theorem big64_any (h : G4) (x : BitVec 64) (g a b c : Nat) (w : World) (hg : g < w.heap.size) (hr : w.rangeAt g 0 (t3 a b c)) (ha : a ≤ 64) (hb : b ≤ 64) (hc : c ≤ 64) :
    Calls Tryz.prog 92 #[.agg (hC64 h).toArray, b64 (up64 x), .slice (some ⟨g, 0, none⟩) 3 3] w fun e w' => e = .returned (b64 (up64 (ror64 x a ^^^ ror64 x b ^^^ ror64 x c))) ∧ Below w.heap.size w w' := by
  have A1 := Lib.hid (Arr.new w (hC64 h) 61)
  have b1 : Below w.heap.size w (w.alloc (.cells (hC64 h).toArray 61)) := (Below.refl _ _).alloc (Nat.le_refl _) _
  go_enter Tryz.func92, Tryz.ntmps92
  go_upto_region 0 with fail; refine wp_region_lit ?_
  refine qaa (run_box rfl rfl) rfl ?_; (try simp only [Act.put, lyy])
  refine qaa (qag (v := .int _ _) rfl rfl) rfl ?_; (try simp only [Act.put, lyy])
  refine qac ?_
  generalize w.alloc (.cells (hC64 h).toArray 61) = u1 at *
  have HR := Lib.hid (fun V (hV : Below u1.heap.size u1 V) => qa8 (qa8 hr hg b1) (Nat.lt_of_lt_of_le hg b1.size) hV)
  clear hr
  go_upto_region 1 with fail; refine qau 21 (by kernel_rfl) (by kernel_rfl) ?_
  refine qab _ (fun V hV => qad (qcy rfl Tryz.underlying61 rfl (qcg h) rfl (A1.out.below hV).range)) ?_; (try simp only [Act.put, lyy])
  refine qab _ (fun V hV => qad (qaf (v := b64 _) rfl rfl)) ?_; (try simp only [Act.put, lyy]); refine qab _ (fun V hV => qad (qaf (v := .slice (some _) _ _) rfl rfl)) ?_; (try simp only [Act.put, lyy])
  refine qab _ (fun V hV => qad (qa7 (i := 0) rfl Tryz.underlying59 (by kernel_rfl) rfl rfl (by omega))) ?_; (try simp only [Act.put, lyy])
  refine qab _ (fun V hV => qad (qdg rfl rfl (HR.out V hV 0 _ rfl))) ?_; (try simp only [Act.put, lyy])
  refine qab _ (fun V hV => qak (qbk qdm rfl rfl rfl rfl rfl) (rror64_any h x a V ha)) ?_; (try simp only [Act.put, lyy])
  refine qab _ (fun V hV => qad (qcy rfl Tryz.underlying61 rfl (qcg h) rfl (A1.out.below hV).range)) ?_; (try simp only [Act.put, lyy])
  refine qab _ (fun V hV => qad (qaf (v := b64 _) rfl rfl)) ?_; (try simp only [Act.put, lyy]); refine qab _ (fun V hV => qad (qaf (v := .slice (some _) _ _) rfl rfl)) ?_; (try simp only [Act.put, lyy])
  refine qab _ (fun V hV => qad (qa7 (i := 1) rfl Tryz.underlying59 (by kernel_rfl) rfl rfl (by omega))) ?_; (try simp only [Act.put, lyy])
  refine qab _ (fun V hV => qad (qdg rfl rfl (HR.out V hV 1 _ rfl))) ?_; (try simp only [Act.put, lyy])
  refine qab _ (fun V hV => qak (qbk qdm rfl rfl rfl rfl rfl) (rror64_any h x b V hb)) ?_; (try simp only [Act.put, lyy])
  refine qab _ (fun V hV => qad (qb4 rfl rfl rfl)) ?_; (try simp only [Act.put, lyy])
  refine qab _ (fun V hV => qad (qcy rfl Tryz.underlying61 rfl (qcg h) rfl (A1.out.below hV).range)) ?_; (try simp only [Act.put, lyy])
  refine qab _ (fun V hV => qad (qaf (v := b64 _) rfl rfl)) ?_; (try simp only [Act.put, lyy]); refine qab _ (fun V hV => qad (qaf (v := .slice (some _) _ _) rfl rfl)) ?_; (try simp only [Act.put, lyy])
  refine qab _ (fun V hV => qad (qa7 (i := 2) rfl Tryz.underlying59 (by kernel_rfl) rfl rfl (by omega))) ?_; (try simp only [Act.put, lyy])
  refine qab _ (fun V hV => qad (qdg rfl rfl (HR.out V hV 2 _ rfl))) ?_; (try simp only [Act.put, lyy])
  refine qab _ (fun V hV => qak (qbk qdm rfl rfl rfl rfl rfl) (rror64_any h x c V hc)) ?_; (try simp only [Act.put, lyy])
  refine qab _ (fun V hV => qad (qb4 rfl rfl rfl)) ?_; (try simp only [Act.put, lyy]); refine qab _ (fun V hV => qad (qag (v := b64 _) rfl rfl)) ?_; (try simp only [Act.put, lyy])
  refine qav ?_; intro u2 hb1; simp only [List.drop_succ_cons, List.drop_zero]
  refine qac ?_
  rw [← up_xor64, ← up_xor64]
  go_wp2_with fail
  go_ret
  exact ⟨rfl, b1.trans (hb1.mono b1.size)⟩
theorem enters_big64 : Enters 92 := qao Tryz.func92 (by kernel_rfl) rfl
set_option maxHeartbeats 1000000 in
theorem small64_any (h : G4) (x : BitVec 64) (g a b c : Nat) (w : World) (hg : g < w.heap.size) (hr : w.rangeAt g 0 (t3 a b c)) (ha : a ≤ 64) (hb : b ≤ 64) (hc : c ≤ 64) :
    Calls Tryz.prog 90 #[.agg (hC64 h).toArray, b64 (up64 x), .slice (some ⟨g, 0, none⟩) 3 3] w fun e w' => e = .returned (b64 (up64 (ror64 x a ^^^ ror64 x b ^^^ x >>> c))) ∧ Below w.heap.size w w' := by
  have A1 := Lib.hid (Arr.new w (hC64 h) 61)
  have b1 : Below w.heap.size w (w.alloc (.cells (hC64 h).toArray 61)) := (Below.refl _ _).alloc (Nat.le_refl _) _
  go_enter Tryz.func90, Tryz.ntmps90
  go_upto_region 0 with fail; refine wp_region_lit ?_
  refine qaa (run_box rfl rfl) rfl ?_; (try simp only [Act.put, lyy])
  refine qaa (qag (v := .int _ _) rfl rfl) rfl ?_; (try simp only [Act.put, lyy])
  refine qac ?_
  generalize w.alloc (.cells (hC64 h).toArray 61) = u1 at *
  have HR := Lib.hid (fun V (hV : Below u1.heap.size u1 V) => qa8 (qa8 hr hg b1) (Nat.lt_of_lt_of_le hg b1.size) hV)
  clear hr
  go_upto_region 1 with fail; refine qau 20 (by kernel_rfl) (by kernel_rfl) ?_
  refine qab _ (fun V hV => qad (qcy rfl Tryz.underlying61 rfl (qcg h) rfl (A1.out.below hV).range)) ?_; (try simp only [Act.put, lyy])
  refine qab _ (fun V hV => qad (qaf (v := b64 _) rfl rfl)) ?_; (try simp only [Act.put, lyy]); refine qab _ (fun V hV => qad (qaf (v := .slice (some _) _ _) rfl rfl)) ?_; (try simp only [Act.put, lyy])
  refine qab _ (fun V hV => qad (qa7 (i := 0) rfl Tryz.underlying59 (by kernel_rfl) rfl rfl (by omega))) ?_; (try simp only [Act.put, lyy])
  refine qab _ (fun V hV => qad (qdg rfl rfl (HR.out V hV 0 _ rfl))) ?_; (try simp only [Act.put, lyy])
  refine qab _ (fun V hV => qak (qbk qdm rfl rfl rfl rfl rfl) (rror64_any h x a V ha)) ?_; (try simp only [Act.put, lyy])
  refine qab _ (fun V hV => qad (qcy rfl Tryz.underlying61 rfl (qcg h) rfl (A1.out.below hV).range)) ?_; (try simp only [Act.put, lyy])
  refine qab _ (fun V hV => qad (qaf (v := b64 _) rfl rfl)) ?_; (try simp only [Act.put, lyy]); refine qab _ (fun V hV => qad (qaf (v := .slice (some _) _ _) rfl rfl)) ?_; (try simp only [Act.put, lyy])
  refine qab _ (fun V hV => qad (qa7 (i := 1) rfl Tryz.underlying59 (by kernel_rfl) rfl rfl (by omega))) ?_; (try simp only [Act.put, lyy])
  refine qab _ (fun V hV => qad (qdg rfl rfl (HR.out V hV 1 _ rfl))) ?_; (try simp only [Act.put, lyy])
  refine qab _ (fun V hV => qak (qbk qdm rfl rfl rfl rfl rfl) (rror64_any h x b V hb)) ?_; (try simp only [Act.put, lyy])
  refine qab _ (fun V hV => qad (qb4 rfl rfl rfl)) ?_; (try simp only [Act.put, lyy]); refine qab _ (fun V hV => qad (qaf (v := b64 _) rfl rfl)) ?_; (try simp only [Act.put, lyy]); refine qab _ (fun V hV => qad (qaf (v := .slice (some _) _ _) rfl rfl)) ?_; (try simp only [Act.put, lyy])
  refine qab _ (fun V hV => qad (qa7 (i := 2) rfl Tryz.underlying59 (by kernel_rfl) rfl rfl (by omega))) ?_; (try simp only [Act.put, lyy])
  refine qab _ (fun V hV => qad (qdg (v := .int .u64 (c : Int)) rfl rfl (HR.out V hV 2 _ rfl))) ?_; (try simp only [Act.put, lyy])
  refine qab _ (fun V hV => qad (qc1 rfl rfl rfl (by omega))) ?_; (try simp only [Act.put, lyy])
  refine qab _ (fun V hV => qad (qb4 rfl rfl rfl)) ?_; (try simp only [Act.put, lyy]); refine qab _ (fun V hV => qad (qag (v := b64 _) rfl rfl)) ?_; (try simp only [Act.put, lyy])
  refine qav ?_; intro u2 hb1; simp only [List.drop_succ_cons, List.drop_zero]
  refine qac ?_
  rw [← up_xor64, ← up_shr64, ← up_xor64]
  go_wp2_with fail
  go_ret
  exact ⟨rfl, b1.trans (hb1.mono b1.size)⟩
theorem enters_small64 : Enters 90 := qao Tryz.func90 (by kernel_rfl) rfl
end Go.Proofs.YtfdjmdfaidiliaaGreatDoor
namespace Go.Proofs.YtfdjmdfaidiliaaGreatDoor
open Go.RowKit
set_option maxRecDepth 20000
def tabOf (l : List (BitVec 64)) (i : Int) : BitVec 64 := if 0 ≤ i ∧ i < (l.length : Int) then l.getD i.toNat 0 else 0
theorem tabOf_low {l : List (BitVec 64)} {i : Int} (h : i < 0) : tabOf l i = 0 := by unfold tabOf; rw [if_neg (by omega)]
theorem tabOf_high {l : List (BitVec 64)} {i : Int} (h : (l.length : Int) ≤ i) : tabOf l i = 0 := by unfold tabOf; rw [if_neg (by omega)]
theorem tabOf_at {l : List (BitVec 64)} {k : Nat} (h : k < l.length) : tabOf l (k : Int) = l.getD k 0 := by unfold tabOf; rw [if_pos (by omega), Int.toNat_natCast]
theorem b64_zero : Value.int .u64 0 = b64 0 := rfl
set_option maxRecDepth 100000 in
set_option maxHeartbeats 1000000 in
theorem refround_any (i : Int) (w : World) : Calls Tryz.prog 91 #[.int .i64 i] w fun e w' => e = .returned (b64 (tabOf rtab i)) ∧ Below w.heap.size w w' := by
  have A1 := Arr.new w (rtab.map b64) 45
  have b1 : Below w.heap.size w (w.alloc (.cells (rtab.map b64).toArray 45)) := (Below.refl _ _).alloc (Nat.le_refl _) _
  have HA := Lib.hid A1; clear A1
  go_enter Tryz.func91, Tryz.ntmps91
  go_upto_region 1 with fail; refine wp_region_lit ?_
  refine qaa (qbu (cells := (rtab.map b64).toArray) (z := .int .u64 0) rfl Tryz.underlying90 (by kernel_rfl) (by omega) (by omega) (by kernel_rfl)) rfl ?_; (try simp only [Act.put, lyy])
  refine qaa (qag (v := .slice (some _) _ _) rfl rfl) rfl ?_; (try simp only [Act.put, lyy])
  refine qac ?_
  generalize w.alloc (.cells (rtab.map b64).toArray 45) = u1 at *
  by_cases h0 : i < 0
  · have E := Lib.hid (tabOf_low (l := rtab) h0)
    go_wp2_with fail
    go_ret
    exact ⟨by rw [E.out, ← b64_zero]; rfl, b1⟩
  · by_cases h1 : 80 ≤ i
    · have E := Lib.hid (tabOf_high (l := rtab) (i := i) (by rw [rtab_len]; exact h1))
      go_wp2_with fail
      go_ret
      exact ⟨by rw [E.out, ← b64_zero]; rfl, b1⟩
    · obtain ⟨k, rfl⟩ := Int.eq_ofNat_of_zero_le (show 0 ≤ i by omega)
      have hk : k < 80 := by omega
      have E := Lib.hid (tabOf_at (l := rtab) (k := k) (by rw [rtab_len]; exact hk))
      go_upto_region 4 with fail; refine wp_region_lit ?_
      refine qaa (qaf (v := .slice (some _) _ _) rfl rfl) rfl ?_; (try simp only [Act.put, lyy]); refine qaa (qaf (v := .int _ _) rfl rfl) rfl ?_; (try simp only [Act.put, lyy])
      refine qaa (qa7 rfl Tryz.underlying90 (by kernel_rfl) rfl rfl hk) rfl ?_; (try simp only [Act.put, lyy])
      rw [Nat.zero_add]
      refine qaa (qaz rfl rfl (HA.out.c k _ (qa5 b64 0 (by rw [rtab_len]; exact hk)))) rfl ?_; (try simp only [Act.put, lyy])
      refine qaa (qag (v := b64 _) rfl rfl) rfl ?_; (try simp only [Act.put, lyy])
      refine qac ?_
      go_wp2_with fail
      go_ret
      exact ⟨by rw [E.out]; rfl, b1⟩
theorem enters_refround : Enters 91 := qao Tryz.func91 (by kernel_rfl) rfl
set_option maxRecDepth 100000 in
set_option maxHeartbeats 1000000 in
theorem refbegin_any (i : Int) (w : World) : Calls Tryz.prog 61 #[.int .i64 i] w fun e w' => e = .returned (b64 (tabOf btab i)) ∧ Below w.heap.size w w' := by
  have A1 := Arr.new w (btab.map b64) 45
  have b1 : Below w.heap.size w (w.alloc (.cells (btab.map b64).toArray 45)) := (Below.refl _ _).alloc (Nat.le_refl _) _
  have HA := Lib.hid A1; clear A1
  go_enter Tryz.func61, Tryz.ntmps61
  go_upto_region 1 with fail; refine wp_region_lit ?_
  refine qaa (qbu (cells := (btab.map b64).toArray) (z := .int .u64 0) rfl Tryz.underlying90 (by kernel_rfl) (by omega) (by omega) (by kernel_rfl)) rfl ?_; (try simp only [Act.put, lyy])
  refine qaa (qag (v := .slice (some _) _ _) rfl rfl) rfl ?_; (try simp only [Act.put, lyy])
  refine qac ?_
  generalize w.alloc (.cells (btab.map b64).toArray 45) = u1 at *
  by_cases h0 : i < 0
  · have E := Lib.hid (tabOf_low (l := btab) h0)
    go_wp2_with fail
    go_ret
    exact ⟨by rw [E.out, ← b64_zero]; rfl, b1⟩
  · by_cases h1 : 8 ≤ i
    · have E := Lib.hid (tabOf_high (l := btab) (i := i) (by rw [btab_len]; exact h1))
      go_wp2_with fail
      go_ret
      exact ⟨by rw [E.out, ← b64_zero]; rfl, b1⟩
    · obtain ⟨k, rfl⟩ := Int.eq_ofNat_of_zero_le (show 0 ≤ i by omega)
      have hk : k < 8 := by omega
      have E := Lib.hid (tabOf_at (l := btab) (k := k) (by rw [btab_len]; exact hk))
      go_upto_region 4 with fail; refine wp_region_lit ?_
      refine qaa (qaf (v := .slice (some _) _ _) rfl rfl) rfl ?_; (try simp only [Act.put, lyy]); refine qaa (qaf (v := .int _ _) rfl rfl) rfl ?_; (try simp only [Act.put, lyy])
      refine qaa (qa7 rfl Tryz.underlying90 (by kernel_rfl) rfl rfl hk) rfl ?_; (try simp only [Act.put, lyy])
      rw [Nat.zero_add]
      refine qaa (qaz rfl rfl (HA.out.c k _ (qa5 b64 0 (by rw [btab_len]; exact hk)))) rfl ?_; (try simp only [Act.put, lyy])
      refine qaa (qag (v := b64 _) rfl rfl) rfl ?_; (try simp only [Act.put, lyy])
      refine qac ?_
      go_wp2_with fail
      go_ret
      exact ⟨by rw [E.out]; rfl, b1⟩
theorem enters_refbegin : Enters 61 := qao Tryz.func61 (by kernel_rfl) rfl
end Go.Proofs.YtfdjmdfaidiliaaGreatDoor
namespace Go.Proofs.YtfdjmdfaidiliaaGreatDoor
open Go.RowKit
set_option maxRecDepth 20000
theorem getD_set64 (l : List (BitVec 64)) (i j : Nat) (v : BitVec 64) (h : i < l.length) : (l.set i v).getD j 0 = if i = j then v else l.getD j 0 := by
  simp only [List.getD_eq_getElem?_getD, List.getElem?_set]
  by_cases e : i = j
  · subst e; simp [h]
  · simp [e]
theorem getD_rep64 (n j : Nat) : (List.replicate n (0 : BitVec 64)).getD j 0 = 0 := by
  rw [List.getD_eq_getElem?_getD, List.getElem?_replicate]; split <;> rfl
theorem fill_at64 (l : List (BitVec 8)) (j : Nat) (hj : j < 16) : ∀ k, k ≤ 128 → (qc7 l k).getD j 0 = wk64 (l.drop (j * 8)) (min (k - j * 8) 8)
  | 0, _ => by
    rw [show min (0 - j * 8) 8 = 0 by omega, qc7, wk64]
    exact getD_rep64 _ _
  | k + 1, h => by
    have ih := fill_at64 l j hj k (by omega)
    rw [qc7, getD_set64 _ _ _ _ (by rw [fill_len64]; omega)]
    by_cases e : k / 8 = j
    · rw [if_pos e, e, ih]
      have h1 : min (k - j * 8) 8 = k - j * 8 := by omega
      have h2 : min (k + 1 - j * 8) 8 = (k - j * 8) + 1 := by omega
      rw [h1, h2, wk64]
      have h3 : (l.drop (j * 8)).getD (k - j * 8) 0 = l.getD k 0 := by
        simp only [List.getD_eq_getElem?_getD, List.getElem?_drop]
        rw [show j * 8 + (k - j * 8) = k by omega]
      rw [h3]
    · rw [if_neg e, ih]
      have h1 : min (k - j * 8) 8 = min (k + 1 - j * 8) 8 := by omega
      rw [h1]
theorem sched_at64 (ws : List (BitVec 64)) (h : ws.length = 80) (j t : Nat) (ht : t < j + 16) : ∀ d, j + d ≤ 80 - 16 → (qdd ws (j + d)).getD t 0 = (qdd ws j).getD t 0
  | 0, _ => rfl
  | d + 1, hd => by
    rw [← Nat.add_assoc, qdd, getD_set64 _ _ _ _ (by rw [sched_len64 _ h]; omega), if_neg (by omega)]
    exact sched_at64 ws h j t ht d (by omega)
theorem spread_lo64 (l : List (BitVec 8)) (t : Nat) (ht : t < 16) : (qbd l).getD t 0 = wk64 (l.drop (t * 8)) 8 := by
  have h1 := sched_at64 (qc7 l 128) (fill_len64 l 128) 0 t (by omega) (80 - 16) (by omega)
  rw [Nat.zero_add] at h1
  unfold qbd
  rw [h1, qdd, fill_at64 l t ht 128 (Nat.le_refl _), show min (128 - t * 8) 8 = 8 by omega]
theorem spread_hi64 (l : List (BitVec 8)) (j : Nat) (hj : j < 80 - 16) : (qbd l).getD (j + 16) 0 = nextW64 (qbd l) j := by
  have hl := fill_len64 l 128
  have st : ∀ t, t < j + 16 → (qbd l).getD t 0 = (qdd (qc7 l 128) j).getD t 0 := fun t ht => by
    have := sched_at64 (qc7 l 128) hl j t ht (80 - 16 - j) (by omega)
    rw [show j + (80 - 16 - j) = 80 - 16 by omega] at this
    exact this
  have h1 := sched_at64 (qc7 l 128) hl (j + 1) (j + 16) (by omega) (80 - 16 - (j + 1)) (by omega)
  rw [show j + 1 + (80 - 16 - (j + 1)) = 80 - 16 by omega] at h1
  have h2 : (qbd l).getD (j + 16) 0 = (qdd (qc7 l 128) (j + 1)).getD (j + 16) 0 := h1
  rw [h2, qdd, getD_set64 _ _ _ _ (by rw [sched_len64 _ hl]; omega), if_pos rfl]
  unfold nextW64
  rw [st _ (by omega), st _ (by omega), st _ (by omega), st _ (by omega)]
theorem take_snoc64 (l : List (BitVec 64)) (t : Nat) (h : t < l.length) : l.take (t + 1) = l.take t ++ [l.getD t 0] := by
  rw [List.take_succ_eq_append_getElem h]; simp [h]
end Go.Proofs.YtfdjmdfaidiliaaGreatDoor
namespace Go.Proofs.YtfdjmdfaidiliaaGreatDoor
open Go.RowKit
set_option maxRecDepth 20000
def upL64 (l : List (BitVec 64)) : List (BitVec 64) := l.map up64
theorem upL_at64 (l : List (BitVec 64)) (t i : Nat) (h : i < t) (ht : t ≤ l.length) : ((upL64 (l.take t)).map b64)[i]? = some (b64 (up64 (l.getD i 0))) := by
  unfold upL64
  rw [List.map_map, List.getElem?_map, List.getElem?_take_of_lt h, List.getElem?_eq_getElem (by omega)]
  simp [List.getD_eq_getElem?_getD, show i < l.length by omega]
structure B1I64 (w : World) (h : G4) (l : List (BitVec 8)) (v : Value) (t : Nat) (u : World) : Prop where
  bl : Below w.heap.size w u
  A : Arr w.heap.size (hC64 h) u
  O : u.ownsRow (w.heap.size + 1) 45 1 v t ((upL64 ((qbd l).take t)).map b64)
theorem B1I64.below {w u u' : World} {h : G4} {l : List (BitVec 8)} {v : Value} {t : Nat} (i : B1I64 w h l v t u) (hb : Below u.heap.size u u') : B1I64 w h l v t u' :=
  ⟨i.bl.trans (hb.mono i.bl.size), i.A.below hb, qct i.O hb⟩
theorem next_eq64 (ws : List (BitVec 64)) (j : Nat) : dn64 (up64 (s164 (ws.getD (j + 14) 0)) + up64 (ws.getD (j + 9) 0) + up64 (s064 (ws.getD (j + 1) 0)) + up64 (ws.getD j 0)) = nextW64 ws j := by
  simp only [dn_add64, dn_up64]; rfl
theorem mul_word64 (t : Nat) : (t : Int) * 64 / 8 = ((t * 8 : Nat) : Int) := by omega
structure B2I64 (w : World) (h : G4) (st ws : List (BitVec 64)) (gs gw g : Nat) (s : List (BitVec 64)) (u : World) : Prop where
  bl : Below w.heap.size w u
  A : Arr w.heap.size (hC64 h) u
  W : Arr gw ((upL64 ws).map b64) u
  X : Arr gs ((upL64 st).map b64) u
  S : Arr g ((upL64 s).map b64) u
  hg : w.heap.size + 1 ≤ g
  hs : gs < w.heap.size
  len : s.length = 8
theorem B2I64.below {w u u' : World} {h : G4} {st ws : List (BitVec 64)} {gs gw g : Nat} {s : List (BitVec 64)} (i : B2I64 w h st ws gs gw g s u) (hb : Below u.heap.size u u') : B2I64 w h st ws gs gw g s u' :=
  ⟨i.bl.trans (hb.mono i.bl.size), i.A.below hb, i.W.below hb, i.X.below hb, i.S.below hb, i.hg, i.hs, i.len⟩
theorem up_at64 (l : List (BitVec 64)) (i : Nat) (h : i < l.length) : ((upL64 l).map b64)[i]? = some (b64 (up64 (l.getD i 0))) := by
  have := upL_at64 l l.length i h (Nat.le_refl _)
  rwa [List.take_length] at this
theorem B2I64.s {w u : World} {h : G4} {st ws : List (BitVec 64)} {gs gw g : Nat} {s : List (BitVec 64)} (i : B2I64 w h st ws gs gw g s u) {k : Nat} (hk : k < 8) : u.cell? ⟨g, k, none⟩ = some (b64 (up64 (s.getD k 0))) :=
  i.S.c k _ (up_at64 s k (by rw [i.len]; exact hk))
structure B3I64 (w : World) (h : G4) (st : List (BitVec 64)) (gs g : Nat) (s : List (BitVec 64)) (u : World) : Prop where
  bl : Below w.heap.size w u
  A : Arr w.heap.size (hC64 h) u
  X : Arr gs ((upL64 st).map b64) u
  S : Arr g ((upL64 s).map b64) u
  hg : w.heap.size + 1 ≤ g
  hs : gs < w.heap.size
  len : s.length = 8
theorem B3I64.below {w u u' : World} {h : G4} {st : List (BitVec 64)} {gs g : Nat} {s : List (BitVec 64)} (i : B3I64 w h st gs g s u) (hb : Below u.heap.size u u') : B3I64 w h st gs g s u' :=
  ⟨i.bl.trans (hb.mono i.bl.size), i.A.below hb, i.X.below hb, i.S.below hb, i.hg, i.hs, i.len⟩
theorem B3I64.set {w u : World} {h : G4} {st : List (BitVec 64)} {gs g : Nat} {s : List (BitVec 64)} (i : B3I64 w h st gs g s u) {k : Nat} (hk : k < 8) (v : BitVec 64) : B3I64 w h st gs g (s.set k v) (u.setCell ⟨g, k, none⟩ (b64 (up64 v))) := by
  have h1 := i.hg
  have h2 := i.hs
  refine ⟨i.bl.setCell (p := ⟨g, k, none⟩) (by show w.heap.size ≤ g; omega) _, i.A.far (by omega) _ _, i.X.far (by omega) _ _, ?_, i.hg, i.hs, by rw [List.length_set, i.len]⟩
  have := i.S.set (i := k) (by unfold upL64; rw [List.length_map, List.length_map, i.len]; exact hk) (b64 (up64 v))
  unfold upL64 at this ⊢
  rwa [qbw, ← List.map_set] at this
theorem E_of_list64 {st : List (BitVec 64)} (h : st.length = 8) : (E64.of st).list = st := by
  match st, h with
  | [a, b, c, d, e, f, g, i], _ => rfl
theorem addT_comm64 {a b : List (BitVec 64)} (ha : a.length = 8) (hb : b.length = 8) : addT64 a b 8 = addT64 b a 8 := by
  match a, ha, b, hb with
  | [a0, a1, a2, a3, a4, a5, a6, a7], _, [b0, b1, b2, b3, b4, b5, b6, b7], _ =>
    show [a0 + b0, a1 + b1, a2 + b2, a3 + b3, a4 + b4, a5 + b5, a6 + b6, a7 + b7] = [b0 + a0, b1 + a1, b2 + a2, b3 + a3, b4 + a4, b5 + a5, b6 + a6, b7 + a7]
    rw [BitVec.add_comm a0, BitVec.add_comm a1, BitVec.add_comm a2, BitVec.add_comm a3, BitVec.add_comm a4, BitVec.add_comm a5, BitVec.add_comm a6, BitVec.add_comm a7]
def T6464 (s : E64) (k : BitVec 64) (x : BitVec 64) : BitVec 64 := up64 s.h + up64 (S164 s.e) + (up64 s.e &&& up64 s.f ^^^ ~~~up64 s.e &&& up64 s.g) + k + up64 x
def U6464 (s : E64) : BitVec 64 := up64 (S064 s.a) + (up64 s.a &&& up64 s.b ^^^ up64 s.a &&& up64 s.c ^^^ up64 s.b &&& up64 s.c)
theorem T64_dn64 (s : E64) (k : BitVec 64) (x : BitVec 64) : dn64 (T6464 s k x) = tW64 s (dn64 k) x := by
  unfold T6464; simp only [dn_add64, dn_xor64, dn_and64, dn_not64, dn_up64]; rfl
theorem U64_dn64 (s : E64) : dn64 (U6464 s) = uW64 s := by
  unfold U6464; simp only [dn_add64, dn_xor64, dn_and64, dn_up64]; rfl
theorem kt_dn64 (t : Nat) : dn64 (rtab.getD t 0 >>> 0) = kt64 t := by unfold dn64 kt64; simp
set_option maxRecDepth 100000 in
set_option maxHeartbeats 4000000 in
theorem block64_any (h : G4) (vb : Value) (st : List (BitVec 64)) (l : List (BitVec 8)) (gs cs : Nat) (w : World) (hA : Arr gs ((upL64 st).map b64) w) (hst : st.length = 8) (hv : Sl vb l w) (hl : 128 ≤ l.length) (hl2 : l.length < 4611686018427387904) (hM : HM64 h w) :
    Calls Tryz.prog 62 #[.agg (hC64 h).toArray, .slice (some ⟨gs, 0, none⟩) 8 cs, vb] w fun e w' => ∃ v, e = .returned v ∧ (∃ g c, v = .slice (some ⟨g, 0, none⟩) 8 c ∧ 8 ≤ c ∧ w.heap.size ≤ g ∧ Arr g ((upL64 (mix64 st (qbd l))).map b64) w') ∧ Below w.heap.size w w' := by
  have HA := Lib.hid hA; clear hA
  have hul : (upL64 st).length = 8 := by unfold upL64; rw [List.length_map, hst]
  have HV := Lib.hid hv
  obtain ⟨b, f, c, rfl, hb, hr⟩ := hv.cell (by omega)
  have HR := Lib.hid hr; clear hr hv
  have HM := Lib.hid hM; clear hM
  have hI : Hid (B1I64 w h l (.slice none 0 0) 0 (w.alloc (.cells (hC64 h).toArray 61))) := Lib.hid ⟨(Below.refl _ _).alloc (Nat.le_refl _) _, Arr.new w _ _, World.ownsRow_nil _ _ _ _⟩
  have hwl := spread_len64 l
  go_enter Tryz.func62, Tryz.ntmps62
  go_upto_region 0 with fail; refine wp_region_lit ?_
  refine qaa (run_box rfl rfl) rfl ?_; (try simp only [Act.put, lyy])
  refine qaa (qag (v := .slice _ _ _) rfl rfl) rfl ?_; (try simp only [Act.put, lyy])
  refine qac ?_
  generalize w.alloc (.cells (hC64 h).toArray 61) = u1 at *
  go_upto_region 1 with fail; refine wp_region_lit ?_
  refine qaa (qag (v := .slice none 0 0) rfl rfl) rfl ?_; (try simp only [Act.put, lyy])
  refine qac ?_
  go_upto_region 2 with fail; refine wp_region_lit ?_
  refine qaa (qag (v := .int _ _) rfl rfl) rfl ?_; (try simp only [Act.put, lyy])
  refine qac ?_
  go_wp2_with fail
  go_loopw [7, 8] (fun v7 v8 u => ∃ t : Nat, t ≤ 80 ∧ v8 = .int .i64 (t : Int) ∧ B1I64 w h l v7 t u) (fun _ v8 _ => (80 - intOf v8).toNat)
  case atStart => exact ⟨0, by omega, rfl, hI.out⟩
  case round =>
    obtain ⟨t, ht, rfl, hJ⟩ := hrel
    replace hI := Lib.hid hJ
    clear hJ
    go_upto_region 3 with fail; refine wp_region_lit ?_
    refine qaa (qaf (v := .int _ _) rfl rfl) rfl ?_; (try simp only [Act.put, lyy])
    refine qaa (run_fld1 rfl rfl) rfl ?_; (try simp only [Act.put, lyy])
    refine qaa (run_ldin rfl rfl (hI.out.A.c 1 _ rfl)) rfl ?_; (try simp only [Act.put, lyy])
    refine qaa (run_lss rfl rfl rfl) rfl ?_; (try simp only [Act.put, lyy])
    refine qac ?_
    by_cases hlt : t = 80
    · rw [decide_eq_false (by omega)]
      subst hlt
      obtain ⟨gw, cw, rfl, hcw, hgw, AW⟩ := own_arr hI.out.O (by omega)
      rw [List.take_of_length_le (by rw [hwl]; exact Nat.le_refl _)] at AW
      have HW := Lib.hid AW; clear AW
      have HB := Lib.hid hI.out.bl
      have HH := Lib.hid hI.out.A
      have HMW := Lib.hid (HM.out.below hI.out.bl)
      have HAS := Lib.hid (HA.out.below hI.out.bl)
      have hgs := HA.out.lt
      clear hI HV HR
      have HMX : Hid (mix64 st (qbd l) = addT64 (mixN64 (qbd l) (E64.of st) 80).list st 8) := Lib.hid (by unfold mix64; exact addT_comm64 hst rfl)
      generalize hws : qbd l = ws at *
      have EWS := Lib.hid hws; clear hws
      go_upto_region 9 with fail; refine wp_region_lit ?_
      refine qaa (qag (v := .slice none 0 0) rfl rfl) rfl ?_; (try simp only [Act.put, lyy])
      refine qac ?_
      go_upto_region 10 with fail; refine wp_region_lit ?_
      refine qaa (qaf (v := .slice none 0 0) rfl rfl) rfl ?_; (try simp only [Act.put, lyy])
      refine qaa (qaf (v := .slice (some _) _ _) rfl rfl) rfl ?_; (try simp only [Act.put, lyy])
      refine qb0 (f := b64) (fun _ => rfl) (l := []) (m := upL64 st) (bw := 8) (z := .int .u64 0) rfl rfl Tryz.underlying90 (by kernel_rfl) rfl (by omega) rfl (World.ownsRow_nil _ wr.heap.size _ _) (by rw [hul]; rfl) HAS.out.range (by rw [hul]; omega) (Nat.le_refl _) (fun v3 u3 h3 hb3 => ?_); (try simp only [Act.put, lyy])
      rw [hul] at h3
      obtain ⟨g, c, rfl, hc8, hg, AS⟩ := own_arr h3 (by omega)
      have hhl := HH.out.lt
      have hI : Hid (B2I64 w h st ws gs gw g (E64.of st).list u3) := Lib.hid ⟨HB.out.trans (hb3.mono HB.out.size), HH.out.below hb3, HW.out.below hb3, HAS.out.below hb3, by rw [E_of_list64 hst]; exact AS, by omega, hgs, rfl⟩
      replace HMW := Lib.hid (HMW.out.below hb3)
      replace HB : Hid (Below w.heap.size w u3) := Lib.hid hI.out.bl
      clear AS h3 hb3 HH HW HAS hcw hhl
      refine qaa (qag (v := .slice (some _) _ _) rfl rfl) rfl ?_; (try simp only [Act.put, lyy])
      refine qac ?_
      go_upto_region 11 with fail; refine wp_region_lit ?_
      refine qaa (qag (v := .int _ _) rfl rfl) rfl ?_; (try simp only [Act.put, lyy])
      refine qac ?_
      go_wp2_with fail
      go_loopw [10, 11] (fun v10 v11 u => ∃ (t g c : Nat), t ≤ 80 ∧ v10 = .slice (some ⟨g, 0, none⟩) 8 c ∧ 8 ≤ c ∧ v11 = .int .i64 (t : Int) ∧ B2I64 w h st ws gs gw g (mixN64 ws (E64.of st) t).list u) (fun _ v11 _ => (80 - intOf v11).toNat)
      case atStart => exact ⟨0, g, c, by omega, rfl, hc8, rfl, hI.out⟩
      case round =>
        clear hI hc8 hg
        obtain ⟨t, g, c, ht, rfl, hc8, rfl, hJ⟩ := hrel
        have hI := Lib.hid hJ
        clear hJ HMW HB
        have HMW := Lib.hid (HM.out.below hI.out.bl)
        go_upto_region 12 with fail; refine wp_region_lit ?_
        refine qaa (qaf (v := .int _ _) rfl rfl) rfl ?_; (try simp only [Act.put, lyy])
        refine qaa (run_fld1 rfl rfl) rfl ?_; (try simp only [Act.put, lyy])
        refine qaa (run_ldin rfl rfl (hI.out.A.c 1 _ rfl)) rfl ?_; (try simp only [Act.put, lyy])
        refine qaa (run_lss rfl rfl rfl) rfl ?_; (try simp only [Act.put, lyy])
        refine qac ?_
        by_cases hlt : t = 80
        · rw [decide_eq_false (by omega)]
          subst hlt
          generalize (mixN64 ws (E64.of st) 80).list = xs at *
          have hK : Hid (B3I64 w h st gs g (addT64 xs st 0) wr) := Lib.hid ⟨hI.out.bl, hI.out.A, hI.out.X, hI.out.S, hI.out.hg, hI.out.hs, hI.out.len⟩
          clear hI HMW
          go_upto_region 19 with fail; refine wp_region_lit ?_
          refine qaa (qag (v := .int _ _) rfl rfl) rfl ?_; (try simp only [Act.put, lyy])
          refine qac ?_
          go_wp2_with fail
          go_loopw [16] (fun v16 u => ∃ i : Nat, i ≤ 8 ∧ v16 = .int .i64 (i : Int) ∧ B3I64 w h st gs g (addT64 xs st i) u) (fun v16 _ => (8 - intOf v16).toNat)
          case atStart => exact ⟨0, by omega, rfl, hK.out⟩
          case round =>
            obtain ⟨i, hi, rfl, hJ⟩ := hrel
            replace hK := Lib.hid hJ
            clear hJ
            by_cases hi8 : i = 8
            · subst hi8
              rw [← HMX.out] at hK
              have hk1 : ¬ (((8 : Nat) : Int) < 8) := by omega
              go_upto_region 23 with fail
              refine wp_region_lit ?_
              refine qaa (qaf (v := .slice (some _) _ _) rfl rfl) rfl ?_; (try simp only [Act.put, lyy]); refine qaa (qag (v := .slice (some _) _ _) rfl rfl) rfl ?_; (try simp only [Act.put, lyy])
              refine qac ?_
              go_wp2_with fail
              have hgg := hK.out.hg
              exact bodyPost_ret (results_tmp Tryz.results62 _ _ _) rfl ⟨_, rfl, ⟨g, c, rfl, hc8, by omega, by rw [EWS.out]; exact hK.out.S⟩, hK.out.bl⟩
            · have hk1 : (i : Int) < 8 := by omega
              have hi2 : i < 8 := by omega
              have HAD : Hid (addT64 xs st (i + 1) = (addT64 xs st i).set i ((addT64 xs st i).getD i 0 + st.getD i 0)) := Lib.hid rfl
              generalize addT64 xs st i = ys at *
              go_upto_region 22 with fail; refine qau 14 (by kernel_rfl) (by kernel_rfl) ?_
              refine qab _ (fun V hV => qad (qaf (v := .slice (some _) _ _) rfl rfl)) ?_; (try simp only [Act.put, lyy])
              refine qab _ (fun V hV => qad (qaf (v := .int _ _) rfl rfl)) ?_; (try simp only [Act.put, lyy])
              refine qab _ (fun V hV => qad (qcy rfl Tryz.underlying61 rfl (qcg h) rfl (hK.out.A.below hV).range)) ?_; (try simp only [Act.put, lyy])
              refine qab _ (fun V hV => qad (qaf (v := .slice (some _) _ _) rfl rfl)) ?_; (try simp only [Act.put, lyy])
              refine qab _ (fun V hV => qad (qaf (v := .int _ _) rfl rfl)) ?_; (try simp only [Act.put, lyy])
              refine qab _ (fun V hV => qad (qa7 rfl Tryz.underlying90 (by kernel_rfl) rfl rfl hi2)) ?_; (try simp only [Act.put, lyy])
              rw [Nat.zero_add i]
              refine qab _ (fun V hV => qad (qaz rfl rfl ((hK.out.S.below hV).c i _ (up_at64 ys i (by rw [hK.out.len]; exact hi2))))) ?_; (try simp only [Act.put, lyy])
              refine qab _ (fun V hV => qad (qaf (v := .slice (some _) _ _) rfl rfl)) ?_; (try simp only [Act.put, lyy])
              refine qab _ (fun V hV => qad (qaf (v := .int _ _) rfl rfl)) ?_; (try simp only [Act.put, lyy])
              refine qab _ (fun V hV => qad (qa7 rfl Tryz.underlying90 (by kernel_rfl) rfl rfl hi2)) ?_; (try simp only [Act.put, lyy])
              rw [Nat.zero_add i]
              refine qab _ (fun V hV => qad (qaz rfl rfl ((hK.out.X.below hV).c i _ (up_at64 st i (by rw [hst]; exact hi2))))) ?_; (try simp only [Act.put, lyy])
              refine qab _ (fun V hV => qad (run_add64 rfl rfl rfl)) ?_; (try simp only [Act.put, lyy])
              refine qab _ (fun V hV => qak (qam enters_cut64 rfl rfl rfl rfl) (cut64_any h (up64 (ys.getD i 0) + up64 (st.getD i 0)) V)) ?_; (try simp only [Act.put, lyy])
              rw [dn_add64, dn_up64, dn_up64]
              refine qab _ (fun V hV => qad (qa7 rfl Tryz.underlying90 (by kernel_rfl) rfl rfl hi2)) ?_; (try simp only [Act.put, lyy])
              rw [Nat.zero_add i]
              refine qav ?_; intro u5 hb5; simp only [List.drop_succ_cons, List.drop_zero]
              replace hK := Lib.hid (hK.out.below hb5)
              clear hb5
              refine qae (run_st64 rfl rfl rfl (hK.out.S.c i _ (up_at64 ys i (by rw [hK.out.len]; exact hi2))) (hK.out.S.f _)) rfl rfl ?_
              refine qac ?_
              replace hK := Lib.hid (hK.out.set hi2 (ys.getD i 0 + st.getD i 0))
              rw [← HAD.out] at hK
              generalize u5.setCell ⟨g, i, none⟩ (b64 (up64 (ys.getD i 0 + st.getD i 0))) = u6 at *
              go_wp2_with fail
              go_roundw
              case rel => exact ⟨i + 1, by omega, by go_num, hK.out⟩
              case measure => simp [intOf]; omega
        · rw [decide_eq_true (by omega)]
          have HRN : Hid ((mixN64 ws (E64.of st) (t + 1)).list = (rnd64 (mixN64 ws (E64.of st) t) (kt64 t) (ws.getD t 0)).list) := Lib.hid rfl
          generalize mixN64 ws (E64.of st) t = s at *
          have C0 := Lib.hid (fun V (hV : Below wr.heap.size wr V) => (hI.out.below hV).s (k := 0) (by omega))
          go_upto_region 14 with fail; refine wp_region_lit ?_
          refine qaa (qaf (v := .slice (some _) _ _) rfl rfl) rfl ?_; (try simp only [Act.put, lyy])
          refine qaa (qa7 (i := 4) rfl Tryz.underlying90 (by kernel_rfl) rfl rfl (by omega)) rfl ?_; (try simp only [Act.put, lyy])
          refine qaa (qaz (v := b64 (up64 s.e)) rfl rfl (hI.out.s (k := 4) (by omega))) rfl ?_; (try simp only [Act.put, lyy])
          refine qaa (qag (v := b64 _) rfl rfl) rfl ?_; (try simp only [Act.put, lyy])
          refine qac ?_
          go_upto_region 15 with fail; refine qau 7 (by kernel_rfl) (by kernel_rfl) ?_
          refine qab _ (fun V hV => qad (qaf (v := .int _ _) rfl rfl)) ?_; (try simp only [Act.put, lyy])
          refine qab _ (fun V hV => qak (qaj enters_refround rfl rfl rfl) (refround_any (t : Int) V)) ?_; (try simp only [Act.put, lyy])
          rw [tabOf_at (show t < rtab.length by rw [rtab_len]; omega)]
          refine qab _ (fun V hV => qad (run_fld0 rfl rfl)) ?_; (try simp only [Act.put, lyy])
          refine qab _ (fun V hV => qad (qdg rfl rfl ((hI.out.A.below hV).c 0 _ rfl))) ?_; (try simp only [Act.put, lyy])
          refine qab _ (fun V hV => qad (run_wsub64 (n := 64) rfl rfl rfl (by omega))) ?_; (try simp only [Act.put, lyy])
          refine qab _ (fun V hV => qad (qc1 rfl rfl rfl (by omega))) ?_; (try simp only [Act.put, lyy])
          refine qab _ (fun V hV => qad (qag (v := b64 _) rfl rfl)) ?_; (try simp only [Act.put, lyy])
          refine qav ?_; intro u5 hb5; simp only [List.drop_succ_cons, List.drop_zero]
          refine qac ?_
          replace hI := Lib.hid (hI.out.below hb5)
          replace HMW := Lib.hid (HMW.out.below hb5)
          clear hb5 C0
          have HK := Lib.hid (kt_dn64 t)
          replace HK : Hid (dn64 (rtab.getD t 0 >>> (64 - 64)) = kt64 t) := HK
          generalize rtab.getD t 0 >>> (64 - 64) = kk at *
          have F1 : Hid (dn64 (T6464 s kk (ws.getD t 0) + U6464 s) = (rnd64 s (kt64 t) (ws.getD t 0)).a) := Lib.hid (by rw [dn_add64, T64_dn64, U64_dn64, HK.out]; rfl)
          have F2 : Hid (dn64 (up64 s.d + T6464 s kk (ws.getD t 0)) = (rnd64 s (kt64 t) (ws.getD t 0)).e) := Lib.hid (by rw [dn_add64, T64_dn64, dn_up64, HK.out]; rfl)
          clear HK
          go_upto_region 16 with fail; refine qau 30 (by kernel_rfl) (by kernel_rfl) ?_
          refine qab _ (fun V hV => qad (qaf (v := .slice (some _) _ _) rfl rfl)) ?_; (try simp only [Act.put, lyy])
          refine qab _ (fun V hV => qad (qa7 (i := 7) rfl Tryz.underlying90 (by kernel_rfl) rfl rfl (by omega))) ?_; (try simp only [Act.put, lyy])
          refine qab _ (fun V hV => qad (qaz (v := b64 (up64 s.h)) rfl rfl ((hI.out.below hV).s (k := 7) (by omega)))) ?_; (try simp only [Act.put, lyy])
          refine qab _ (fun V hV => qad (qcy rfl Tryz.underlying61 rfl (qcg h) rfl (hI.out.A.below hV).range)) ?_; (try simp only [Act.put, lyy])
          refine qab _ (fun V hV => qad (qaf (v := b64 _) rfl rfl)) ?_; (try simp only [Act.put, lyy])
          refine qab _ (fun V hV => qad (run_fld3 rfl rfl)) ?_; (try simp only [Act.put, lyy])
          refine qab _ (fun V hV => qad (run_ldsl rfl rfl ((hI.out.A.below hV).c 3 _ rfl))) ?_; (try simp only [Act.put, lyy])
          refine qab _ (fun V hV => qak (qbk enters_big64 rfl rfl rfl rfl rfl) (big64_any h s.e _ _ _ _ _ (HMW.out.below hV).lb (HMW.out.below hV).rb (by omega) (by omega) (by omega))) ?_; (try simp only [Act.put, lyy])
          refine qab _ (fun V hV => qad (run_add64 rfl rfl rfl)) ?_; (try simp only [Act.put, lyy])
          refine qab _ (fun V hV => qad (qaf (v := b64 _) rfl rfl)) ?_; (try simp only [Act.put, lyy])
          refine qab _ (fun V hV => qad (qaf (v := .slice (some _) _ _) rfl rfl)) ?_; (try simp only [Act.put, lyy])
          refine qab _ (fun V hV => qad (qa7 (i := 5) rfl Tryz.underlying90 (by kernel_rfl) rfl rfl (by omega))) ?_; (try simp only [Act.put, lyy])
          refine qab _ (fun V hV => qad (qaz (v := b64 (up64 s.f)) rfl rfl ((hI.out.below hV).s (k := 5) (by omega)))) ?_; (try simp only [Act.put, lyy])
          refine qab _ (fun V hV => qad (qcb rfl rfl rfl)) ?_; (try simp only [Act.put, lyy])
          refine qab _ (fun V hV => qad (qaf (v := b64 _) rfl rfl)) ?_; (try simp only [Act.put, lyy])
          refine qab _ (fun V hV => qad (run_not64 rfl rfl)) ?_; (try simp only [Act.put, lyy])
          refine qab _ (fun V hV => qad (qaf (v := .slice (some _) _ _) rfl rfl)) ?_; (try simp only [Act.put, lyy])
          refine qab _ (fun V hV => qad (qa7 (i := 6) rfl Tryz.underlying90 (by kernel_rfl) rfl rfl (by omega))) ?_; (try simp only [Act.put, lyy])
          refine qab _ (fun V hV => qad (qaz (v := b64 (up64 s.g)) rfl rfl ((hI.out.below hV).s (k := 6) (by omega)))) ?_; (try simp only [Act.put, lyy])
          refine qab _ (fun V hV => qad (qcb rfl rfl rfl)) ?_; (try simp only [Act.put, lyy])
          refine qab _ (fun V hV => qad (qb4 rfl rfl rfl)) ?_; (try simp only [Act.put, lyy])
          refine qab _ (fun V hV => qad (run_add64 rfl rfl rfl)) ?_; (try simp only [Act.put, lyy])
          refine qab _ (fun V hV => qad (qaf (v := b64 _) rfl rfl)) ?_; (try simp only [Act.put, lyy])
          refine qab _ (fun V hV => qad (run_add64 rfl rfl rfl)) ?_; (try simp only [Act.put, lyy])
          refine qab _ (fun V hV => qad (qaf (v := .slice (some _) _ _) rfl rfl)) ?_; (try simp only [Act.put, lyy])
          refine qab _ (fun V hV => qad (qaf (v := .int _ _) rfl rfl)) ?_; (try simp only [Act.put, lyy])
          refine qab _ (fun V hV => qad (qa7 rfl Tryz.underlying90 (by kernel_rfl) rfl rfl (by omega))) ?_; (try simp only [Act.put, lyy])
          rw [Nat.zero_add t]
          refine qab _ (fun V hV => qad (qaz rfl rfl ((hI.out.W.below hV).c t _ (up_at64 ws t (by rw [hwl]; omega))))) ?_; (try simp only [Act.put, lyy])
          refine qab _ (fun V hV => qad (run_add64 rfl rfl rfl)) ?_; (try simp only [Act.put, lyy])
          refine qab _ (fun V hV => qad (qag (v := b64 (T6464 s kk (ws.getD t 0))) rfl rfl)) ?_; (try simp only [Act.put, lyy])
          refine qav ?_; intro u5 hb5; simp only [List.drop_succ_cons, List.drop_zero]
          refine qac ?_
          replace hI := Lib.hid (hI.out.below hb5)
          replace HMW := Lib.hid (HMW.out.below hb5)
          clear hb5
          generalize T6464 s kk (ws.getD t 0) = TT at *
          go_upto_region 17 with fail; refine qau 32 (by kernel_rfl) (by kernel_rfl) ?_
          refine qab _ (fun V hV => qad (qcy rfl Tryz.underlying61 rfl (qcg h) rfl (hI.out.A.below hV).range)) ?_; (try simp only [Act.put, lyy])
          refine qab _ (fun V hV => qad (qaf (v := .slice (some _) _ _) rfl rfl)) ?_; (try simp only [Act.put, lyy])
          refine qab _ (fun V hV => qad (qa7 (i := 0) rfl Tryz.underlying90 (by kernel_rfl) rfl rfl (by omega))) ?_; (try simp only [Act.put, lyy])
          refine qab _ (fun V hV => qad (qaz (v := b64 (up64 s.a)) rfl rfl ((hI.out.below hV).s (k := 0) (by omega)))) ?_; (try simp only [Act.put, lyy])
          refine qab _ (fun V hV => qad (run_fld2 rfl rfl)) ?_; (try simp only [Act.put, lyy])
          refine qab _ (fun V hV => qad (run_ldsl rfl rfl ((hI.out.A.below hV).c 2 _ rfl))) ?_; (try simp only [Act.put, lyy])
          refine qab _ (fun V hV => qak (qbk enters_big64 rfl rfl rfl rfl rfl) (big64_any h s.a _ _ _ _ _ (HMW.out.below hV).la (HMW.out.below hV).ra (by omega) (by omega) (by omega))) ?_; (try simp only [Act.put, lyy])
          refine qab _ (fun V hV => qad (qaf (v := .slice (some _) _ _) rfl rfl)) ?_; (try simp only [Act.put, lyy])
          refine qab _ (fun V hV => qad (qa7 (i := 0) rfl Tryz.underlying90 (by kernel_rfl) rfl rfl (by omega))) ?_; (try simp only [Act.put, lyy])
          refine qab _ (fun V hV => qad (qaz (v := b64 (up64 s.a)) rfl rfl ((hI.out.below hV).s (k := 0) (by omega)))) ?_; (try simp only [Act.put, lyy])
          refine qab _ (fun V hV => qad (qaf (v := .slice (some _) _ _) rfl rfl)) ?_; (try simp only [Act.put, lyy])
          refine qab _ (fun V hV => qad (qa7 (i := 1) rfl Tryz.underlying90 (by kernel_rfl) rfl rfl (by omega))) ?_; (try simp only [Act.put, lyy])
          refine qab _ (fun V hV => qad (qaz (v := b64 (up64 s.b)) rfl rfl ((hI.out.below hV).s (k := 1) (by omega)))) ?_; (try simp only [Act.put, lyy])
          refine qab _ (fun V hV => qad (qcb rfl rfl rfl)) ?_; (try simp only [Act.put, lyy])
          refine qab _ (fun V hV => qad (qaf (v := .slice (some _) _ _) rfl rfl)) ?_; (try simp only [Act.put, lyy])
          refine qab _ (fun V hV => qad (qa7 (i := 0) rfl Tryz.underlying90 (by kernel_rfl) rfl rfl (by omega))) ?_; (try simp only [Act.put, lyy])
          refine qab _ (fun V hV => qad (qaz (v := b64 (up64 s.a)) rfl rfl ((hI.out.below hV).s (k := 0) (by omega)))) ?_; (try simp only [Act.put, lyy])
          refine qab _ (fun V hV => qad (qaf (v := .slice (some _) _ _) rfl rfl)) ?_; (try simp only [Act.put, lyy])
          refine qab _ (fun V hV => qad (qa7 (i := 2) rfl Tryz.underlying90 (by kernel_rfl) rfl rfl (by omega))) ?_; (try simp only [Act.put, lyy])
          refine qab _ (fun V hV => qad (qaz (v := b64 (up64 s.c)) rfl rfl ((hI.out.below hV).s (k := 2) (by omega)))) ?_; (try simp only [Act.put, lyy])
          refine qab _ (fun V hV => qad (qcb rfl rfl rfl)) ?_; (try simp only [Act.put, lyy])
          refine qab _ (fun V hV => qad (qb4 rfl rfl rfl)) ?_; (try simp only [Act.put, lyy])
          refine qab _ (fun V hV => qad (qaf (v := .slice (some _) _ _) rfl rfl)) ?_; (try simp only [Act.put, lyy])
          refine qab _ (fun V hV => qad (qa7 (i := 1) rfl Tryz.underlying90 (by kernel_rfl) rfl rfl (by omega))) ?_; (try simp only [Act.put, lyy])
          refine qab _ (fun V hV => qad (qaz (v := b64 (up64 s.b)) rfl rfl ((hI.out.below hV).s (k := 1) (by omega)))) ?_; (try simp only [Act.put, lyy])
          refine qab _ (fun V hV => qad (qaf (v := .slice (some _) _ _) rfl rfl)) ?_; (try simp only [Act.put, lyy])
          refine qab _ (fun V hV => qad (qa7 (i := 2) rfl Tryz.underlying90 (by kernel_rfl) rfl rfl (by omega))) ?_; (try simp only [Act.put, lyy])
          refine qab _ (fun V hV => qad (qaz (v := b64 (up64 s.c)) rfl rfl ((hI.out.below hV).s (k := 2) (by omega)))) ?_; (try simp only [Act.put, lyy])
          refine qab _ (fun V hV => qad (qcb rfl rfl rfl)) ?_; (try simp only [Act.put, lyy])
          refine qab _ (fun V hV => qad (qb4 rfl rfl rfl)) ?_; (try simp only [Act.put, lyy])
          refine qab _ (fun V hV => qad (run_add64 rfl rfl rfl)) ?_; (try simp only [Act.put, lyy])
          refine qab _ (fun V hV => qad (qag (v := b64 (U6464 s)) rfl rfl)) ?_; (try simp only [Act.put, lyy])
          refine qav ?_; intro u5 hb5; simp only [List.drop_succ_cons, List.drop_zero]
          refine qac ?_
          replace hI := Lib.hid (hI.out.below hb5)
          clear hb5 HMW
          generalize U6464 s = UU at *
          go_upto_region 18 with fail; refine qau 30 (by kernel_rfl) (by kernel_rfl) ?_
          refine qab _ (fun V hV => qad (qcy rfl Tryz.underlying61 rfl (qcg h) rfl (hI.out.A.below hV).range)) ?_; (try simp only [Act.put, lyy])
          refine qab _ (fun V hV => qad (qaf (v := b64 _) rfl rfl)) ?_; (try simp only [Act.put, lyy])
          refine qab _ (fun V hV => qad (qaf (v := b64 _) rfl rfl)) ?_; (try simp only [Act.put, lyy])
          refine qab _ (fun V hV => qad (run_add64 rfl rfl rfl)) ?_; (try simp only [Act.put, lyy])
          refine qab _ (fun V hV => qak (qam enters_cut64 rfl rfl rfl rfl) (cut64_any h (TT + UU) V)) ?_; (try simp only [Act.put, lyy])
          rw [F1.out]
          refine qab _ (fun V hV => qad (qaf (v := .slice (some _) _ _) rfl rfl)) ?_; (try simp only [Act.put, lyy])
          refine qab _ (fun V hV => qad (qa7 (i := 0) rfl Tryz.underlying90 (by kernel_rfl) rfl rfl (by omega))) ?_; (try simp only [Act.put, lyy])
          refine qab _ (fun V hV => qad (qaz (v := b64 (up64 s.a)) rfl rfl ((hI.out.below hV).s (k := 0) (by omega)))) ?_; (try simp only [Act.put, lyy])
          refine qab _ (fun V hV => qad (qaf (v := .slice (some _) _ _) rfl rfl)) ?_; (try simp only [Act.put, lyy])
          refine qab _ (fun V hV => qad (qa7 (i := 1) rfl Tryz.underlying90 (by kernel_rfl) rfl rfl (by omega))) ?_; (try simp only [Act.put, lyy])
          refine qab _ (fun V hV => qad (qaz (v := b64 (up64 s.b)) rfl rfl ((hI.out.below hV).s (k := 1) (by omega)))) ?_; (try simp only [Act.put, lyy])
          refine qab _ (fun V hV => qad (qaf (v := .slice (some _) _ _) rfl rfl)) ?_; (try simp only [Act.put, lyy])
          refine qab _ (fun V hV => qad (qa7 (i := 2) rfl Tryz.underlying90 (by kernel_rfl) rfl rfl (by omega))) ?_; (try simp only [Act.put, lyy])
          refine qab _ (fun V hV => qad (qaz (v := b64 (up64 s.c)) rfl rfl ((hI.out.below hV).s (k := 2) (by omega)))) ?_; (try simp only [Act.put, lyy])
          refine qab _ (fun V hV => qad (qcy rfl Tryz.underlying61 rfl (qcg h) rfl (hI.out.A.below hV).range)) ?_; (try simp only [Act.put, lyy])
          refine qab _ (fun V hV => qad (qaf (v := .slice (some _) _ _) rfl rfl)) ?_; (try simp only [Act.put, lyy])
          refine qab _ (fun V hV => qad (qa7 (i := 3) rfl Tryz.underlying90 (by kernel_rfl) rfl rfl (by omega))) ?_; (try simp only [Act.put, lyy])
          refine qab _ (fun V hV => qad (qaz (v := b64 (up64 s.d)) rfl rfl ((hI.out.below hV).s (k := 3) (by omega)))) ?_; (try simp only [Act.put, lyy])
          refine qab _ (fun V hV => qad (qaf (v := b64 _) rfl rfl)) ?_; (try simp only [Act.put, lyy])
          refine qab _ (fun V hV => qad (run_add64 rfl rfl rfl)) ?_; (try simp only [Act.put, lyy])
          refine qab _ (fun V hV => qak (qam enters_cut64 rfl rfl rfl rfl) (cut64_any h (up64 s.d + TT) V)) ?_; (try simp only [Act.put, lyy])
          rw [F2.out]
          refine qab _ (fun V hV => qad (qaf (v := .slice (some _) _ _) rfl rfl)) ?_; (try simp only [Act.put, lyy])
          refine qab _ (fun V hV => qad (qa7 (i := 4) rfl Tryz.underlying90 (by kernel_rfl) rfl rfl (by omega))) ?_; (try simp only [Act.put, lyy])
          refine qab _ (fun V hV => qad (qaz (v := b64 (up64 s.e)) rfl rfl ((hI.out.below hV).s (k := 4) (by omega)))) ?_; (try simp only [Act.put, lyy])
          refine qab _ (fun V hV => qad (qaf (v := .slice (some _) _ _) rfl rfl)) ?_; (try simp only [Act.put, lyy])
          refine qab _ (fun V hV => qad (qa7 (i := 5) rfl Tryz.underlying90 (by kernel_rfl) rfl rfl (by omega))) ?_; (try simp only [Act.put, lyy])
          refine qab _ (fun V hV => qad (qaz (v := b64 (up64 s.f)) rfl rfl ((hI.out.below hV).s (k := 5) (by omega)))) ?_; (try simp only [Act.put, lyy])
          refine qab _ (fun V hV => qad (qaf (v := .slice (some _) _ _) rfl rfl)) ?_; (try simp only [Act.put, lyy])
          refine qab _ (fun V hV => qad (qa7 (i := 6) rfl Tryz.underlying90 (by kernel_rfl) rfl rfl (by omega))) ?_; (try simp only [Act.put, lyy])
          refine qab _ (fun V hV => qad (qaz (v := b64 (up64 s.g)) rfl rfl ((hI.out.below hV).s (k := 6) (by omega)))) ?_; (try simp only [Act.put, lyy])
          refine qav ?_; intro u5 hb5; simp only [List.drop_succ_cons, List.drop_zero]
          replace hI := Lib.hid (hI.out.below hb5)
          clear hb5 F1 F2
          generalize hrs : rnd64 s (kt64 t) (ws.getD t 0) = rs at *
          have HRS := Lib.hid hrs; clear hrs
          refine qaa (qbu (cells := ((upL64 [rs.a, s.a, s.b, s.c, rs.e, s.e, s.f, s.g]).map b64).toArray) (z := .int .u64 0) rfl Tryz.underlying90 (by kernel_rfl) (by omega) (by omega) (by kernel_rfl)) rfl ?_; (try simp only [Act.put, lyy])
          have hl8 : [rs.a, s.a, s.b, s.c, rs.e, s.e, s.f, s.g] = (mixN64 ws (E64.of st) (t + 1)).list := by rw [HRN.out, ← HRS.out]; rfl
          have hb6 : Below u5.heap.size u5 (u5.alloc (.cells ((upL64 [rs.a, s.a, s.b, s.c, rs.e, s.e, s.f, s.g]).map b64).toArray 45)) := (Below.refl _ _).alloc (Nat.le_refl _) _
          have A6 := Arr.new u5 ((upL64 [rs.a, s.a, s.b, s.c, rs.e, s.e, s.f, s.g]).map b64) 45
          rw [hl8] at A6 hb6 ⊢
          have hlt6 := hI.out.A.lt
          have H6 : Hid (B2I64 w h st ws gs gw u5.heap.size (mixN64 ws (E64.of st) (t + 1)).list (u5.alloc (.cells ((upL64 (mixN64 ws (E64.of st) (t + 1)).list).map b64).toArray 45))) := Lib.hid
            ⟨(hI.out.below hb6).bl, (hI.out.below hb6).A, (hI.out.below hb6).W, (hI.out.below hb6).X, A6, hlt6, hI.out.hs, rfl⟩
          clear A6 hb6 hl8
          generalize u5.alloc (.cells ((upL64 (mixN64 ws (E64.of st) (t + 1)).list).map b64).toArray 45) = u6 at *
          refine qaa (qag (v := .slice (some _) _ _) rfl rfl) rfl ?_; (try simp only [Act.put, lyy])
          refine qac ?_
          go_wp2_with fail
          go_roundw
          case rel => exact ⟨t + 1, u5.heap.size, 8, by omega, rfl, Nat.le_refl _, by go_num, H6.out⟩
          case measure => simp [intOf]; omega
    · rw [decide_eq_true (by omega)]
      go_upto_region 5 with fail; refine wp_region_lit ?_
      refine qaa (qaf (v := .int _ _) rfl rfl) rfl ?_; (try simp only [Act.put, lyy])
      refine qaa (run_lss rfl rfl rfl) rfl ?_; (try simp only [Act.put, lyy])
      refine qac ?_
      by_cases h16 : t < 16
      · rw [decide_eq_true (by omega)]
        go_upto_region 6 with fail; refine wp_region_lit ?_
        refine qaa (qaf (v := .int _ _) rfl rfl) rfl ?_; (try simp only [Act.put, lyy])
        refine qaa (run_fld0 rfl rfl) rfl ?_; (try simp only [Act.put, lyy])
        refine qaa (qdg rfl rfl (hI.out.A.c 0 _ rfl)) rfl ?_; (try simp only [Act.put, lyy])
        refine qaa (run_cvui rfl rfl (by omega) (by omega)) rfl ?_; (try simp only [Act.put, lyy])
        refine qaa (run_mul rfl rfl rfl (by omega) (by omega)) rfl ?_; (try simp only [Act.put, lyy])
        refine qaa (run_quo rfl rfl rfl (by omega) (by omega) (by omega)) rfl ?_; (try simp only [Act.put, lyy])
        rw [mul_word64 t]
        refine qaa (qag (v := .int _ _) rfl rfl) rfl ?_; (try simp only [Act.put, lyy])
        refine qac ?_
        have HX := Lib.hid (spread_lo64 l t h16)
        have hsz := hI.out.A.lt
        go_upto_region 7 with fail
        refine wp_region_noPanic ?_; refine qbe (S := Till 7 (fun V => Below wr.heap.size wr V)) (by kernel_rfl) (.inr (Below.refl _ _).drew) (fun _ => ?_); have hS : Below wr.heap.size wr wr.drew := (Below.refl _ _).drew
        refine qan 0 rfl rfl (by kernel_rfl) (by kernel_rfl) (by kernel_rfl) (by kernel_rfl) (by kernel_rfl) (fun _ _ _ h => h) rfl (fun V hV => qaf (v := u7) rfl rfl) hS ?_; (try simp only [Act.put, lyy])
        refine qan 1 rfl rfl (by kernel_rfl) (by kernel_rfl) (by kernel_rfl) (by kernel_rfl) (by kernel_rfl) (fun _ _ _ h => h) rfl (fun V hV => qcy rfl Tryz.underlying61 rfl (qcg h) rfl (hI.out.A.below hV).range) hS ?_; (try simp only [Act.put, lyy])
        refine qan 2 rfl rfl (by kernel_rfl) (by kernel_rfl) (by kernel_rfl) (by kernel_rfl) (by kernel_rfl) (fun _ _ _ h => h) rfl (fun V hV => qaf (v := .slice (some _) _ _) rfl rfl) hS ?_; (try simp only [Act.put, lyy])
        refine qan 3 rfl rfl (by kernel_rfl) (by kernel_rfl) (by kernel_rfl) (by kernel_rfl) (by kernel_rfl) (fun _ _ _ h => h) rfl (fun V hV => qaf (v := .int _ _) rfl rfl) hS ?_; (try simp only [Act.put, lyy])
        refine qan 4 rfl rfl (by kernel_rfl) (by kernel_rfl) (by kernel_rfl) (by kernel_rfl) (by kernel_rfl) (fun _ _ _ h => h) rfl (fun V hV => run_cut (l := t * 8) rfl Tryz.underlying24 (by kernel_rfl) rfl rfl (by omega)) hS ?_; (try simp only [Act.put, lyy])
        refine qcp 5 (by kernel_rfl) rfl rfl rfl (qam enters_word64 rfl rfl rfl rfl) (word64_any h _ (l.drop (t * 8)) _ ((HV.out.cut (by omega)).below (hI.out.bl.trans (hS.mono hI.out.bl.size))) (by rw [List.length_drop]; omega)) (fun w hb => hS.trans (hb.mono hS.size)) (fun u2 hb => ?_); replace hS := hS.trans (hb.mono hS.size); clear hb; (try simp only [Act.put, lyy])
        rw [← HX.out]
        generalize hx : (qbd l).getD t 0 = x at *
        have EX := Lib.hid hx; clear hx HX
        refine qcw 6 (by kernel_rfl) rfl rfl rfl (qbu (cells := #[b64 (up64 x)]) (z := .int .u64 0) rfl Tryz.underlying90 (by kernel_rfl) (by omega) (by omega) (by kernel_rfl)) (.inr (hS.alloc hS.size _)) ?_; (try simp only [Act.put, lyy]); replace hI := Lib.hid (hI.out.below hS); have hb2 : Below u2.heap.size u2 (u2.alloc (.cells #[b64 (up64 x)] 45)) := (Below.refl _ _).alloc (Nat.le_refl _) _; have A2 : Hid (Arr u2.heap.size ((upL64 [x]).map b64) (u2.alloc (.cells #[b64 (up64 x)] 45))) := Lib.hid (Arr.new u2 _ _); replace hI := Lib.hid (hI.out.below hb2); clear hb2 hS; generalize u2.alloc (.cells #[b64 (up64 x)] 45) = u3 at *; refine wpAnyD_app (f := b64) (fun _ => rfl) (l := upL64 ((qbd l).take (t))) (m := upL64 [x]) (bw := 8) (z := .int .u64 0) 7 (by kernel_rfl) rfl rfl rfl rfl rfl Tryz.underlying90 (by kernel_rfl) rfl (by omega) rfl hI.out.O rfl A2.out.range (by show t + 1 ≤ _; omega) hI.out.A.lt (fun v3 u4 h3 hb3 => ?_); (try simp only [Act.put, lyy]); refine qcw 8 (by kernel_rfl) rfl rfl rfl (qag (v := v3) rfl rfl) (.inl rfl) ?_; (try simp only [Act.put, lyy]); refine qa6 (by kernel_rfl) ?_ _; refine NoPanic.normal ?_; have H3 : Hid (B1I64 w h l v3 (t + 1) u4) := Lib.hid ⟨hI.out.bl.trans (hb3.mono (by omega)), arr_stands hI.out.A hb3, (by rw [take_snoc64 _ _ (by rw [hwl]; omega), EX.out]; unfold upL64 at *; rw [List.map_append]; exact h3)⟩; clear h3 hb3 A2 hI; go_wp2_with fail; go_roundw; (case rel => exact ⟨t + 1, by omega, by go_num, H3.out⟩); (case measure => simp [intOf]; omega)
      · rw [decide_eq_false (by omega)]
        obtain ⟨j, rfl⟩ : ∃ j, t = j + 16 := ⟨t - 16, by omega⟩
        have HX := Lib.hid (spread_hi64 l j (by omega))
        have HNX := Lib.hid (next_eq64 (qbd l) j)
        obtain ⟨g, cw, rfl, hcw, hg, AW⟩ := own_arr hI.out.O (by omega)
        have HC : Hid (∀ i, i < j + 16 → ∀ V, Below wr.heap.size wr V → V.cell? ⟨g, i, none⟩ = some (b64 (up64 ((qbd l).getD i 0)))) := Lib.hid fun i hi V hV => (AW.below hV).c i _ (upL_at64 _ _ _ hi (by rw [hwl]; omega))
        clear AW
        have HMW := Lib.hid (HM.out.below hI.out.bl)
        have hsz := hI.out.A.lt
        go_upto_region 8 with fail
        refine wp_region_noPanic ?_; refine qbe (S := Till 35 (fun V => Below wr.heap.size wr V)) (by kernel_rfl) (.inr (Below.refl _ _).drew) (fun _ => ?_); have hS : Below wr.heap.size wr wr.drew := (Below.refl _ _).drew
        refine qan 0 rfl rfl (by kernel_rfl) (by kernel_rfl) (by kernel_rfl) (by kernel_rfl) (by kernel_rfl) (fun _ _ _ h => h) rfl (fun V hV => qaf (v := .slice (some _) _ _) rfl rfl) hS ?_; (try simp only [Act.put, lyy])
        refine qan 1 rfl rfl (by kernel_rfl) (by kernel_rfl) (by kernel_rfl) (by kernel_rfl) (by kernel_rfl) (fun _ _ _ h => h) rfl (fun V hV => qcy rfl Tryz.underlying61 rfl (qcg h) rfl (hI.out.A.below hV).range) hS ?_; (try simp only [Act.put, lyy])
        refine qan 2 rfl rfl (by kernel_rfl) (by kernel_rfl) (by kernel_rfl) (by kernel_rfl) (by kernel_rfl) (fun _ _ _ h => h) rfl (fun V hV => qcy rfl Tryz.underlying61 rfl (qcg h) rfl (hI.out.A.below hV).range) hS ?_; (try simp only [Act.put, lyy])
        refine qan 3 rfl rfl (by kernel_rfl) (by kernel_rfl) (by kernel_rfl) (by kernel_rfl) (by kernel_rfl) (fun _ _ _ h => h) rfl (fun V hV => qaf (v := .slice (some _) _ _) rfl rfl) hS ?_; (try simp only [Act.put, lyy])
        refine qan 4 rfl rfl (by kernel_rfl) (by kernel_rfl) (by kernel_rfl) (by kernel_rfl) (by kernel_rfl) (fun _ _ _ h => h) rfl (fun V hV => qaf (v := .int _ _) rfl rfl) hS ?_; (try simp only [Act.put, lyy])
        refine qan 5 rfl rfl (by kernel_rfl) (by kernel_rfl) (by kernel_rfl) (by kernel_rfl) (by kernel_rfl) (fun _ _ _ h => h) rfl (fun V hV => qb6 rfl rfl rfl (by omega) (by omega)) hS ?_; (try simp only [Act.put, lyy])
        rw [show (((j + 16 : Nat) : Int) - 2) = ((j + 14 : Nat) : Int) by omega]
        refine qan 6 rfl rfl (by kernel_rfl) (by kernel_rfl) (by kernel_rfl) (by kernel_rfl) (by kernel_rfl) (fun _ _ _ h => h) rfl (fun V hV => qa7 rfl Tryz.underlying90 (by kernel_rfl) rfl rfl (by omega)) hS ?_; (try simp only [Act.put, lyy])
        rw [Nat.zero_add]
        refine qan 7 rfl rfl (by kernel_rfl) (by kernel_rfl) (by kernel_rfl) (by kernel_rfl) (by kernel_rfl) (fun _ _ _ h => h) rfl (fun V hV => qaz rfl rfl (HC.out (j + 14) (by omega) V hV)) hS ?_; (try simp only [Act.put, lyy])
        refine qan 8 rfl rfl (by kernel_rfl) (by kernel_rfl) (by kernel_rfl) (by kernel_rfl) (by kernel_rfl) (fun _ _ _ h => h) rfl (fun V hV => run_fld5 rfl rfl) hS ?_; (try simp only [Act.put, lyy])
        refine qan 9 rfl rfl (by kernel_rfl) (by kernel_rfl) (by kernel_rfl) (by kernel_rfl) (by kernel_rfl) (fun _ _ _ h => h) rfl (fun V hV => run_ldsl rfl rfl ((hI.out.A.below hV).c 5 _ rfl)) hS ?_; (try simp only [Act.put, lyy])
        refine qan 11 rfl rfl (by kernel_rfl) (by kernel_rfl) (by kernel_rfl) (by kernel_rfl) (by kernel_rfl) (fun _ _ _ h => h) rfl (fun V hV => qaf (v := .slice (some _) _ _) rfl rfl) hS ?_; (try simp only [Act.put, lyy])
        refine qan 12 rfl rfl (by kernel_rfl) (by kernel_rfl) (by kernel_rfl) (by kernel_rfl) (by kernel_rfl) (fun _ _ _ h => h) rfl (fun V hV => qaf (v := .int _ _) rfl rfl) hS ?_; (try simp only [Act.put, lyy])
        refine qan 13 rfl rfl (by kernel_rfl) (by kernel_rfl) (by kernel_rfl) (by kernel_rfl) (by kernel_rfl) (fun _ _ _ h => h) rfl (fun V hV => qb6 rfl rfl rfl (by omega) (by omega)) hS ?_; (try simp only [Act.put, lyy])
        rw [show (((j + 16 : Nat) : Int) - 7) = ((j + 9 : Nat) : Int) by omega]
        refine qan 14 rfl rfl (by kernel_rfl) (by kernel_rfl) (by kernel_rfl) (by kernel_rfl) (by kernel_rfl) (fun _ _ _ h => h) rfl (fun V hV => qa7 rfl Tryz.underlying90 (by kernel_rfl) rfl rfl (by omega)) hS ?_; (try simp only [Act.put, lyy])
        rw [Nat.zero_add]
        refine qan 15 rfl rfl (by kernel_rfl) (by kernel_rfl) (by kernel_rfl) (by kernel_rfl) (by kernel_rfl) (fun _ _ _ h => h) rfl (fun V hV => qaz rfl rfl (HC.out (j + 9) (by omega) V hV)) hS ?_; (try simp only [Act.put, lyy])
        refine qan 17 rfl rfl (by kernel_rfl) (by kernel_rfl) (by kernel_rfl) (by kernel_rfl) (by kernel_rfl) (fun _ _ _ h => h) rfl (fun V hV => qcy rfl Tryz.underlying61 rfl (qcg h) rfl (hI.out.A.below hV).range) hS ?_; (try simp only [Act.put, lyy])
        refine qan 18 rfl rfl (by kernel_rfl) (by kernel_rfl) (by kernel_rfl) (by kernel_rfl) (by kernel_rfl) (fun _ _ _ h => h) rfl (fun V hV => qaf (v := .slice (some _) _ _) rfl rfl) hS ?_; (try simp only [Act.put, lyy])
        refine qan 19 rfl rfl (by kernel_rfl) (by kernel_rfl) (by kernel_rfl) (by kernel_rfl) (by kernel_rfl) (fun _ _ _ h => h) rfl (fun V hV => qaf (v := .int _ _) rfl rfl) hS ?_; (try simp only [Act.put, lyy])
        refine qan 20 rfl rfl (by kernel_rfl) (by kernel_rfl) (by kernel_rfl) (by kernel_rfl) (by kernel_rfl) (fun _ _ _ h => h) rfl (fun V hV => qb6 rfl rfl rfl (by omega) (by omega)) hS ?_; (try simp only [Act.put, lyy])
        rw [show (((j + 16 : Nat) : Int) - 15) = ((j + 1 : Nat) : Int) by omega]
        refine qan 21 rfl rfl (by kernel_rfl) (by kernel_rfl) (by kernel_rfl) (by kernel_rfl) (by kernel_rfl) (fun _ _ _ h => h) rfl (fun V hV => qa7 rfl Tryz.underlying90 (by kernel_rfl) rfl rfl (by omega)) hS ?_; (try simp only [Act.put, lyy])
        rw [Nat.zero_add]
        refine qan 22 rfl rfl (by kernel_rfl) (by kernel_rfl) (by kernel_rfl) (by kernel_rfl) (by kernel_rfl) (fun _ _ _ h => h) rfl (fun V hV => qaz rfl rfl (HC.out (j + 1) (by omega) V hV)) hS ?_; (try simp only [Act.put, lyy])
        refine qan 23 rfl rfl (by kernel_rfl) (by kernel_rfl) (by kernel_rfl) (by kernel_rfl) (by kernel_rfl) (fun _ _ _ h => h) rfl (fun V hV => run_fld4 rfl rfl) hS ?_; (try simp only [Act.put, lyy])
        refine qan 24 rfl rfl (by kernel_rfl) (by kernel_rfl) (by kernel_rfl) (by kernel_rfl) (by kernel_rfl) (fun _ _ _ h => h) rfl (fun V hV => run_ldsl rfl rfl ((hI.out.A.below hV).c 4 _ rfl)) hS ?_; (try simp only [Act.put, lyy])
        refine qan 27 rfl rfl (by kernel_rfl) (by kernel_rfl) (by kernel_rfl) (by kernel_rfl) (by kernel_rfl) (fun _ _ _ h => h) rfl (fun V hV => qaf (v := .slice (some _) _ _) rfl rfl) hS ?_; (try simp only [Act.put, lyy])
        refine qan 28 rfl rfl (by kernel_rfl) (by kernel_rfl) (by kernel_rfl) (by kernel_rfl) (by kernel_rfl) (fun _ _ _ h => h) rfl (fun V hV => qaf (v := .int _ _) rfl rfl) hS ?_; (try simp only [Act.put, lyy])
        refine qan 29 rfl rfl (by kernel_rfl) (by kernel_rfl) (by kernel_rfl) (by kernel_rfl) (by kernel_rfl) (fun _ _ _ h => h) rfl (fun V hV => qb6 rfl rfl rfl (by omega) (by omega)) hS ?_; (try simp only [Act.put, lyy])
        rw [show (((j + 16 : Nat) : Int) - 16) = ((j : Nat) : Int) by omega]
        refine qan 30 rfl rfl (by kernel_rfl) (by kernel_rfl) (by kernel_rfl) (by kernel_rfl) (by kernel_rfl) (fun _ _ _ h => h) rfl (fun V hV => qa7 rfl Tryz.underlying90 (by kernel_rfl) rfl rfl (by omega)) hS ?_; (try simp only [Act.put, lyy])
        rw [Nat.zero_add]
        refine qan 31 rfl rfl (by kernel_rfl) (by kernel_rfl) (by kernel_rfl) (by kernel_rfl) (by kernel_rfl) (fun _ _ _ h => h) rfl (fun V hV => qaz rfl rfl (HC.out j (by omega) V hV)) hS ?_; (try simp only [Act.put, lyy])
        refine qcp 10 (by kernel_rfl) rfl rfl rfl (qbk enters_small64 rfl rfl rfl rfl rfl) (small64_any h _ _ _ _ _ _ (HMW.out.below hS).ld (HMW.out.below hS).rd (by omega) (by omega) (by omega)) (fun w hb => hS.trans (hb.mono hS.size)) (fun u2 hb => ?_); replace hS := hS.trans (hb.mono hS.size); clear hb; (try simp only [Act.put, lyy])
        refine qan 16 rfl rfl (by kernel_rfl) (by kernel_rfl) (by kernel_rfl) (by kernel_rfl) (by kernel_rfl) (fun _ _ _ h => h) rfl (fun V hV => run_add64 rfl rfl rfl) hS ?_; (try simp only [Act.put, lyy])
        refine qcp 25 (by kernel_rfl) rfl rfl rfl (qbk enters_small64 rfl rfl rfl rfl rfl) (small64_any h _ _ _ _ _ _ (HMW.out.below hS).lc (HMW.out.below hS).rc (by omega) (by omega) (by omega)) (fun w hb => hS.trans (hb.mono hS.size)) (fun u5 hb => ?_); replace hS := hS.trans (hb.mono hS.size); clear hb; (try simp only [Act.put, lyy])
        refine qan 26 rfl rfl (by kernel_rfl) (by kernel_rfl) (by kernel_rfl) (by kernel_rfl) (by kernel_rfl) (fun _ _ _ h => h) rfl (fun V hV => run_add64 rfl rfl rfl) hS ?_; (try simp only [Act.put, lyy])
        refine qan 32 rfl rfl (by kernel_rfl) (by kernel_rfl) (by kernel_rfl) (by kernel_rfl) (by kernel_rfl) (fun _ _ _ h => h) rfl (fun V hV => run_add64 rfl rfl rfl) hS ?_; (try simp only [Act.put, lyy])
        refine qcp 33 (by kernel_rfl) rfl rfl rfl (qam enters_cut64 rfl rfl rfl rfl) (cut64_any h (up64 (s164 ((qbd l).getD (j + 14) 0)) + up64 ((qbd l).getD (j + 9) 0) + up64 (s064 ((qbd l).getD (j + 1) 0)) + up64 ((qbd l).getD j 0)) _) (fun w hb => hS.trans (hb.mono hS.size)) (fun u6 hb => ?_); replace hS := hS.trans (hb.mono hS.size); clear hb; (try simp only [Act.put, lyy])
        rw [HNX.out, ← HX.out]
        clear HNX HC HMW
        generalize hx : (qbd l).getD (j + 16) 0 = x at *
        have EX := Lib.hid hx; clear hx HX
        refine qcw 34 (by kernel_rfl) rfl rfl rfl (qbu (cells := #[b64 (up64 x)]) (z := .int .u64 0) rfl Tryz.underlying90 (by kernel_rfl) (by omega) (by omega) (by kernel_rfl)) (.inr (hS.alloc hS.size _)) ?_; (try simp only [Act.put, lyy]); replace hI := Lib.hid (hI.out.below hS); have hb2 : Below u6.heap.size u6 (u6.alloc (.cells #[b64 (up64 x)] 45)) := (Below.refl _ _).alloc (Nat.le_refl _) _; have A2 : Hid (Arr u6.heap.size ((upL64 [x]).map b64) (u6.alloc (.cells #[b64 (up64 x)] 45))) := Lib.hid (Arr.new u6 _ _); replace hI := Lib.hid (hI.out.below hb2); clear hb2 hS; generalize u6.alloc (.cells #[b64 (up64 x)] 45) = u3 at *; refine wpAnyD_app (f := b64) (fun _ => rfl) (l := upL64 ((qbd l).take (j + 16))) (m := upL64 [x]) (bw := 8) (z := .int .u64 0) 35 (by kernel_rfl) rfl rfl rfl rfl rfl Tryz.underlying90 (by kernel_rfl) rfl (by omega) rfl hI.out.O rfl A2.out.range (by show j + 16 + 1 ≤ _; omega) hI.out.A.lt (fun v3 u4 h3 hb3 => ?_); (try simp only [Act.put, lyy]); refine qcw 36 (by kernel_rfl) rfl rfl rfl (qag (v := v3) rfl rfl) (.inl rfl) ?_; (try simp only [Act.put, lyy]); refine qa6 (by kernel_rfl) ?_ _; refine NoPanic.normal ?_; have H3 : Hid (B1I64 w h l v3 (j + 16 + 1) u4) := Lib.hid ⟨hI.out.bl.trans (hb3.mono (by omega)), arr_stands hI.out.A hb3, (by rw [take_snoc64 _ _ (by rw [hwl]; omega), EX.out]; unfold upL64 at *; rw [List.map_append]; exact h3)⟩; clear h3 hb3 A2 hI; go_wp2_with fail; go_roundw; (case rel => exact ⟨j + 16 + 1, by omega, by go_num, H3.out⟩); (case measure => simp [intOf]; omega)
theorem enters_block64 : Enters 62 := qao Tryz.func62 (by kernel_rfl) rfl
end Go.Proofs.YtfdjmdfaidiliaaGreatDoor
namespace Go.Proofs.YtfdjmdfaidiliaaGreatDoor
open Go.RowKit
set_option maxRecDepth 20000
theorem fill_congr64 {l l' : List (BitVec 8)} : ∀ k, (∀ j, j < k → l.getD j 0 = l'.getD j 0) → qc7 l k = qc7 l' k
  | 0, _ => rfl
  | k + 1, h => by rw [qc7, qc7, fill_congr64 k (fun j hj => h j (by omega)), h k (by omega)]
theorem spread_congr64 {l l' : List (BitVec 8)} (h : ∀ j, j < 128 → l.getD j 0 = l'.getD j 0) : qbd l = qbd l' := by
  unfold qbd; rw [fill_congr64 128 h]
theorem mixA_app64 : ∀ (n : Nat) (st : List (BitVec 64)) (a b : List (BitVec 8)), a.length = 128 * n → qb5 st (a ++ b) = qb5 (qb5 st a) b
  | 0, st, a, b, h => by
    have : a = [] := List.eq_nil_of_length_eq_zero (by omega)
    subst this
    rw [mixA_end64 (l := []) (by simp), List.nil_append]
  | n + 1, st, a, b, h => by
    have hl : 128 ≤ a.length := by omega
    rw [← mixA_step64 (l := a ++ b) (by rw [List.length_append]; omega), ← mixA_step64 (l := a) hl, List.drop_append_of_le_length hl,
      mixA_app64 n _ _ _ (by rw [List.length_drop]; omega), spread_congr64 (l := a ++ b) (l' := a) (fun j hj => by simp only [List.getD_eq_getElem?_getD]; rw [List.getElem?_append_left (by omega)])]
theorem mixA_whole64 (st : List (BitVec 64)) (l : List (BitVec 8)) : qb5 st (l.take (l.length - l.length % 128)) = qb5 st l := by
  have h := mixA_app64 (l.length / 128) st (l.take (l.length - l.length % 128)) (l.drop (l.length - l.length % 128)) (by rw [List.length_take]; omega)
  rw [List.take_append_drop, mixA_end64 (l := l.drop _) (by rw [List.length_drop]; omega)] at h
  exact h.symm
def lbT64 (n : Nat) : Nat → List (BitVec 8)
  | 0 => []
  | j + 1 => lbT64 n j ++ [lbX n (16 - 1 - j)]
theorem lbT_len64 (n : Nat) : ∀ j, (lbT64 n j).length = j
  | 0 => rfl
  | j + 1 => by rw [lbT64, List.length_append, lbT_len64 n j]; rfl
theorem lbT_get64 (n : Nat) : ∀ j i, i < j → (lbT64 n j)[i]? = some (lbX n (16 - 1 - i))
  | 0, _, h => absurd h (Nat.not_lt_zero _)
  | j + 1, i, h => by
    rw [lbT64]
    by_cases hi : i < j
    · rw [List.getElem?_append_left (by rw [lbT_len64]; exact hi)]; exact lbT_get64 n j i hi
    · have : i = j := by omega
      subst this
      rw [List.getElem?_append_right (by rw [lbT_len64]; exact Nat.le_refl _), lbT_len64, Nat.sub_self]; rfl
theorem putB_app64 (X : List (BitVec 8)) (n : Nat) (hn : n < 1152921504606846976) : putB (X ++ List.replicate 16 0) n = X ++ lbT64 n 16 := by
  have hlen : (X ++ List.replicate 16 (0 : BitVec 8)).length = X.length + 16 := by rw [List.length_append, List.length_replicate]
  apply List.ext_getElem?
  intro j
  unfold putB
  rw [putR_get, List.length_set, hlen]
  by_cases hj : j < X.length
  · rw [List.getElem?_append_left (l₂ := lbT64 n 16) hj, List.getElem?_set_ne (by omega), List.getElem?_append_left hj]
    refine if_neg fun h => h.2.2 ?_
    refine Nat.div_eq_of_lt (Nat.lt_of_lt_of_le (show n / 32 < 256 ^ 7 by omega) (Nat.pow_le_pow_right (by omega) (by omega)))
  · by_cases hj2 : j < X.length + 16
    · rw [List.getElem?_append_right (l₁ := X) (l₂ := lbT64 n 16) (by omega), lbT_get64 n 16 (j - X.length) (by omega), lbX_eq n _ hn]
      by_cases hl : j = X.length + 16 - 1
      · rw [if_neg (by omega), hl, List.getElem?_set_self (by rw [hlen]; omega)]
        rw [show 16 - 1 - (X.length + 16 - 1 - X.length) = 0 by omega]; simp
      · have e : n * 8 / 256 ^ (16 - 1 - (j - X.length)) = n / 32 / 256 ^ (X.length + 16 - 1 - 1 - j) := by
          rw [show 16 - 1 - (j - X.length) = (X.length + 16 - 1 - 1 - j) + 1 by omega, Nat.pow_succ, Nat.mul_comm (256 ^ _) 256, ← Nat.div_div_eq_div_mul, show n * 8 / 256 = n / 32 by omega]
        rw [e]
        by_cases hz : n / 32 / 256 ^ (X.length + 16 - 1 - 1 - j) = 0
        · rw [if_neg (fun h => h.2.2 hz), hz, List.getElem?_set_ne (by omega), List.getElem?_append_right (by omega), List.getElem?_replicate, if_pos (by omega)]; rfl
        · rw [if_pos ⟨by omega, hj2, hz⟩]
    · rw [if_neg (by omega), List.getElem?_eq_none (by rw [List.length_set, hlen]; omega), List.getElem?_eq_none (by rw [List.length_append, lbT_len64]; omega)]
def zc64 (n : Nat) : Nat := (2 * 128 - 16 - (n + 1) % 128) % 128
def pad64 (l : List (BitVec 8)) : List (BitVec 8) := l ++ [128] ++ List.replicate (zc64 l.length) 0 ++ lbT64 l.length 16
theorem tail_eq64 (l : List (BitVec 8)) (hn : l.length < 1152921504606846976) : tail64 l = qck l ++ [128] ++ List.replicate (zc64 l.length) 0 ++ lbT64 l.length 16 := by
  have hs := size_le64 l
  have hz : size64 l - l.length % 128 = 1 + (zc64 l.length + 16) := by unfold size64 zc64; split <;> omega
  unfold tail64
  rw [hz, show (1 + (zc64 l.length + 16)) = (zc64 l.length + 16) + 1 by omega, List.replicate_succ, List.set_append_right _ _ (by rw [left_len64]; exact Nat.le_refl _), left_len64, Nat.sub_self, List.set_cons_zero, ← List.replicate_append_replicate,
    show qck l ++ (128 :: (List.replicate (zc64 l.length) 0 ++ List.replicate 16 0)) = (qck l ++ [128] ++ List.replicate (zc64 l.length) 0) ++ List.replicate 16 0 by simp, putB_app64 _ _ hn]
theorem pad_mix64 (st : List (BitVec 64)) (l : List (BitVec 8)) (hn : l.length < 1152921504606846976) : qb5 st (pad64 l) = qb5 (qb5 st l) (tail64 l) := by
  have e : pad64 l = l.take (l.length - l.length % 128) ++ tail64 l := by
    rw [tail_eq64 l hn]
    unfold pad64 qck
    simp only [← List.append_assoc, List.take_append_drop]
  rw [e, mixA_app64 (l.length / 128) _ _ _ (by rw [List.length_take]; omega), mixA_whole64]
end Go.Proofs.YtfdjmdfaidiliaaGreatDoor
namespace Go.Proofs.YtfdjmdfaidiliaaGreatDoor
open Go.RowKit
set_option maxRecDepth 20000
structure SuI64 (w : World) (h : G4) (v : Value) (l : List (BitVec 8)) (u : World) : Prop where
  bl : Below w.heap.size w u
  A : Arr w.heap.size (hC64 h) u
  O : u.ownsRow (w.heap.size + 1) 5 1 v l.length (l.map b8)
theorem SuI64.below {w u u' : World} {h : G4} {v : Value} {l : List (BitVec 8)} (i : SuI64 w h v l u) (hb : Below u.heap.size u u') : SuI64 w h v l u' :=
  ⟨i.bl.trans (hb.mono i.bl.size), i.A.below hb, qct i.O hb⟩
theorem SuI64.push {w u u' : World} {h : G4} {v v' : Value} {l : List (BitVec 8)} {x : BitVec 8} (i : SuI64 w h v l u) (ho : u'.ownsRow (w.heap.size + 1) 5 1 v' (l.length + [x].length) ((l ++ [x]).map b8)) (hb : Below (w.heap.size + 1) u u') : SuI64 w h v' (l ++ [x]) u' :=
  ⟨i.bl.trans (hb.mono (by omega)), arr_stands i.A hb, by rw [List.length_append]; exact ho⟩
theorem bg_up64 (k : Nat) : btab.getD k 0 >>> (64 - 64) = up64 (bg64 k) := by
  unfold up64 bg64; simp
theorem beg_at64 (k : Nat) (h : k < 8) : (begT64 8).getD k 0 = bg64 k := by
  rcases (show k = 0 ∨ k = 1 ∨ k = 2 ∨ k = 3 ∨ k = 4 ∨ k = 5 ∨ k = 6 ∨ k = 7 by omega) with rfl | rfl | rfl | rfl | rfl | rfl | rfl | rfl <;> rfl
structure S364 (r : World) (v : Value) (k : Nat) (u : World) : Prop where
  bl : Below r.heap.size r u
  O : u.ownsRow r.heap.size 45 1 v k ((upL64 ((begT64 8).take k)).map b64)
theorem S364.below {r u u' : World} {v : Value} {k : Nat} (i : S364 r v k u) (hb : Below u.heap.size u u') : S364 r v k u' :=
  ⟨i.bl.trans (hb.mono i.bl.size), qct i.O hb⟩
structure S464 (r : World) (g : Nat) (st : List (BitVec 64)) (u : World) : Prop where
  bl : Below r.heap.size r u
  S : Arr g ((upL64 st).map b64) u
  len : st.length = 8
theorem S464.below {r u u' : World} {g : Nat} {st : List (BitVec 64)} (i : S464 r g st u) (hb : Below u.heap.size u u') : S464 r g st u' :=
  ⟨i.bl.trans (hb.mono i.bl.size), i.S.below hb, i.len⟩
theorem pad_len64 (l : List (BitVec 8)) : (pad64 l).length % 128 = 0 ∧ (pad64 l).length ≤ l.length + 1 + 128 + 16 := by
  unfold pad64
  rw [List.length_append, List.length_append, List.length_append, List.length_replicate, lbT_len64]
  show (l.length + 1 + zc64 l.length + 16) % 128 = 0 ∧ l.length + 1 + zc64 l.length + 16 ≤ l.length + 1 + 128 + 16
  unfold zc64
  omega
theorem digT_at64 (st : List (BitVec 64)) (t : Nat) : ∀ k, k ≤ 64 → t < k → (digT64 st k).getD t 0 = digB64 st t
  | 0, _, h => absurd h (Nat.not_lt_zero _)
  | k + 1, hk, h => by
    rw [digT64, getD_set8 _ _ _ _ (by rw [qda]; omega)]
    by_cases e : k = t
    · rw [if_pos e, e]
    · rw [if_neg e]; exact digT_at64 st t k (by omega) (by omega)
theorem dig_byte64 (st : List (BitVec 64)) (i m : Nat) (hi : i < 8) (hm : m < 8) : (up64 (st.getD i 0) >>> (8 * (8 - 1 - m))).setWidth 8 = (digT64 st 64).getD (i * 8 + m) 0 := by
  rw [digT_at64 st _ 64 (Nat.le_refl _) (by omega), digB64, show (i * 8 + m) / 8 = i by omega, show 8 * 8 - 8 - (i * 8 + m) % 8 * 8 = 8 * (8 - 1 - m) by omega, ← up_shr64]
  unfold up64
  exact BitVec.setWidth_setWidth_of_le _ (by omega)
theorem zc_spec64 (n k : Nat) (hk : k ≤ zc64 n) : (n + 1 + k) % 128 = 112 ↔ k = zc64 n := by unfold zc64 at *; omega
set_option maxRecDepth 100000 in
set_option maxHeartbeats 2000000 in
theorem rsum64_any (h : G4) (vb : Value) (l : List (BitVec 8)) (w : World) (hv : Sl vb l w) (hl : l.length ≤ 10000) (hM : HM64 h w) (hT : Tabs w) :
    Calls Tryz.prog 33 #[.agg (hC64 h).toArray, vb] w fun e w' => ∃ v, e = .returned v ∧ w'.ownsRow w.heap.size 5 1 v 64 ((sum64 l).map b8) ∧ Below w.heap.size w w' := by
  have HM := Lib.hid hM; clear hM
  have HT := Lib.hid hT; clear hT
  have HV := Lib.hid hv
  obtain ⟨ao, cc, rfl, hcc, h3⟩ := hv
  have hI : Hid (SuI64 w h (.slice none 0 0) [] (w.alloc (.cells (hC64 h).toArray 61))) := Lib.hid ⟨(Below.refl _ _).alloc (Nat.le_refl _) _, Arr.new w _ _, World.ownsRow_nil _ _ _ _⟩
  go_enter Tryz.func33, Tryz.ntmps33
  go_upto_region 0 with fail; refine wp_region_lit ?_
  refine qaa (run_box rfl rfl) rfl ?_; (try simp only [Act.put, lyy])
  refine qaa (qag (v := .slice _ _ _) rfl rfl) rfl ?_; (try simp only [Act.put, lyy])
  refine qac ?_
  generalize w.alloc (.cells (hC64 h).toArray 61) = u1 at *
  go_upto_region 1 with fail; refine wp_region_lit ?_
  refine qaa (run_fld0 rfl rfl) rfl ?_; (try simp only [Act.put, lyy])
  refine qaa (qdg rfl rfl (hI.out.A.c 0 _ rfl)) rfl ?_; (try simp only [Act.put, lyy])
  refine qaa (run_cvui rfl rfl (by omega) (by omega)) rfl ?_; (try simp only [Act.put, lyy])
  refine qaa (run_mul rfl rfl rfl (by omega) (by omega)) rfl ?_; (try simp only [Act.put, lyy])
  rw [show ((64 : Int) * 2) = 128 from rfl]
  refine qaa (qag (v := .int _ _) rfl rfl) rfl ?_; (try simp only [Act.put, lyy])
  refine qac ?_
  go_upto_region 2 with fail; refine wp_region_lit ?_
  refine qaa (qag (v := .slice none 0 0) rfl rfl) rfl ?_; (try simp only [Act.put, lyy])
  refine qac ?_
  go_upto_region 3 with fail; refine wp_region_lit ?_
  refine qaa (qaf (v := .slice none 0 0) rfl rfl) rfl ?_; (try simp only [Act.put, lyy])
  refine qaa (qaf (v := .slice _ _ _) rfl rfl) rfl ?_; (try simp only [Act.put, lyy])
  clear h3
  refine wpList_appS (base := w.heap.size + 1) rfl rfl rfl rfl (HV.out.below hI.out.bl) (by omega) hI.out.A.lt (fun v2 u2 h3 hb3 => ?_); (try simp only [Act.put, lyy])
  replace hI : Hid (SuI64 w h v2 l u2) := Lib.hid ⟨hI.out.bl.trans (hb3.mono (by omega)), arr_stands hI.out.A hb3, h3⟩
  clear h3 hb3
  refine qaa (qag (v := v2) rfl rfl) rfl ?_; (try simp only [Act.put, lyy])
  refine qac ?_
  go_upto_region 4 with fail; refine wp_region_lit ?_
  refine qaa (qaf (v := v2) rfl rfl) rfl ?_; (try simp only [Act.put, lyy])
  refine qaa (qbu (cells := #[b8 (128#8)]) (z := .int .u8 0) rfl Tryz.underlying24 (by kernel_rfl) (by omega) (by omega) (by kernel_rfl)) rfl ?_; (try simp only [Act.put, lyy]); have hb2 : Below u2.heap.size u2 (u2.alloc (.cells #[b8 (128#8)] 5)) := (Below.refl _ _).alloc (Nat.le_refl _) _; have A2 : Hid (Arr u2.heap.size ([128#8].map b8) (u2.alloc (.cells #[b8 (128#8)] 5))) := Lib.hid (Arr.new u2 _ _); replace hI := Lib.hid (hI.out.below hb2); clear hb2; generalize u2.alloc (.cells #[b8 (128#8)] 5) = u0 at *; refine qb0 (f := b8) (fun _ => rfl) (l := l) (m := [128#8]) (bw := 1) (z := .int .u8 0) rfl rfl Tryz.underlying24 (by kernel_rfl) rfl (by omega) rfl hI.out.O rfl A2.out.range (by show l.length + 1 ≤ _; omega) hI.out.A.lt (fun v3 u3 h3 hb3 => ?_); (try simp only [Act.put, lyy]); replace hI : Hid (SuI64 w h v3 (l ++ [128#8]) u3) := Lib.hid (hI.out.push h3 hb3); clear h3 hb3 A2; refine qaa (qag (v := v3) rfl rfl) rfl ?_; (try simp only [Act.put, lyy]); refine qac ?_
  have hI0 : Hid (SuI64 w h v3 (l ++ [128#8] ++ List.replicate 0 0) u3) := Lib.hid (by have := hI.out; rwa [← List.append_nil (l ++ [128#8])] at this)
  clear hI
  have hz : zc64 l.length ≤ 128 := by unfold zc64; omega
  go_wp2_with fail
  go_loopw [6] (fun v6 u => ∃ k : Nat, k ≤ zc64 l.length ∧ SuI64 w h v6 (l ++ [128#8] ++ List.replicate k 0) u) (fun v6 _ => l.length + 1 + zc64 l.length - slLen v6)
  case atStart => exact ⟨0, by omega, hI0.out⟩
  case round =>
    clear hI0
    obtain ⟨k, hk, hJ⟩ := hrel
    have hI := Lib.hid hJ
    clear hJ
    have hln : (l ++ [128#8] ++ List.replicate k 0).length = l.length + 1 + k := by rw [List.length_append, List.length_append, List.length_replicate]; rfl
    generalize hL : l ++ [128#8] ++ List.replicate k 0 = L at *
    have EL := Lib.hid hL; clear hL
    obtain ⟨a6, c6, h6, -, -⟩ := Sl.own hI.out.O
    subst h6
    have hzs := zc_spec64 l.length k hk
    go_upto_region 5 with fail; refine wp_region_lit ?_
    refine qaa (qaf (v := .slice _ _ _) rfl rfl) rfl ?_; (try simp only [Act.put, lyy])
    refine qaa (qch rfl Tryz.underlying24 rfl) rfl ?_; (try simp only [Act.put, lyy])
    refine qaa (qaf (v := .int _ _) rfl rfl) rfl ?_; (try simp only [Act.put, lyy])
    refine qaa (run_rem rfl rfl rfl (by omega) (by omega)) rfl ?_; (try simp only [Act.put, lyy])
    refine qaa (qaf (v := .int _ _) rfl rfl) rfl ?_; (try simp only [Act.put, lyy]); refine qaa (qaf (v := .int _ _) rfl rfl) rfl ?_; (try simp only [Act.put, lyy])
    refine qaa (run_quo rfl rfl rfl (by omega) (by omega) (by omega)) rfl ?_; (try simp only [Act.put, lyy])
    refine qaa (qb6 rfl rfl rfl (by omega) (by omega)) rfl ?_; (try simp only [Act.put, lyy])
    by_cases hkz : k = zc64 l.length
    · refine qaa (run_neqi (c := false) rfl rfl rfl (by simp; omega)) rfl ?_; (try simp only [Act.put, lyy])
      refine qac ?_
      rw [hkz] at EL hln
      clear hkz hk hzs
      have HPAD : Hid (pad64 l = L ++ lbT64 l.length 16) := Lib.hid (by rw [← EL.out]; rfl)
      clear EL
      generalize L = P0 at *
      go_upto_region 7 with fail; refine wp_region_lit ?_
      refine qaa (qaf (v := .int _ _) rfl rfl) rfl ?_; (try simp only [Act.put, lyy])
      refine qaa (run_quo rfl rfl rfl (by omega) (by omega) (by omega)) rfl ?_; (try simp only [Act.put, lyy])
      refine qaa (qb6 rfl rfl rfl (by omega) (by omega)) rfl ?_; (try simp only [Act.put, lyy])
      refine qaa (qag (v := .int _ _) rfl rfl) rfl ?_; (try simp only [Act.put, lyy])
      refine qac ?_
      have hI0 : Hid (SuI64 w h (.slice a6 P0.length c6) (P0 ++ lbT64 l.length 0) wr) := Lib.hid (by rw [lbT64, List.append_nil]; exact hI.out)
      clear hI
      go_wp2_with fail
      go_loopw [6, 7] (fun v6 v7 u => ∃ j : Nat, j ≤ 16 ∧ v7 = .int .i64 ((16 : Int) - 1 - (j : Int)) ∧ SuI64 w h v6 (P0 ++ lbT64 l.length j) u) (fun _ v7 _ => (intOf v7 + 1).toNat)
      case atStart => exact ⟨0, by omega, rfl, hI0.out⟩
      case round =>
        clear hI0
        obtain ⟨j, hj, rfl, hJ⟩ := hrel
        have hI := Lib.hid hJ
        clear hJ
        have hlj : (P0 ++ lbT64 l.length j).length = l.length + 1 + zc64 l.length + j := by rw [List.length_append, lbT_len64, hln]
        by_cases hjq : j = 16
        · subst hjq
          have hk1 : ¬ ((0 : Int) ≤ (16 : Int) - 1 - ((16 : Nat) : Int)) := by omega
          rw [← HPAD.out] at hI
          clear HPAD hlj
          have hpl := pad_len64 l
          have HEND : Hid (sum64 l = digT64 (qb5 (begT64 8) (pad64 l)) 64) := Lib.hid (by unfold sum64 endS64; rw [pad_mix64 _ _ (by omega)])
          generalize pad64 l = AL at *
          have SA := Lib.hid (Sl.own hI.out.O)
          have BA := Lib.hid (And.intro hI.out.bl hI.out.A)
          clear hI
          obtain ⟨aa, ca, h6, hca, -⟩ := SA.out
          subst h6
          go_upto_region 14 with fail
          generalize hW2 : wr = W2 at *
          clear hW2 wr
          refine wp_region_lit ?_
          refine qaa (qag (v := .slice none 0 0) rfl rfl) rfl ?_; (try simp only [Act.put, lyy])
          refine qac ?_
          have hI : Hid (S364 W2 (.slice none 0 0) 0 W2) := Lib.hid ⟨Below.refl _ _, World.ownsRow_nil _ _ _ _⟩
          have HMW := Lib.hid (HM.out.below BA.out.1)
          go_wp2_with fail
          go_loopw [9, 10] (fun v9 v10 u => ∃ k : Nat, k ≤ 8 ∧ v10 = .int .i64 (k : Int) ∧ S364 W2 v9 k u) (fun _ v10 _ => (8 - intOf v10).toNat)
          case atStart => exact ⟨0, by omega, rfl, hI.out⟩
          case round =>
            obtain ⟨k, hk, rfl, hJ⟩ := hrel
            replace hI := Lib.hid hJ
            clear hJ
            by_cases hk8 : k = 8
            · subst hk8
              have hk2 : ¬ (((8 : Nat) : Int) < 8) := by omega
              obtain ⟨g9, c9, h9, hc9, -, AS⟩ := own_arr hI.out.O (by omega)
              subst h9
              rw [List.take_of_length_le (by rw [begT_len64]; exact Nat.le_refl _)] at AS
              have hK : Hid (S464 W2 g9 (begT64 8) wr) := Lib.hid ⟨hI.out.bl, AS, begT_len64 8⟩
              clear hI AS
              go_upto_region 19 with fail
              generalize hW3 : wr = W3 at *
              clear hW3 wr
              refine wp_region_lit ?_
              refine qaa (qag (v := .int _ _) rfl rfl) rfl ?_; (try simp only [Act.put, lyy])
              refine qac ?_
              go_wp2_with fail
              go_loopw [9, 11] (fun v9 v11 u => ∃ (i g c : Nat) (st : List (BitVec 64)), i ≤ AL.length ∧ i % 128 = 0 ∧ v9 = .slice (some ⟨g, 0, none⟩) 8 c ∧ 8 ≤ c ∧ v11 = .int .i64 (i : Int) ∧ qb5 st (AL.drop i) = qb5 (begT64 8) AL ∧ S464 W2 g st u) (fun _ v11 _ => (20000 - intOf v11).toNat)
              case atStart => exact ⟨0, g9, c9, _, by omega, by omega, rfl, hc9, rfl, rfl, hK.out⟩
              case round =>
                clear hK hc9
                obtain ⟨i, g, c, st, hi, him, rfl, hc8, rfl, hmx, hJ⟩ := hrel
                have hK := Lib.hid hJ
                have HMX := Lib.hid hmx
                clear hJ hmx
                have hst := hK.out.len
                go_upto_region 20 with fail; refine wp_region_lit ?_
                refine qaa (qaf (v := .int _ _) rfl rfl) rfl ?_; (try simp only [Act.put, lyy])
                refine qaa (qaf (v := .slice _ _ _) rfl rfl) rfl ?_; (try simp only [Act.put, lyy])
                refine qaa (qch rfl Tryz.underlying24 rfl) rfl ?_; (try simp only [Act.put, lyy])
                refine qaa (run_lss rfl rfl rfl) rfl ?_; (try simp only [Act.put, lyy])
                refine qac ?_
                by_cases hie : i = AL.length
                · rw [decide_eq_false (show ¬ (i : Int) < (AL.length : Int) by omega)]
                  rw [hie, List.drop_length, mixA_end64 (l := []) (by simp)] at HMX
                  rw [← HMX.out] at HEND
                  clear HMX hie
                  have hdl := qda st 64
                  have HDB := Lib.hid (fun i m hi hm => dig_byte64 st i m hi hm)
                  have HU := Lib.hid hK.out.S
                  have hW := hK.out.bl
                  clear hK HM HMW HT HV SA
                  go_upto_region 23 with fail
                  generalize hW4 : wr = W4 at *
                  clear hW4 wr
                  refine wp_region_lit ?_
                  refine qaa (qag (v := .slice none 0 0) rfl rfl) rfl ?_; (try simp only [Act.put, lyy])
                  refine qac ?_
                  generalize digT64 st 64 = DG at *
                  have h5 : Hid (S5 W4 (.slice none 0 0) (DG.take (0 * 8)) W4) := Lib.hid ⟨Below.refl _ _, by rw [Nat.zero_mul, List.take_zero]; exact World.ownsRow_nil _ _ _ _⟩
                  go_wp2_with fail
                  go_loopw [12, 13] (fun v12 v13 u => ∃ i : Nat, i ≤ 8 ∧ v13 = .int .i64 (i : Int) ∧ S5 W4 v12 (DG.take (i * 8)) u) (fun _ v13 _ => (8 - intOf v13).toNat)
                  case atStart => exact ⟨0, by omega, rfl, h5.out⟩
                  case round =>
                    clear h5
                    obtain ⟨i, hi, rfl, hJ⟩ := hrel
                    have h5 := Lib.hid hJ
                    clear hJ
                    by_cases hi8 : i = 8
                    · subst hi8
                      have hk3 : ¬ (((8 : Nat) : Int) < 8) := by omega
                      rw [List.take_of_length_le (by rw [hdl]; omega)] at h5
                      go_upto_region 31 with fail
                      refine wp_region_lit ?_
                      refine qaa (qaf (v := u12) rfl rfl) rfl ?_; (try simp only [Act.put, lyy])
                      refine qaa (qag (v := u12) rfl rfl) rfl ?_; (try simp only [Act.put, lyy])
                      refine qac ?_
                      go_wp2_with fail
                      have ho := h5.out.O
                      rw [hdl, ← HEND.out] at ho
                      have hb1 := BA.out.1
                      have hb2 := hW.size
                      exact bodyPost_ret (results_tmp Tryz.results33 _ _ _) rfl ⟨_, rfl, own_mono ho (Nat.le_trans hb1.size hb2), (hb1.trans (hW.mono hb1.size)).trans (h5.out.bl.mono (Nat.le_trans hb1.size hb2))⟩
                    · have hk3 : (i : Int) < 8 := by omega
                      go_upto_region 27 with fail; refine wp_region_lit ?_
                      refine qaa (run_fld0 rfl rfl) rfl ?_; (try simp only [Act.put, lyy])
                      refine qaa (qdg rfl rfl ((BA.out.2.below (hW.trans (h5.out.bl.mono hW.size))).c 0 _ rfl)) rfl ?_; (try simp only [Act.put, lyy])
                      refine qaa (run_cvui rfl rfl (by omega) (by omega)) rfl ?_; (try simp only [Act.put, lyy])
                      refine qaa (run_quo rfl rfl rfl (by omega) (by omega) (by omega)) rfl ?_; (try simp only [Act.put, lyy])
                      refine qaa (qb6 rfl rfl rfl (by omega) (by omega)) rfl ?_; (try simp only [Act.put, lyy])
                      refine qaa (qag (v := .int _ _) rfl rfl) rfl ?_; (try simp only [Act.put, lyy])
                      refine qac ?_
                      go_wp2_with fail
                      go_loopw [12, 14] (fun v12 v14 u => ∃ m : Nat, m ≤ 8 ∧ v14 = .int .i64 ((8 : Int) - 1 - (m : Int)) ∧ S5 W4 v12 (DG.take (i * 8 + m)) u) (fun _ v14 _ => (intOf v14 + 1).toNat)
                      case atStart => exact ⟨0, by omega, rfl, h5.out⟩
                      case round =>
                        clear h5
                        obtain ⟨m, hm, rfl, hJ⟩ := hrel
                        have h5 := Lib.hid hJ
                        clear hJ
                        by_cases hmg : m = 8
                        · subst hmg
                          have hk4 : ¬ ((0 : Int) ≤ (8 : Int) - 1 - ((8 : Nat) : Int)) := by omega
                          go_upto_region 28 with fail; refine wp_region_lit ?_
                          refine qaa (qaf (v := .int _ _) rfl rfl) rfl ?_; (try simp only [Act.put, lyy])
                          refine qaa (run_geq rfl rfl rfl) rfl ?_; (try simp only [Act.put, lyy])
                          refine qac ?_
                          rw [decide_eq_false hk4]
                          clear hk4
                          go_upto_region 26 with fail; refine wp_region_lit ?_
                          refine qaa (qaf (v := .int _ _) rfl rfl) rfl ?_; (try simp only [Act.put, lyy])
                          refine qaa (run_add rfl rfl rfl (by omega) (by omega)) rfl ?_; (try simp only [Act.put, lyy])
                          refine qaa (qag (v := .int _ _) rfl rfl) rfl ?_; (try simp only [Act.put, lyy])
                          refine qac ?_
                          rw [show i * 8 + 8 = (i + 1) * 8 by omega] at h5
                          go_wp2_with fail
                          go_roundw
                          case rel => exact ⟨i + 1, by omega, by go_num, h5.out⟩
                          case measure => simp [intOf]; omega
                        · have hk4 : (0 : Int) ≤ (8 : Int) - 1 - (m : Int) := by omega
                          have HX := Lib.hid (HDB.out i m (by omega) (by omega))
                          have HLT : Hid ((DG.take (i * 8 + m)).length = i * 8 + m) := Lib.hid (by rw [List.length_take]; omega)
                          go_upto_region 28 with fail; refine wp_region_lit ?_
                          refine qaa (qaf (v := .int _ _) rfl rfl) rfl ?_; (try simp only [Act.put, lyy])
                          refine qaa (run_geq rfl rfl rfl) rfl ?_; (try simp only [Act.put, lyy])
                          refine qac ?_
                          rw [decide_eq_true hk4]
                          clear hk4
                          go_upto_region 30 with fail; refine wp_region_lit ?_
                          refine qaa (qaf (v := u12) rfl rfl) rfl ?_; (try simp only [Act.put, lyy])
                          refine qaa (qaf (v := .slice (some _) _ _) rfl rfl) rfl ?_; (try simp only [Act.put, lyy])
                          refine qaa (qaf (v := .int _ _) rfl rfl) rfl ?_; (try simp only [Act.put, lyy])
                          refine qaa (qa7 rfl Tryz.underlying90 (by kernel_rfl) rfl rfl (by omega)) rfl ?_; (try simp only [Act.put, lyy])
                          rw [Nat.zero_add i]
                          refine qaa (qaz rfl rfl ((HU.out.below h5.out.bl).c i _ (up_at64 st i (by rw [hst]; omega)))) rfl ?_; (try simp only [Act.put, lyy])
                          refine qaa (qaf (v := .int _ _) rfl rfl) rfl ?_; (try simp only [Act.put, lyy])
                          refine qaa (run_mul rfl rfl rfl (by omega) (by omega)) rfl ?_; (try simp only [Act.put, lyy])
                          rw [show ((8 : Int) * ((8 : Int) - 1 - (m : Int))) = ((8 * (8 - 1 - m) : Nat) : Int) by omega]
                          refine qaa (run_cvin rfl rfl (by omega)) rfl ?_; (try simp only [Act.put, lyy])
                          refine qaa (qc1 rfl rfl rfl (by omega)) rfl ?_; (try simp only [Act.put, lyy])
                          refine qaa (run_rem64 (b := 256) rfl rfl rfl (by decide)) rfl ?_; (try simp only [Act.put, lyy])
                          refine qaa (run_cv64_8 rfl rfl) rfl ?_; (try simp only [Act.put, lyy])
                          rw [mod_byte, HX.out]
                          generalize hx : DG.getD (i * 8 + m) 0 = x at *
                          have EX := Lib.hid hx; clear hx HX
                          refine qaa (qbu (cells := #[b8 x]) (z := .int .u8 0) rfl Tryz.underlying24 (by kernel_rfl) (by omega) (by omega) (by kernel_rfl)) rfl ?_; (try simp only [Act.put, lyy])
                          have hb2 : Below wr.heap.size wr (wr.alloc (.cells #[b8 x] 5)) := (Below.refl _ _).alloc (Nat.le_refl _) _
                          have A2 : Hid (Arr wr.heap.size ([x].map b8) (wr.alloc (.cells #[b8 x] 5))) := Lib.hid (Arr.new wr _ _)
                          replace h5 := Lib.hid (h5.out.below hb2)
                          clear hb2
                          generalize wr.alloc (.cells #[b8 x] 5) = u0 at *
                          refine qb0 (f := b8) (fun _ => rfl) (l := DG.take (i * 8 + m)) (m := [x]) (bw := 1) (z := .int .u8 0) rfl rfl Tryz.underlying24 (by kernel_rfl) rfl (by omega) rfl h5.out.O rfl A2.out.range (by rw [HLT.out]; show i * 8 + m + 1 ≤ _; omega) h5.out.bl.size (fun v4 u4 h6 hb6 => ?_); (try simp only [Act.put, lyy])
                          have H6 : Hid (S5 W4 v4 (DG.take (i * 8 + (m + 1))) u4) := Lib.hid ⟨h5.out.bl.trans hb6, by rw [← Nat.add_assoc, take_snoc8 _ _ (by omega), EX.out, List.length_append]; exact h6⟩
                          clear h6 hb6 A2 h5
                          refine qaa (qag (v := v4) rfl rfl) rfl ?_; (try simp only [Act.put, lyy])
                          refine qac ?_
                          go_upto_region 29 with fail; refine wp_region_lit ?_
                          refine qaa (qaf (v := .int _ _) rfl rfl) rfl ?_; (try simp only [Act.put, lyy])
                          refine qaa (qb6 rfl rfl rfl (by omega) (by omega)) rfl ?_; (try simp only [Act.put, lyy])
                          refine qaa (qag (v := .int _ _) rfl rfl) rfl ?_; (try simp only [Act.put, lyy])
                          refine qac ?_
                          go_wp2_with fail
                          go_roundw
                          case rel => exact ⟨m + 1, by omega, by go_num, H6.out⟩
                          case measure => simp [intOf]; omega
                · rw [decide_eq_true (show (i : Int) < (AL.length : Int) by omega)]
                  have hib : i + 128 ≤ AL.length := by omega
                  have HSP : Hid (qbd ((AL.take (i + 128)).drop i) = qbd (AL.drop i)) := Lib.hid (spread_congr64 fun j hj => by
                    simp only [List.getD_eq_getElem?_getD, List.getElem?_drop]; rw [List.getElem?_take_of_lt (by omega)])
                  have HDR : Hid (qb5 (mix64 st (qbd (AL.drop i))) (AL.drop (i + 128)) = qb5 (begT64 8) AL) := Lib.hid (by
                    rw [← HMX.out, ← mixA_step64 (l := AL.drop i) (by rw [List.length_drop]; omega), List.drop_drop])
                  clear HMX
                  have hW := hK.out.bl
                  go_upto_region 22 with fail
                  refine wp_region_noPanic ?_; refine qbe (S := fun _ V => Below wr.heap.size wr V) (by kernel_rfl) ((Below.refl _ _).drew) (fun hS => ?_)
                  refine qal 0 rfl rfl (by kernel_rfl) (by kernel_rfl) (by kernel_rfl) (fun _ _ _ h => h) rfl (fun V hV => qcy rfl Tryz.underlying61 rfl (qcg h) rfl (BA.out.2.below (hW.trans (hV.mono hW.size))).range) hS ?_; (try simp only [Act.put, lyy])
                  refine qal 1 rfl rfl (by kernel_rfl) (by kernel_rfl) (by kernel_rfl) (fun _ _ _ h => h) rfl (fun V hV => qaf (v := .slice (some _) _ _) rfl rfl) hS ?_; (try simp only [Act.put, lyy])
                  refine qal 2 rfl rfl (by kernel_rfl) (by kernel_rfl) (by kernel_rfl) (fun _ _ _ h => h) rfl (fun V hV => qaf (v := .slice _ _ _) rfl rfl) hS ?_; (try simp only [Act.put, lyy])
                  refine qal 3 rfl rfl (by kernel_rfl) (by kernel_rfl) (by kernel_rfl) (fun _ _ _ h => h) rfl (fun V hV => qaf (v := .int _ _) rfl rfl) hS ?_; (try simp only [Act.put, lyy])
                  refine qal 4 rfl rfl (by kernel_rfl) (by kernel_rfl) (by kernel_rfl) (fun _ _ _ h => h) rfl (fun V hV => qaf (v := .int _ _) rfl rfl) hS ?_; (try simp only [Act.put, lyy])
                  refine qal 5 rfl rfl (by kernel_rfl) (by kernel_rfl) (by kernel_rfl) (fun _ _ _ h => h) rfl (fun V hV => qaf (v := .int _ _) rfl rfl) hS ?_; (try simp only [Act.put, lyy])
                  refine qal 6 rfl rfl (by kernel_rfl) (by kernel_rfl) (by kernel_rfl) (fun _ _ _ h => h) rfl (fun V hV => run_add rfl rfl rfl (by omega) (by omega)) hS ?_; (try simp only [Act.put, lyy])
                  rw [show ((i : Int) + 128) = ((i + 128 : Nat) : Int) by omega]
                  refine qal 7 rfl rfl (by kernel_rfl) (by kernel_rfl) (by kernel_rfl) (fun _ _ _ h => h) rfl (fun V hV => run_slhi rfl Tryz.underlying24 (by kernel_rfl) rfl rfl rfl (by omega) (by omega)) hS ?_; (try simp only [Act.put, lyy])
                  refine qa4 8 (by kernel_rfl) rfl rfl rfl (qbk enters_block64 rfl rfl rfl rfl rfl) (block64_any h _ st ((AL.take (i + 128)).drop i) g c _ (hK.out.S.below hS) hst ((SA.out.part (by omega) hib).below (hW.trans (hS.mono hW.size))) (by rw [List.length_drop, List.length_take]; omega) (by rw [List.length_drop, List.length_take]; omega) (HMW.out.below (hW.trans (hS.mono hW.size)))) (fun v w h => hS.trans (h.2.mono hS.size)) (fun v8 u8 hR => ?_); (try simp only [Act.put, lyy])
                  obtain ⟨⟨g2, c2, h8, hc2, -, AS2⟩, hb8⟩ := hR
                  subst h8
                  replace hS := hS.trans (hb8.mono hS.size)
                  rw [HSP.out] at AS2
                  have hK2 : Hid (S464 W2 g2 (mix64 st (qbd (AL.drop i))) u8) := Lib.hid ⟨hW.trans (hS.mono hW.size), AS2, by rw [mix_len64, hst]⟩
                  clear AS2 hb8 HSP
                  refine qal 9 rfl rfl (by kernel_rfl) (by kernel_rfl) (by kernel_rfl) (fun _ _ _ h => h) rfl (fun V hV => qag (v := .slice (some _) _ _) rfl rfl) hS ?_; (try simp only [Act.put, lyy])
                  refine qa6 (by kernel_rfl) ?_ _; refine NoPanic.normal ?_
                  go_upto_region 21 with fail; refine wp_region_lit ?_
                  refine qaa (qaf (v := .int _ _) rfl rfl) rfl ?_; (try simp only [Act.put, lyy]); refine qaa (qaf (v := .int _ _) rfl rfl) rfl ?_; (try simp only [Act.put, lyy])
                  refine qaa (run_add rfl rfl rfl (by omega) (by omega)) rfl ?_; (try simp only [Act.put, lyy])
                  rw [show ((i : Int) + 128) = ((i + 128 : Nat) : Int) by omega]
                  refine qaa (qag (v := .int _ _) rfl rfl) rfl ?_; (try simp only [Act.put, lyy])
                  refine qac ?_
                  go_wp2_with fail
                  go_roundw
                  case rel => exact ⟨i + 128, g2, c2, _, hib, by omega, rfl, hc2, rfl, HDR.out, hK2.out⟩
                  case measure => simp [intOf]; omega
            · have hk2 : (k : Int) < 8 := by omega
              have HX : Hid (btab.getD k 0 >>> (64 - 64) = up64 ((begT64 8).getD k 0)) := Lib.hid (by rw [beg_at64 k (by omega)]; exact bg_up64 k)
              have hbl := hI.out.bl.size
              go_upto_region 18 with fail
              refine wp_region_noPanic ?_; refine qbe (S := Till 8 (fun V => Below wr.heap.size wr V)) (by kernel_rfl) (.inr (Below.refl _ _).drew) (fun _ => ?_); have hS : Below wr.heap.size wr wr.drew := (Below.refl _ _).drew
              refine qan 0 rfl rfl (by kernel_rfl) (by kernel_rfl) (by kernel_rfl) (by kernel_rfl) (by kernel_rfl) (fun _ _ _ h => h) rfl (fun V hV => qaf (v := u9) rfl rfl) hS ?_; (try simp only [Act.put, lyy])
              refine qan 1 rfl rfl (by kernel_rfl) (by kernel_rfl) (by kernel_rfl) (by kernel_rfl) (by kernel_rfl) (fun _ _ _ h => h) rfl (fun V hV => qaf (v := .int _ _) rfl rfl) hS ?_; (try simp only [Act.put, lyy])
              refine qan 3 rfl rfl (by kernel_rfl) (by kernel_rfl) (by kernel_rfl) (by kernel_rfl) (by kernel_rfl) (fun _ _ _ h => h) rfl (fun V hV => run_fld0 rfl rfl) hS ?_; (try simp only [Act.put, lyy])
              refine qan 4 rfl rfl (by kernel_rfl) (by kernel_rfl) (by kernel_rfl) (by kernel_rfl) (by kernel_rfl) (fun _ _ _ h => h) rfl (fun V hV => qdg rfl rfl ((BA.out.2.below (hI.out.bl.trans (hV.mono hI.out.bl.size))).c 0 _ rfl)) hS ?_; (try simp only [Act.put, lyy])
              refine qan 5 rfl rfl (by kernel_rfl) (by kernel_rfl) (by kernel_rfl) (by kernel_rfl) (by kernel_rfl) (fun _ _ _ h => h) rfl (fun V hV => run_wsub64 (n := 64) rfl rfl rfl (by omega)) hS ?_; (try simp only [Act.put, lyy])
              refine qcp 2 (by kernel_rfl) rfl rfl rfl (qaj enters_refbegin rfl rfl rfl) (refbegin_any (k : Int) _) (fun w hb => hS.trans (hb.mono hS.size)) (fun u2 hb => ?_); replace hS := hS.trans (hb.mono hS.size); clear hb; (try simp only [Act.put, lyy])
              rw [tabOf_at (show k < btab.length by rw [btab_len]; omega)]
              refine qan 6 rfl rfl (by kernel_rfl) (by kernel_rfl) (by kernel_rfl) (by kernel_rfl) (by kernel_rfl) (fun _ _ _ h => h) rfl (fun V hV => qc1 rfl rfl rfl (by omega)) hS ?_; (try simp only [Act.put, lyy])
              rw [HX.out]
              generalize hx : (begT64 8).getD k 0 = x at *
              have EX := Lib.hid hx; clear hx HX
              refine qcw 7 (by kernel_rfl) rfl rfl rfl (qbu (cells := #[b64 (up64 x)]) (z := .int .u64 0) rfl Tryz.underlying90 (by kernel_rfl) (by omega) (by omega) (by kernel_rfl)) (.inr (hS.alloc hS.size _)) ?_; (try simp only [Act.put, lyy])
              replace hI := Lib.hid (hI.out.below hS)
              have hb2 : Below u2.heap.size u2 (u2.alloc (.cells #[b64 (up64 x)] 45)) := (Below.refl _ _).alloc (Nat.le_refl _) _
              have A2 : Hid (Arr u2.heap.size ((upL64 [x]).map b64) (u2.alloc (.cells #[b64 (up64 x)] 45))) := Lib.hid (Arr.new u2 _ _)
              replace hI := Lib.hid (hI.out.below hb2)
              clear hb2 hS
              generalize u2.alloc (.cells #[b64 (up64 x)] 45) = u3 at *
              refine wpAnyD_app (f := b64) (fun _ => rfl) (l := upL64 ((begT64 8).take k)) (m := upL64 [x]) (bw := 8) (z := .int .u64 0) 8 (by kernel_rfl) rfl rfl rfl rfl rfl Tryz.underlying90 (by kernel_rfl) rfl (by omega) rfl hI.out.O rfl A2.out.range (by show k + 1 ≤ _; omega) hI.out.bl.size (fun v3 u4 h3 hb3 => ?_); (try simp only [Act.put, lyy])
              refine qcw 9 (by kernel_rfl) rfl rfl rfl (qag (v := v3) rfl rfl) (.inl rfl) ?_; (try simp only [Act.put, lyy])
              refine qa6 (by kernel_rfl) ?_ _; refine NoPanic.normal ?_
              have H3 : Hid (S364 W2 v3 (k + 1) u4) := Lib.hid ⟨hI.out.bl.trans hb3, by rw [take_snoc64 _ _ (by rw [begT_len64]; omega), EX.out]; unfold upL64 at *; rw [List.map_append]; exact h3⟩
              clear h3 hb3 A2 hI
              go_wp2_with fail
              go_roundw
              case rel => exact ⟨k + 1, by omega, by go_num, H3.out⟩
              case measure => simp [intOf]; omega
        · have hk1 : (0 : Int) ≤ (16 : Int) - 1 - (j : Int) := by omega
          go_upto_region 10 with fail; refine wp_region_lit ?_
          refine qaa (qag (v := b64 0) rfl rfl) rfl ?_; (try simp only [Act.put, lyy])
          refine qac ?_
          go_upto_region 11 with fail; refine wp_region_lit ?_
          refine qaa (qaf (v := .int _ _) rfl rfl) rfl ?_; (try simp only [Act.put, lyy])
          refine qaa (run_lss rfl rfl rfl) rfl ?_; (try simp only [Act.put, lyy])
          refine qac ?_
          by_cases hi8 : 16 - 1 - j < 8
          · rw [decide_eq_true (show (16 : Int) - 1 - (j : Int) < 8 by omega)]
            have HLX : Hid (((BitVec.ofNat 64 l.length * 8) >>> (8 * (16 - 1 - j))).setWidth 8 = lbX l.length (16 - 1 - j)) := Lib.hid (by unfold lbX; rw [if_pos hi8])
            go_upto_region 12 with fail; refine wp_region_lit ?_
            refine qaa (qaf (v := .slice _ _ _) rfl rfl) rfl ?_; (try simp only [Act.put, lyy])
            refine qaa (qch rfl Tryz.underlying24 rfl) rfl ?_; (try simp only [Act.put, lyy])
            refine qaa (run_cviu rfl rfl) rfl ?_; (try simp only [Act.put, lyy])
            refine qaa (run_mul64 (b := 8) rfl rfl rfl) rfl ?_; (try simp only [Act.put, lyy])
            refine qaa (qaf (v := .int _ _) rfl rfl) rfl ?_; (try simp only [Act.put, lyy])
            refine qaa (run_mul rfl rfl rfl (by omega) (by omega)) rfl ?_; (try simp only [Act.put, lyy])
            rw [show ((8 : Int) * ((16 : Int) - 1 - (j : Int))) = ((8 * (16 - 1 - j) : Nat) : Int) by omega]
            refine qaa (run_cvin rfl rfl (by omega)) rfl ?_; (try simp only [Act.put, lyy])
            refine qaa (qc1 rfl rfl rfl (by omega)) rfl ?_; (try simp only [Act.put, lyy])
            refine qaa (qag (v := b64 _) rfl rfl) rfl ?_; (try simp only [Act.put, lyy])
            refine qac ?_
            (try go_upto_region 13 with fail); refine wp_region_lit ?_; refine qaa (qaf (v := u6) rfl rfl) rfl ?_; (try simp only [Act.put, lyy]); refine qaa (qaf (v := b64 _) rfl rfl) rfl ?_; (try simp only [Act.put, lyy]); refine qaa (run_rem64 (b := 256) rfl rfl rfl (by decide)) rfl ?_; (try simp only [Act.put, lyy]); refine qaa (run_cv64_8 rfl rfl) rfl ?_; (try simp only [Act.put, lyy]); rw [mod_byte, HLX.out]; generalize hx : lbX l.length (16 - 1 - j) = x at *; have EX := Lib.hid hx; clear hx HLX; refine qaa (qbu (cells := #[b8 (x)]) (z := .int .u8 0) rfl Tryz.underlying24 (by kernel_rfl) (by omega) (by omega) (by kernel_rfl)) rfl ?_; (try simp only [Act.put, lyy]); have hb2 : Below wr.heap.size wr (wr.alloc (.cells #[b8 (x)] 5)) := (Below.refl _ _).alloc (Nat.le_refl _) _; have A2 : Hid (Arr wr.heap.size ([x].map b8) (wr.alloc (.cells #[b8 (x)] 5))) := Lib.hid (Arr.new wr _ _); replace hI := Lib.hid (hI.out.below hb2); clear hb2; generalize wr.alloc (.cells #[b8 (x)] 5) = u0 at *; refine qb0 (f := b8) (fun _ => rfl) (l := P0 ++ lbT64 l.length j) (m := [x]) (bw := 1) (z := .int .u8 0) rfl rfl Tryz.underlying24 (by kernel_rfl) rfl (by omega) rfl hI.out.O rfl A2.out.range (by rw [hlj]; show l.length + 1 + zc64 l.length + j + 1 ≤ _; omega) hI.out.A.lt (fun v4 u4 h3 hb3 => ?_); (try simp only [Act.put, lyy]); replace hI : Hid (SuI64 w h v4 (P0 ++ lbT64 l.length j ++ [x]) u4) := Lib.hid (hI.out.push h3 hb3); clear h3 hb3 A2; refine qaa (qag (v := v4) rfl rfl) rfl ?_; (try simp only [Act.put, lyy]); refine qac ?_; have H4 : Hid (SuI64 w h v4 (P0 ++ lbT64 l.length (j + 1)) u4) := Lib.hid (by have := hI.out; rw [lbT64, EX.out, ← List.append_assoc]; exact this); clear hI; go_upto_region 9 with fail; refine wp_region_lit ?_; refine qaa (qaf (v := .int _ _) rfl rfl) rfl ?_; (try simp only [Act.put, lyy]); refine qaa (qb6 rfl rfl rfl (by omega) (by omega)) rfl ?_; (try simp only [Act.put, lyy]); refine qaa (qag (v := .int _ _) rfl rfl) rfl ?_; (try simp only [Act.put, lyy]); refine qac ?_; go_wp2_with fail; go_roundw; (case rel => exact ⟨j + 1, by omega, by go_num, H4.out⟩); (case measure => simp [intOf]; omega)
          · rw [decide_eq_false (show ¬ (16 : Int) - 1 - (j : Int) < 8 by omega)]
            have HLX : Hid ((0 : BitVec 64).setWidth 8 = lbX l.length (16 - 1 - j)) := Lib.hid (by unfold lbX; rw [if_neg hi8]; rfl)
            go_upto_region 13 with fail
            (try go_upto_region 13 with fail); refine wp_region_lit ?_; refine qaa (qaf (v := u6) rfl rfl) rfl ?_; (try simp only [Act.put, lyy]); refine qaa (qaf (v := b64 _) rfl rfl) rfl ?_; (try simp only [Act.put, lyy]); refine qaa (run_rem64 (b := 256) rfl rfl rfl (by decide)) rfl ?_; (try simp only [Act.put, lyy]); refine qaa (run_cv64_8 rfl rfl) rfl ?_; (try simp only [Act.put, lyy]); rw [mod_byte, HLX.out]; generalize hx : lbX l.length (16 - 1 - j) = x at *; have EX := Lib.hid hx; clear hx HLX; refine qaa (qbu (cells := #[b8 (x)]) (z := .int .u8 0) rfl Tryz.underlying24 (by kernel_rfl) (by omega) (by omega) (by kernel_rfl)) rfl ?_; (try simp only [Act.put, lyy]); have hb2 : Below wr.heap.size wr (wr.alloc (.cells #[b8 (x)] 5)) := (Below.refl _ _).alloc (Nat.le_refl _) _; have A2 : Hid (Arr wr.heap.size ([x].map b8) (wr.alloc (.cells #[b8 (x)] 5))) := Lib.hid (Arr.new wr _ _); replace hI := Lib.hid (hI.out.below hb2); clear hb2; generalize wr.alloc (.cells #[b8 (x)] 5) = u0 at *; refine qb0 (f := b8) (fun _ => rfl) (l := P0 ++ lbT64 l.length j) (m := [x]) (bw := 1) (z := .int .u8 0) rfl rfl Tryz.underlying24 (by kernel_rfl) rfl (by omega) rfl hI.out.O rfl A2.out.range (by rw [hlj]; show l.length + 1 + zc64 l.length + j + 1 ≤ _; omega) hI.out.A.lt (fun v4 u4 h3 hb3 => ?_); (try simp only [Act.put, lyy]); replace hI : Hid (SuI64 w h v4 (P0 ++ lbT64 l.length j ++ [x]) u4) := Lib.hid (hI.out.push h3 hb3); clear h3 hb3 A2; refine qaa (qag (v := v4) rfl rfl) rfl ?_; (try simp only [Act.put, lyy]); refine qac ?_; have H4 : Hid (SuI64 w h v4 (P0 ++ lbT64 l.length (j + 1)) u4) := Lib.hid (by have := hI.out; rw [lbT64, EX.out, ← List.append_assoc]; exact this); clear hI; go_upto_region 9 with fail; refine wp_region_lit ?_; refine qaa (qaf (v := .int _ _) rfl rfl) rfl ?_; (try simp only [Act.put, lyy]); refine qaa (qb6 rfl rfl rfl (by omega) (by omega)) rfl ?_; (try simp only [Act.put, lyy]); refine qaa (qag (v := .int _ _) rfl rfl) rfl ?_; (try simp only [Act.put, lyy]); refine qac ?_; go_wp2_with fail; go_roundw; (case rel => exact ⟨j + 1, by omega, by go_num, H4.out⟩); (case measure => simp [intOf]; omega)
    · refine qaa (run_neqi (c := true) rfl rfl rfl (by simp; omega)) rfl ?_; (try simp only [Act.put, lyy])
      refine qac ?_
      go_upto_region 6 with fail; refine wp_region_lit ?_
      refine qaa (qaf (v := .slice _ _ _) rfl rfl) rfl ?_; (try simp only [Act.put, lyy])
      refine qaa (qbu (cells := #[b8 (0#8)]) (z := .int .u8 0) rfl Tryz.underlying24 (by kernel_rfl) (by omega) (by omega) (by kernel_rfl)) rfl ?_; (try simp only [Act.put, lyy]); have hb2 : Below wr.heap.size wr (wr.alloc (.cells #[b8 (0#8)] 5)) := (Below.refl _ _).alloc (Nat.le_refl _) _; have A2 : Hid (Arr wr.heap.size ([0#8].map b8) (wr.alloc (.cells #[b8 (0#8)] 5))) := Lib.hid (Arr.new wr _ _); replace hI := Lib.hid (hI.out.below hb2); clear hb2; generalize wr.alloc (.cells #[b8 (0#8)] 5) = u0 at *; refine qb0 (f := b8) (fun _ => rfl) (l := L) (m := [0#8]) (bw := 1) (z := .int .u8 0) rfl rfl Tryz.underlying24 (by kernel_rfl) rfl (by omega) rfl hI.out.O rfl A2.out.range (by show L.length + 1 ≤ _; omega) hI.out.A.lt (fun v4 u4 h3 hb3 => ?_); (try simp only [Act.put, lyy]); replace hI : Hid (SuI64 w h v4 (L ++ [0#8]) u4) := Lib.hid (hI.out.push h3 hb3); clear h3 hb3 A2; refine qaa (qag (v := v4) rfl rfl) rfl ?_; (try simp only [Act.put, lyy]); refine qac ?_
      have H4 : Hid (SuI64 w h v4 (l ++ [128#8] ++ List.replicate (k + 1) 0) u4) := Lib.hid (by rw [List.replicate_succ', ← List.append_assoc, EL.out]; exact hI.out)
      clear hI
      obtain ⟨a7, c7, h7, -, -⟩ := Sl.own H4.out.O
      have hl7 : slLen v4 = l.length + 1 + (k + 1) := by rw [h7]; show (l ++ [128#8] ++ List.replicate (k + 1) 0).length = _; rw [List.length_append, List.length_append, List.length_replicate]; rfl
      clear h7
      go_wp2_with fail
      go_roundw
      case rel => exact ⟨k + 1, by omega, H4.out⟩
      case measure => simp [slLen] at hl7 ⊢; omega
end Go.Proofs.YtfdjmdfaidiliaaGreatDoor
namespace Go.Proofs.YtfdjmdfaidiliaaGreatDoor
open Go.RowKit
set_option maxRecDepth 20000
def cp64 (d : List (BitVec 8)) : Nat → List (BitVec 8)
  | 0 => List.replicate 64 0
  | k + 1 => (cp64 d k).set k (d.getD k 0)
theorem cp_len64 (d : List (BitVec 8)) : ∀ k, (cp64 d k).length = 64
  | 0 => by rw [cp64, List.length_replicate]
  | k + 1 => by rw [cp64, List.length_set, cp_len64 d k]
theorem cp_at64 (d : List (BitVec 8)) (t : Nat) : ∀ k, k ≤ 64 → t < k → (cp64 d k).getD t 0 = d.getD t 0
  | 0, _, h => absurd h (Nat.not_lt_zero _)
  | k + 1, hk, h => by
    rw [cp64, getD_set8 _ _ _ _ (by rw [cp_len64]; omega)]
    by_cases e : k = t
    · rw [if_pos e, e]
    · rw [if_neg e]; exact cp_at64 d t k (by omega) (by omega)
theorem cp_eq64 {d : List (BitVec 8)} (h : d.length = 64) : cp64 d 64 = d := by
  apply List.ext_getElem (by rw [cp_len64, h])
  intro i h1 h2
  have := cp_at64 d i 64 (Nat.le_refl _) (by omega)
  simpa [List.getD_eq_getElem?_getD, h1, h2] using this
set_option maxRecDepth 100000 in
theorem run_bldZ64 {w : World} {ρ : Operand → Value} {o : Oper} (ho : o.op = .build 28 #[]) : (execOp ρ o).run Tryz.prog w = .ok (.value (.agg (z8 64).toArray)) w := by
  obtain ⟨dst, op, type, pos, after, guard⟩ := o
  subst ho
  go_simp
  rfl
structure CpI64 (w : World) (x : List (BitVec 8)) (u : World) : Prop where
  bl : Below w.heap.size w u
  R : Arr w.heap.size (z8 64) u
  O : Arr (w.heap.size + 1) (x.map b8) u
  len : x.length = 64
theorem CpI64.below {w u u' : World} {x : List (BitVec 8)} (i : CpI64 w x u) (hb : Below u.heap.size u u') : CpI64 w x u' :=
  ⟨i.bl.trans (hb.mono i.bl.size), i.R.below hb, i.O.below hb, i.len⟩
theorem CpI64.set {w u : World} {x : List (BitVec 8)} (i : CpI64 w x u) {k : Nat} (hk : k < 64) (v : BitVec 8) : CpI64 w (x.set k v) (u.setCell ⟨w.heap.size + 1, k, none⟩ (b8 v)) :=
  ⟨i.bl.setCell (p := ⟨w.heap.size + 1, k, none⟩) (by simp) _, i.R.far (by omega) _ _, by rw [← qbw]; exact i.O.set (by rw [List.length_map, i.len]; exact hk) _, by rw [List.length_set, i.len]⟩
theorem zs_len64 : (z8 64).length = 64 := by unfold z8; rw [List.length_map, List.length_replicate]
set_option maxHeartbeats 1000000 in
theorem refsum64_any (v : Value) (l : List (BitVec 8)) (w : World) (hv : Sl v l w) (hl : l.length ≤ 10000) (hT : Tabs w) :
    Calls Tryz.prog 13 #[v] w fun e w' => e = .returned (.agg ((sum64 l).map b8).toArray) ∧ Below w.heap.size w w' := by
  have HT := Lib.hid hT; clear hT
  have HV := Lib.hid hv; clear hv
  go_enter Tryz.func13, Tryz.ntmps13
  go_upto_region 0 with fail; refine wp_region_lit ?_
  refine qaa (qar (vs := z8 64) rfl (by kernel_rfl)) rfl ?_; (try simp only [Act.put, lyy])
  refine qac ?_
  go_upto_region 1 with fail; refine wp_region_lit ?_
  refine qaa (run_bldZ64 rfl) rfl ?_; (try simp only [Act.put, lyy])
  refine qaa (qar (vs := z8 64) rfl (by kernel_rfl)) rfl ?_; (try simp only [Act.put, lyy])
  have b1 : Below w.heap.size w ((w.alloc (.cells (z8 64).toArray 28)).alloc (.cells (z8 64).toArray 28)) := ((Below.refl _ _).alloc (Nat.le_refl _) _).alloc (by simp) _
  have R1 := (Arr.new w (z8 64) 28).below ((Below.refl _ _).alloc (Nat.le_refl _) (.cells (z8 64).toArray 28))
  have O1 : Arr (w.heap.size + 1) (z8 64) ((w.alloc (.cells (z8 64).toArray 28)).alloc (.cells (z8 64).toArray 28)) := Arr.at (by simp) (z8 64) _
  rw [show (w.alloc (.cells (z8 64).toArray 28)).heap.size = w.heap.size + 1 by simp]
  generalize (w.alloc (.cells (z8 64).toArray 28)).alloc (.cells (z8 64).toArray 28) = u0 at *
  have HZ : Hid ((Tryz.prog.info? 28).map (·.size) = some (z8 64).length) := Lib.hid (by rw [zs_len64]; kernel_rfl)
  refine qae (run_stA (vs := z8 64) rfl HZ.out rfl rfl (one8 _) O1.there) rfl rfl ?_
  refine qac ?_
  have hI : Hid (CpI64 w (List.replicate 64 0) (u0.setCells (w.heap.size + 1) 0 (z8 64))) := Lib.hid ⟨qas (by omega) _ _ b1, R1.farAll (by omega) _ _, O1.put rfl, List.length_replicate⟩
  clear b1 R1 O1 HZ
  generalize u0.setCells (w.heap.size + 1) 0 (z8 64) = u1 at *
  go_upto_region 2 with fail; refine wp_region_lit ?_
  refine qbi (qbz enters_wide rfl rfl) rfl (wide_any _) (fun vh u2 hR => ?_); (try simp only [Act.put, lyy])
  obtain ⟨h, hvh, hm, hb⟩ := hR
  subst hvh
  have HM := Lib.hid hm; clear hm
  replace hI := Lib.hid (hI.out.below hb)
  clear hb
  have hlt2 := hI.out.O.lt
  refine qaa (qaf (v := v) rfl rfl) rfl ?_; (try simp only [Act.put, lyy])
  refine qbi (qam enters_rsum rfl rfl rfl rfl) rfl (rsum64_any h v l _ (HV.out.below hI.out.bl) hl HM.out (HT.out.below hI.out.bl)) (fun v2 u3 hR => ?_); (try simp only [Act.put, lyy])
  obtain ⟨ho, hb⟩ := hR
  replace hI := Lib.hid (hI.out.below hb)
  clear hb HM HT HV
  obtain ⟨g, c, h2, hc, hg2, AG⟩ := own_arr ho (by omega)
  subst h2
  have HG := Lib.hid AG; clear AG ho
  have hdl := sum_len64 l
  generalize hd : sum64 l = DG at *
  have ED := Lib.hid hd; clear hd
  have HE := Lib.hid (cp_eq64 hdl)
  refine qaa (qag (v := .slice (some _) _ _) rfl rfl) rfl ?_; (try simp only [Act.put, lyy])
  refine qac ?_
  replace hI : Hid (CpI64 w (cp64 DG 0) u3) := hI
  have hne : w.heap.size + 1 ≠ g := by omega
  clear hg2 hlt2 hc
  go_upto_region 3 with fail; refine wp_region_lit ?_
  refine qaa (qag (v := .int _ _) rfl rfl) rfl ?_; (try simp only [Act.put, lyy])
  refine qac ?_
  go_wp2_with fail
  go_loopw [5] (fun v5 u => ∃ k : Nat, k ≤ 64 ∧ v5 = .int .i64 (k : Int) ∧ CpI64 w (cp64 DG k) u ∧ Arr g (DG.map b8) u) (fun v5 _ => (64 - intOf v5).toNat)
  case atStart => exact ⟨0, by omega, rfl, hI.out, HG.out⟩
  case round =>
    obtain ⟨k, hk, rfl, hJ, hJ2⟩ := hrel
    replace hI := Lib.hid hJ
    replace HG := Lib.hid hJ2
    clear hJ hJ2
    by_cases hkd : k = 64
    · subst hkd
      have hk1 : ¬ (((64 : Nat) : Int) < 64) := by omega
      rw [HE.out] at hI
      have hT := (hI.out.R.put (l' := DG.map b8) (by rw [List.length_map, hdl, zs_len64])).range
      have HL := Lib.hid (size_d64 hdl)
      have HZL := Lib.hid zs_len64
      go_upto_region 7 with fail; refine wp_region_lit ?_
      refine qaa (run_ldA (vs := DG.map b8) rfl Tryz.underlying28 HL.out rfl hI.out.O.range) rfl ?_; (try simp only [Act.put, lyy])
      refine qae (run_stA (vs := DG.map b8) rfl HL.out rfl rfl (one8 _) (by rw [List.length_map, hdl, ← HZL.out]; exact hI.out.R.there)) rfl rfl ?_
      refine qac ?_
      go_wp2_with fail
      refine bodyPost_ret (v := .agg (DG.map b8).toArray) ?_ rfl ⟨by rw [ED.out], qas (Nat.le_refl _) _ _ hI.out.bl⟩
      exact results_arr Tryz.results13 rfl Tryz.underlying28 HL.out hT
    · have hk1 : (k : Int) < 64 := by omega
      have hk2 : k < 64 := by omega
      go_upto_region 6 with fail; refine wp_region_lit ?_
      refine qaa (qaf (v := .int _ _) rfl rfl) rfl ?_; (try simp only [Act.put, lyy]); refine qaa (qaf (v := .slice (some _) _ _) rfl rfl) rfl ?_; (try simp only [Act.put, lyy]); refine qaa (qaf (v := .int _ _) rfl rfl) rfl ?_; (try simp only [Act.put, lyy])
      refine qaa (qa7 rfl Tryz.underlying24 (by kernel_rfl) rfl rfl hk2) rfl ?_; (try simp only [Act.put, lyy])
      rw [Nat.zero_add k]
      refine qaa (qby rfl rfl (HG.out.c k _ (qa5 b8 0 (by rw [hdl]; exact hk2)))) rfl ?_; (try simp only [Act.put, lyy])
      refine qaa (qay rfl Tryz.underlying28 (by kernel_rfl) rfl rfl hk2) rfl ?_; (try simp only [Act.put, lyy])
      refine qae (qcl rfl rfl rfl (hI.out.O.c k _ (qa5 b8 0 (by rw [hI.out.len]; exact hk2))) (hI.out.O.f _)) rfl rfl ?_
      refine qac ?_
      replace hI := Lib.hid (hI.out.set hk2 (DG.getD k 0))
      replace HG := Lib.hid (HG.out.far hne k (b8 (DG.getD k 0)))
      generalize wr.setCell ⟨w.heap.size + 1, k, none⟩ (b8 (DG.getD k 0)) = u4 at *
      go_wp2_with fail
      go_roundw
      case rel => exact ⟨k + 1, by omega, by go_num, hI.out, HG.out⟩
      case measure => simp [intOf]; omega
theorem enters_refsum64 : Enters 13 := qao Tryz.func13 (by kernel_rfl) rfl
end Go.Proofs.YtfdjmdfaidiliaaGreatDoor
