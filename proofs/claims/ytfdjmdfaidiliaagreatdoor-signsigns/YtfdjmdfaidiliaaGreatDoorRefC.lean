/- What both widths of the reference share. -/
import Derived.Test.YtfdjmdfaidiliaaGreatDoorBsl
import Derived.Test.YtfdjmdfaidiliaaGreatDoorStr
import Derived.Test.YtfdjmdfaidiliaaGreatDoorApp
import Derived.Test.YtfdjmdfaidiliaaGreatDoorShaPut
import Derived.Test.YtfdjmdfaidiliaaGreatDoorLateD
import Derived.Test.YtfdjmdfaidiliaaGreatDoorCpy
import Derived.Test.YtfdjmdfaidiliaaGreatDoorS5
namespace Go.Proofs.YtfdjmdfaidiliaaGreatDoor
open Go.RowKit
set_option maxRecDepth 20000

section
variable {w : World} {ρ : Operand → Value} {o : Oper} {t t' : TypeId} {x y : Operand} {a b : BitVec 64}
theorem run_mul64 (ho : o.op = .binOp .mul t x y t') (hx : ρ x = b64 a) (hy : ρ y = b64 b) : (execOp ρ o).run Tryz.prog w = .ok (.value (b64 (a * b))) w := by
  obtain ⟨dst, op, type, pos, after, guard⟩ := o
  subst ho
  unfold b64 at *
  have e : IntKind.u64.wrap ((a.toNat : Int) * (b.toNat : Int)) = (((a * b).toNat : Nat) : Int) := by
    rw [wrap64, BitVec.toNat_mul]; simp
  generalize (a * b).toNat = z at *
  go_simp
  try exact e
theorem run_rem64 (ho : o.op = .binOp .rem t x y t') (hx : ρ x = b64 a) (hy : ρ y = b64 b) (hb : b ≠ 0) : (execOp ρ o).run Tryz.prog w = .ok (.value (b64 (a % b))) w := by
  obtain ⟨dst, op, type, pos, after, guard⟩ := o
  subst ho
  have hb' : ¬ (b.toNat : Int) = 0 := fun h => hb (BitVec.eq_of_toNat_eq (by simpa using h))
  unfold b64 at *
  have e : ((a.toNat : Int).tmod (b.toNat : Int)) = (((a % b).toNat : Nat) : Int) := by
    rw [BitVec.toNat_umod, Int.tmod_eq_emod_of_nonneg (by omega)]; simp
  generalize (a % b).toNat = z at *
  generalize (b.toNat : Int) = y' at *
  go_simp
  try exact e
theorem run_quo64 (ho : o.op = .binOp .quo t x y t') (hx : ρ x = b64 a) (hy : ρ y = b64 b) (hb : b ≠ 0) : (execOp ρ o).run Tryz.prog w = .ok (.value (b64 (a / b))) w := by
  obtain ⟨dst, op, type, pos, after, guard⟩ := o
  subst ho
  have hb' : ¬ (b.toNat : Int) = 0 := fun h => hb (BitVec.eq_of_toNat_eq (by simpa using h))
  unfold b64 at *
  have e : IntKind.u64.wrap ((a.toNat : Int) / (b.toNat : Int)) = (((a / b).toNat : Nat) : Int) := by
    rw [BitVec.toNat_udiv, wrap64, show ((a.toNat : Int) / (b.toNat : Int)) = ((a.toNat / b.toNat : Nat) : Int) by simp]
    have h1 := Nat.div_le_self a.toNat b.toNat
    have h2 := a.isLt
    generalize a.toNat / b.toNat = q at *
    omega
  generalize (a / b).toNat = z at *
  generalize (b.toNat : Int) = y' at *
  go_simp
  try exact e
theorem run_leq64 (ho : o.op = .binOp .leq t x y t') (hx : ρ x = b64 a) (hy : ρ y = b64 b) : (execOp ρ o).run Tryz.prog w = .ok (.value (.bool (decide (a ≤ b)))) w := by
  rw [run_leq (k := .u64) (a := (a.toNat : Int)) (b := (b.toNat : Int)) ho hx hy]
  have e : decide ((a.toNat : Int) ≤ (b.toNat : Int)) = decide (a ≤ b) := decide_eq_decide.2 (by rw [BitVec.le_def]; omega)
  rw [e]
theorem run_gtr64 (ho : o.op = .binOp .gtr t x y t') (hx : ρ x = b64 a) (hy : ρ y = b64 b) : (execOp ρ o).run Tryz.prog w = .ok (.value (.bool (decide (b < a)))) w := by
  rw [run_gtr (k := .u64) (a := (a.toNat : Int)) (b := (b.toNat : Int)) ho hx hy]
  have e : decide ((b.toNat : Int) < (a.toNat : Int)) = decide (b < a) := decide_eq_decide.2 (by rw [BitVec.lt_def]; omega)
  rw [e]
theorem run_eqb64 (ho : o.op = .binOp .eql t x y t') (hx : ρ x = b64 a) (hy : ρ y = b64 b) : (execOp ρ o).run Tryz.prog w = .ok (.value (.bool (decide (a = b)))) w := by
  rw [run_eql (k := .u64) (a := (a.toNat : Int)) (b := (b.toNat : Int)) ho hx hy]
  have e : ((a.toNat : Int) == (b.toNat : Int)) = decide (a = b) := by
    rw [Bool.eq_iff_iff]; simp [← BitVec.toNat_inj]; omega
  rw [e]
theorem run_neq64 (ho : o.op = .binOp .neq t x y t') (hx : ρ x = b64 a) (hy : ρ y = b64 b) : (execOp ρ o).run Tryz.prog w = .ok (.value (.bool (decide (a ≠ b)))) w := by
  obtain ⟨dst, op, type, pos, after, guard⟩ := o
  subst ho
  unfold b64 at *
  have e : (!((a.toNat : Int) == (b.toNat : Int))) = decide (a ≠ b) := by
    rw [Bool.eq_iff_iff]; simp [← BitVec.toNat_inj]; omega
  generalize decide (a ≠ b) = z at *
  go_simp
  try exact e
theorem run_notb {c : Bool} (ho : o.op = .unOp .not t x) (hx : ρ x = .bool c) : (execOp ρ o).run Tryz.prog w = .ok (.value (.bool (!c))) w := by
  obtain ⟨dst, op, type, pos, after, guard⟩ := o
  subst ho
  go_simp
theorem made_zero64 (n : Nat) : madeCells (Value.int .u64 0).cells n = (z64 n).toArray := by
  apply Array.ext_getElem?
  intro i
  unfold madeCells z64
  by_cases h : i < n
  · simp [h, Value.cells, b64, Nat.mod_one]
  · simp [h]
theorem run_mk64 {n : Nat} (ho : o.op = .makeSlice 90 x y) (hx : ρ x = .int .i64 (n : Int)) (hy : ρ y = .int .i64 (n : Int)) (hn : n ≤ 16777216) : (execOp ρ o).run Tryz.prog w = .ok (.value (.slice (some ⟨w.heap.size, 0, none⟩) n n)) (w.alloc (.cells (z64 n).toArray 45)) := by
  have hs : (Tryz.prog.info? 45).map (fun i => (i.size, i.bytes, i.zero)) = some (1, 8, some (.int .u64 0)) := by kernel_rfl
  obtain ⟨inf, hi, h2⟩ := Option.map_eq_some_iff.1 hs
  obtain ⟨e1, e2, e3⟩ : inf.size = 1 ∧ inf.bytes = 8 ∧ inf.zero = some (.int .u64 0) := by simpa using h2
  have h := run_makeSlice (P := Tryz.prog) w 90 45 inf (.int .u64 0) Tryz.underlying90 hi e3 .i64 .i64 (n : Int) (n : Int) (by omega) (by omega) (by rw [e1]; omega) (by rw [e2]; omega) (by omega)
  rw [e1, Int.toNat_natCast, Nat.mul_one, made_zero64] at h
  unfold execOp
  simp only [ho, hx, hy, Sem.run_bind, h]
  simp [go_sem]
end
/-- A slice of words in a block of its own. -/
def Ws (v : Value) (l : List (BitVec 64)) (B : Nat) (u : World) : Prop := ∃ g, v = .slice (some ⟨g, 0, none⟩) l.length l.length ∧ B ≤ g ∧ Arr g (l.map b64) u
theorem Ws.below {v : Value} {l : List (BitVec 64)} {B : Nat} {u u' : World} (h : Ws v l B u) (hb : Below u.heap.size u u') : Ws v l B u' := by
  obtain ⟨g, h1, h2, h3⟩ := h
  exact ⟨g, h1, h2, h3.below hb⟩
end Go.Proofs.YtfdjmdfaidiliaaGreatDoor
namespace Go.Proofs.YtfdjmdfaidiliaaGreatDoor
open Go.RowKit
set_option maxRecDepth 20000

section
variable {w : World} {ρ : Operand → Value} {o : Oper} {x y : Operand}
theorem run_ldS {t : TypeId} {d : TypeDesc} {g : Nat} {vs : List Value} (ho : o.op = .load t x) (ht : Tryz.prog.underlying t = some d) (hd : d.isRow = true) (hi : (Tryz.prog.info? t).map (·.size) = some vs.length) (hx : ρ x = .pointer (some ⟨g, 0, none⟩)) (hr : w.rangeAt g 0 vs) : (execOp ρ o).run Tryz.prog w = .ok (.value (.agg vs.toArray)) w := by
  unfold execOp
  simp only [ho, hx, Sem.run_bind, run_loadAt_mid w g 0 t vs d hr ht hd hi, Result.andThen_ok, Sem.run_pure]
theorem results_row {fn : Func} {p : Tmp} {t : TypeId} {d : TypeDesc} (h : fn.results = #[.cell p t]) {tmps : Array Value} {w : World} {g : Nat} {l : List Value} (ht : tmps.getD p undef = .pointer (some ⟨g, 0, none⟩)) (hu : Tryz.prog.underlying t = some d) (hd : d.isRow = true) (hl : (Tryz.prog.info? t).map (·.size) = some l.length) (hr : w.rangeAt g 0 l) :
    (results fn tmps).run Tryz.prog w = .ok (.agg l.toArray) w := by
  rw [results_cell h, ht]
  have e := run_loadVar_mid (P := Tryz.prog) w g 0 t l d hr hu hd hl
  simp only [asAddr, Sem.run_pure, Result.andThen_ok, e]
theorem run_ldu {g i : Nat} {v : Value} (ho : o.op = .load 58 x) (hx : ρ x = .pointer (some ⟨g, i, none⟩)) (hc : w.cell? ⟨g, i, none⟩ = some v) : (execOp ρ o).run Tryz.prog w = .ok (.value v) w := by
  obtain ⟨dst, op, type, pos, after, guard⟩ := o
  subst ho
  go_simp
theorem run_ldsl {g i : Nat} {v : Value} (ho : o.op = .load 59 x) (hx : ρ x = .pointer (some ⟨g, i, none⟩)) (hc : w.cell? ⟨g, i, none⟩ = some v) : (execOp ρ o).run Tryz.prog w = .ok (.value v) w := by
  obtain ⟨dst, op, type, pos, after, guard⟩ := o
  subst ho
  go_simp
theorem run_ldin {g i : Nat} {v : Value} (ho : o.op = .load 3 x) (hx : ρ x = .pointer (some ⟨g, i, none⟩)) (hc : w.cell? ⟨g, i, none⟩ = some v) : (execOp ρ o).run Tryz.prog w = .ok (.value v) w := by
  obtain ⟨dst, op, type, pos, after, guard⟩ := o
  subst ho
  go_simp
theorem run_fld0 {g : Nat} (ho : o.op = .fieldAddr 61 x 0) (hx : ρ x = .pointer (some ⟨g, 0, none⟩)) : (execOp ρ o).run Tryz.prog w = .ok (.value (.pointer (some ⟨g, 0, none⟩))) w := by
  obtain ⟨dst, op, type, pos, after, guard⟩ := o
  subst ho
  go_simp
theorem run_fld1 {g : Nat} (ho : o.op = .fieldAddr 61 x 1) (hx : ρ x = .pointer (some ⟨g, 0, none⟩)) : (execOp ρ o).run Tryz.prog w = .ok (.value (.pointer (some ⟨g, 1, none⟩))) w := by
  obtain ⟨dst, op, type, pos, after, guard⟩ := o
  subst ho
  go_simp
theorem run_fld2 {g : Nat} (ho : o.op = .fieldAddr 61 x 2) (hx : ρ x = .pointer (some ⟨g, 0, none⟩)) : (execOp ρ o).run Tryz.prog w = .ok (.value (.pointer (some ⟨g, 2, none⟩))) w := by
  obtain ⟨dst, op, type, pos, after, guard⟩ := o
  subst ho
  go_simp
theorem run_fld3 {g : Nat} (ho : o.op = .fieldAddr 61 x 3) (hx : ρ x = .pointer (some ⟨g, 0, none⟩)) : (execOp ρ o).run Tryz.prog w = .ok (.value (.pointer (some ⟨g, 3, none⟩))) w := by
  obtain ⟨dst, op, type, pos, after, guard⟩ := o
  subst ho
  go_simp
theorem run_fld4 {g : Nat} (ho : o.op = .fieldAddr 61 x 4) (hx : ρ x = .pointer (some ⟨g, 0, none⟩)) : (execOp ρ o).run Tryz.prog w = .ok (.value (.pointer (some ⟨g, 4, none⟩))) w := by
  obtain ⟨dst, op, type, pos, after, guard⟩ := o
  subst ho
  go_simp
theorem run_fld5 {g : Nat} (ho : o.op = .fieldAddr 61 x 5) (hx : ρ x = .pointer (some ⟨g, 0, none⟩)) : (execOp ρ o).run Tryz.prog w = .ok (.value (.pointer (some ⟨g, 5, none⟩))) w := by
  obtain ⟨dst, op, type, pos, after, guard⟩ := o
  subst ho
  go_simp
theorem run_eqT {t t' : TypeId} {a b : BitVec 64} {c : Bool} (ho : o.op = .binOp .eql t x y t') (hx : ρ x = b64 a) (hy : ρ y = b64 b) (h : decide (a = b) = c) : (execOp ρ o).run Tryz.prog w = .ok (.value (.bool c)) w := by
  rw [run_eqb64 ho hx hy, h]
theorem run_bldH {A B : Int} {g0 g1 g2 g3 : Nat} {x0 x1 x2 x3 x4 x5 : Operand} (ho : o.op = .build 61 #[(0, x0), (1, x1), (2, x2), (3, x3), (4, x4), (5, x5)]) (h0 : ρ x0 = .int .u64 A) (h1 : ρ x1 = .int .i64 B) (h2 : ρ x2 = .slice (some ⟨g0, 0, none⟩) 3 3) (h3 : ρ x3 = .slice (some ⟨g1, 0, none⟩) 3 3) (h4 : ρ x4 = .slice (some ⟨g2, 0, none⟩) 3 3) (h5 : ρ x5 = .slice (some ⟨g3, 0, none⟩) 3 3) : (execOp ρ o).run Tryz.prog w = .ok (.value (.agg #[.int .u64 A, .int .i64 B, .slice (some ⟨g0, 0, none⟩) 3 3, .slice (some ⟨g1, 0, none⟩) 3 3, .slice (some ⟨g2, 0, none⟩) 3 3, .slice (some ⟨g3, 0, none⟩) 3 3])) w := by
  obtain ⟨dst, op, type, pos, after, guard⟩ := o
  subst ho
  go_simp
end
end Go.Proofs.YtfdjmdfaidiliaaGreatDoor
namespace Go.Proofs.YtfdjmdfaidiliaaGreatDoor
open Go.RowKit
set_option maxRecDepth 20000

def btsX (c : List (BitVec 8)) (k : Nat) : BitVec 8 := if 0 < c.length then c.getD (k % c.length) 0 + BitVec.ofNat 8 (k / c.length) else BitVec.ofNat 8 k
def bts (c : List (BitVec 8)) : Nat → List (BitVec 8)
  | 0 => []
  | k + 1 => bts c k ++ [btsX c k]
theorem bts_len (c : List (BitVec 8)) : ∀ k, (bts c k).length = k
  | 0 => rfl
  | k + 1 => by rw [bts, List.length_append, bts_len c k]; rfl
section
variable {w : World} {ρ : Operand → Value} {o : Oper} {x y : Operand} {t t' : TypeId}
theorem run_rem16 {a b : Int} (ho : o.op = .binOp .rem t x y t') (hx : ρ x = .int .u16 a) (hy : ρ y = .int .u16 b) (h0 : 0 ≤ a) (h2 : 0 < b) : (execOp ρ o).run Tryz.prog w = .ok (.value (.int .u16 (a % b))) w := by
  obtain ⟨dst, op, type, pos, after, guard⟩ := o
  subst ho
  have hb : ¬ b = 0 := by omega
  go_simp
  rw [Int.tmod_eq_emod_of_nonneg h0]
end
structure BytI (w : World) (v : Value) (l : List (BitVec 8)) (u : World) : Prop where
  bl : Below w.heap.size w u
  O : u.ownsRow w.heap.size 5 1 v l.length (l.map b8)

/-- What is owned, and holds something, has an address. -/
theorem own_some {w : World} {base : Nat} {v : Value} {n : Nat} {l : List (BitVec 8)} (h : w.ownsRow base 5 1 v n (l.map b8)) (hn : 0 < n) : ∃ g c, v = .slice (some ⟨g, 0, none⟩) n c ∧ n ≤ c := by
  rcases h.2 with ⟨_, hn'⟩ | ⟨g, cap, _, rfl, _, _, h1, _⟩
  · omega
  · exact ⟨g, cap, rfl, h1⟩
end Go.Proofs.YtfdjmdfaidiliaaGreatDoor
namespace Go.Proofs.YtfdjmdfaidiliaaGreatDoor
open Go.RowKit
set_option maxRecDepth 20000

structure G4 where
  a : Nat
  b : Nat
  c : Nat
  d : Nat
def t3 (a b c : Nat) : List Value := [.int .u64 (a : Int), .int .u64 (b : Int), .int .u64 (c : Int)]
theorem run_cvui {w : World} {ρ : Operand → Value} {o : Oper} {x : Operand} {n : Int} (ho : o.op = .convert 58 3 x) (hx : ρ x = .int .u64 n) (h0 : 0 ≤ n) (h1 : n < 9223372036854775808) : (execOp ρ o).run Tryz.prog w = .ok (.value (.int .i64 n)) w := by
  rw [run_cv ho Tryz.underlying58 Tryz.underlying3 hx, i64_fit (by omega) (by omega)]
theorem Sl.cell {v : Value} {l : List (BitVec 8)} {u : World} (h : Sl v l u) (hn : 0 < l.length) : ∃ b f c, v = .slice (some ⟨b, f, none⟩) l.length c ∧ b < u.heap.size ∧ u.rangeAt b f (l.map b8) := by
  obtain ⟨ao, c, rfl, _, h3⟩ := h
  obtain ⟨b, f, rfl, h4, h5⟩ := h3 (by intro e; rw [e] at hn; exact absurd hn (Nat.lt_irrefl _))
  exact ⟨b, f, c, rfl, h4, h5⟩
def zeroH : List Value := [.int .u64 0, .int .i64 0, .slice none 0 0, .slice none 0 0, .slice none 0 0, .slice none 0 0]
theorem putR_get : ∀ (k : Nat) (l : List (BitVec 8)) (n j : Nat), (putR l k n)[j]? = if j < k ∧ j < l.length ∧ n / 256 ^ (k - 1 - j) ≠ 0 then some (BitVec.ofNat 8 (n / 256 ^ (k - 1 - j))) else l[j]?
  | 0, l, n, j => by rw [putR, if_neg (by omega)]
  | k + 1, l, n, j => by
    rw [putR]
    by_cases hn : n = 0
    · rw [if_pos hn, hn, if_neg (by simp)]
    · rw [if_neg hn, putR_get k, List.length_set]
      by_cases hj : j = k
      · subst hj
        rw [if_neg (by omega)]
        by_cases hl : j < l.length
        · rw [List.getElem?_set_self hl, if_pos ⟨by omega, hl, by simpa using hn⟩]; simp
        · rw [if_neg (by omega), List.getElem?_eq_none (by rw [List.length_set]; omega), List.getElem?_eq_none (by omega)]
      · rw [List.getElem?_set_ne (Ne.symm hj)]
        by_cases hjk : j < k
        · have e : n / 256 / 256 ^ (k - 1 - j) = n / 256 ^ (k + 1 - 1 - j) := by
            rw [Nat.div_div_eq_div_mul, Nat.mul_comm, ← Nat.pow_succ, show (k - 1 - j).succ = k + 1 - 1 - j by omega]
          rw [e]
          by_cases hc : j < l.length ∧ n / 256 ^ (k + 1 - 1 - j) ≠ 0
          · rw [if_pos ⟨hjk, hc⟩, if_pos ⟨by omega, hc⟩]
          · rw [if_neg (fun h => hc h.2), if_neg (fun h => hc h.2)]
        · rw [if_neg (by omega), if_neg (by omega)]
/-- A byte of how many bits there were. -/
def lbX (n i : Nat) : BitVec 8 := if i < 8 then ((BitVec.ofNat 64 n * 8) >>> (8 * i)).setWidth 8 else 0
theorem lbX_eq (n i : Nat) (hn : n < 1152921504606846976) : lbX n i = BitVec.ofNat 8 (n * 8 / 256 ^ i) := by
  unfold lbX
  apply BitVec.eq_of_toNat_eq
  by_cases hi : i < 8
  · rw [if_pos hi, BitVec.toNat_setWidth, BitVec.toNat_ushiftRight, BitVec.toNat_mul, BitVec.toNat_ofNat, BitVec.toNat_ofNat, Nat.shiftRight_eq_div_pow, show (256 : Nat) = 2 ^ 8 from rfl, ← Nat.pow_mul]
    have e : n % 2 ^ 64 * (8 : BitVec 64).toNat % 2 ^ 64 = n * 8 := by
      rw [show (8 : BitVec 64).toNat = 8 from rfl, Nat.mod_eq_of_lt (show n < 2 ^ 64 by omega), Nat.mod_eq_of_lt (by omega)]
    rw [e]
  · rw [if_neg hi, BitVec.toNat_ofNat]
    have h1 : n * 8 / 256 ^ i = 0 := by
      refine Nat.div_eq_of_lt (Nat.lt_of_lt_of_le (show n * 8 < 256 ^ 8 by omega) (Nat.pow_le_pow_right (by omega) (by omega)))
    rw [h1]; rfl
section
variable {w : World} {ρ : Operand → Value} {o : Oper} {x y : Operand} {t t' : TypeId}
theorem run_neqi {a b : Int} {c : Bool} (ho : o.op = .binOp .neq t x y t') (hx : ρ x = .int .i64 a) (hy : ρ y = .int .i64 b) (hc : (!(a == b)) = c) : (execOp ρ o).run Tryz.prog w = .ok (.value (.bool c)) w := by
  obtain ⟨dst, op, type, pos, after, guard⟩ := o
  subst ho
  go_simp
  try exact hc
theorem run_cviu {n : Nat} (ho : o.op = .convert 3 45 x) (hx : ρ x = .int .i64 (n : Int)) : (execOp ρ o).run Tryz.prog w = .ok (.value (b64 (BitVec.ofNat 64 n))) w := by
  rw [run_cv ho Tryz.underlying3 Tryz.underlying45 hx]
  have e : IntKind.u64.wrap (n : Int) = ((BitVec.ofNat 64 n).toNat : Int) := by rw [wrap64, BitVec.toNat_ofNat]; omega
  rw [e]; rfl
theorem run_cvin {n : Nat} (ho : o.op = .convert 3 58 x) (hx : ρ x = .int .i64 (n : Int)) (hn : n < 1000) : (execOp ρ o).run Tryz.prog w = .ok (.value (.int .u64 (n : Int))) w := by
  rw [run_cv ho Tryz.underlying3 Tryz.underlying58 hx]
  have e : IntKind.u64.wrap (n : Int) = (n : Int) := by rw [wrap64]; omega
  rw [e]
end
theorem app_none {w : World} {ops : Array Oper} {Q : Exit → Act → World → Prop} {rest : List Oper} {o : Oper} {a : Act} {s x : Operand} {ao : Option Addr} {c : Nat} (hg : o.guard = none) (ho : o.op = .call { callee := .builtin .append, args := #[s, x], argTypes := #[24, 24] }) (hs : a.eval s = .slice none 0 0) (hx : a.eval x = .slice ao 0 c)
    (h : wpList Tryz.prog ops Q rest (a.put o.dst (.slice none 0 0)) w) : wpList Tryz.prog ops Q (o :: rest) a w := by
  have hi : (Tryz.prog.info? 5).map (·.size) = some 1 := by kernel_rfl
  obtain ⟨inf, h1, _⟩ := Option.map_eq_some_iff.1 hi
  have hl : ∀ b : Addr, (loadCells b 0).run Tryz.prog w = .ok #[] w := fun b => by simpa using run_loadCells_list (P := Tryz.prog) w b [] (by simp)
  have hr : (Builtin.append_ #[24, 24] o.type #[.slice none 0 0, .slice ao 0 c]).run Tryz.prog w = .ok (.slice none 0 0) w := by
    cases ao <;> simp [Builtin.append_, run_underlying Tryz.underlying24, sizeOf, typeInfo, h1, Builtin.lenOf, Builtin.firstCells, hl]
  refine wpList_val (v := .slice none 0 0) (w' := w) ?_ hg h
  unfold execOp
  simp [ho, resolve, invoke, builtin, hs, hx, hr, Result.andThen]
/-- append of any bytes to nothing. -/
theorem wpList_appS {w : World} {ops : Array Oper} {Q : Exit → Act → World → Prop} {rest : List Oper} {o : Oper} {a : Act} {s x : Operand} {base : Nat} {v : Value} {l : List (BitVec 8)} (hg : o.guard = none) (ho : o.op = .call { callee := .builtin .append, args := #[s, x], argTypes := #[24, 24] }) (hs : a.eval s = .slice none 0 0) (hx : a.eval x = v) (hv : Sl v l w) (hl : l.length ≤ 16777216) (hb : base ≤ w.heap.size)
    (h : ∀ v' w', w'.ownsRow base 5 1 v' l.length (l.map b8) → Below base w w' → wpList Tryz.prog ops Q rest (a.put o.dst v') w') : wpList Tryz.prog ops Q (o :: rest) a w := by
  by_cases he : l = []
  · subst he
    obtain ⟨ao, c, rfl, _, _⟩ := hv
    exact app_none hg ho hs hx (h _ _ (World.ownsRow_nil _ _ _ _) (Below.refl _ _))
  · obtain ⟨b, f, c, rfl, _, hr⟩ := hv.cell (List.length_pos_iff.2 he)
    exact wpList_app (f := b8) (fun _ => rfl) (l := []) (m := l) (bw := 1) (z := .int .u8 0) hg ho Tryz.underlying24 (by kernel_rfl) rfl (by omega) hs (World.ownsRow_nil _ _ _ _) hx hr (by omega) hb fun v' w' h1 h2 => h v' w' (by rwa [Nat.zero_add, List.nil_append] at h1) h2
theorem mod_byte (x : BitVec 64) : (x % 256).setWidth 8 = x.setWidth 8 := by
  apply BitVec.eq_of_toNat_eq
  rw [BitVec.toNat_setWidth, BitVec.toNat_setWidth, BitVec.toNat_umod, show (256 : BitVec 64).toNat = 256 from rfl]
  exact Nat.mod_mod_of_dvd _ (by decide)
theorem enters_rsum : Enters 33 := enters_of Tryz.func33 (by kernel_rfl) rfl
theorem run_wsub64 {w : World} {ρ : Operand → Value} {o : Oper} {t t' : TypeId} {x y : Operand} {n : Nat} (ho : o.op = .binOp .sub t x y t') (hx : ρ x = .int .u64 64) (hy : ρ y = .int .u64 (n : Int)) (hn : n ≤ 64) : (execOp ρ o).run Tryz.prog w = .ok (.value (.int .u64 ((64 - n : Nat) : Int))) w := by
  obtain ⟨dst, op, type, pos, after, guard⟩ := o
  subst ho
  have e : IntKind.u64.wrap (64 - (n : Int)) = ((64 - n : Nat) : Int) := by rw [wrap64]; omega
  generalize ((64 - n : Nat) : Int) = z at *
  go_simp
  try exact e
end Go.Proofs.YtfdjmdfaidiliaaGreatDoor
