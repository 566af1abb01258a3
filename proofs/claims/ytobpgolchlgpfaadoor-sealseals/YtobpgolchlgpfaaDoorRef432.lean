/- What keywardref03.sum does with words of 32 bits. -/
import Derived.Test.YtobpgolchlgpfaaDoorOps64
import Derived.Test.YtobpgolchlgpfaaDoorApp
import Derived.Test.YtobpgolchlgpfaaDoorShaPut
import Derived.Test.YtobpgolchlgpfaaDoorLateD
import Derived.Test.YtobpgolchlgpfaaDoorCpy
import Derived.Test.YtobpgolchlgpfaaDoorS5
import Derived.Test.YtobpgolchlgpfaaDoorShaMix32
import Derived.Test.YtobpgolchlgpfaaDoorShaBlocks32
import Derived.Test.YtobpgolchlgpfaaDoorShaSum32
import Derived.Test.YtobpgolchlgpfaaDoorShaSpread32
import Derived.Test.YtobpgolchlgpfaaDoorBsl
import Derived.Test.YtobpgolchlgpfaaDoorShaTab
namespace Go.Proofs.YtobpgolchlgpfaaDoor
open Go.RowKit
set_option maxRecDepth 20000

section
variable {w : World} {ρ : Operand → Value} {o : Oper} {x y : Operand}
theorem run_ldS {t : TypeId} {d : TypeDesc} {g : Nat} {vs : List Value} (ho : o.op = .load t x) (ht : Tryd.prog.underlying t = some d) (hd : d.isRow = true) (hi : (Tryd.prog.info? t).map (·.size) = some vs.length) (hx : ρ x = .pointer (some ⟨g, 0, none⟩)) (hr : w.rangeAt g 0 vs) : (execOp ρ o).run Tryd.prog w = .ok (.value (.agg vs.toArray)) w := by
  unfold execOp
  simp only [ho, hx, Sem.run_bind, run_loadAt_mid w g 0 t vs d hr ht hd hi, Result.andThen_ok, Sem.run_pure]
theorem results_row {fn : Func} {p : Tmp} {t : TypeId} {d : TypeDesc} (h : fn.results = #[.cell p t]) {tmps : Array Value} {w : World} {g : Nat} {l : List Value} (ht : tmps.getD p undef = .pointer (some ⟨g, 0, none⟩)) (hu : Tryd.prog.underlying t = some d) (hd : d.isRow = true) (hl : (Tryd.prog.info? t).map (·.size) = some l.length) (hr : w.rangeAt g 0 l) :
    (results fn tmps).run Tryd.prog w = .ok (.agg l.toArray) w := by
  rw [results_cell h, ht]
  have e := run_loadVar_mid (P := Tryd.prog) w g 0 t l d hr hu hd hl
  simp only [asAddr, Sem.run_pure, Result.andThen_ok, e]
theorem run_ldu {g i : Nat} {v : Value} (ho : o.op = .load 25 x) (hx : ρ x = .pointer (some ⟨g, i, none⟩)) (hc : w.cell? ⟨g, i, none⟩ = some v) : (execOp ρ o).run Tryd.prog w = .ok (.value v) w := by
  obtain ⟨dst, op, type, pos, after, guard⟩ := o
  subst ho
  go_simp
theorem run_ldsl {g i : Nat} {v : Value} (ho : o.op = .load 101 x) (hx : ρ x = .pointer (some ⟨g, i, none⟩)) (hc : w.cell? ⟨g, i, none⟩ = some v) : (execOp ρ o).run Tryd.prog w = .ok (.value v) w := by
  obtain ⟨dst, op, type, pos, after, guard⟩ := o
  subst ho
  go_simp
theorem run_ldin {g i : Nat} {v : Value} (ho : o.op = .load 3 x) (hx : ρ x = .pointer (some ⟨g, i, none⟩)) (hc : w.cell? ⟨g, i, none⟩ = some v) : (execOp ρ o).run Tryd.prog w = .ok (.value v) w := by
  obtain ⟨dst, op, type, pos, after, guard⟩ := o
  subst ho
  go_simp
theorem run_fld0 {g : Nat} (ho : o.op = .fieldAddr 103 x 0) (hx : ρ x = .pointer (some ⟨g, 0, none⟩)) : (execOp ρ o).run Tryd.prog w = .ok (.value (.pointer (some ⟨g, 0, none⟩))) w := by
  obtain ⟨dst, op, type, pos, after, guard⟩ := o
  subst ho
  go_simp
theorem run_fld1 {g : Nat} (ho : o.op = .fieldAddr 103 x 1) (hx : ρ x = .pointer (some ⟨g, 0, none⟩)) : (execOp ρ o).run Tryd.prog w = .ok (.value (.pointer (some ⟨g, 1, none⟩))) w := by
  obtain ⟨dst, op, type, pos, after, guard⟩ := o
  subst ho
  go_simp
theorem run_fld2 {g : Nat} (ho : o.op = .fieldAddr 103 x 2) (hx : ρ x = .pointer (some ⟨g, 0, none⟩)) : (execOp ρ o).run Tryd.prog w = .ok (.value (.pointer (some ⟨g, 2, none⟩))) w := by
  obtain ⟨dst, op, type, pos, after, guard⟩ := o
  subst ho
  go_simp
theorem run_fld3 {g : Nat} (ho : o.op = .fieldAddr 103 x 3) (hx : ρ x = .pointer (some ⟨g, 0, none⟩)) : (execOp ρ o).run Tryd.prog w = .ok (.value (.pointer (some ⟨g, 3, none⟩))) w := by
  obtain ⟨dst, op, type, pos, after, guard⟩ := o
  subst ho
  go_simp
theorem run_fld4 {g : Nat} (ho : o.op = .fieldAddr 103 x 4) (hx : ρ x = .pointer (some ⟨g, 0, none⟩)) : (execOp ρ o).run Tryd.prog w = .ok (.value (.pointer (some ⟨g, 4, none⟩))) w := by
  obtain ⟨dst, op, type, pos, after, guard⟩ := o
  subst ho
  go_simp
theorem run_fld5 {g : Nat} (ho : o.op = .fieldAddr 103 x 5) (hx : ρ x = .pointer (some ⟨g, 0, none⟩)) : (execOp ρ o).run Tryd.prog w = .ok (.value (.pointer (some ⟨g, 5, none⟩))) w := by
  obtain ⟨dst, op, type, pos, after, guard⟩ := o
  subst ho
  go_simp
theorem run_eqT {t t' : TypeId} {a b : BitVec 64} {c : Bool} (ho : o.op = .binOp .eql t x y t') (hx : ρ x = b64 a) (hy : ρ y = b64 b) (h : decide (a = b) = c) : (execOp ρ o).run Tryd.prog w = .ok (.value (.bool c)) w := by
  rw [run_eqb64 ho hx hy, h]
theorem run_bldH {A B : Int} {g0 g1 g2 g3 : Nat} {x0 x1 x2 x3 x4 x5 : Operand} (ho : o.op = .build 103 #[(0, x0), (1, x1), (2, x2), (3, x3), (4, x4), (5, x5)]) (h0 : ρ x0 = .int .u64 A) (h1 : ρ x1 = .int .i64 B) (h2 : ρ x2 = .slice (some ⟨g0, 0, none⟩) 3 3) (h3 : ρ x3 = .slice (some ⟨g1, 0, none⟩) 3 3) (h4 : ρ x4 = .slice (some ⟨g2, 0, none⟩) 3 3) (h5 : ρ x5 = .slice (some ⟨g3, 0, none⟩) 3 3) : (execOp ρ o).run Tryd.prog w = .ok (.value (.agg #[.int .u64 A, .int .i64 B, .slice (some ⟨g0, 0, none⟩) 3 3, .slice (some ⟨g1, 0, none⟩) 3 3, .slice (some ⟨g2, 0, none⟩) 3 3, .slice (some ⟨g3, 0, none⟩) 3 3])) w := by
  obtain ⟨dst, op, type, pos, after, guard⟩ := o
  subst ho
  go_simp
end
end Go.Proofs.YtobpgolchlgpfaaDoor
namespace Go.Proofs.YtobpgolchlgpfaaDoor
open Go.RowKit
set_option maxRecDepth 20000

def btsX (c : List (BitVec 8)) (k : Nat) : BitVec 8 := if 0 < c.length then c.getD (k % c.length) 0 + BitVec.ofNat 8 (k / c.length) else BitVec.ofNat 8 k
def bts (c : List (BitVec 8)) : Nat → List (BitVec 8)
  | 0 => []
  | k + 1 => bts c k ++ [btsX c k]
theorem bts_len (c : List (BitVec 8)) : ∀ k, (bts c k).length = k
  | 0 => rfl
  | k + 1 => by rw [bts, List.length_append, bts_len c k]; rfl
section
variable {w : World} {ρ : Operand → Value} {o : Oper} {x y : Operand} {t t' : TypeId}
theorem run_rem16 {a b : Int} (ho : o.op = .binOp .rem t x y t') (hx : ρ x = .int .u16 a) (hy : ρ y = .int .u16 b) (h0 : 0 ≤ a) (h2 : 0 < b) : (execOp ρ o).run Tryd.prog w = .ok (.value (.int .u16 (a % b))) w := by
  obtain ⟨dst, op, type, pos, after, guard⟩ := o
  subst ho
  have hb : ¬ b = 0 := by omega
  go_simp
  rw [Int.tmod_eq_emod_of_nonneg h0]
theorem run_cv16_i {n : Int} (ho : o.op = .convert 32 3 x) (hx : ρ x = .int .u16 n) (h0 : 0 ≤ n) (h1 : n < 65536) : (execOp ρ o).run Tryd.prog w = .ok (.value (.int .i64 n)) w := by
  rw [run_cv ho Tryd.underlying32 Tryd.underlying3 hx, i64_fit (by omega) (by omega)]
end
structure BytI (w : World) (v : Value) (l : List (BitVec 8)) (u : World) : Prop where
  bl : Below w.heap.size w u
  O : u.ownsRow w.heap.size 5 1 v l.length (l.map b8)

/-- What is owned, and holds something, has an address. -/
theorem own_some {w : World} {base : Nat} {v : Value} {n : Nat} {l : List (BitVec 8)} (h : w.ownsRow base 5 1 v n (l.map b8)) (hn : 0 < n) : ∃ g c, v = .slice (some ⟨g, 0, none⟩) n c ∧ n ≤ c := by
  rcases h.2 with ⟨_, hn'⟩ | ⟨g, cap, _, rfl, _, _, h1, _⟩
  · omega
  · exact ⟨g, cap, rfl, h1⟩
end Go.Proofs.YtobpgolchlgpfaaDoor
namespace Go.Proofs.YtobpgolchlgpfaaDoor
open Go.RowKit
set_option maxRecDepth 20000

structure G4 where
  a : Nat
  b : Nat
  c : Nat
  d : Nat
def t3 (a b c : Nat) : List Value := [.int .u64 (a : Int), .int .u64 (b : Int), .int .u64 (c : Int)]
theorem run_cvui {w : World} {ρ : Operand → Value} {o : Oper} {x : Operand} {n : Int} (ho : o.op = .convert 25 3 x) (hx : ρ x = .int .u64 n) (h0 : 0 ≤ n) (h1 : n < 9223372036854775808) : (execOp ρ o).run Tryd.prog w = .ok (.value (.int .i64 n)) w := by
  rw [run_cv ho Tryd.underlying25 Tryd.underlying3 hx, i64_fit (by omega) (by omega)]
theorem Sl.cell {v : Value} {l : List (BitVec 8)} {u : World} (h : Sl v l u) (hn : 0 < l.length) : ∃ b f c, v = .slice (some ⟨b, f, none⟩) l.length c ∧ b < u.heap.size ∧ u.rangeAt b f (l.map b8) := by
  obtain ⟨ao, c, rfl, _, h3⟩ := h
  obtain ⟨b, f, rfl, h4, h5⟩ := h3 (by intro e; rw [e] at hn; exact absurd hn (Nat.lt_irrefl _))
  exact ⟨b, f, c, rfl, h4, h5⟩
def zeroH : List Value := [.int .u64 0, .int .i64 0, .slice none 0 0, .slice none 0 0, .slice none 0 0, .slice none 0 0]
theorem putR_get : ∀ (k : Nat) (l : List (BitVec 8)) (n j : Nat), (putR l k n)[j]? = if j < k ∧ j < l.length ∧ n / 256 ^ (k - 1 - j) ≠ 0 then some (BitVec.ofNat 8 (n / 256 ^ (k - 1 - j))) else l[j]?
  | 0, l, n, j => by rw [putR, if_neg (by omega)]
  | k + 1, l, n, j => by
    rw [putR]
    by_cases hn : n = 0
    · rw [if_pos hn, hn, if_neg (by simp)]
    · rw [if_neg hn, putR_get k, List.length_set]
      by_cases hj : j = k
      · subst hj
        rw [if_neg (by omega)]
        by_cases hl : j < l.length
        · rw [List.getElem?_set_self hl, if_pos ⟨by omega, hl, by simpa using hn⟩]; simp
        · rw [if_neg (by omega), List.getElem?_eq_none (by rw [List.length_set]; omega), List.getElem?_eq_none (by omega)]
      · rw [List.getElem?_set_ne (Ne.symm hj)]
        by_cases hjk : j < k
        · have e : n / 256 / 256 ^ (k - 1 - j) = n / 256 ^ (k + 1 - 1 - j) := by
            rw [Nat.div_div_eq_div_mul, Nat.mul_comm, ← Nat.pow_succ, show (k - 1 - j).succ = k + 1 - 1 - j by omega]
          rw [e]
          by_cases hc : j < l.length ∧ n / 256 ^ (k + 1 - 1 - j) ≠ 0
          · rw [if_pos ⟨hjk, hc⟩, if_pos ⟨by omega, hc⟩]
          · rw [if_neg (fun h => hc h.2), if_neg (fun h => hc h.2)]
        · rw [if_neg (by omega), if_neg (by omega)]
/-- A byte of how many bits there were. -/
def lbX (n i : Nat) : BitVec 8 := if i < 8 then ((BitVec.ofNat 64 n * 8) >>> (8 * i)).setWidth 8 else 0
theorem lbX_eq (n i : Nat) (hn : n < 1152921504606846976) : lbX n i = BitVec.ofNat 8 (n * 8 / 256 ^ i) := by
  unfold lbX
  apply BitVec.eq_of_toNat_eq
  by_cases hi : i < 8
  · rw [if_pos hi, BitVec.toNat_setWidth, BitVec.toNat_ushiftRight, BitVec.toNat_mul, BitVec.toNat_ofNat, BitVec.toNat_ofNat, Nat.shiftRight_eq_div_pow, show (256 : Nat) = 2 ^ 8 from rfl, ← Nat.pow_mul]
    have e : n % 2 ^ 64 * (8 : BitVec 64).toNat % 2 ^ 64 = n * 8 := by
      rw [show (8 : BitVec 64).toNat = 8 from rfl, Nat.mod_eq_of_lt (show n < 2 ^ 64 by omega), Nat.mod_eq_of_lt (by omega)]
    rw [e]
  · rw [if_neg hi, BitVec.toNat_ofNat]
    have h1 : n * 8 / 256 ^ i = 0 := by
      refine Nat.div_eq_of_lt (Nat.lt_of_lt_of_le (show n * 8 < 256 ^ 8 by omega) (Nat.pow_le_pow_right (by omega) (by omega)))
    rw [h1]; rfl
section
variable {w : World} {ρ : Operand → Value} {o : Oper} {x y : Operand} {t t' : TypeId}
theorem run_neqi {a b : Int} {c : Bool} (ho : o.op = .binOp .neq t x y t') (hx : ρ x = .int .i64 a) (hy : ρ y = .int .i64 b) (hc : (!(a == b)) = c) : (execOp ρ o).run Tryd.prog w = .ok (.value (.bool c)) w := by
  obtain ⟨dst, op, type, pos, after, guard⟩ := o
  subst ho
  go_simp
  try exact hc
theorem run_cviu {n : Nat} (ho : o.op = .convert 3 22 x) (hx : ρ x = .int .i64 (n : Int)) : (execOp ρ o).run Tryd.prog w = .ok (.value (b64 (BitVec.ofNat 64 n))) w := by
  rw [run_cv ho Tryd.underlying3 Tryd.underlying22 hx]
  have e : IntKind.u64.wrap (n : Int) = ((BitVec.ofNat 64 n).toNat : Int) := by rw [wrap64, BitVec.toNat_ofNat]; omega
  rw [e]; rfl
theorem run_cvin {n : Nat} (ho : o.op = .convert 3 25 x) (hx : ρ x = .int .i64 (n : Int)) (hn : n < 1000) : (execOp ρ o).run Tryd.prog w = .ok (.value (.int .u64 (n : Int))) w := by
  rw [run_cv ho Tryd.underlying3 Tryd.underlying25 hx]
  have e : IntKind.u64.wrap (n : Int) = (n : Int) := by rw [wrap64]; omega
  rw [e]
end
theorem app_none {w : World} {ops : Array Oper} {Q : Exit → Act → World → Prop} {rest : List Oper} {o : Oper} {a : Act} {s x : Operand} {ao : Option Addr} {c : Nat} (hg : o.guard = none) (ho : o.op = .call { callee := .builtin .append, args := #[s, x], argTypes := #[30, 30] }) (hs : a.eval s = .slice none 0 0) (hx : a.eval x = .slice ao 0 c)
    (h : wpList Tryd.prog ops Q rest (a.put o.dst (.slice none 0 0)) w) : wpList Tryd.prog ops Q (o :: rest) a w := by
  have hi : (Tryd.prog.info? 5).map (·.size) = some 1 := by kernel_rfl
  obtain ⟨inf, h1, _⟩ := Option.map_eq_some_iff.1 hi
  have hl : ∀ b : Addr, (loadCells b 0).run Tryd.prog w = .ok #[] w := fun b => by simpa using run_loadCells_list (P := Tryd.prog) w b [] (by simp)
  have hr : (Builtin.append_ #[30, 30] o.type #[.slice none 0 0, .slice ao 0 c]).run Tryd.prog w = .ok (.slice none 0 0) w := by
    cases ao <;> simp [Builtin.append_, run_underlying Tryd.underlying30, sizeOf, typeInfo, h1, Builtin.lenOf, Builtin.firstCells, hl]
  refine wpList_val (v := .slice none 0 0) (w' := w) ?_ hg h
  unfold execOp
  simp [ho, resolve, invoke, builtin, hs, hx, hr, Result.andThen]
/-- append of any bytes to nothing. -/
theorem wpList_appS {w : World} {ops : Array Oper} {Q : Exit → Act → World → Prop} {rest : List Oper} {o : Oper} {a : Act} {s x : Operand} {base : Nat} {v : Value} {l : List (BitVec 8)} (hg : o.guard = none) (ho : o.op = .call { callee := .builtin .append, args := #[s, x], argTypes := #[30, 30] }) (hs : a.eval s = .slice none 0 0) (hx : a.eval x = v) (hv : Sl v l w) (hl : l.length ≤ 16777216) (hb : base ≤ w.heap.size)
    (h : ∀ v' w', w'.ownsRow base 5 1 v' l.length (l.map b8) → Below base w w' → wpList Tryd.prog ops Q rest (a.put o.dst v') w') : wpList Tryd.prog ops Q (o :: rest) a w := by
  by_cases he : l = []
  · subst he
    obtain ⟨ao, c, rfl, _, _⟩ := hv
    exact app_none hg ho hs hx (h _ _ (World.ownsRow_nil _ _ _ _) (Below.refl _ _))
  · obtain ⟨b, f, c, rfl, _, hr⟩ := hv.cell (List.length_pos_iff.2 he)
    exact wpList_app (f := b8) (fun _ => rfl) (l := []) (m := l) (bw := 1) (z := .int .u8 0) hg ho Tryd.underlying30 (by kernel_rfl) rfl (by omega) hs (World.ownsRow_nil _ _ _ _) hx hr (by omega) hb fun v' w' h1 h2 => h v' w' (by rwa [Nat.zero_add, List.nil_append] at h1) h2
theorem mod_byte (x : BitVec 64) : (x % 256).setWidth 8 = x.setWidth 8 := by
  apply BitVec.eq_of_toNat_eq
  rw [BitVec.toNat_setWidth, BitVec.toNat_setWidth, BitVec.toNat_umod, show (256 : BitVec 64).toNat = 256 from rfl]
  exact Nat.mod_mod_of_dvd _ (by decide)
theorem enters_rsum : Enters 67 := enters_of Tryd.func67 (by kernel_rfl) rfl
theorem run_wsub64 {w : World} {ρ : Operand → Value} {o : Oper} {t t' : TypeId} {x y : Operand} {n : Nat} (ho : o.op = .binOp .sub t x y t') (hx : ρ x = .int .u64 64) (hy : ρ y = .int .u64 (n : Int)) (hn : n ≤ 64) : (execOp ρ o).run Tryd.prog w = .ok (.value (.int .u64 ((64 - n : Nat) : Int))) w := by
  obtain ⟨dst, op, type, pos, after, guard⟩ := o
  subst ho
  have e : IntKind.u64.wrap (64 - (n : Int)) = ((64 - n : Nat) : Int) := by rw [wrap64]; omega
  generalize ((64 - n : Nat) : Int) = z at *
  go_simp
  try exact e
end Go.Proofs.YtobpgolchlgpfaaDoor
namespace Go.Proofs.YtobpgolchlgpfaaDoor
open Go.RowKit
set_option maxRecDepth 20000

def up32 (x : BitVec 32) : BitVec 64 := x.setWidth 64
def dn32 (x : BitVec 64) : BitVec 32 := x.setWidth 32
theorem dn_up32 (x : BitVec 32) : dn32 (up32 x) = x := by unfold dn32 up32; simp
theorem dn_add32 (x y : BitVec 64) : dn32 (x + y) = dn32 x + dn32 y := by unfold dn32; simp [BitVec.setWidth_add]
theorem dn_xor32 (x y : BitVec 64) : dn32 (x ^^^ y) = dn32 x ^^^ dn32 y := by unfold dn32; simp
theorem dn_and32 (x y : BitVec 64) : dn32 (x &&& y) = dn32 x &&& dn32 y := by unfold dn32; simp
theorem dn_or32 (x y : BitVec 64) : dn32 (x ||| y) = dn32 x ||| dn32 y := by unfold dn32; simp
theorem dn_not32 (x : BitVec 64) : dn32 (~~~x) = ~~~dn32 x := by unfold dn32; simp
theorem up_xor32 (x y : BitVec 32) : up32 (x ^^^ y) = up32 x ^^^ up32 y := by unfold up32; simp
theorem up_shr32 (x : BitVec 32) (n : Nat) : up32 (x >>> n) = up32 x >>> n := by
  unfold up32
  apply BitVec.eq_of_toNat_eq
  have h := x.isLt
  have h1 : x.toNat >>> n ≤ x.toNat := Nat.shiftRight_le _ _
  rw [BitVec.toNat_setWidth, BitVec.toNat_ushiftRight, BitVec.toNat_ushiftRight, BitVec.toNat_setWidth, Nat.mod_eq_of_lt (by omega), Nat.mod_eq_of_lt (by omega)]
theorem dn_shl32 (x : BitVec 32) (n : Nat) : dn32 (up32 x <<< n) = x <<< n := by
  unfold up32 dn32
  apply BitVec.eq_of_toNat_eq
  have h := x.isLt
  rw [BitVec.toNat_setWidth, BitVec.toNat_shiftLeft, BitVec.toNat_shiftLeft, BitVec.toNat_setWidth, Nat.mod_eq_of_lt (show x.toNat < 2 ^ 64 by omega)]
  exact Nat.mod_mod_of_dvd _ (by decide)
theorem dn_ror32 (x : BitVec 32) (n : Nat) : dn32 (up32 x >>> n ||| up32 x <<< (32 - n)) = ror32 x n := by
  rw [dn_or32, dn_shl32, ← up_shr32, dn_up32, BitVec.or_comm]; rfl

/-- Where the turns' numbers stand. -/
def hC32 (h : G4) : List Value := [.int .u64 32, .int .i64 64, .slice (some ⟨h.a, 0, none⟩) 3 3, .slice (some ⟨h.b, 0, none⟩) 3 3, .slice (some ⟨h.c, 0, none⟩) 3 3, .slice (some ⟨h.d, 0, none⟩) 3 3]
theorem size_h32 (h : G4) : (Tryd.prog.info? 103).map (·.size) = some (hC32 h).length := by show _ = some 6; kernel_rfl

set_option maxHeartbeats 1000000 in
theorem cut32_any (h : G4) (y : BitVec 64) (w : World) : Calls Tryd.prog 80 #[.agg (hC32 h).toArray, b64 y] w fun e w' => e = .returned (b64 (up32 (dn32 y))) ∧ Below w.heap.size w w' := by
  have A1 := Lib.hid (Arr.new w (hC32 h) 103)
  have b1 : Below w.heap.size w (w.alloc (.cells (hC32 h).toArray 103)) := (Below.refl _ _).alloc (Nat.le_refl _) _
  go_enter Tryd.func80, Tryd.ntmps80
  go_upto_region 0 with fail; refine wp_region_lit ?_
  refine wpList_val (run_box rfl rfl) rfl ?_; (try simp only [Act.put, List.setIfInBounds_toArray, List.set_cons_zero, List.set_cons_succ])
  refine wpList_val (run_asg (v := .int _ _) rfl rfl) rfl ?_; (try simp only [Act.put, List.setIfInBounds_toArray, List.set_cons_zero, List.set_cons_succ])
  refine wpList_end ?_
  generalize w.alloc (.cells (hC32 h).toArray 103) = u1 at *
  go_upto_region 1 with fail; refine wp_region_lit ?_
  refine wpList_val (run_fld0 rfl rfl) rfl ?_; (try simp only [Act.put, List.setIfInBounds_toArray, List.set_cons_zero, List.set_cons_succ])
  refine wpList_val (run_ldu rfl rfl (A1.out.c 0 _ rfl)) rfl ?_; (try simp only [Act.put, List.setIfInBounds_toArray, List.set_cons_zero, List.set_cons_succ])
  refine wpList_val (run_eqT (a := 32) (b := 32) (c := true) rfl rfl rfl rfl) rfl ?_; (try simp only [Act.put, List.setIfInBounds_toArray, List.set_cons_zero, List.set_cons_succ])
  refine wpList_end ?_
  go_upto_region 2 with fail; refine wp_region_lit ?_
  refine wpList_val (run_mv (v := b64 _) rfl rfl) rfl ?_; (try simp only [Act.put, List.setIfInBounds_toArray, List.set_cons_zero, List.set_cons_succ])
  refine wpList_val (run_rem64 (b := 4294967296) rfl rfl rfl (by decide)) rfl ?_; (try simp only [Act.put, List.setIfInBounds_toArray, List.set_cons_zero, List.set_cons_succ])
  refine wpList_val (run_asg (v := b64 _) rfl rfl) rfl ?_; (try simp only [Act.put, List.setIfInBounds_toArray, List.set_cons_zero, List.set_cons_succ])
  refine wpList_end ?_
  go_wp2_with fail
  go_ret
  have e : up32 (dn32 y) = y % 4294967296 := by
    unfold up32 dn32
    apply BitVec.eq_of_toNat_eq
    rw [BitVec.toNat_umod, BitVec.toNat_setWidth, BitVec.toNat_setWidth]
    have := y.isLt
    simp
    omega
  exact ⟨by rw [e]; rfl, b1⟩
theorem enters_cut32 : Enters 80 := enters_of Tryd.func80 (by kernel_rfl) rfl
theorem run_wsub32 {w : World} {ρ : Operand → Value} {o : Oper} {t t' : TypeId} {x y : Operand} {n : Nat} (ho : o.op = .binOp .sub t x y t') (hx : ρ x = .int .u64 32) (hy : ρ y = .int .u64 (n : Int)) (hn : n ≤ 32) : (execOp ρ o).run Tryd.prog w = .ok (.value (.int .u64 ((32 - n : Nat) : Int))) w := by
  obtain ⟨dst, op, type, pos, after, guard⟩ := o
  subst ho
  have e : IntKind.u64.wrap (32 - (n : Int)) = ((32 - n : Nat) : Int) := by rw [wrap64]; omega
  generalize ((32 - n : Nat) : Int) = z at *
  go_simp
  try exact e
set_option maxHeartbeats 1000000 in
theorem rror32_any (h : G4) (x : BitVec 32) (n : Nat) (w : World) (h1 : n ≤ 32) : Calls Tryd.prog 84 #[.agg (hC32 h).toArray, b64 (up32 x), .int .u64 (n : Int)] w fun e w' => e = .returned (b64 (up32 (ror32 x n))) ∧ Below w.heap.size w w' := by
  have A1 := Lib.hid (Arr.new w (hC32 h) 103)
  have b1 : Below w.heap.size w (w.alloc (.cells (hC32 h).toArray 103)) := (Below.refl _ _).alloc (Nat.le_refl _) _
  go_enter Tryd.func84, Tryd.ntmps84
  go_upto_region 0 with fail; refine wp_region_lit ?_
  refine wpList_val (run_box rfl rfl) rfl ?_; (try simp only [Act.put, List.setIfInBounds_toArray, List.set_cons_zero, List.set_cons_succ])
  refine wpList_val (run_asg (v := .int _ _) rfl rfl) rfl ?_; (try simp only [Act.put, List.setIfInBounds_toArray, List.set_cons_zero, List.set_cons_succ])
  refine wpList_end ?_
  generalize w.alloc (.cells (hC32 h).toArray 103) = u1 at *
  go_upto_region 1 with fail; refine wp_region_lit ?_
  refine wpList_val (run_ldS rfl Tryd.underlying103 rfl (size_h32 h) rfl A1.out.range) rfl ?_; (try simp only [Act.put, List.setIfInBounds_toArray, List.set_cons_zero, List.set_cons_succ])
  refine wpList_val (run_mv (v := b64 _) rfl rfl) rfl ?_; (try simp only [Act.put, List.setIfInBounds_toArray, List.set_cons_zero, List.set_cons_succ]); refine wpList_val (run_mv (v := .int _ _) rfl rfl) rfl ?_; (try simp only [Act.put, List.setIfInBounds_toArray, List.set_cons_zero, List.set_cons_succ])
  refine wpList_val (run_shr64 rfl rfl rfl (by omega)) rfl ?_; (try simp only [Act.put, List.setIfInBounds_toArray, List.set_cons_zero, List.set_cons_succ])
  refine wpList_val (run_mv (v := b64 _) rfl rfl) rfl ?_; (try simp only [Act.put, List.setIfInBounds_toArray, List.set_cons_zero, List.set_cons_succ])
  refine wpList_val (run_fld0 rfl rfl) rfl ?_; (try simp only [Act.put, List.setIfInBounds_toArray, List.set_cons_zero, List.set_cons_succ])
  refine wpList_val (run_ldu rfl rfl (A1.out.c 0 _ rfl)) rfl ?_; (try simp only [Act.put, List.setIfInBounds_toArray, List.set_cons_zero, List.set_cons_succ])
  refine wpList_val (run_mv (v := .int _ _) rfl rfl) rfl ?_; (try simp only [Act.put, List.setIfInBounds_toArray, List.set_cons_zero, List.set_cons_succ])
  refine wpList_val (run_wsub32 rfl rfl rfl h1) rfl ?_; (try simp only [Act.put, List.setIfInBounds_toArray, List.set_cons_zero, List.set_cons_succ])
  refine wpList_val (run_shl64 rfl rfl rfl (by omega)) rfl ?_; (try simp only [Act.put, List.setIfInBounds_toArray, List.set_cons_zero, List.set_cons_succ])
  refine wpList_val (run_or64 rfl rfl rfl) rfl ?_; (try simp only [Act.put, List.setIfInBounds_toArray, List.set_cons_zero, List.set_cons_succ])
  refine wpList_enter (run_call2 enters_cut32 rfl rfl rfl rfl) rfl (cut32_any h (up32 x >>> n ||| up32 x <<< (32 - n)) _) (fun u2 hb => ?_); (try simp only [Act.put, List.setIfInBounds_toArray, List.set_cons_zero, List.set_cons_succ])
  rw [dn_ror32]
  refine wpList_val (run_asg (v := b64 _) rfl rfl) rfl ?_; (try simp only [Act.put, List.setIfInBounds_toArray, List.set_cons_zero, List.set_cons_succ])
  refine wpList_end ?_
  go_wp2_with fail
  go_ret
  exact ⟨rfl, b1.trans (hb.mono b1.size)⟩
theorem enters_rror32 : Enters 84 := enters_of Tryd.func84 (by kernel_rfl) rfl
end Go.Proofs.YtobpgolchlgpfaaDoor
namespace Go.Proofs.YtobpgolchlgpfaaDoor
open Go.RowKit
set_option maxRecDepth 20000

set_option maxHeartbeats 1000000 in
theorem big32_any (h : G4) (x : BitVec 32) (g a b c : Nat) (w : World) (hg : g < w.heap.size) (hr : w.rangeAt g 0 (t3 a b c)) (ha : a ≤ 32) (hb : b ≤ 32) (hc : c ≤ 32) :
    Calls Tryd.prog 83 #[.agg (hC32 h).toArray, b64 (up32 x), .slice (some ⟨g, 0, none⟩) 3 3] w fun e w' => e = .returned (b64 (up32 (ror32 x a ^^^ ror32 x b ^^^ ror32 x c))) ∧ Below w.heap.size w w' := by
  have A1 := Lib.hid (Arr.new w (hC32 h) 103)
  have b1 : Below w.heap.size w (w.alloc (.cells (hC32 h).toArray 103)) := (Below.refl _ _).alloc (Nat.le_refl _) _
  go_enter Tryd.func83, Tryd.ntmps83
  go_upto_region 0 with fail; refine wp_region_lit ?_
  refine wpList_val (run_box rfl rfl) rfl ?_; (try simp only [Act.put, List.setIfInBounds_toArray, List.set_cons_zero, List.set_cons_succ])
  refine wpList_val (run_asg (v := .int _ _) rfl rfl) rfl ?_; (try simp only [Act.put, List.setIfInBounds_toArray, List.set_cons_zero, List.set_cons_succ])
  refine wpList_end ?_
  generalize w.alloc (.cells (hC32 h).toArray 103) = u1 at *
  have HR := Lib.hid (fun V (hV : Below u1.heap.size u1 V) => rangeAt_below (rangeAt_below hr hg b1) (Nat.lt_of_lt_of_le hg b1.size) hV)
  clear hr
  go_upto_region 1 with fail; refine wp_region_calm 21 (by kernel_rfl) (by kernel_rfl) ?_
  refine wpCalm_step _ (fun V hV => calm_run (run_ldS rfl Tryd.underlying103 rfl (size_h32 h) rfl (A1.out.below hV).range)) ?_; (try simp only [Act.put, List.setIfInBounds_toArray, List.set_cons_zero, List.set_cons_succ])
  refine wpCalm_step _ (fun V hV => calm_run (run_mv (v := b64 _) rfl rfl)) ?_; (try simp only [Act.put, List.setIfInBounds_toArray, List.set_cons_zero, List.set_cons_succ]); refine wpCalm_step _ (fun V hV => calm_run (run_mv (v := .slice (some _) _ _) rfl rfl)) ?_; (try simp only [Act.put, List.setIfInBounds_toArray, List.set_cons_zero, List.set_cons_succ])
  refine wpCalm_step _ (fun V hV => calm_run (run_ixs (i := 0) rfl Tryd.underlying101 (by kernel_rfl) rfl rfl (by omega))) ?_; (try simp only [Act.put, List.setIfInBounds_toArray, List.set_cons_zero, List.set_cons_succ])
  refine wpCalm_step _ (fun V hV => calm_run (run_ldu rfl rfl (HR.out V hV 0 _ rfl))) ?_; (try simp only [Act.put, List.setIfInBounds_toArray, List.set_cons_zero, List.set_cons_succ])
  refine wpCalm_step _ (fun V hV => calm_enter (run_call3 enters_rror32 rfl rfl rfl rfl rfl) (rror32_any h x a V ha)) ?_; (try simp only [Act.put, List.setIfInBounds_toArray, List.set_cons_zero, List.set_cons_succ])
  refine wpCalm_step _ (fun V hV => calm_run (run_ldS rfl Tryd.underlying103 rfl (size_h32 h) rfl (A1.out.below hV).range)) ?_; (try simp only [Act.put, List.setIfInBounds_toArray, List.set_cons_zero, List.set_cons_succ])
  refine wpCalm_step _ (fun V hV => calm_run (run_mv (v := b64 _) rfl rfl)) ?_; (try simp only [Act.put, List.setIfInBounds_toArray, List.set_cons_zero, List.set_cons_succ]); refine wpCalm_step _ (fun V hV => calm_run (run_mv (v := .slice (some _) _ _) rfl rfl)) ?_; (try simp only [Act.put, List.setIfInBounds_toArray, List.set_cons_zero, List.set_cons_succ])
  refine wpCalm_step _ (fun V hV => calm_run (run_ixs (i := 1) rfl Tryd.underlying101 (by kernel_rfl) rfl rfl (by omega))) ?_; (try simp only [Act.put, List.setIfInBounds_toArray, List.set_cons_zero, List.set_cons_succ])
  refine wpCalm_step _ (fun V hV => calm_run (run_ldu rfl rfl (HR.out V hV 1 _ rfl))) ?_; (try simp only [Act.put, List.setIfInBounds_toArray, List.set_cons_zero, List.set_cons_succ])
  refine wpCalm_step _ (fun V hV => calm_enter (run_call3 enters_rror32 rfl rfl rfl rfl rfl) (rror32_any h x b V hb)) ?_; (try simp only [Act.put, List.setIfInBounds_toArray, List.set_cons_zero, List.set_cons_succ])
  refine wpCalm_step _ (fun V hV => calm_run (run_xor64 rfl rfl rfl)) ?_; (try simp only [Act.put, List.setIfInBounds_toArray, List.set_cons_zero, List.set_cons_succ])
  refine wpCalm_step _ (fun V hV => calm_run (run_ldS rfl Tryd.underlying103 rfl (size_h32 h) rfl (A1.out.below hV).range)) ?_; (try simp only [Act.put, List.setIfInBounds_toArray, List.set_cons_zero, List.set_cons_succ])
  refine wpCalm_step _ (fun V hV => calm_run (run_mv (v := b64 _) rfl rfl)) ?_; (try simp only [Act.put, List.setIfInBounds_toArray, List.set_cons_zero, List.set_cons_succ]); refine wpCalm_step _ (fun V hV => calm_run (run_mv (v := .slice (some _) _ _) rfl rfl)) ?_; (try simp only [Act.put, List.setIfInBounds_toArray, List.set_cons_zero, List.set_cons_succ])
  refine wpCalm_step _ (fun V hV => calm_run (run_ixs (i := 2) rfl Tryd.underlying101 (by kernel_rfl) rfl rfl (by omega))) ?_; (try simp only [Act.put, List.setIfInBounds_toArray, List.set_cons_zero, List.set_cons_succ])
  refine wpCalm_step _ (fun V hV => calm_run (run_ldu rfl rfl (HR.out V hV 2 _ rfl))) ?_; (try simp only [Act.put, List.setIfInBounds_toArray, List.set_cons_zero, List.set_cons_succ])
  refine wpCalm_step _ (fun V hV => calm_enter (run_call3 enters_rror32 rfl rfl rfl rfl rfl) (rror32_any h x c V hc)) ?_; (try simp only [Act.put, List.setIfInBounds_toArray, List.set_cons_zero, List.set_cons_succ])
  refine wpCalm_step _ (fun V hV => calm_run (run_xor64 rfl rfl rfl)) ?_; (try simp only [Act.put, List.setIfInBounds_toArray, List.set_cons_zero, List.set_cons_succ]); refine wpCalm_step _ (fun V hV => calm_run (run_asg (v := b64 _) rfl rfl)) ?_; (try simp only [Act.put, List.setIfInBounds_toArray, List.set_cons_zero, List.set_cons_succ])
  refine wpCalm_done ?_; intro u2 hb1; simp only [List.drop_succ_cons, List.drop_zero]
  refine wpList_end ?_
  rw [← up_xor32, ← up_xor32]
  go_wp2_with fail
  go_ret
  exact ⟨rfl, b1.trans (hb1.mono b1.size)⟩
theorem enters_big32 : Enters 83 := enters_of Tryd.func83 (by kernel_rfl) rfl
set_option maxHeartbeats 1000000 in
theorem small32_any (h : G4) (x : BitVec 32) (g a b c : Nat) (w : World) (hg : g < w.heap.size) (hr : w.rangeAt g 0 (t3 a b c)) (ha : a ≤ 32) (hb : b ≤ 32) (hc : c ≤ 32) :
    Calls Tryd.prog 81 #[.agg (hC32 h).toArray, b64 (up32 x), .slice (some ⟨g, 0, none⟩) 3 3] w fun e w' => e = .returned (b64 (up32 (ror32 x a ^^^ ror32 x b ^^^ x >>> c))) ∧ Below w.heap.size w w' := by
  have A1 := Lib.hid (Arr.new w (hC32 h) 103)
  have b1 : Below w.heap.size w (w.alloc (.cells (hC32 h).toArray 103)) := (Below.refl _ _).alloc (Nat.le_refl _) _
  go_enter Tryd.func81, Tryd.ntmps81
  go_upto_region 0 with fail; refine wp_region_lit ?_
  refine wpList_val (run_box rfl rfl) rfl ?_; (try simp only [Act.put, List.setIfInBounds_toArray, List.set_cons_zero, List.set_cons_succ])
  refine wpList_val (run_asg (v := .int _ _) rfl rfl) rfl ?_; (try simp only [Act.put, List.setIfInBounds_toArray, List.set_cons_zero, List.set_cons_succ])
  refine wpList_end ?_
  generalize w.alloc (.cells (hC32 h).toArray 103) = u1 at *
  have HR := Lib.hid (fun V (hV : Below u1.heap.size u1 V) => rangeAt_below (rangeAt_below hr hg b1) (Nat.lt_of_lt_of_le hg b1.size) hV)
  clear hr
  go_upto_region 1 with fail; refine wp_region_calm 20 (by kernel_rfl) (by kernel_rfl) ?_
  refine wpCalm_step _ (fun V hV => calm_run (run_ldS rfl Tryd.underlying103 rfl (size_h32 h) rfl (A1.out.below hV).range)) ?_; (try simp only [Act.put, List.setIfInBounds_toArray, List.set_cons_zero, List.set_cons_succ])
  refine wpCalm_step _ (fun V hV => calm_run (run_mv (v := b64 _) rfl rfl)) ?_; (try simp only [Act.put, List.setIfInBounds_toArray, List.set_cons_zero, List.set_cons_succ]); refine wpCalm_step _ (fun V hV => calm_run (run_mv (v := .slice (some _) _ _) rfl rfl)) ?_; (try simp only [Act.put, List.setIfInBounds_toArray, List.set_cons_zero, List.set_cons_succ])
  refine wpCalm_step _ (fun V hV => calm_run (run_ixs (i := 0) rfl Tryd.underlying101 (by kernel_rfl) rfl rfl (by omega))) ?_; (try simp only [Act.put, List.setIfInBounds_toArray, List.set_cons_zero, List.set_cons_succ])
  refine wpCalm_step _ (fun V hV => calm_run (run_ldu rfl rfl (HR.out V hV 0 _ rfl))) ?_; (try simp only [Act.put, List.setIfInBounds_toArray, List.set_cons_zero, List.set_cons_succ])
  refine wpCalm_step _ (fun V hV => calm_enter (run_call3 enters_rror32 rfl rfl rfl rfl rfl) (rror32_any h x a V ha)) ?_; (try simp only [Act.put, List.setIfInBounds_toArray, List.set_cons_zero, List.set_cons_succ])
  refine wpCalm_step _ (fun V hV => calm_run (run_ldS rfl Tryd.underlying103 rfl (size_h32 h) rfl (A1.out.below hV).range)) ?_; (try simp only [Act.put, List.setIfInBounds_toArray, List.set_cons_zero, List.set_cons_succ])
  refine wpCalm_step _ (fun V hV => calm_run (run_mv (v := b64 _) rfl rfl)) ?_; (try simp only [Act.put, List.setIfInBounds_toArray, List.set_cons_zero, List.set_cons_succ]); refine wpCalm_step _ (fun V hV => calm_run (run_mv (v := .slice (some _) _ _) rfl rfl)) ?_; (try simp only [Act.put, List.setIfInBounds_toArray, List.set_cons_zero, List.set_cons_succ])
  refine wpCalm_step _ (fun V hV => calm_run (run_ixs (i := 1) rfl Tryd.underlying101 (by kernel_rfl) rfl rfl (by omega))) ?_; (try simp only [Act.put, List.setIfInBounds_toArray, List.set_cons_zero, List.set_cons_succ])
  refine wpCalm_step _ (fun V hV => calm_run (run_ldu rfl rfl (HR.out V hV 1 _ rfl))) ?_; (try simp only [Act.put, List.setIfInBounds_toArray, List.set_cons_zero, List.set_cons_succ])
  refine wpCalm_step _ (fun V hV => calm_enter (run_call3 enters_rror32 rfl rfl rfl rfl rfl) (rror32_any h x b V hb)) ?_; (try simp only [Act.put, List.setIfInBounds_toArray, List.set_cons_zero, List.set_cons_succ])
  refine wpCalm_step _ (fun V hV => calm_run (run_xor64 rfl rfl rfl)) ?_; (try simp only [Act.put, List.setIfInBounds_toArray, List.set_cons_zero, List.set_cons_succ]); refine wpCalm_step _ (fun V hV => calm_run (run_mv (v := b64 _) rfl rfl)) ?_; (try simp only [Act.put, List.setIfInBounds_toArray, List.set_cons_zero, List.set_cons_succ]); refine wpCalm_step _ (fun V hV => calm_run (run_mv (v := .slice (some _) _ _) rfl rfl)) ?_; (try simp only [Act.put, List.setIfInBounds_toArray, List.set_cons_zero, List.set_cons_succ])
  refine wpCalm_step _ (fun V hV => calm_run (run_ixs (i := 2) rfl Tryd.underlying101 (by kernel_rfl) rfl rfl (by omega))) ?_; (try simp only [Act.put, List.setIfInBounds_toArray, List.set_cons_zero, List.set_cons_succ])
  refine wpCalm_step _ (fun V hV => calm_run (run_ldu (v := .int .u64 (c : Int)) rfl rfl (HR.out V hV 2 _ rfl))) ?_; (try simp only [Act.put, List.setIfInBounds_toArray, List.set_cons_zero, List.set_cons_succ])
  refine wpCalm_step _ (fun V hV => calm_run (run_shr64 rfl rfl rfl (by omega))) ?_; (try simp only [Act.put, List.setIfInBounds_toArray, List.set_cons_zero, List.set_cons_succ])
  refine wpCalm_step _ (fun V hV => calm_run (run_xor64 rfl rfl rfl)) ?_; (try simp only [Act.put, List.setIfInBounds_toArray, List.set_cons_zero, List.set_cons_succ]); refine wpCalm_step _ (fun V hV => calm_run (run_asg (v := b64 _) rfl rfl)) ?_; (try simp only [Act.put, List.setIfInBounds_toArray, List.set_cons_zero, List.set_cons_succ])
  refine wpCalm_done ?_; intro u2 hb1; simp only [List.drop_succ_cons, List.drop_zero]
  refine wpList_end ?_
  rw [← up_xor32, ← up_shr32, ← up_xor32]
  go_wp2_with fail
  go_ret
  exact ⟨rfl, b1.trans (hb1.mono b1.size)⟩
theorem enters_small32 : Enters 81 := enters_of Tryd.func81 (by kernel_rfl) rfl

end Go.Proofs.YtobpgolchlgpfaaDoor
namespace Go.Proofs.YtobpgolchlgpfaaDoor
open Go.RowKit
set_option maxRecDepth 20000

/-- A word of bytes, the greatest first. -/
def wk32 (l : List (BitVec 8)) : Nat → BitVec 32
  | 0 => 0
  | k + 1 => wk32 l k <<< 8 ||| (l.getD k 0).setWidth 32
theorem wk_lt32 (l : List (BitVec 8)) : ∀ k, k ≤ 4 → (wk32 l k).toNat < 256 ^ k
  | 0, _ => by simp [wk32]
  | k + 1, h => by
    have h1 := wk_lt32 l k (by omega)
    have h2 := (l.getD k 0).isLt
    rw [wk32, BitVec.toNat_or]
    have h3 : (wk32 l k <<< 8).toNat < 2 ^ (8 * (k + 1)) := by
      rw [BitVec.toNat_shiftLeft, Nat.shiftLeft_eq]
      refine Nat.lt_of_le_of_lt (Nat.mod_le _ _) ?_
      rw [show 2 ^ (8 * (k + 1)) = 256 ^ k * 2 ^ 8 by rw [Nat.pow_mul, Nat.pow_succ]]
      exact Nat.mul_lt_mul_of_pos_right h1 (by omega)
    have h4 : ((l.getD k 0).setWidth 32).toNat < 2 ^ (8 * (k + 1)) := by
      rw [BitVec.toNat_setWidth]
      refine Nat.lt_of_le_of_lt (Nat.mod_le _ _) (Nat.lt_of_lt_of_le h2 (Nat.pow_le_pow_right (by omega) (by omega)))
    have := Nat.or_lt_two_pow h3 h4
    rwa [Nat.pow_mul] at this
theorem pow256x32 (k : Nat) (h : k < 4) : 256 ^ k * 256 ≤ 2 ^ 32 := by
  rw [← Nat.pow_succ, show (256 : Nat) = 2 ^ 8 from rfl, ← Nat.pow_mul]
  exact Nat.pow_le_pow_right (by omega) (by omega)
theorem wk_step32 (l : List (BitVec 8)) (k : Nat) (h : k < 4) : up32 (wk32 l k) <<< 8 + (l.getD k 0).setWidth 64 = up32 (wk32 l (k + 1)) := by
  have h1 := wk_lt32 l k (by omega)
  have h2 := (l.getD k 0).isLt
  have h3 := pow256x32 k h
  rw [wk32]
  unfold up32
  apply BitVec.eq_of_toNat_eq
  generalize wk32 l k = x at *
  generalize l.getD k 0 = b at *
  have hx : x.toNat * 256 + b.toNat < 2 ^ 32 := by
    have : x.toNat * 256 + 256 ≤ 256 ^ k * 256 := by
      have := Nat.mul_le_mul_right 256 (Nat.succ_le_of_lt h1)
      rw [Nat.succ_mul] at this
      exact this
    omega
  rw [BitVec.toNat_add, BitVec.toNat_shiftLeft, BitVec.toNat_setWidth, BitVec.toNat_setWidth, BitVec.toNat_setWidth, BitVec.toNat_or, BitVec.toNat_shiftLeft, BitVec.toNat_setWidth]
  have e0 : x.toNat <<< 8 = x.toNat * 256 := Nat.shiftLeft_eq x.toNat 8
  have e3 : x.toNat <<< 8 ||| b.toNat = x.toNat * 256 + b.toNat := (Nat.shiftLeft_add_eq_or_of_lt (i := 8) h2 x.toNat).symm.trans (congrArg (· + b.toNat) e0)
  have hM : (2 : Nat) ^ 32 = 4294967296 := by decide
  have hM2 : (2 : Nat) ^ 64 = 18446744073709551616 := by decide
  have hx1 := x.isLt
  rw [hM] at hx hx1
  clear h1 h3 h
  have e1 : x.toNat <<< 8 % 2 ^ 32 = x.toNat <<< 8 := by rw [hM, e0]; exact Nat.mod_eq_of_lt (Nat.lt_of_le_of_lt (Nat.le_add_right _ _) hx)
  have e2 : b.toNat % 2 ^ 32 = b.toNat := by rw [hM]; exact Nat.mod_eq_of_lt (Nat.lt_of_le_of_lt (Nat.le_add_left _ _) hx)
  have e4 : x.toNat % 2 ^ 64 = x.toNat := by rw [hM2]; exact Nat.mod_eq_of_lt (by omega)
  rw [e1, e2, e3, e4, e0, hM2]
  omega
end Go.Proofs.YtobpgolchlgpfaaDoor
namespace Go.Proofs.YtobpgolchlgpfaaDoor
open Go.RowKit
set_option maxRecDepth 20000

structure WordI32 (w : World) (h : G4) (u : World) : Prop where
  bl : Below w.heap.size w u
  A : Arr w.heap.size (hC32 h) u
set_option maxHeartbeats 1000000 in
theorem word32_any (h : G4) (v : Value) (l : List (BitVec 8)) (w : World) (hv : Sl v l w) (hl : 4 ≤ l.length) : Calls Tryd.prog 79 #[.agg (hC32 h).toArray, v] w fun e w' => e = .returned (b64 (up32 (wk32 l 4))) ∧ Below w.heap.size w w' := by
  obtain ⟨b, f, c, rfl, hb, hr⟩ := hv.cell (by omega)
  have HR := Lib.hid hr; clear hr hv
  have hI : Hid (WordI32 w h (w.alloc (.cells (hC32 h).toArray 103))) := Lib.hid ⟨(Below.refl _ _).alloc (Nat.le_refl _) _, Arr.new w _ _⟩
  go_enter Tryd.func79, Tryd.ntmps79
  go_upto_region 0 with fail; refine wp_region_lit ?_
  refine wpList_val (run_box rfl rfl) rfl ?_; (try simp only [Act.put, List.setIfInBounds_toArray, List.set_cons_zero, List.set_cons_succ])
  refine wpList_val (run_asg (v := .int _ _) rfl rfl) rfl ?_; (try simp only [Act.put, List.setIfInBounds_toArray, List.set_cons_zero, List.set_cons_succ])
  refine wpList_end ?_
  generalize w.alloc (.cells (hC32 h).toArray 103) = u1 at *
  go_upto_region 1 with fail; refine wp_region_lit ?_
  refine wpList_val (run_asg (v := b64 (up32 0)) rfl rfl) rfl ?_; (try simp only [Act.put, List.setIfInBounds_toArray, List.set_cons_zero, List.set_cons_succ])
  refine wpList_end ?_
  go_wp2_with fail
  go_loopw [5, 6] (fun v5 v6 u => ∃ k : Nat, k ≤ 4 ∧ v5 = b64 (up32 (wk32 l k)) ∧ v6 = .int .i64 (k : Int) ∧ u = u1) (fun _ v6 _ => (4 - intOf v6).toNat)
  case atStart => exact ⟨0, by omega, rfl, rfl, rfl⟩
  case round =>
    obtain ⟨k, hk, rfl, rfl, rfl⟩ := hrel
    go_upto_region 3 with fail; refine wp_region_lit ?_
    refine wpList_val (run_mv (v := .int _ _) rfl rfl) rfl ?_; (try simp only [Act.put, List.setIfInBounds_toArray, List.set_cons_zero, List.set_cons_succ])
    refine wpList_val (run_fld0 rfl rfl) rfl ?_; (try simp only [Act.put, List.setIfInBounds_toArray, List.set_cons_zero, List.set_cons_succ])
    refine wpList_val (run_ldu rfl rfl (hI.out.A.c 0 _ rfl)) rfl ?_; (try simp only [Act.put, List.setIfInBounds_toArray, List.set_cons_zero, List.set_cons_succ])
    refine wpList_val (run_cvui rfl rfl (by omega) (by omega)) rfl ?_; (try simp only [Act.put, List.setIfInBounds_toArray, List.set_cons_zero, List.set_cons_succ])
    refine wpList_val (run_quo rfl rfl rfl (by omega) (by omega) (by omega)) rfl ?_; (try simp only [Act.put, List.setIfInBounds_toArray, List.set_cons_zero, List.set_cons_succ])
    refine wpList_val (run_lss rfl rfl rfl) rfl ?_; (try simp only [Act.put, List.setIfInBounds_toArray, List.set_cons_zero, List.set_cons_succ])
    refine wpList_end ?_
    by_cases hlt : k = 4
    · subst hlt
      rw [decide_eq_false (by omega)]
      go_upto_region 6 with fail; refine wp_region_lit ?_
      refine wpList_val (run_mv (v := b64 _) rfl rfl) rfl ?_; (try simp only [Act.put, List.setIfInBounds_toArray, List.set_cons_zero, List.set_cons_succ]); refine wpList_val (run_asg (v := b64 _) rfl rfl) rfl ?_; (try simp only [Act.put, List.setIfInBounds_toArray, List.set_cons_zero, List.set_cons_succ])
      refine wpList_end ?_
      go_wp2_with fail
      go_ret
      exact ⟨rfl, hI.out.bl⟩
    · rw [decide_eq_true (by omega)]
      have HW := Lib.hid (wk_step32 l k (by omega))
      go_upto_region 5 with fail; refine wp_region_lit ?_
      refine wpList_val (run_mv (v := b64 _) rfl rfl) rfl ?_; (try simp only [Act.put, List.setIfInBounds_toArray, List.set_cons_zero, List.set_cons_succ])
      refine wpList_val (run_shl64 (n := 8) rfl rfl rfl (by omega)) rfl ?_; (try simp only [Act.put, List.setIfInBounds_toArray, List.set_cons_zero, List.set_cons_succ])
      refine wpList_val (run_mv (v := .slice (some _) _ _) rfl rfl) rfl ?_; (try simp only [Act.put, List.setIfInBounds_toArray, List.set_cons_zero, List.set_cons_succ]); refine wpList_val (run_mv (v := .int _ _) rfl rfl) rfl ?_; (try simp only [Act.put, List.setIfInBounds_toArray, List.set_cons_zero, List.set_cons_succ])
      refine wpList_val (run_ixs rfl Tryd.underlying30 (by kernel_rfl) rfl rfl (by omega)) rfl ?_; (try simp only [Act.put, List.setIfInBounds_toArray, List.set_cons_zero, List.set_cons_succ])
      refine wpList_val (run_ld8 rfl rfl (rangeAt_below HR.out hb hI.out.bl k _ (get_map b8 0 (by omega)))) rfl ?_; (try simp only [Act.put, List.setIfInBounds_toArray, List.set_cons_zero, List.set_cons_succ])
      refine wpList_val (run_cv8_64 rfl rfl) rfl ?_; (try simp only [Act.put, List.setIfInBounds_toArray, List.set_cons_zero, List.set_cons_succ]); refine wpList_val (run_add64 rfl rfl rfl) rfl ?_; (try simp only [Act.put, List.setIfInBounds_toArray, List.set_cons_zero, List.set_cons_succ]); refine wpList_val (run_asg (v := b64 _) rfl rfl) rfl ?_; (try simp only [Act.put, List.setIfInBounds_toArray, List.set_cons_zero, List.set_cons_succ])
      refine wpList_end ?_
      rw [HW.out]
      go_wp2_with fail
      go_roundw
      case rel => exact ⟨k + 1, by omega, rfl, by go_num, trivial⟩
      case measure => simp [intOf]; omega
theorem enters_word32 : Enters 79 := enters_of Tryd.func79 (by kernel_rfl) rfl

/-- The turns' numbers stand. -/
structure HM32 (h : G4) (u : World) : Prop where
  la : h.a < u.heap.size
  lb : h.b < u.heap.size
  lc : h.c < u.heap.size
  ld : h.d < u.heap.size
  ra : u.rangeAt h.a 0 (t3 2 13 22)
  rb : u.rangeAt h.b 0 (t3 6 11 25)
  rc : u.rangeAt h.c 0 (t3 7 18 3)
  rd : u.rangeAt h.d 0 (t3 17 19 10)
theorem HM32.below {h : G4} {u u' : World} (m : HM32 h u) (hb : Below u.heap.size u u') : HM32 h u' :=
  ⟨Nat.lt_of_lt_of_le m.la hb.size, Nat.lt_of_lt_of_le m.lb hb.size, Nat.lt_of_lt_of_le m.lc hb.size, Nat.lt_of_lt_of_le m.ld hb.size, rangeAt_below m.ra m.la hb, rangeAt_below m.rb m.lb hb, rangeAt_below m.rc m.lc hb, rangeAt_below m.rd m.ld hb⟩
set_option maxHeartbeats 1000000 in
theorem narrow_any (w : World) : Calls Tryd.prog 68 #[] w fun e w' => ∃ v, e = .returned v ∧ ∃ h, v = .agg (hC32 h).toArray ∧ HM32 h w' ∧ Below w.heap.size w w' := by
  go_enter Tryd.func68, Tryd.ntmps68
  go_upto_region 0 with fail; refine wp_region_lit ?_
  refine wpList_val (run_alc (vs := zeroH) rfl (by kernel_rfl)) rfl ?_
  simp only [Act.put, List.setIfInBounds_toArray, List.set_cons_zero]
  refine wpList_end ?_
  have bl : Below w.heap.size w (w.alloc (.cells zeroH.toArray 103)) := (Below.refl _ _).alloc (Nat.le_refl _) _
  have Z := Lib.hid (Arr.new w zeroH 103)
  generalize w.alloc (.cells zeroH.toArray 103) = u0 at *
  have hz := Z.out.lt
  go_upto_region 1 with fail; refine wp_region_lit ?_
  refine wpList_val (run_bsl (cells := (t3 2 13 22).toArray) (z := .int .u64 0) rfl Tryd.underlying101 (by kernel_rfl) (by omega) (by omega) (by kernel_rfl)) rfl ?_; (try simp only [Act.put, List.setIfInBounds_toArray, List.set_cons_zero, List.set_cons_succ]); have A0 := Lib.hid (Arr.new u0 (t3 2 13 22) 25); have hb : Below u0.heap.size u0 (u0.alloc (.cells (t3 2 13 22).toArray 25)) := (Below.refl _ _).alloc (Nat.le_refl _) _; generalize u0.alloc (.cells (t3 2 13 22).toArray 25) = u1 at *; have R0 := hb.size
  replace bl := bl.trans (hb.mono bl.size); replace Z := Lib.hid (Z.out.below hb); clear hb
  refine wpList_val (run_bsl (cells := (t3 6 11 25).toArray) (z := .int .u64 0) rfl Tryd.underlying101 (by kernel_rfl) (by omega) (by omega) (by kernel_rfl)) rfl ?_; (try simp only [Act.put, List.setIfInBounds_toArray, List.set_cons_zero, List.set_cons_succ]); have A1 := Lib.hid (Arr.new u1 (t3 6 11 25) 25); have hb : Below u1.heap.size u1 (u1.alloc (.cells (t3 6 11 25).toArray 25)) := (Below.refl _ _).alloc (Nat.le_refl _) _; generalize u1.alloc (.cells (t3 6 11 25).toArray 25) = u2 at *; have R1 := hb.size
  replace bl := bl.trans (hb.mono bl.size); replace Z := Lib.hid (Z.out.below hb); replace A0 := Lib.hid (A0.out.below hb); clear hb
  refine wpList_val (run_bsl (cells := (t3 7 18 3).toArray) (z := .int .u64 0) rfl Tryd.underlying101 (by kernel_rfl) (by omega) (by omega) (by kernel_rfl)) rfl ?_; (try simp only [Act.put, List.setIfInBounds_toArray, List.set_cons_zero, List.set_cons_succ]); have A2 := Lib.hid (Arr.new u2 (t3 7 18 3) 25); have hb : Below u2.heap.size u2 (u2.alloc (.cells (t3 7 18 3).toArray 25)) := (Below.refl _ _).alloc (Nat.le_refl _) _; generalize u2.alloc (.cells (t3 7 18 3).toArray 25) = u3 at *; have R2 := hb.size
  replace bl := bl.trans (hb.mono bl.size); replace Z := Lib.hid (Z.out.below hb); replace A0 := Lib.hid (A0.out.below hb); replace A1 := Lib.hid (A1.out.below hb); clear hb
  refine wpList_val (run_bsl (cells := (t3 17 19 10).toArray) (z := .int .u64 0) rfl Tryd.underlying101 (by kernel_rfl) (by omega) (by omega) (by kernel_rfl)) rfl ?_; (try simp only [Act.put, List.setIfInBounds_toArray, List.set_cons_zero, List.set_cons_succ]); have A3 := Lib.hid (Arr.new u3 (t3 17 19 10) 25); have hb : Below u3.heap.size u3 (u3.alloc (.cells (t3 17 19 10).toArray 25)) := (Below.refl _ _).alloc (Nat.le_refl _) _; generalize u3.alloc (.cells (t3 17 19 10).toArray 25) = u4 at *; have R3 := hb.size
  replace bl := bl.trans (hb.mono bl.size); replace Z := Lib.hid (Z.out.below hb); replace A0 := Lib.hid (A0.out.below hb); replace A1 := Lib.hid (A1.out.below hb); replace A2 := Lib.hid (A2.out.below hb); clear hb
  refine wpList_val (run_bldH rfl rfl rfl rfl rfl rfl rfl) rfl ?_; (try simp only [Act.put, List.setIfInBounds_toArray, List.set_cons_zero, List.set_cons_succ])
  have HL : Hid ((Tryd.prog.info? 103).map (·.size) = some (hC32 ⟨u0.heap.size, u1.heap.size, u2.heap.size, u3.heap.size⟩).length) := Lib.hid (size_h32 _)
  refine wpList_skip (run_stA (vs := hC32 ⟨u0.heap.size, u1.heap.size, u2.heap.size, u3.heap.size⟩) rfl HL.out rfl rfl (by kernel_rfl) Z.out.there) rfl rfl ?_
  refine wpList_end ?_
  have hT := (Z.out.put (l' := hC32 ⟨u0.heap.size, u1.heap.size, u2.heap.size, u3.heap.size⟩) rfl).range
  have HMM : Hid (HM32 ⟨u0.heap.size, u1.heap.size, u2.heap.size, u3.heap.size⟩ (u4.setCells w.heap.size 0 (hC32 ⟨u0.heap.size, u1.heap.size, u2.heap.size, u3.heap.size⟩))) := Lib.hid (by
    have a0 := A0.out.farAll (c := w.heap.size) (by omega) 0 (hC32 ⟨u0.heap.size, u1.heap.size, u2.heap.size, u3.heap.size⟩)
    have a1 := A1.out.farAll (c := w.heap.size) (by omega) 0 (hC32 ⟨u0.heap.size, u1.heap.size, u2.heap.size, u3.heap.size⟩)
    have a2 := A2.out.farAll (c := w.heap.size) (by omega) 0 (hC32 ⟨u0.heap.size, u1.heap.size, u2.heap.size, u3.heap.size⟩)
    have a3 := A3.out.farAll (c := w.heap.size) (by omega) 0 (hC32 ⟨u0.heap.size, u1.heap.size, u2.heap.size, u3.heap.size⟩)
    exact ⟨a0.lt, a1.lt, a2.lt, a3.lt, a0.range, a1.range, a2.range, a3.range⟩)
  replace bl := below_setCells (Nat.le_refl w.heap.size) (hC32 ⟨u0.heap.size, u1.heap.size, u2.heap.size, u3.heap.size⟩) 0 bl
  clear A0 A1 A2 A3 Z
  generalize u4.setCells w.heap.size 0 (hC32 ⟨u0.heap.size, u1.heap.size, u2.heap.size, u3.heap.size⟩) = u5 at *
  go_wp2_with fail
  refine bodyPost_ret (results_row Tryd.results68 rfl Tryd.underlying103 rfl HL.out hT) rfl ⟨_, rfl, ⟨u0.heap.size, u1.heap.size, u2.heap.size, u3.heap.size⟩, rfl, HMM.out, bl⟩
theorem enters_narrow : Enters 68 := enters_of Tryd.func68 (by kernel_rfl) rfl
end Go.Proofs.YtobpgolchlgpfaaDoor
namespace Go.Proofs.YtobpgolchlgpfaaDoor
open Go.RowKit
set_option maxRecDepth 20000

theorem getD_set32 (l : List (BitVec 32)) (i j : Nat) (v : BitVec 32) (h : i < l.length) : (l.set i v).getD j 0 = if i = j then v else l.getD j 0 := by
  simp only [List.getD_eq_getElem?_getD, List.getElem?_set]
  by_cases e : i = j
  · subst e; simp [h]
  · simp [e]
theorem getD_rep32 (n j : Nat) : (List.replicate n (0 : BitVec 32)).getD j 0 = 0 := by
  rw [List.getD_eq_getElem?_getD, List.getElem?_replicate]; split <;> rfl
theorem fill_at32 (l : List (BitVec 8)) (j : Nat) (hj : j < 16) : ∀ k, k ≤ 64 → (fill32 l k).getD j 0 = wk32 (l.drop (j * 4)) (min (k - j * 4) 4)
  | 0, _ => by
    rw [show min (0 - j * 4) 4 = 0 by omega, fill32, wk32]
    exact getD_rep32 _ _
  | k + 1, h => by
    have ih := fill_at32 l j hj k (by omega)
    rw [fill32, getD_set32 _ _ _ _ (by rw [fill_len32]; omega)]
    by_cases e : k / 4 = j
    · rw [if_pos e, e, ih]
      have h1 : min (k - j * 4) 4 = k - j * 4 := by omega
      have h2 : min (k + 1 - j * 4) 4 = (k - j * 4) + 1 := by omega
      rw [h1, h2, wk32]
      have h3 : (l.drop (j * 4)).getD (k - j * 4) 0 = l.getD k 0 := by
        simp only [List.getD_eq_getElem?_getD, List.getElem?_drop]
        rw [show j * 4 + (k - j * 4) = k by omega]
      rw [h3]
    · rw [if_neg e, ih]
      have h1 : min (k - j * 4) 4 = min (k + 1 - j * 4) 4 := by omega
      rw [h1]
theorem sched_at32 (ws : List (BitVec 32)) (h : ws.length = 64) (j t : Nat) (ht : t < j + 16) : ∀ d, j + d ≤ 64 - 16 → (sched32 ws (j + d)).getD t 0 = (sched32 ws j).getD t 0
  | 0, _ => rfl
  | d + 1, hd => by
    rw [← Nat.add_assoc, sched32, getD_set32 _ _ _ _ (by rw [sched_len32 _ h]; omega), if_neg (by omega)]
    exact sched_at32 ws h j t ht d (by omega)
theorem spread_lo32 (l : List (BitVec 8)) (t : Nat) (ht : t < 16) : (spread32 l).getD t 0 = wk32 (l.drop (t * 4)) 4 := by
  have h1 := sched_at32 (fill32 l 64) (fill_len32 l 64) 0 t (by omega) (64 - 16) (by omega)
  rw [Nat.zero_add] at h1
  unfold spread32
  rw [h1, sched32, fill_at32 l t ht 64 (Nat.le_refl _), show min (64 - t * 4) 4 = 4 by omega]
theorem spread_hi32 (l : List (BitVec 8)) (j : Nat) (hj : j < 64 - 16) : (spread32 l).getD (j + 16) 0 = nextW32 (spread32 l) j := by
  have hl := fill_len32 l 64
  have st : ∀ t, t < j + 16 → (spread32 l).getD t 0 = (sched32 (fill32 l 64) j).getD t 0 := fun t ht => by
    have := sched_at32 (fill32 l 64) hl j t ht (64 - 16 - j) (by omega)
    rw [show j + (64 - 16 - j) = 64 - 16 by omega] at this
    exact this
  have h1 := sched_at32 (fill32 l 64) hl (j + 1) (j + 16) (by omega) (64 - 16 - (j + 1)) (by omega)
  rw [show j + 1 + (64 - 16 - (j + 1)) = 64 - 16 by omega] at h1
  have h2 : (spread32 l).getD (j + 16) 0 = (sched32 (fill32 l 64) (j + 1)).getD (j + 16) 0 := h1
  rw [h2, sched32, getD_set32 _ _ _ _ (by rw [sched_len32 _ hl]; omega), if_pos rfl]
  unfold nextW32
  rw [st _ (by omega), st _ (by omega), st _ (by omega), st _ (by omega)]
theorem take_snoc32 (l : List (BitVec 32)) (t : Nat) (h : t < l.length) : l.take (t + 1) = l.take t ++ [l.getD t 0] := by
  rw [List.take_succ_eq_append_getElem h]; simp [h]
theorem getD_take32 (l : List (BitVec 32)) (t i : Nat) (h : i < t) : (l.take t).getD i 0 = l.getD i 0 := by
  simp only [List.getD_eq_getElem?_getD, List.getElem?_take_of_lt h]
end Go.Proofs.YtobpgolchlgpfaaDoor
namespace Go.Proofs.YtobpgolchlgpfaaDoor
open Go.RowKit
set_option maxRecDepth 20000

/-- The i-th of a table, 0 of any other place. -/
def tabOf (l : List (BitVec 64)) (i : Int) : BitVec 64 := if 0 ≤ i ∧ i < (l.length : Int) then l.getD i.toNat 0 else 0
theorem tabOf_low {l : List (BitVec 64)} {i : Int} (h : i < 0) : tabOf l i = 0 := by unfold tabOf; rw [if_neg (by omega)]
theorem tabOf_high {l : List (BitVec 64)} {i : Int} (h : (l.length : Int) ≤ i) : tabOf l i = 0 := by unfold tabOf; rw [if_neg (by omega)]
theorem tabOf_at {l : List (BitVec 64)} {k : Nat} (h : k < l.length) : tabOf l (k : Int) = l.getD k 0 := by unfold tabOf; rw [if_pos (by omega), Int.toNat_natCast]
theorem b64_zero : Value.int .u64 0 = b64 0 := rfl

set_option maxRecDepth 100000 in
set_option maxHeartbeats 1000000 in
theorem refround_any (i : Int) (w : World) : Calls Tryd.prog 82 #[.int .i64 i] w fun e w' => e = .returned (b64 (tabOf rtab i)) ∧ Below w.heap.size w w' := by
  have A1 := Arr.new w (rtab.map b64) 22
  have b1 : Below w.heap.size w (w.alloc (.cells (rtab.map b64).toArray 22)) := (Below.refl _ _).alloc (Nat.le_refl _) _
  have HA := Lib.hid A1; clear A1
  go_enter Tryd.func82, Tryd.ntmps82
  go_upto_region 1 with fail; refine wp_region_lit ?_
  refine wpList_val (run_bsl (cells := (rtab.map b64).toArray) (z := .int .u64 0) rfl Tryd.underlying110 (by kernel_rfl) (by omega) (by omega) (by kernel_rfl)) rfl ?_; (try simp only [Act.put, List.setIfInBounds_toArray, List.set_cons_zero, List.set_cons_succ])
  refine wpList_val (run_asg (v := .slice (some _) _ _) rfl rfl) rfl ?_; (try simp only [Act.put, List.setIfInBounds_toArray, List.set_cons_zero, List.set_cons_succ])
  refine wpList_end ?_
  generalize w.alloc (.cells (rtab.map b64).toArray 22) = u1 at *
  by_cases h0 : i < 0
  · have E := Lib.hid (tabOf_low (l := rtab) h0)
    go_wp2_with fail
    go_ret
    exact ⟨by rw [E.out, ← b64_zero]; rfl, b1⟩
  · by_cases h1 : 80 ≤ i
    · have E := Lib.hid (tabOf_high (l := rtab) (i := i) (by rw [rtab_len]; exact h1))
      go_wp2_with fail
      go_ret
      exact ⟨by rw [E.out, ← b64_zero]; rfl, b1⟩
    · obtain ⟨k, rfl⟩ := Int.eq_ofNat_of_zero_le (show 0 ≤ i by omega)
      have hk : k < 80 := by omega
      have E := Lib.hid (tabOf_at (l := rtab) (k := k) (by rw [rtab_len]; exact hk))
      go_upto_region 4 with fail; refine wp_region_lit ?_
      refine wpList_val (run_mv (v := .slice (some _) _ _) rfl rfl) rfl ?_; (try simp only [Act.put, List.setIfInBounds_toArray, List.set_cons_zero, List.set_cons_succ]); refine wpList_val (run_mv (v := .int _ _) rfl rfl) rfl ?_; (try simp only [Act.put, List.setIfInBounds_toArray, List.set_cons_zero, List.set_cons_succ])
      refine wpList_val (run_ixs rfl Tryd.underlying110 (by kernel_rfl) rfl rfl hk) rfl ?_; (try simp only [Act.put, List.setIfInBounds_toArray, List.set_cons_zero, List.set_cons_succ])
      rw [Nat.zero_add]
      refine wpList_val (run_ld64 rfl rfl (HA.out.c k _ (get_map b64 0 (by rw [rtab_len]; exact hk)))) rfl ?_; (try simp only [Act.put, List.setIfInBounds_toArray, List.set_cons_zero, List.set_cons_succ])
      refine wpList_val (run_asg (v := b64 _) rfl rfl) rfl ?_; (try simp only [Act.put, List.setIfInBounds_toArray, List.set_cons_zero, List.set_cons_succ])
      refine wpList_end ?_
      go_wp2_with fail
      go_ret
      exact ⟨by rw [E.out]; rfl, b1⟩
theorem enters_refround : Enters 82 := enters_of Tryd.func82 (by kernel_rfl) rfl
set_option maxRecDepth 100000 in
set_option maxHeartbeats 1000000 in
theorem refbegin_any (i : Int) (w : World) : Calls Tryd.prog 75 #[.int .i64 i] w fun e w' => e = .returned (b64 (tabOf btab i)) ∧ Below w.heap.size w w' := by
  have A1 := Arr.new w (btab.map b64) 22
  have b1 : Below w.heap.size w (w.alloc (.cells (btab.map b64).toArray 22)) := (Below.refl _ _).alloc (Nat.le_refl _) _
  have HA := Lib.hid A1; clear A1
  go_enter Tryd.func75, Tryd.ntmps75
  go_upto_region 1 with fail; refine wp_region_lit ?_
  refine wpList_val (run_bsl (cells := (btab.map b64).toArray) (z := .int .u64 0) rfl Tryd.underlying110 (by kernel_rfl) (by omega) (by omega) (by kernel_rfl)) rfl ?_; (try simp only [Act.put, List.setIfInBounds_toArray, List.set_cons_zero, List.set_cons_succ])
  refine wpList_val (run_asg (v := .slice (some _) _ _) rfl rfl) rfl ?_; (try simp only [Act.put, List.setIfInBounds_toArray, List.set_cons_zero, List.set_cons_succ])
  refine wpList_end ?_
  generalize w.alloc (.cells (btab.map b64).toArray 22) = u1 at *
  by_cases h0 : i < 0
  · have E := Lib.hid (tabOf_low (l := btab) h0)
    go_wp2_with fail
    go_ret
    exact ⟨by rw [E.out, ← b64_zero]; rfl, b1⟩
  · by_cases h1 : 8 ≤ i
    · have E := Lib.hid (tabOf_high (l := btab) (i := i) (by rw [btab_len]; exact h1))
      go_wp2_with fail
      go_ret
      exact ⟨by rw [E.out, ← b64_zero]; rfl, b1⟩
    · obtain ⟨k, rfl⟩ := Int.eq_ofNat_of_zero_le (show 0 ≤ i by omega)
      have hk : k < 8 := by omega
      have E := Lib.hid (tabOf_at (l := btab) (k := k) (by rw [btab_len]; exact hk))
      go_upto_region 4 with fail; refine wp_region_lit ?_
      refine wpList_val (run_mv (v := .slice (some _) _ _) rfl rfl) rfl ?_; (try simp only [Act.put, List.setIfInBounds_toArray, List.set_cons_zero, List.set_cons_succ]); refine wpList_val (run_mv (v := .int _ _) rfl rfl) rfl ?_; (try simp only [Act.put, List.setIfInBounds_toArray, List.set_cons_zero, List.set_cons_succ])
      refine wpList_val (run_ixs rfl Tryd.underlying110 (by kernel_rfl) rfl rfl hk) rfl ?_; (try simp only [Act.put, List.setIfInBounds_toArray, List.set_cons_zero, List.set_cons_succ])
      rw [Nat.zero_add]
      refine wpList_val (run_ld64 rfl rfl (HA.out.c k _ (get_map b64 0 (by rw [btab_len]; exact hk)))) rfl ?_; (try simp only [Act.put, List.setIfInBounds_toArray, List.set_cons_zero, List.set_cons_succ])
      refine wpList_val (run_asg (v := b64 _) rfl rfl) rfl ?_; (try simp only [Act.put, List.setIfInBounds_toArray, List.set_cons_zero, List.set_cons_succ])
      refine wpList_end ?_
      go_wp2_with fail
      go_ret
      exact ⟨by rw [E.out]; rfl, b1⟩
theorem enters_refbegin : Enters 75 := enters_of Tryd.func75 (by kernel_rfl) rfl
end Go.Proofs.YtobpgolchlgpfaaDoor
namespace Go.Proofs.YtobpgolchlgpfaaDoor
open Go.RowKit
set_option maxRecDepth 20000

def upL32 (l : List (BitVec 32)) : List (BitVec 64) := l.map up32
theorem upL_at32 (l : List (BitVec 32)) (t i : Nat) (h : i < t) (ht : t ≤ l.length) : ((upL32 (l.take t)).map b64)[i]? = some (b64 (up32 (l.getD i 0))) := by
  unfold upL32
  rw [List.map_map, List.getElem?_map, List.getElem?_take_of_lt h, List.getElem?_eq_getElem (by omega)]
  simp [List.getD_eq_getElem?_getD, show i < l.length by omega]
structure B1I32 (w : World) (h : G4) (l : List (BitVec 8)) (v : Value) (t : Nat) (u : World) : Prop where
  bl : Below w.heap.size w u
  A : Arr w.heap.size (hC32 h) u
  O : u.ownsRow (w.heap.size + 1) 22 1 v t ((upL32 ((spread32 l).take t)).map b64)
theorem B1I32.below {w u u' : World} {h : G4} {l : List (BitVec 8)} {v : Value} {t : Nat} (i : B1I32 w h l v t u) (hb : Below u.heap.size u u') : B1I32 w h l v t u' :=
  ⟨i.bl.trans (hb.mono i.bl.size), i.A.below hb, own_below i.O hb⟩
theorem next_eq32 (ws : List (BitVec 32)) (j : Nat) : dn32 (up32 (s132 (ws.getD (j + 14) 0)) + up32 (ws.getD (j + 9) 0) + up32 (s032 (ws.getD (j + 1) 0)) + up32 (ws.getD j 0)) = nextW32 ws j := by
  simp only [dn_add32, dn_up32]; rfl
theorem mul_word32 (t : Nat) : (t : Int) * 32 / 8 = ((t * 4 : Nat) : Int) := by omega

structure B2I32 (w : World) (h : G4) (st ws : List (BitVec 32)) (gs gw g : Nat) (s : List (BitVec 32)) (u : World) : Prop where
  bl : Below w.heap.size w u
  A : Arr w.heap.size (hC32 h) u
  W : Arr gw ((upL32 ws).map b64) u
  X : Arr gs ((upL32 st).map b64) u
  S : Arr g ((upL32 s).map b64) u
  hg : w.heap.size + 1 ≤ g
  hs : gs < w.heap.size
  len : s.length = 8
theorem B2I32.below {w u u' : World} {h : G4} {st ws : List (BitVec 32)} {gs gw g : Nat} {s : List (BitVec 32)} (i : B2I32 w h st ws gs gw g s u) (hb : Below u.heap.size u u') : B2I32 w h st ws gs gw g s u' :=
  ⟨i.bl.trans (hb.mono i.bl.size), i.A.below hb, i.W.below hb, i.X.below hb, i.S.below hb, i.hg, i.hs, i.len⟩
theorem up_at32 (l : List (BitVec 32)) (i : Nat) (h : i < l.length) : ((upL32 l).map b64)[i]? = some (b64 (up32 (l.getD i 0))) := by
  have := upL_at32 l l.length i h (Nat.le_refl _)
  rwa [List.take_length] at this
theorem B2I32.s {w u : World} {h : G4} {st ws : List (BitVec 32)} {gs gw g : Nat} {s : List (BitVec 32)} (i : B2I32 w h st ws gs gw g s u) {k : Nat} (hk : k < 8) : u.cell? ⟨g, k, none⟩ = some (b64 (up32 (s.getD k 0))) :=
  i.S.c k _ (up_at32 s k (by rw [i.len]; exact hk))
structure B3I32 (w : World) (h : G4) (st : List (BitVec 32)) (gs g : Nat) (s : List (BitVec 32)) (u : World) : Prop where
  bl : Below w.heap.size w u
  A : Arr w.heap.size (hC32 h) u
  X : Arr gs ((upL32 st).map b64) u
  S : Arr g ((upL32 s).map b64) u
  hg : w.heap.size + 1 ≤ g
  hs : gs < w.heap.size
  len : s.length = 8
theorem B3I32.below {w u u' : World} {h : G4} {st : List (BitVec 32)} {gs g : Nat} {s : List (BitVec 32)} (i : B3I32 w h st gs g s u) (hb : Below u.heap.size u u') : B3I32 w h st gs g s u' :=
  ⟨i.bl.trans (hb.mono i.bl.size), i.A.below hb, i.X.below hb, i.S.below hb, i.hg, i.hs, i.len⟩
theorem B3I32.set {w u : World} {h : G4} {st : List (BitVec 32)} {gs g : Nat} {s : List (BitVec 32)} (i : B3I32 w h st gs g s u) {k : Nat} (hk : k < 8) (v : BitVec 32) : B3I32 w h st gs g (s.set k v) (u.setCell ⟨g, k, none⟩ (b64 (up32 v))) := by
  have h1 := i.hg
  have h2 := i.hs
  refine ⟨i.bl.setCell (p := ⟨g, k, none⟩) (by show w.heap.size ≤ g; omega) _, i.A.far (by omega) _ _, i.X.far (by omega) _ _, ?_, i.hg, i.hs, by rw [List.length_set, i.len]⟩
  have := i.S.set (i := k) (by unfold upL32; rw [List.length_map, List.length_map, i.len]; exact hk) (b64 (up32 v))
  unfold upL32 at this ⊢
  rwa [set_map, ← List.map_set] at this
theorem E_of_list32 {st : List (BitVec 32)} (h : st.length = 8) : (E32.of st).list = st := by
  match st, h with
  | [a, b, c, d, e, f, g, i], _ => rfl
theorem addT_comm32 {a b : List (BitVec 32)} (ha : a.length = 8) (hb : b.length = 8) : addT32 a b 8 = addT32 b a 8 := by
  match a, ha, b, hb with
  | [a0, a1, a2, a3, a4, a5, a6, a7], _, [b0, b1, b2, b3, b4, b5, b6, b7], _ =>
    show [a0 + b0, a1 + b1, a2 + b2, a3 + b3, a4 + b4, a5 + b5, a6 + b6, a7 + b7] = [b0 + a0, b1 + a1, b2 + a2, b3 + a3, b4 + a4, b5 + a5, b6 + a6, b7 + a7]
    rw [BitVec.add_comm a0, BitVec.add_comm a1, BitVec.add_comm a2, BitVec.add_comm a3, BitVec.add_comm a4, BitVec.add_comm a5, BitVec.add_comm a6, BitVec.add_comm a7]
/-- The 64 bits that a round adds to h: their lowest are the word that it adds. -/
def T6432 (s : E32) (k : BitVec 64) (x : BitVec 32) : BitVec 64 := up32 s.h + up32 (S132 s.e) + (up32 s.e &&& up32 s.f ^^^ ~~~up32 s.e &&& up32 s.g) + k + up32 x
def U6432 (s : E32) : BitVec 64 := up32 (S032 s.a) + (up32 s.a &&& up32 s.b ^^^ up32 s.a &&& up32 s.c ^^^ up32 s.b &&& up32 s.c)
theorem T64_dn32 (s : E32) (k : BitVec 64) (x : BitVec 32) : dn32 (T6432 s k x) = tW32 s (dn32 k) x := by
  unfold T6432; simp only [dn_add32, dn_xor32, dn_and32, dn_not32, dn_up32]; rfl
theorem U64_dn32 (s : E32) : dn32 (U6432 s) = uW32 s := by
  unfold U6432; simp only [dn_add32, dn_xor32, dn_and32, dn_up32]; rfl
theorem kt_dn32 (t : Nat) : dn32 (rtab.getD t 0 >>> 32) = kt32 t := rfl
set_option maxRecDepth 100000 in
set_option maxHeartbeats 4000000 in
theorem block32_any (h : G4) (vb : Value) (st : List (BitVec 32)) (l : List (BitVec 8)) (gs cs : Nat) (w : World) (hA : Arr gs ((upL32 st).map b64) w) (hst : st.length = 8) (hv : Sl vb l w) (hl : 64 ≤ l.length) (hl2 : l.length < 4611686018427387904) (hM : HM32 h w) :
    Calls Tryd.prog 76 #[.agg (hC32 h).toArray, .slice (some ⟨gs, 0, none⟩) 8 cs, vb] w fun e w' => ∃ v, e = .returned v ∧ (∃ g c, v = .slice (some ⟨g, 0, none⟩) 8 c ∧ 8 ≤ c ∧ w.heap.size ≤ g ∧ Arr g ((upL32 (mix32 st (spread32 l))).map b64) w') ∧ Below w.heap.size w w' := by
  have HA := Lib.hid hA; clear hA
  have hul : (upL32 st).length = 8 := by unfold upL32; rw [List.length_map, hst]
  have HV := Lib.hid hv
  obtain ⟨b, f, c, rfl, hb, hr⟩ := hv.cell (by omega)
  have HR := Lib.hid hr; clear hr hv
  have HM := Lib.hid hM; clear hM
  have hI : Hid (B1I32 w h l (.slice none 0 0) 0 (w.alloc (.cells (hC32 h).toArray 103))) := Lib.hid ⟨(Below.refl _ _).alloc (Nat.le_refl _) _, Arr.new w _ _, World.ownsRow_nil _ _ _ _⟩
  have hwl := spread_len32 l
  go_enter Tryd.func76, Tryd.ntmps76
  go_upto_region 0 with fail; refine wp_region_lit ?_
  refine wpList_val (run_box rfl rfl) rfl ?_; (try simp only [Act.put, List.setIfInBounds_toArray, List.set_cons_zero, List.set_cons_succ])
  refine wpList_val (run_asg (v := .slice _ _ _) rfl rfl) rfl ?_; (try simp only [Act.put, List.setIfInBounds_toArray, List.set_cons_zero, List.set_cons_succ])
  refine wpList_end ?_
  generalize w.alloc (.cells (hC32 h).toArray 103) = u1 at *
  go_upto_region 1 with fail; refine wp_region_lit ?_
  refine wpList_val (run_asg (v := .slice none 0 0) rfl rfl) rfl ?_; (try simp only [Act.put, List.setIfInBounds_toArray, List.set_cons_zero, List.set_cons_succ])
  refine wpList_end ?_
  go_upto_region 2 with fail; refine wp_region_lit ?_
  refine wpList_val (run_asg (v := .int _ _) rfl rfl) rfl ?_; (try simp only [Act.put, List.setIfInBounds_toArray, List.set_cons_zero, List.set_cons_succ])
  refine wpList_end ?_
  go_wp2_with fail
  go_loopw [7, 8] (fun v7 v8 u => ∃ t : Nat, t ≤ 64 ∧ v8 = .int .i64 (t : Int) ∧ B1I32 w h l v7 t u) (fun _ v8 _ => (64 - intOf v8).toNat)
  case atStart => exact ⟨0, by omega, rfl, hI.out⟩
  case round =>
    obtain ⟨t, ht, rfl, hJ⟩ := hrel
    replace hI := Lib.hid hJ
    clear hJ
    go_upto_region 3 with fail; refine wp_region_lit ?_
    refine wpList_val (run_mv (v := .int _ _) rfl rfl) rfl ?_; (try simp only [Act.put, List.setIfInBounds_toArray, List.set_cons_zero, List.set_cons_succ])
    refine wpList_val (run_fld1 rfl rfl) rfl ?_; (try simp only [Act.put, List.setIfInBounds_toArray, List.set_cons_zero, List.set_cons_succ])
    refine wpList_val (run_ldin rfl rfl (hI.out.A.c 1 _ rfl)) rfl ?_; (try simp only [Act.put, List.setIfInBounds_toArray, List.set_cons_zero, List.set_cons_succ])
    refine wpList_val (run_lss rfl rfl rfl) rfl ?_; (try simp only [Act.put, List.setIfInBounds_toArray, List.set_cons_zero, List.set_cons_succ])
    refine wpList_end ?_
    by_cases hlt : t = 64
    · rw [decide_eq_false (by omega)]
      subst hlt
      obtain ⟨gw, cw, rfl, hcw, hgw, AW⟩ := own_arr hI.out.O (by omega)
      rw [List.take_of_length_le (by rw [hwl]; exact Nat.le_refl _)] at AW
      have HW := Lib.hid AW; clear AW
      have HB := Lib.hid hI.out.bl
      have HH := Lib.hid hI.out.A
      have HMW := Lib.hid (HM.out.below hI.out.bl)
      have HAS := Lib.hid (HA.out.below hI.out.bl)
      have hgs := HA.out.lt
      clear hI HV HR
      have HMX : Hid (mix32 st (spread32 l) = addT32 (mixN32 (spread32 l) (E32.of st) 64).list st 8) := Lib.hid (by unfold mix32; exact addT_comm32 hst rfl)
      generalize hws : spread32 l = ws at *
      have EWS := Lib.hid hws; clear hws
      go_upto_region 9 with fail; refine wp_region_lit ?_
      refine wpList_val (run_asg (v := .slice none 0 0) rfl rfl) rfl ?_; (try simp only [Act.put, List.setIfInBounds_toArray, List.set_cons_zero, List.set_cons_succ])
      refine wpList_end ?_
      go_upto_region 10 with fail; refine wp_region_lit ?_
      refine wpList_val (run_mv (v := .slice none 0 0) rfl rfl) rfl ?_; (try simp only [Act.put, List.setIfInBounds_toArray, List.set_cons_zero, List.set_cons_succ])
      refine wpList_val (run_mv (v := .slice (some _) _ _) rfl rfl) rfl ?_; (try simp only [Act.put, List.setIfInBounds_toArray, List.set_cons_zero, List.set_cons_succ])
      refine wpList_app (f := b64) (fun _ => rfl) (l := []) (m := upL32 st) (bw := 8) (z := .int .u64 0) rfl rfl Tryd.underlying110 (by kernel_rfl) rfl (by omega) rfl (World.ownsRow_nil _ wr.heap.size _ _) (by rw [hul]; rfl) HAS.out.range (by rw [hul]; omega) (Nat.le_refl _) (fun v3 u3 h3 hb3 => ?_); (try simp only [Act.put, List.setIfInBounds_toArray, List.set_cons_zero, List.set_cons_succ])
      rw [hul] at h3
      obtain ⟨g, c, rfl, hc8, hg, AS⟩ := own_arr h3 (by omega)
      have hhl := HH.out.lt
      have hI : Hid (B2I32 w h st ws gs gw g (E32.of st).list u3) := Lib.hid ⟨HB.out.trans (hb3.mono HB.out.size), HH.out.below hb3, HW.out.below hb3, HAS.out.below hb3, by rw [E_of_list32 hst]; exact AS, by omega, hgs, rfl⟩
      replace HMW := Lib.hid (HMW.out.below hb3)
      replace HB : Hid (Below w.heap.size w u3) := Lib.hid hI.out.bl
      clear AS h3 hb3 HH HW HAS hcw hhl
      refine wpList_val (run_asg (v := .slice (some _) _ _) rfl rfl) rfl ?_; (try simp only [Act.put, List.setIfInBounds_toArray, List.set_cons_zero, List.set_cons_succ])
      refine wpList_end ?_
      go_upto_region 11 with fail; refine wp_region_lit ?_
      refine wpList_val (run_asg (v := .int _ _) rfl rfl) rfl ?_; (try simp only [Act.put, List.setIfInBounds_toArray, List.set_cons_zero, List.set_cons_succ])
      refine wpList_end ?_
      go_wp2_with fail
      go_loopw [10, 11] (fun v10 v11 u => ∃ (t g c : Nat), t ≤ 64 ∧ v10 = .slice (some ⟨g, 0, none⟩) 8 c ∧ 8 ≤ c ∧ v11 = .int .i64 (t : Int) ∧ B2I32 w h st ws gs gw g (mixN32 ws (E32.of st) t).list u) (fun _ v11 _ => (64 - intOf v11).toNat)
      case atStart => exact ⟨0, g, c, by omega, rfl, hc8, rfl, hI.out⟩
      case round =>
        clear hI hc8 hg
        obtain ⟨t, g, c, ht, rfl, hc8, rfl, hJ⟩ := hrel
        have hI := Lib.hid hJ
        clear hJ HMW HB
        have HMW := Lib.hid (HM.out.below hI.out.bl)
        go_upto_region 12 with fail; refine wp_region_lit ?_
        refine wpList_val (run_mv (v := .int _ _) rfl rfl) rfl ?_; (try simp only [Act.put, List.setIfInBounds_toArray, List.set_cons_zero, List.set_cons_succ])
        refine wpList_val (run_fld1 rfl rfl) rfl ?_; (try simp only [Act.put, List.setIfInBounds_toArray, List.set_cons_zero, List.set_cons_succ])
        refine wpList_val (run_ldin rfl rfl (hI.out.A.c 1 _ rfl)) rfl ?_; (try simp only [Act.put, List.setIfInBounds_toArray, List.set_cons_zero, List.set_cons_succ])
        refine wpList_val (run_lss rfl rfl rfl) rfl ?_; (try simp only [Act.put, List.setIfInBounds_toArray, List.set_cons_zero, List.set_cons_succ])
        refine wpList_end ?_
        by_cases hlt : t = 64
        · rw [decide_eq_false (by omega)]
          subst hlt
          generalize (mixN32 ws (E32.of st) 64).list = xs at *
          have hK : Hid (B3I32 w h st gs g (addT32 xs st 0) wr) := Lib.hid ⟨hI.out.bl, hI.out.A, hI.out.X, hI.out.S, hI.out.hg, hI.out.hs, hI.out.len⟩
          clear hI HMW
          go_upto_region 19 with fail; refine wp_region_lit ?_
          refine wpList_val (run_asg (v := .int _ _) rfl rfl) rfl ?_; (try simp only [Act.put, List.setIfInBounds_toArray, List.set_cons_zero, List.set_cons_succ])
          refine wpList_end ?_
          go_wp2_with fail
          go_loopw [16] (fun v16 u => ∃ i : Nat, i ≤ 8 ∧ v16 = .int .i64 (i : Int) ∧ B3I32 w h st gs g (addT32 xs st i) u) (fun v16 _ => (8 - intOf v16).toNat)
          case atStart => exact ⟨0, by omega, rfl, hK.out⟩
          case round =>
            obtain ⟨i, hi, rfl, hJ⟩ := hrel
            replace hK := Lib.hid hJ
            clear hJ
            by_cases hi8 : i = 8
            · subst hi8
              rw [← HMX.out] at hK
              have hk1 : ¬ (((8 : Nat) : Int) < 8) := by omega
              go_upto_region 23 with fail
              refine wp_region_lit ?_
              refine wpList_val (run_mv (v := .slice (some _) _ _) rfl rfl) rfl ?_; (try simp only [Act.put, List.setIfInBounds_toArray, List.set_cons_zero, List.set_cons_succ]); refine wpList_val (run_asg (v := .slice (some _) _ _) rfl rfl) rfl ?_; (try simp only [Act.put, List.setIfInBounds_toArray, List.set_cons_zero, List.set_cons_succ])
              refine wpList_end ?_
              go_wp2_with fail
              have hgg := hK.out.hg
              exact bodyPost_ret (results_tmp Tryd.results76 _ _ _) rfl ⟨_, rfl, ⟨g, c, rfl, hc8, by omega, by rw [EWS.out]; exact hK.out.S⟩, hK.out.bl⟩
            · have hk1 : (i : Int) < 8 := by omega
              have hi2 : i < 8 := by omega
              have HAD : Hid (addT32 xs st (i + 1) = (addT32 xs st i).set i ((addT32 xs st i).getD i 0 + st.getD i 0)) := Lib.hid rfl
              generalize addT32 xs st i = ys at *
              go_upto_region 22 with fail; refine wp_region_calm 14 (by kernel_rfl) (by kernel_rfl) ?_
              refine wpCalm_step _ (fun V hV => calm_run (run_mv (v := .slice (some _) _ _) rfl rfl)) ?_; (try simp only [Act.put, List.setIfInBounds_toArray, List.set_cons_zero, List.set_cons_succ])
              refine wpCalm_step _ (fun V hV => calm_run (run_mv (v := .int _ _) rfl rfl)) ?_; (try simp only [Act.put, List.setIfInBounds_toArray, List.set_cons_zero, List.set_cons_succ])
              refine wpCalm_step _ (fun V hV => calm_run (run_ldS rfl Tryd.underlying103 rfl (size_h32 h) rfl (hK.out.A.below hV).range)) ?_; (try simp only [Act.put, List.setIfInBounds_toArray, List.set_cons_zero, List.set_cons_succ])
              refine wpCalm_step _ (fun V hV => calm_run (run_mv (v := .slice (some _) _ _) rfl rfl)) ?_; (try simp only [Act.put, List.setIfInBounds_toArray, List.set_cons_zero, List.set_cons_succ])
              refine wpCalm_step _ (fun V hV => calm_run (run_mv (v := .int _ _) rfl rfl)) ?_; (try simp only [Act.put, List.setIfInBounds_toArray, List.set_cons_zero, List.set_cons_succ])
              refine wpCalm_step _ (fun V hV => calm_run (run_ixs rfl Tryd.underlying110 (by kernel_rfl) rfl rfl hi2)) ?_; (try simp only [Act.put, List.setIfInBounds_toArray, List.set_cons_zero, List.set_cons_succ])
              rw [Nat.zero_add i]
              refine wpCalm_step _ (fun V hV => calm_run (run_ld64 rfl rfl ((hK.out.S.below hV).c i _ (up_at32 ys i (by rw [hK.out.len]; exact hi2))))) ?_; (try simp only [Act.put, List.setIfInBounds_toArray, List.set_cons_zero, List.set_cons_succ])
              refine wpCalm_step _ (fun V hV => calm_run (run_mv (v := .slice (some _) _ _) rfl rfl)) ?_; (try simp only [Act.put, List.setIfInBounds_toArray, List.set_cons_zero, List.set_cons_succ])
              refine wpCalm_step _ (fun V hV => calm_run (run_mv (v := .int _ _) rfl rfl)) ?_; (try simp only [Act.put, List.setIfInBounds_toArray, List.set_cons_zero, List.set_cons_succ])
              refine wpCalm_step _ (fun V hV => calm_run (run_ixs rfl Tryd.underlying110 (by kernel_rfl) rfl rfl hi2)) ?_; (try simp only [Act.put, List.setIfInBounds_toArray, List.set_cons_zero, List.set_cons_succ])
              rw [Nat.zero_add i]
              refine wpCalm_step _ (fun V hV => calm_run (run_ld64 rfl rfl ((hK.out.X.below hV).c i _ (up_at32 st i (by rw [hst]; exact hi2))))) ?_; (try simp only [Act.put, List.setIfInBounds_toArray, List.set_cons_zero, List.set_cons_succ])
              refine wpCalm_step _ (fun V hV => calm_run (run_add64 rfl rfl rfl)) ?_; (try simp only [Act.put, List.setIfInBounds_toArray, List.set_cons_zero, List.set_cons_succ])
              refine wpCalm_step _ (fun V hV => calm_enter (run_call2 enters_cut32 rfl rfl rfl rfl) (cut32_any h (up32 (ys.getD i 0) + up32 (st.getD i 0)) V)) ?_; (try simp only [Act.put, List.setIfInBounds_toArray, List.set_cons_zero, List.set_cons_succ])
              rw [dn_add32, dn_up32, dn_up32]
              refine wpCalm_step _ (fun V hV => calm_run (run_ixs rfl Tryd.underlying110 (by kernel_rfl) rfl rfl hi2)) ?_; (try simp only [Act.put, List.setIfInBounds_toArray, List.set_cons_zero, List.set_cons_succ])
              rw [Nat.zero_add i]
              refine wpCalm_done ?_; intro u5 hb5; simp only [List.drop_succ_cons, List.drop_zero]
              replace hK := Lib.hid (hK.out.below hb5)
              clear hb5
              refine wpList_skip (run_st64 rfl rfl rfl (hK.out.S.c i _ (up_at32 ys i (by rw [hK.out.len]; exact hi2))) (hK.out.S.f _)) rfl rfl ?_
              refine wpList_end ?_
              replace hK := Lib.hid (hK.out.set hi2 (ys.getD i 0 + st.getD i 0))
              rw [← HAD.out] at hK
              generalize u5.setCell ⟨g, i, none⟩ (b64 (up32 (ys.getD i 0 + st.getD i 0))) = u6 at *
              go_wp2_with fail
              go_roundw
              case rel => exact ⟨i + 1, by omega, by go_num, hK.out⟩
              case measure => simp [intOf]; omega
        · rw [decide_eq_true (by omega)]
          have HRN : Hid ((mixN32 ws (E32.of st) (t + 1)).list = (rnd32 (mixN32 ws (E32.of st) t) (kt32 t) (ws.getD t 0)).list) := Lib.hid rfl
          generalize mixN32 ws (E32.of st) t = s at *
          have C0 := Lib.hid (fun V (hV : Below wr.heap.size wr V) => (hI.out.below hV).s (k := 0) (by omega))
          go_upto_region 14 with fail; refine wp_region_lit ?_
          refine wpList_val (run_mv (v := .slice (some _) _ _) rfl rfl) rfl ?_; (try simp only [Act.put, List.setIfInBounds_toArray, List.set_cons_zero, List.set_cons_succ])
          refine wpList_val (run_ixs (i := 4) rfl Tryd.underlying110 (by kernel_rfl) rfl rfl (by omega)) rfl ?_; (try simp only [Act.put, List.setIfInBounds_toArray, List.set_cons_zero, List.set_cons_succ])
          refine wpList_val (run_ld64 (v := b64 (up32 s.e)) rfl rfl (hI.out.s (k := 4) (by omega))) rfl ?_; (try simp only [Act.put, List.setIfInBounds_toArray, List.set_cons_zero, List.set_cons_succ])
          refine wpList_val (run_asg (v := b64 _) rfl rfl) rfl ?_; (try simp only [Act.put, List.setIfInBounds_toArray, List.set_cons_zero, List.set_cons_succ])
          refine wpList_end ?_
          go_upto_region 15 with fail; refine wp_region_calm 7 (by kernel_rfl) (by kernel_rfl) ?_
          refine wpCalm_step _ (fun V hV => calm_run (run_mv (v := .int _ _) rfl rfl)) ?_; (try simp only [Act.put, List.setIfInBounds_toArray, List.set_cons_zero, List.set_cons_succ])
          refine wpCalm_step _ (fun V hV => calm_enter (run_call1 enters_refround rfl rfl rfl) (refround_any (t : Int) V)) ?_; (try simp only [Act.put, List.setIfInBounds_toArray, List.set_cons_zero, List.set_cons_succ])
          rw [tabOf_at (show t < rtab.length by rw [rtab_len]; omega)]
          refine wpCalm_step _ (fun V hV => calm_run (run_fld0 rfl rfl)) ?_; (try simp only [Act.put, List.setIfInBounds_toArray, List.set_cons_zero, List.set_cons_succ])
          refine wpCalm_step _ (fun V hV => calm_run (run_ldu rfl rfl ((hI.out.A.below hV).c 0 _ rfl))) ?_; (try simp only [Act.put, List.setIfInBounds_toArray, List.set_cons_zero, List.set_cons_succ])
          refine wpCalm_step _ (fun V hV => calm_run (run_wsub64 (n := 32) rfl rfl rfl (by omega))) ?_; (try simp only [Act.put, List.setIfInBounds_toArray, List.set_cons_zero, List.set_cons_succ])
          refine wpCalm_step _ (fun V hV => calm_run (run_shr64 rfl rfl rfl (by omega))) ?_; (try simp only [Act.put, List.setIfInBounds_toArray, List.set_cons_zero, List.set_cons_succ])
          refine wpCalm_step _ (fun V hV => calm_run (run_asg (v := b64 _) rfl rfl)) ?_; (try simp only [Act.put, List.setIfInBounds_toArray, List.set_cons_zero, List.set_cons_succ])
          refine wpCalm_done ?_; intro u5 hb5; simp only [List.drop_succ_cons, List.drop_zero]
          refine wpList_end ?_
          replace hI := Lib.hid (hI.out.below hb5)
          replace HMW := Lib.hid (HMW.out.below hb5)
          clear hb5 C0
          have HK := Lib.hid (kt_dn32 t)
          replace HK : Hid (dn32 (rtab.getD t 0 >>> (64 - 32)) = kt32 t) := HK
          generalize rtab.getD t 0 >>> (64 - 32) = kk at *
          have F1 : Hid (dn32 (T6432 s kk (ws.getD t 0) + U6432 s) = (rnd32 s (kt32 t) (ws.getD t 0)).a) := Lib.hid (by rw [dn_add32, T64_dn32, U64_dn32, HK.out]; rfl)
          have F2 : Hid (dn32 (up32 s.d + T6432 s kk (ws.getD t 0)) = (rnd32 s (kt32 t) (ws.getD t 0)).e) := Lib.hid (by rw [dn_add32, T64_dn32, dn_up32, HK.out]; rfl)
          clear HK
          go_upto_region 16 with fail; refine wp_region_calm 30 (by kernel_rfl) (by kernel_rfl) ?_
          refine wpCalm_step _ (fun V hV => calm_run (run_mv (v := .slice (some _) _ _) rfl rfl)) ?_; (try simp only [Act.put, List.setIfInBounds_toArray, List.set_cons_zero, List.set_cons_succ])
          refine wpCalm_step _ (fun V hV => calm_run (run_ixs (i := 7) rfl Tryd.underlying110 (by kernel_rfl) rfl rfl (by omega))) ?_; (try simp only [Act.put, List.setIfInBounds_toArray, List.set_cons_zero, List.set_cons_succ])
          refine wpCalm_step _ (fun V hV => calm_run (run_ld64 (v := b64 (up32 s.h)) rfl rfl ((hI.out.below hV).s (k := 7) (by omega)))) ?_; (try simp only [Act.put, List.setIfInBounds_toArray, List.set_cons_zero, List.set_cons_succ])
          refine wpCalm_step _ (fun V hV => calm_run (run_ldS rfl Tryd.underlying103 rfl (size_h32 h) rfl (hI.out.A.below hV).range)) ?_; (try simp only [Act.put, List.setIfInBounds_toArray, List.set_cons_zero, List.set_cons_succ])
          refine wpCalm_step _ (fun V hV => calm_run (run_mv (v := b64 _) rfl rfl)) ?_; (try simp only [Act.put, List.setIfInBounds_toArray, List.set_cons_zero, List.set_cons_succ])
          refine wpCalm_step _ (fun V hV => calm_run (run_fld3 rfl rfl)) ?_; (try simp only [Act.put, List.setIfInBounds_toArray, List.set_cons_zero, List.set_cons_succ])
          refine wpCalm_step _ (fun V hV => calm_run (run_ldsl rfl rfl ((hI.out.A.below hV).c 3 _ rfl))) ?_; (try simp only [Act.put, List.setIfInBounds_toArray, List.set_cons_zero, List.set_cons_succ])
          refine wpCalm_step _ (fun V hV => calm_enter (run_call3 enters_big32 rfl rfl rfl rfl rfl) (big32_any h s.e _ _ _ _ _ (HMW.out.below hV).lb (HMW.out.below hV).rb (by omega) (by omega) (by omega))) ?_; (try simp only [Act.put, List.setIfInBounds_toArray, List.set_cons_zero, List.set_cons_succ])
          refine wpCalm_step _ (fun V hV => calm_run (run_add64 rfl rfl rfl)) ?_; (try simp only [Act.put, List.setIfInBounds_toArray, List.set_cons_zero, List.set_cons_succ])
          refine wpCalm_step _ (fun V hV => calm_run (run_mv (v := b64 _) rfl rfl)) ?_; (try simp only [Act.put, List.setIfInBounds_toArray, List.set_cons_zero, List.set_cons_succ])
          refine wpCalm_step _ (fun V hV => calm_run (run_mv (v := .slice (some _) _ _) rfl rfl)) ?_; (try simp only [Act.put, List.setIfInBounds_toArray, List.set_cons_zero, List.set_cons_succ])
          refine wpCalm_step _ (fun V hV => calm_run (run_ixs (i := 5) rfl Tryd.underlying110 (by kernel_rfl) rfl rfl (by omega))) ?_; (try simp only [Act.put, List.setIfInBounds_toArray, List.set_cons_zero, List.set_cons_succ])
          refine wpCalm_step _ (fun V hV => calm_run (run_ld64 (v := b64 (up32 s.f)) rfl rfl ((hI.out.below hV).s (k := 5) (by omega)))) ?_; (try simp only [Act.put, List.setIfInBounds_toArray, List.set_cons_zero, List.set_cons_succ])
          refine wpCalm_step _ (fun V hV => calm_run (run_and64 rfl rfl rfl)) ?_; (try simp only [Act.put, List.setIfInBounds_toArray, List.set_cons_zero, List.set_cons_succ])
          refine wpCalm_step _ (fun V hV => calm_run (run_mv (v := b64 _) rfl rfl)) ?_; (try simp only [Act.put, List.setIfInBounds_toArray, List.set_cons_zero, List.set_cons_succ])
          refine wpCalm_step _ (fun V hV => calm_run (run_not64 rfl rfl)) ?_; (try simp only [Act.put, List.setIfInBounds_toArray, List.set_cons_zero, List.set_cons_succ])
          refine wpCalm_step _ (fun V hV => calm_run (run_mv (v := .slice (some _) _ _) rfl rfl)) ?_; (try simp only [Act.put, List.setIfInBounds_toArray, List.set_cons_zero, List.set_cons_succ])
          refine wpCalm_step _ (fun V hV => calm_run (run_ixs (i := 6) rfl Tryd.underlying110 (by kernel_rfl) rfl rfl (by omega))) ?_; (try simp only [Act.put, List.setIfInBounds_toArray, List.set_cons_zero, List.set_cons_succ])
          refine wpCalm_step _ (fun V hV => calm_run (run_ld64 (v := b64 (up32 s.g)) rfl rfl ((hI.out.below hV).s (k := 6) (by omega)))) ?_; (try simp only [Act.put, List.setIfInBounds_toArray, List.set_cons_zero, List.set_cons_succ])
          refine wpCalm_step _ (fun V hV => calm_run (run_and64 rfl rfl rfl)) ?_; (try simp only [Act.put, List.setIfInBounds_toArray, List.set_cons_zero, List.set_cons_succ])
          refine wpCalm_step _ (fun V hV => calm_run (run_xor64 rfl rfl rfl)) ?_; (try simp only [Act.put, List.setIfInBounds_toArray, List.set_cons_zero, List.set_cons_succ])
          refine wpCalm_step _ (fun V hV => calm_run (run_add64 rfl rfl rfl)) ?_; (try simp only [Act.put, List.setIfInBounds_toArray, List.set_cons_zero, List.set_cons_succ])
          refine wpCalm_step _ (fun V hV => calm_run (run_mv (v := b64 _) rfl rfl)) ?_; (try simp only [Act.put, List.setIfInBounds_toArray, List.set_cons_zero, List.set_cons_succ])
          refine wpCalm_step _ (fun V hV => calm_run (run_add64 rfl rfl rfl)) ?_; (try simp only [Act.put, List.setIfInBounds_toArray, List.set_cons_zero, List.set_cons_succ])
          refine wpCalm_step _ (fun V hV => calm_run (run_mv (v := .slice (some _) _ _) rfl rfl)) ?_; (try simp only [Act.put, List.setIfInBounds_toArray, List.set_cons_zero, List.set_cons_succ])
          refine wpCalm_step _ (fun V hV => calm_run (run_mv (v := .int _ _) rfl rfl)) ?_; (try simp only [Act.put, List.setIfInBounds_toArray, List.set_cons_zero, List.set_cons_succ])
          refine wpCalm_step _ (fun V hV => calm_run (run_ixs rfl Tryd.underlying110 (by kernel_rfl) rfl rfl (by omega))) ?_; (try simp only [Act.put, List.setIfInBounds_toArray, List.set_cons_zero, List.set_cons_succ])
          rw [Nat.zero_add t]
          refine wpCalm_step _ (fun V hV => calm_run (run_ld64 rfl rfl ((hI.out.W.below hV).c t _ (up_at32 ws t (by rw [hwl]; omega))))) ?_; (try simp only [Act.put, List.setIfInBounds_toArray, List.set_cons_zero, List.set_cons_succ])
          refine wpCalm_step _ (fun V hV => calm_run (run_add64 rfl rfl rfl)) ?_; (try simp only [Act.put, List.setIfInBounds_toArray, List.set_cons_zero, List.set_cons_succ])
          refine wpCalm_step _ (fun V hV => calm_run (run_asg (v := b64 (T6432 s kk (ws.getD t 0))) rfl rfl)) ?_; (try simp only [Act.put, List.setIfInBounds_toArray, List.set_cons_zero, List.set_cons_succ])
          refine wpCalm_done ?_; intro u5 hb5; simp only [List.drop_succ_cons, List.drop_zero]
          refine wpList_end ?_
          replace hI := Lib.hid (hI.out.below hb5)
          replace HMW := Lib.hid (HMW.out.below hb5)
          clear hb5
          generalize T6432 s kk (ws.getD t 0) = TT at *
          go_upto_region 17 with fail; refine wp_region_calm 32 (by kernel_rfl) (by kernel_rfl) ?_
          refine wpCalm_step _ (fun V hV => calm_run (run_ldS rfl Tryd.underlying103 rfl (size_h32 h) rfl (hI.out.A.below hV).range)) ?_; (try simp only [Act.put, List.setIfInBounds_toArray, List.set_cons_zero, List.set_cons_succ])
          refine wpCalm_step _ (fun V hV => calm_run (run_mv (v := .slice (some _) _ _) rfl rfl)) ?_; (try simp only [Act.put, List.setIfInBounds_toArray, List.set_cons_zero, List.set_cons_succ])
          refine wpCalm_step _ (fun V hV => calm_run (run_ixs (i := 0) rfl Tryd.underlying110 (by kernel_rfl) rfl rfl (by omega))) ?_; (try simp only [Act.put, List.setIfInBounds_toArray, List.set_cons_zero, List.set_cons_succ])
          refine wpCalm_step _ (fun V hV => calm_run (run_ld64 (v := b64 (up32 s.a)) rfl rfl ((hI.out.below hV).s (k := 0) (by omega)))) ?_; (try simp only [Act.put, List.setIfInBounds_toArray, List.set_cons_zero, List.set_cons_succ])
          refine wpCalm_step _ (fun V hV => calm_run (run_fld2 rfl rfl)) ?_; (try simp only [Act.put, List.setIfInBounds_toArray, List.set_cons_zero, List.set_cons_succ])
          refine wpCalm_step _ (fun V hV => calm_run (run_ldsl rfl rfl ((hI.out.A.below hV).c 2 _ rfl))) ?_; (try simp only [Act.put, List.setIfInBounds_toArray, List.set_cons_zero, List.set_cons_succ])
          refine wpCalm_step _ (fun V hV => calm_enter (run_call3 enters_big32 rfl rfl rfl rfl rfl) (big32_any h s.a _ _ _ _ _ (HMW.out.below hV).la (HMW.out.below hV).ra (by omega) (by omega) (by omega))) ?_; (try simp only [Act.put, List.setIfInBounds_toArray, List.set_cons_zero, List.set_cons_succ])
          refine wpCalm_step _ (fun V hV => calm_run (run_mv (v := .slice (some _) _ _) rfl rfl)) ?_; (try simp only [Act.put, List.setIfInBounds_toArray, List.set_cons_zero, List.set_cons_succ])
          refine wpCalm_step _ (fun V hV => calm_run (run_ixs (i := 0) rfl Tryd.underlying110 (by kernel_rfl) rfl rfl (by omega))) ?_; (try simp only [Act.put, List.setIfInBounds_toArray, List.set_cons_zero, List.set_cons_succ])
          refine wpCalm_step _ (fun V hV => calm_run (run_ld64 (v := b64 (up32 s.a)) rfl rfl ((hI.out.below hV).s (k := 0) (by omega)))) ?_; (try simp only [Act.put, List.setIfInBounds_toArray, List.set_cons_zero, List.set_cons_succ])
          refine wpCalm_step _ (fun V hV => calm_run (run_mv (v := .slice (some _) _ _) rfl rfl)) ?_; (try simp only [Act.put, List.setIfInBounds_toArray, List.set_cons_zero, List.set_cons_succ])
          refine wpCalm_step _ (fun V hV => calm_run (run_ixs (i := 1) rfl Tryd.underlying110 (by kernel_rfl) rfl rfl (by omega))) ?_; (try simp only [Act.put, List.setIfInBounds_toArray, List.set_cons_zero, List.set_cons_succ])
          refine wpCalm_step _ (fun V hV => calm_run (run_ld64 (v := b64 (up32 s.b)) rfl rfl ((hI.out.below hV).s (k := 1) (by omega)))) ?_; (try simp only [Act.put, List.setIfInBounds_toArray, List.set_cons_zero, List.set_cons_succ])
          refine wpCalm_step _ (fun V hV => calm_run (run_and64 rfl rfl rfl)) ?_; (try simp only [Act.put, List.setIfInBounds_toArray, List.set_cons_zero, List.set_cons_succ])
          refine wpCalm_step _ (fun V hV => calm_run (run_mv (v := .slice (some _) _ _) rfl rfl)) ?_; (try simp only [Act.put, List.setIfInBounds_toArray, List.set_cons_zero, List.set_cons_succ])
          refine wpCalm_step _ (fun V hV => calm_run (run_ixs (i := 0) rfl Tryd.underlying110 (by kernel_rfl) rfl rfl (by omega))) ?_; (try simp only [Act.put, List.setIfInBounds_toArray, List.set_cons_zero, List.set_cons_succ])
          refine wpCalm_step _ (fun V hV => calm_run (run_ld64 (v := b64 (up32 s.a)) rfl rfl ((hI.out.below hV).s (k := 0) (by omega)))) ?_; (try simp only [Act.put, List.setIfInBounds_toArray, List.set_cons_zero, List.set_cons_succ])
          refine wpCalm_step _ (fun V hV => calm_run (run_mv (v := .slice (some _) _ _) rfl rfl)) ?_; (try simp only [Act.put, List.setIfInBounds_toArray, List.set_cons_zero, List.set_cons_succ])
          refine wpCalm_step _ (fun V hV => calm_run (run_ixs (i := 2) rfl Tryd.underlying110 (by kernel_rfl) rfl rfl (by omega))) ?_; (try simp only [Act.put, List.setIfInBounds_toArray, List.set_cons_zero, List.set_cons_succ])
          refine wpCalm_step _ (fun V hV => calm_run (run_ld64 (v := b64 (up32 s.c)) rfl rfl ((hI.out.below hV).s (k := 2) (by omega)))) ?_; (try simp only [Act.put, List.setIfInBounds_toArray, List.set_cons_zero, List.set_cons_succ])
          refine wpCalm_step _ (fun V hV => calm_run (run_and64 rfl rfl rfl)) ?_; (try simp only [Act.put, List.setIfInBounds_toArray, List.set_cons_zero, List.set_cons_succ])
          refine wpCalm_step _ (fun V hV => calm_run (run_xor64 rfl rfl rfl)) ?_; (try simp only [Act.put, List.setIfInBounds_toArray, List.set_cons_zero, List.set_cons_succ])
          refine wpCalm_step _ (fun V hV => calm_run (run_mv (v := .slice (some _) _ _) rfl rfl)) ?_; (try simp only [Act.put, List.setIfInBounds_toArray, List.set_cons_zero, List.set_cons_succ])
          refine wpCalm_step _ (fun V hV => calm_run (run_ixs (i := 1) rfl Tryd.underlying110 (by kernel_rfl) rfl rfl (by omega))) ?_; (try simp only [Act.put, List.setIfInBounds_toArray, List.set_cons_zero, List.set_cons_succ])
          refine wpCalm_step _ (fun V hV => calm_run (run_ld64 (v := b64 (up32 s.b)) rfl rfl ((hI.out.below hV).s (k := 1) (by omega)))) ?_; (try simp only [Act.put, List.setIfInBounds_toArray, List.set_cons_zero, List.set_cons_succ])
          refine wpCalm_step _ (fun V hV => calm_run (run_mv (v := .slice (some _) _ _) rfl rfl)) ?_; (try simp only [Act.put, List.setIfInBounds_toArray, List.set_cons_zero, List.set_cons_succ])
          refine wpCalm_step _ (fun V hV => calm_run (run_ixs (i := 2) rfl Tryd.underlying110 (by kernel_rfl) rfl rfl (by omega))) ?_; (try simp only [Act.put, List.setIfInBounds_toArray, List.set_cons_zero, List.set_cons_succ])
          refine wpCalm_step _ (fun V hV => calm_run (run_ld64 (v := b64 (up32 s.c)) rfl rfl ((hI.out.below hV).s (k := 2) (by omega)))) ?_; (try simp only [Act.put, List.setIfInBounds_toArray, List.set_cons_zero, List.set_cons_succ])
          refine wpCalm_step _ (fun V hV => calm_run (run_and64 rfl rfl rfl)) ?_; (try simp only [Act.put, List.setIfInBounds_toArray, List.set_cons_zero, List.set_cons_succ])
          refine wpCalm_step _ (fun V hV => calm_run (run_xor64 rfl rfl rfl)) ?_; (try simp only [Act.put, List.setIfInBounds_toArray, List.set_cons_zero, List.set_cons_succ])
          refine wpCalm_step _ (fun V hV => calm_run (run_add64 rfl rfl rfl)) ?_; (try simp only [Act.put, List.setIfInBounds_toArray, List.set_cons_zero, List.set_cons_succ])
          refine wpCalm_step _ (fun V hV => calm_run (run_asg (v := b64 (U6432 s)) rfl rfl)) ?_; (try simp only [Act.put, List.setIfInBounds_toArray, List.set_cons_zero, List.set_cons_succ])
          refine wpCalm_done ?_; intro u5 hb5; simp only [List.drop_succ_cons, List.drop_zero]
          refine wpList_end ?_
          replace hI := Lib.hid (hI.out.below hb5)
          clear hb5 HMW
          generalize U6432 s = UU at *
          go_upto_region 18 with fail; refine wp_region_calm 30 (by kernel_rfl) (by kernel_rfl) ?_
          refine wpCalm_step _ (fun V hV => calm_run (run_ldS rfl Tryd.underlying103 rfl (size_h32 h) rfl (hI.out.A.below hV).range)) ?_; (try simp only [Act.put, List.setIfInBounds_toArray, List.set_cons_zero, List.set_cons_succ])
          refine wpCalm_step _ (fun V hV => calm_run (run_mv (v := b64 _) rfl rfl)) ?_; (try simp only [Act.put, List.setIfInBounds_toArray, List.set_cons_zero, List.set_cons_succ])
          refine wpCalm_step _ (fun V hV => calm_run (run_mv (v := b64 _) rfl rfl)) ?_; (try simp only [Act.put, List.setIfInBounds_toArray, List.set_cons_zero, List.set_cons_succ])
          refine wpCalm_step _ (fun V hV => calm_run (run_add64 rfl rfl rfl)) ?_; (try simp only [Act.put, List.setIfInBounds_toArray, List.set_cons_zero, List.set_cons_succ])
          refine wpCalm_step _ (fun V hV => calm_enter (run_call2 enters_cut32 rfl rfl rfl rfl) (cut32_any h (TT + UU) V)) ?_; (try simp only [Act.put, List.setIfInBounds_toArray, List.set_cons_zero, List.set_cons_succ])
          rw [F1.out]
          refine wpCalm_step _ (fun V hV => calm_run (run_mv (v := .slice (some _) _ _) rfl rfl)) ?_; (try simp only [Act.put, List.setIfInBounds_toArray, List.set_cons_zero, List.set_cons_succ])
          refine wpCalm_step _ (fun V hV => calm_run (run_ixs (i := 0) rfl Tryd.underlying110 (by kernel_rfl) rfl rfl (by omega))) ?_; (try simp only [Act.put, List.setIfInBounds_toArray, List.set_cons_zero, List.set_cons_succ])
          refine wpCalm_step _ (fun V hV => calm_run (run_ld64 (v := b64 (up32 s.a)) rfl rfl ((hI.out.below hV).s (k := 0) (by omega)))) ?_; (try simp only [Act.put, List.setIfInBounds_toArray, List.set_cons_zero, List.set_cons_succ])
          refine wpCalm_step _ (fun V hV => calm_run (run_mv (v := .slice (some _) _ _) rfl rfl)) ?_; (try simp only [Act.put, List.setIfInBounds_toArray, List.set_cons_zero, List.set_cons_succ])
          refine wpCalm_step _ (fun V hV => calm_run (run_ixs (i := 1) rfl Tryd.underlying110 (by kernel_rfl) rfl rfl (by omega))) ?_; (try simp only [Act.put, List.setIfInBounds_toArray, List.set_cons_zero, List.set_cons_succ])
          refine wpCalm_step _ (fun V hV => calm_run (run_ld64 (v := b64 (up32 s.b)) rfl rfl ((hI.out.below hV).s (k := 1) (by omega)))) ?_; (try simp only [Act.put, List.setIfInBounds_toArray, List.set_cons_zero, List.set_cons_succ])
          refine wpCalm_step _ (fun V hV => calm_run (run_mv (v := .slice (some _) _ _) rfl rfl)) ?_; (try simp only [Act.put, List.setIfInBounds_toArray, List.set_cons_zero, List.set_cons_succ])
          refine wpCalm_step _ (fun V hV => calm_run (run_ixs (i := 2) rfl Tryd.underlying110 (by kernel_rfl) rfl rfl (by omega))) ?_; (try simp only [Act.put, List.setIfInBounds_toArray, List.set_cons_zero, List.set_cons_succ])
          refine wpCalm_step _ (fun V hV => calm_run (run_ld64 (v := b64 (up32 s.c)) rfl rfl ((hI.out.below hV).s (k := 2) (by omega)))) ?_; (try simp only [Act.put, List.setIfInBounds_toArray, List.set_cons_zero, List.set_cons_succ])
          refine wpCalm_step _ (fun V hV => calm_run (run_ldS rfl Tryd.underlying103 rfl (size_h32 h) rfl (hI.out.A.below hV).range)) ?_; (try simp only [Act.put, List.setIfInBounds_toArray, List.set_cons_zero, List.set_cons_succ])
          refine wpCalm_step _ (fun V hV => calm_run (run_mv (v := .slice (some _) _ _) rfl rfl)) ?_; (try simp only [Act.put, List.setIfInBounds_toArray, List.set_cons_zero, List.set_cons_succ])
          refine wpCalm_step _ (fun V hV => calm_run (run_ixs (i := 3) rfl Tryd.underlying110 (by kernel_rfl) rfl rfl (by omega))) ?_; (try simp only [Act.put, List.setIfInBounds_toArray, List.set_cons_zero, List.set_cons_succ])
          refine wpCalm_step _ (fun V hV => calm_run (run_ld64 (v := b64 (up32 s.d)) rfl rfl ((hI.out.below hV).s (k := 3) (by omega)))) ?_; (try simp only [Act.put, List.setIfInBounds_toArray, List.set_cons_zero, List.set_cons_succ])
          refine wpCalm_step _ (fun V hV => calm_run (run_mv (v := b64 _) rfl rfl)) ?_; (try simp only [Act.put, List.setIfInBounds_toArray, List.set_cons_zero, List.set_cons_succ])
          refine wpCalm_step _ (fun V hV => calm_run (run_add64 rfl rfl rfl)) ?_; (try simp only [Act.put, List.setIfInBounds_toArray, List.set_cons_zero, List.set_cons_succ])
          refine wpCalm_step _ (fun V hV => calm_enter (run_call2 enters_cut32 rfl rfl rfl rfl) (cut32_any h (up32 s.d + TT) V)) ?_; (try simp only [Act.put, List.setIfInBounds_toArray, List.set_cons_zero, List.set_cons_succ])
          rw [F2.out]
          refine wpCalm_step _ (fun V hV => calm_run (run_mv (v := .slice (some _) _ _) rfl rfl)) ?_; (try simp only [Act.put, List.setIfInBounds_toArray, List.set_cons_zero, List.set_cons_succ])
          refine wpCalm_step _ (fun V hV => calm_run (run_ixs (i := 4) rfl Tryd.underlying110 (by kernel_rfl) rfl rfl (by omega))) ?_; (try simp only [Act.put, List.setIfInBounds_toArray, List.set_cons_zero, List.set_cons_succ])
          refine wpCalm_step _ (fun V hV => calm_run (run_ld64 (v := b64 (up32 s.e)) rfl rfl ((hI.out.below hV).s (k := 4) (by omega)))) ?_; (try simp only [Act.put, List.setIfInBounds_toArray, List.set_cons_zero, List.set_cons_succ])
          refine wpCalm_step _ (fun V hV => calm_run (run_mv (v := .slice (some _) _ _) rfl rfl)) ?_; (try simp only [Act.put, List.setIfInBounds_toArray, List.set_cons_zero, List.set_cons_succ])
          refine wpCalm_step _ (fun V hV => calm_run (run_ixs (i := 5) rfl Tryd.underlying110 (by kernel_rfl) rfl rfl (by omega))) ?_; (try simp only [Act.put, List.setIfInBounds_toArray, List.set_cons_zero, List.set_cons_succ])
          refine wpCalm_step _ (fun V hV => calm_run (run_ld64 (v := b64 (up32 s.f)) rfl rfl ((hI.out.below hV).s (k := 5) (by omega)))) ?_; (try simp only [Act.put, List.setIfInBounds_toArray, List.set_cons_zero, List.set_cons_succ])
          refine wpCalm_step _ (fun V hV => calm_run (run_mv (v := .slice (some _) _ _) rfl rfl)) ?_; (try simp only [Act.put, List.setIfInBounds_toArray, List.set_cons_zero, List.set_cons_succ])
          refine wpCalm_step _ (fun V hV => calm_run (run_ixs (i := 6) rfl Tryd.underlying110 (by kernel_rfl) rfl rfl (by omega))) ?_; (try simp only [Act.put, List.setIfInBounds_toArray, List.set_cons_zero, List.set_cons_succ])
          refine wpCalm_step _ (fun V hV => calm_run (run_ld64 (v := b64 (up32 s.g)) rfl rfl ((hI.out.below hV).s (k := 6) (by omega)))) ?_; (try simp only [Act.put, List.setIfInBounds_toArray, List.set_cons_zero, List.set_cons_succ])
          refine wpCalm_done ?_; intro u5 hb5; simp only [List.drop_succ_cons, List.drop_zero]
          replace hI := Lib.hid (hI.out.below hb5)
          clear hb5 F1 F2
          generalize hrs : rnd32 s (kt32 t) (ws.getD t 0) = rs at *
          have HRS := Lib.hid hrs; clear hrs
          refine wpList_val (run_bsl (cells := ((upL32 [rs.a, s.a, s.b, s.c, rs.e, s.e, s.f, s.g]).map b64).toArray) (z := .int .u64 0) rfl Tryd.underlying110 (by kernel_rfl) (by omega) (by omega) (by kernel_rfl)) rfl ?_; (try simp only [Act.put, List.setIfInBounds_toArray, List.set_cons_zero, List.set_cons_succ])
          have hl8 : [rs.a, s.a, s.b, s.c, rs.e, s.e, s.f, s.g] = (mixN32 ws (E32.of st) (t + 1)).list := by rw [HRN.out, ← HRS.out]; rfl
          have hb6 : Below u5.heap.size u5 (u5.alloc (.cells ((upL32 [rs.a, s.a, s.b, s.c, rs.e, s.e, s.f, s.g]).map b64).toArray 22)) := (Below.refl _ _).alloc (Nat.le_refl _) _
          have A6 := Arr.new u5 ((upL32 [rs.a, s.a, s.b, s.c, rs.e, s.e, s.f, s.g]).map b64) 22
          rw [hl8] at A6 hb6 ⊢
          have hlt6 := hI.out.A.lt
          have H6 : Hid (B2I32 w h st ws gs gw u5.heap.size (mixN32 ws (E32.of st) (t + 1)).list (u5.alloc (.cells ((upL32 (mixN32 ws (E32.of st) (t + 1)).list).map b64).toArray 22))) := Lib.hid
            ⟨(hI.out.below hb6).bl, (hI.out.below hb6).A, (hI.out.below hb6).W, (hI.out.below hb6).X, A6, hlt6, hI.out.hs, rfl⟩
          clear A6 hb6 hl8
          generalize u5.alloc (.cells ((upL32 (mixN32 ws (E32.of st) (t + 1)).list).map b64).toArray 22) = u6 at *
          refine wpList_val (run_asg (v := .slice (some _) _ _) rfl rfl) rfl ?_; (try simp only [Act.put, List.setIfInBounds_toArray, List.set_cons_zero, List.set_cons_succ])
          refine wpList_end ?_
          go_wp2_with fail
          go_roundw
          case rel => exact ⟨t + 1, u5.heap.size, 8, by omega, rfl, Nat.le_refl _, by go_num, H6.out⟩
          case measure => simp [intOf]; omega
    · rw [decide_eq_true (by omega)]
      go_upto_region 5 with fail; refine wp_region_lit ?_
      refine wpList_val (run_mv (v := .int _ _) rfl rfl) rfl ?_; (try simp only [Act.put, List.setIfInBounds_toArray, List.set_cons_zero, List.set_cons_succ])
      refine wpList_val (run_lss rfl rfl rfl) rfl ?_; (try simp only [Act.put, List.setIfInBounds_toArray, List.set_cons_zero, List.set_cons_succ])
      refine wpList_end ?_
      by_cases h16 : t < 16
      · rw [decide_eq_true (by omega)]
        go_upto_region 6 with fail; refine wp_region_lit ?_
        refine wpList_val (run_mv (v := .int _ _) rfl rfl) rfl ?_; (try simp only [Act.put, List.setIfInBounds_toArray, List.set_cons_zero, List.set_cons_succ])
        refine wpList_val (run_fld0 rfl rfl) rfl ?_; (try simp only [Act.put, List.setIfInBounds_toArray, List.set_cons_zero, List.set_cons_succ])
        refine wpList_val (run_ldu rfl rfl (hI.out.A.c 0 _ rfl)) rfl ?_; (try simp only [Act.put, List.setIfInBounds_toArray, List.set_cons_zero, List.set_cons_succ])
        refine wpList_val (run_cvui rfl rfl (by omega) (by omega)) rfl ?_; (try simp only [Act.put, List.setIfInBounds_toArray, List.set_cons_zero, List.set_cons_succ])
        refine wpList_val (run_mul rfl rfl rfl (by omega) (by omega)) rfl ?_; (try simp only [Act.put, List.setIfInBounds_toArray, List.set_cons_zero, List.set_cons_succ])
        refine wpList_val (run_quo rfl rfl rfl (by omega) (by omega) (by omega)) rfl ?_; (try simp only [Act.put, List.setIfInBounds_toArray, List.set_cons_zero, List.set_cons_succ])
        rw [mul_word32 t]
        refine wpList_val (run_asg (v := .int _ _) rfl rfl) rfl ?_; (try simp only [Act.put, List.setIfInBounds_toArray, List.set_cons_zero, List.set_cons_succ])
        refine wpList_end ?_
        have HX := Lib.hid (spread_lo32 l t h16)
        have hsz := hI.out.A.lt
        go_upto_region 7 with fail
        refine wp_region_noPanic ?_; refine wp_region_late (S := Till 7 (fun V => Below wr.heap.size wr V)) (by kernel_rfl) (.inr (Below.refl _ _).drew) (fun _ => ?_); have hS : Below wr.heap.size wr wr.drew := (Below.refl _ _).drew
        refine wpAnyD_take 0 rfl rfl (by kernel_rfl) (by kernel_rfl) (by kernel_rfl) (by kernel_rfl) (by kernel_rfl) (fun _ _ _ h => h) rfl (fun V hV => run_mv (v := u7) rfl rfl) hS ?_; (try simp only [Act.put, List.setIfInBounds_toArray, List.set_cons_zero, List.set_cons_succ])
        refine wpAnyD_take 1 rfl rfl (by kernel_rfl) (by kernel_rfl) (by kernel_rfl) (by kernel_rfl) (by kernel_rfl) (fun _ _ _ h => h) rfl (fun V hV => run_ldS rfl Tryd.underlying103 rfl (size_h32 h) rfl (hI.out.A.below hV).range) hS ?_; (try simp only [Act.put, List.setIfInBounds_toArray, List.set_cons_zero, List.set_cons_succ])
        refine wpAnyD_take 2 rfl rfl (by kernel_rfl) (by kernel_rfl) (by kernel_rfl) (by kernel_rfl) (by kernel_rfl) (fun _ _ _ h => h) rfl (fun V hV => run_mv (v := .slice (some _) _ _) rfl rfl) hS ?_; (try simp only [Act.put, List.setIfInBounds_toArray, List.set_cons_zero, List.set_cons_succ])
        refine wpAnyD_take 3 rfl rfl (by kernel_rfl) (by kernel_rfl) (by kernel_rfl) (by kernel_rfl) (by kernel_rfl) (fun _ _ _ h => h) rfl (fun V hV => run_mv (v := .int _ _) rfl rfl) hS ?_; (try simp only [Act.put, List.setIfInBounds_toArray, List.set_cons_zero, List.set_cons_succ])
        refine wpAnyD_take 4 rfl rfl (by kernel_rfl) (by kernel_rfl) (by kernel_rfl) (by kernel_rfl) (by kernel_rfl) (fun _ _ _ h => h) rfl (fun V hV => run_cut (l := t * 4) rfl Tryd.underlying30 (by kernel_rfl) rfl rfl (by omega)) hS ?_; (try simp only [Act.put, List.setIfInBounds_toArray, List.set_cons_zero, List.set_cons_succ])
        refine wpAnyD_call 5 (by kernel_rfl) rfl rfl rfl (run_call2 enters_word32 rfl rfl rfl rfl) (word32_any h _ (l.drop (t * 4)) _ ((HV.out.cut (by omega)).below (hI.out.bl.trans (hS.mono hI.out.bl.size))) (by rw [List.length_drop]; omega)) (fun w hb => hS.trans (hb.mono hS.size)) (fun u2 hb => ?_); replace hS := hS.trans (hb.mono hS.size); clear hb; (try simp only [Act.put, List.setIfInBounds_toArray, List.set_cons_zero, List.set_cons_succ])
        rw [← HX.out]
        generalize hx : (spread32 l).getD t 0 = x at *
        have EX := Lib.hid hx; clear hx HX
        refine wpAnyD_val 6 (by kernel_rfl) rfl rfl rfl (run_bsl (cells := #[b64 (up32 x)]) (z := .int .u64 0) rfl Tryd.underlying110 (by kernel_rfl) (by omega) (by omega) (by kernel_rfl)) (.inr (hS.alloc hS.size _)) ?_; (try simp only [Act.put, List.setIfInBounds_toArray, List.set_cons_zero, List.set_cons_succ]); replace hI := Lib.hid (hI.out.below hS); have hb2 : Below u2.heap.size u2 (u2.alloc (.cells #[b64 (up32 x)] 22)) := (Below.refl _ _).alloc (Nat.le_refl _) _; have A2 : Hid (Arr u2.heap.size ((upL32 [x]).map b64) (u2.alloc (.cells #[b64 (up32 x)] 22))) := Lib.hid (Arr.new u2 _ _); replace hI := Lib.hid (hI.out.below hb2); clear hb2 hS; generalize u2.alloc (.cells #[b64 (up32 x)] 22) = u3 at *; refine wpAnyD_app (f := b64) (fun _ => rfl) (l := upL32 ((spread32 l).take (t))) (m := upL32 [x]) (bw := 8) (z := .int .u64 0) 7 (by kernel_rfl) rfl rfl rfl rfl rfl Tryd.underlying110 (by kernel_rfl) rfl (by omega) rfl hI.out.O rfl A2.out.range (by show t + 1 ≤ _; omega) hI.out.A.lt (fun v3 u4 h3 hb3 => ?_); (try simp only [Act.put, List.setIfInBounds_toArray, List.set_cons_zero, List.set_cons_succ]); refine wpAnyD_val 8 (by kernel_rfl) rfl rfl rfl (run_asg (v := v3) rfl rfl) (.inl rfl) ?_; (try simp only [Act.put, List.setIfInBounds_toArray, List.set_cons_zero, List.set_cons_succ]); refine wpAnyL_done (by kernel_rfl) ?_ _; refine NoPanic.normal ?_; have H3 : Hid (B1I32 w h l v3 (t + 1) u4) := Lib.hid ⟨hI.out.bl.trans (hb3.mono (by omega)), arr_stands hI.out.A hb3, (by rw [take_snoc32 _ _ (by rw [hwl]; omega), EX.out]; unfold upL32 at *; rw [List.map_append]; exact h3)⟩; clear h3 hb3 A2 hI; go_wp2_with fail; go_roundw; (case rel => exact ⟨t + 1, by omega, by go_num, H3.out⟩); (case measure => simp [intOf]; omega)
      · rw [decide_eq_false (by omega)]
        obtain ⟨j, rfl⟩ : ∃ j, t = j + 16 := ⟨t - 16, by omega⟩
        have HX := Lib.hid (spread_hi32 l j (by omega))
        have HNX := Lib.hid (next_eq32 (spread32 l) j)
        obtain ⟨g, cw, rfl, hcw, hg, AW⟩ := own_arr hI.out.O (by omega)
        have HC : Hid (∀ i, i < j + 16 → ∀ V, Below wr.heap.size wr V → V.cell? ⟨g, i, none⟩ = some (b64 (up32 ((spread32 l).getD i 0)))) := Lib.hid fun i hi V hV => (AW.below hV).c i _ (upL_at32 _ _ _ hi (by rw [hwl]; omega))
        clear AW
        have HMW := Lib.hid (HM.out.below hI.out.bl)
        have hsz := hI.out.A.lt
        go_upto_region 8 with fail
        refine wp_region_noPanic ?_; refine wp_region_late (S := Till 35 (fun V => Below wr.heap.size wr V)) (by kernel_rfl) (.inr (Below.refl _ _).drew) (fun _ => ?_); have hS : Below wr.heap.size wr wr.drew := (Below.refl _ _).drew
        refine wpAnyD_take 0 rfl rfl (by kernel_rfl) (by kernel_rfl) (by kernel_rfl) (by kernel_rfl) (by kernel_rfl) (fun _ _ _ h => h) rfl (fun V hV => run_mv (v := .slice (some _) _ _) rfl rfl) hS ?_; (try simp only [Act.put, List.setIfInBounds_toArray, List.set_cons_zero, List.set_cons_succ])
        refine wpAnyD_take 1 rfl rfl (by kernel_rfl) (by kernel_rfl) (by kernel_rfl) (by kernel_rfl) (by kernel_rfl) (fun _ _ _ h => h) rfl (fun V hV => run_ldS rfl Tryd.underlying103 rfl (size_h32 h) rfl (hI.out.A.below hV).range) hS ?_; (try simp only [Act.put, List.setIfInBounds_toArray, List.set_cons_zero, List.set_cons_succ])
        refine wpAnyD_take 2 rfl rfl (by kernel_rfl) (by kernel_rfl) (by kernel_rfl) (by kernel_rfl) (by kernel_rfl) (fun _ _ _ h => h) rfl (fun V hV => run_ldS rfl Tryd.underlying103 rfl (size_h32 h) rfl (hI.out.A.below hV).range) hS ?_; (try simp only [Act.put, List.setIfInBounds_toArray, List.set_cons_zero, List.set_cons_succ])
        refine wpAnyD_take 3 rfl rfl (by kernel_rfl) (by kernel_rfl) (by kernel_rfl) (by kernel_rfl) (by kernel_rfl) (fun _ _ _ h => h) rfl (fun V hV => run_mv (v := .slice (some _) _ _) rfl rfl) hS ?_; (try simp only [Act.put, List.setIfInBounds_toArray, List.set_cons_zero, List.set_cons_succ])
        refine wpAnyD_take 4 rfl rfl (by kernel_rfl) (by kernel_rfl) (by kernel_rfl) (by kernel_rfl) (by kernel_rfl) (fun _ _ _ h => h) rfl (fun V hV => run_mv (v := .int _ _) rfl rfl) hS ?_; (try simp only [Act.put, List.setIfInBounds_toArray, List.set_cons_zero, List.set_cons_succ])
        refine wpAnyD_take 5 rfl rfl (by kernel_rfl) (by kernel_rfl) (by kernel_rfl) (by kernel_rfl) (by kernel_rfl) (fun _ _ _ h => h) rfl (fun V hV => run_sub rfl rfl rfl (by omega) (by omega)) hS ?_; (try simp only [Act.put, List.setIfInBounds_toArray, List.set_cons_zero, List.set_cons_succ])
        rw [show (((j + 16 : Nat) : Int) - 2) = ((j + 14 : Nat) : Int) by omega]
        refine wpAnyD_take 6 rfl rfl (by kernel_rfl) (by kernel_rfl) (by kernel_rfl) (by kernel_rfl) (by kernel_rfl) (fun _ _ _ h => h) rfl (fun V hV => run_ixs rfl Tryd.underlying110 (by kernel_rfl) rfl rfl (by omega)) hS ?_; (try simp only [Act.put, List.setIfInBounds_toArray, List.set_cons_zero, List.set_cons_succ])
        rw [Nat.zero_add]
        refine wpAnyD_take 7 rfl rfl (by kernel_rfl) (by kernel_rfl) (by kernel_rfl) (by kernel_rfl) (by kernel_rfl) (fun _ _ _ h => h) rfl (fun V hV => run_ld64 rfl rfl (HC.out (j + 14) (by omega) V hV)) hS ?_; (try simp only [Act.put, List.setIfInBounds_toArray, List.set_cons_zero, List.set_cons_succ])
        refine wpAnyD_take 8 rfl rfl (by kernel_rfl) (by kernel_rfl) (by kernel_rfl) (by kernel_rfl) (by kernel_rfl) (fun _ _ _ h => h) rfl (fun V hV => run_fld5 rfl rfl) hS ?_; (try simp only [Act.put, List.setIfInBounds_toArray, List.set_cons_zero, List.set_cons_succ])
        refine wpAnyD_take 9 rfl rfl (by kernel_rfl) (by kernel_rfl) (by kernel_rfl) (by kernel_rfl) (by kernel_rfl) (fun _ _ _ h => h) rfl (fun V hV => run_ldsl rfl rfl ((hI.out.A.below hV).c 5 _ rfl)) hS ?_; (try simp only [Act.put, List.setIfInBounds_toArray, List.set_cons_zero, List.set_cons_succ])
        refine wpAnyD_take 11 rfl rfl (by kernel_rfl) (by kernel_rfl) (by kernel_rfl) (by kernel_rfl) (by kernel_rfl) (fun _ _ _ h => h) rfl (fun V hV => run_mv (v := .slice (some _) _ _) rfl rfl) hS ?_; (try simp only [Act.put, List.setIfInBounds_toArray, List.set_cons_zero, List.set_cons_succ])
        refine wpAnyD_take 12 rfl rfl (by kernel_rfl) (by kernel_rfl) (by kernel_rfl) (by kernel_rfl) (by kernel_rfl) (fun _ _ _ h => h) rfl (fun V hV => run_mv (v := .int _ _) rfl rfl) hS ?_; (try simp only [Act.put, List.setIfInBounds_toArray, List.set_cons_zero, List.set_cons_succ])
        refine wpAnyD_take 13 rfl rfl (by kernel_rfl) (by kernel_rfl) (by kernel_rfl) (by kernel_rfl) (by kernel_rfl) (fun _ _ _ h => h) rfl (fun V hV => run_sub rfl rfl rfl (by omega) (by omega)) hS ?_; (try simp only [Act.put, List.setIfInBounds_toArray, List.set_cons_zero, List.set_cons_succ])
        rw [show (((j + 16 : Nat) : Int) - 7) = ((j + 9 : Nat) : Int) by omega]
        refine wpAnyD_take 14 rfl rfl (by kernel_rfl) (by kernel_rfl) (by kernel_rfl) (by kernel_rfl) (by kernel_rfl) (fun _ _ _ h => h) rfl (fun V hV => run_ixs rfl Tryd.underlying110 (by kernel_rfl) rfl rfl (by omega)) hS ?_; (try simp only [Act.put, List.setIfInBounds_toArray, List.set_cons_zero, List.set_cons_succ])
        rw [Nat.zero_add]
        refine wpAnyD_take 15 rfl rfl (by kernel_rfl) (by kernel_rfl) (by kernel_rfl) (by kernel_rfl) (by kernel_rfl) (fun _ _ _ h => h) rfl (fun V hV => run_ld64 rfl rfl (HC.out (j + 9) (by omega) V hV)) hS ?_; (try simp only [Act.put, List.setIfInBounds_toArray, List.set_cons_zero, List.set_cons_succ])
        refine wpAnyD_take 17 rfl rfl (by kernel_rfl) (by kernel_rfl) (by kernel_rfl) (by kernel_rfl) (by kernel_rfl) (fun _ _ _ h => h) rfl (fun V hV => run_ldS rfl Tryd.underlying103 rfl (size_h32 h) rfl (hI.out.A.below hV).range) hS ?_; (try simp only [Act.put, List.setIfInBounds_toArray, List.set_cons_zero, List.set_cons_succ])
        refine wpAnyD_take 18 rfl rfl (by kernel_rfl) (by kernel_rfl) (by kernel_rfl) (by kernel_rfl) (by kernel_rfl) (fun _ _ _ h => h) rfl (fun V hV => run_mv (v := .slice (some _) _ _) rfl rfl) hS ?_; (try simp only [Act.put, List.setIfInBounds_toArray, List.set_cons_zero, List.set_cons_succ])
        refine wpAnyD_take 19 rfl rfl (by kernel_rfl) (by kernel_rfl) (by kernel_rfl) (by kernel_rfl) (by kernel_rfl) (fun _ _ _ h => h) rfl (fun V hV => run_mv (v := .int _ _) rfl rfl) hS ?_; (try simp only [Act.put, List.setIfInBounds_toArray, List.set_cons_zero, List.set_cons_succ])
        refine wpAnyD_take 20 rfl rfl (by kernel_rfl) (by kernel_rfl) (by kernel_rfl) (by kernel_rfl) (by kernel_rfl) (fun _ _ _ h => h) rfl (fun V hV => run_sub rfl rfl rfl (by omega) (by omega)) hS ?_; (try simp only [Act.put, List.setIfInBounds_toArray, List.set_cons_zero, List.set_cons_succ])
        rw [show (((j + 16 : Nat) : Int) - 15) = ((j + 1 : Nat) : Int) by omega]
        refine wpAnyD_take 21 rfl rfl (by kernel_rfl) (by kernel_rfl) (by kernel_rfl) (by kernel_rfl) (by kernel_rfl) (fun _ _ _ h => h) rfl (fun V hV => run_ixs rfl Tryd.underlying110 (by kernel_rfl) rfl rfl (by omega)) hS ?_; (try simp only [Act.put, List.setIfInBounds_toArray, List.set_cons_zero, List.set_cons_succ])
        rw [Nat.zero_add]
        refine wpAnyD_take 22 rfl rfl (by kernel_rfl) (by kernel_rfl) (by kernel_rfl) (by kernel_rfl) (by kernel_rfl) (fun _ _ _ h => h) rfl (fun V hV => run_ld64 rfl rfl (HC.out (j + 1) (by omega) V hV)) hS ?_; (try simp only [Act.put, List.setIfInBounds_toArray, List.set_cons_zero, List.set_cons_succ])
        refine wpAnyD_take 23 rfl rfl (by kernel_rfl) (by kernel_rfl) (by kernel_rfl) (by kernel_rfl) (by kernel_rfl) (fun _ _ _ h => h) rfl (fun V hV => run_fld4 rfl rfl) hS ?_; (try simp only [Act.put, List.setIfInBounds_toArray, List.set_cons_zero, List.set_cons_succ])
        refine wpAnyD_take 24 rfl rfl (by kernel_rfl) (by kernel_rfl) (by kernel_rfl) (by kernel_rfl) (by kernel_rfl) (fun _ _ _ h => h) rfl (fun V hV => run_ldsl rfl rfl ((hI.out.A.below hV).c 4 _ rfl)) hS ?_; (try simp only [Act.put, List.setIfInBounds_toArray, List.set_cons_zero, List.set_cons_succ])
        refine wpAnyD_take 27 rfl rfl (by kernel_rfl) (by kernel_rfl) (by kernel_rfl) (by kernel_rfl) (by kernel_rfl) (fun _ _ _ h => h) rfl (fun V hV => run_mv (v := .slice (some _) _ _) rfl rfl) hS ?_; (try simp only [Act.put, List.setIfInBounds_toArray, List.set_cons_zero, List.set_cons_succ])
        refine wpAnyD_take 28 rfl rfl (by kernel_rfl) (by kernel_rfl) (by kernel_rfl) (by kernel_rfl) (by kernel_rfl) (fun _ _ _ h => h) rfl (fun V hV => run_mv (v := .int _ _) rfl rfl) hS ?_; (try simp only [Act.put, List.setIfInBounds_toArray, List.set_cons_zero, List.set_cons_succ])
        refine wpAnyD_take 29 rfl rfl (by kernel_rfl) (by kernel_rfl) (by kernel_rfl) (by kernel_rfl) (by kernel_rfl) (fun _ _ _ h => h) rfl (fun V hV => run_sub rfl rfl rfl (by omega) (by omega)) hS ?_; (try simp only [Act.put, List.setIfInBounds_toArray, List.set_cons_zero, List.set_cons_succ])
        rw [show (((j + 16 : Nat) : Int) - 16) = ((j : Nat) : Int) by omega]
        refine wpAnyD_take 30 rfl rfl (by kernel_rfl) (by kernel_rfl) (by kernel_rfl) (by kernel_rfl) (by kernel_rfl) (fun _ _ _ h => h) rfl (fun V hV => run_ixs rfl Tryd.underlying110 (by kernel_rfl) rfl rfl (by omega)) hS ?_; (try simp only [Act.put, List.setIfInBounds_toArray, List.set_cons_zero, List.set_cons_succ])
        rw [Nat.zero_add]
        refine wpAnyD_take 31 rfl rfl (by kernel_rfl) (by kernel_rfl) (by kernel_rfl) (by kernel_rfl) (by kernel_rfl) (fun _ _ _ h => h) rfl (fun V hV => run_ld64 rfl rfl (HC.out j (by omega) V hV)) hS ?_; (try simp only [Act.put, List.setIfInBounds_toArray, List.set_cons_zero, List.set_cons_succ])
        refine wpAnyD_call 10 (by kernel_rfl) rfl rfl rfl (run_call3 enters_small32 rfl rfl rfl rfl rfl) (small32_any h _ _ _ _ _ _ (HMW.out.below hS).ld (HMW.out.below hS).rd (by omega) (by omega) (by omega)) (fun w hb => hS.trans (hb.mono hS.size)) (fun u2 hb => ?_); replace hS := hS.trans (hb.mono hS.size); clear hb; (try simp only [Act.put, List.setIfInBounds_toArray, List.set_cons_zero, List.set_cons_succ])
        refine wpAnyD_take 16 rfl rfl (by kernel_rfl) (by kernel_rfl) (by kernel_rfl) (by kernel_rfl) (by kernel_rfl) (fun _ _ _ h => h) rfl (fun V hV => run_add64 rfl rfl rfl) hS ?_; (try simp only [Act.put, List.setIfInBounds_toArray, List.set_cons_zero, List.set_cons_succ])
        refine wpAnyD_call 25 (by kernel_rfl) rfl rfl rfl (run_call3 enters_small32 rfl rfl rfl rfl rfl) (small32_any h _ _ _ _ _ _ (HMW.out.below hS).lc (HMW.out.below hS).rc (by omega) (by omega) (by omega)) (fun w hb => hS.trans (hb.mono hS.size)) (fun u5 hb => ?_); replace hS := hS.trans (hb.mono hS.size); clear hb; (try simp only [Act.put, List.setIfInBounds_toArray, List.set_cons_zero, List.set_cons_succ])
        refine wpAnyD_take 26 rfl rfl (by kernel_rfl) (by kernel_rfl) (by kernel_rfl) (by kernel_rfl) (by kernel_rfl) (fun _ _ _ h => h) rfl (fun V hV => run_add64 rfl rfl rfl) hS ?_; (try simp only [Act.put, List.setIfInBounds_toArray, List.set_cons_zero, List.set_cons_succ])
        refine wpAnyD_take 32 rfl rfl (by kernel_rfl) (by kernel_rfl) (by kernel_rfl) (by kernel_rfl) (by kernel_rfl) (fun _ _ _ h => h) rfl (fun V hV => run_add64 rfl rfl rfl) hS ?_; (try simp only [Act.put, List.setIfInBounds_toArray, List.set_cons_zero, List.set_cons_succ])
        refine wpAnyD_call 33 (by kernel_rfl) rfl rfl rfl (run_call2 enters_cut32 rfl rfl rfl rfl) (cut32_any h (up32 (s132 ((spread32 l).getD (j + 14) 0)) + up32 ((spread32 l).getD (j + 9) 0) + up32 (s032 ((spread32 l).getD (j + 1) 0)) + up32 ((spread32 l).getD j 0)) _) (fun w hb => hS.trans (hb.mono hS.size)) (fun u6 hb => ?_); replace hS := hS.trans (hb.mono hS.size); clear hb; (try simp only [Act.put, List.setIfInBounds_toArray, List.set_cons_zero, List.set_cons_succ])
        rw [HNX.out, ← HX.out]
        clear HNX HC HMW
        generalize hx : (spread32 l).getD (j + 16) 0 = x at *
        have EX := Lib.hid hx; clear hx HX
        refine wpAnyD_val 34 (by kernel_rfl) rfl rfl rfl (run_bsl (cells := #[b64 (up32 x)]) (z := .int .u64 0) rfl Tryd.underlying110 (by kernel_rfl) (by omega) (by omega) (by kernel_rfl)) (.inr (hS.alloc hS.size _)) ?_; (try simp only [Act.put, List.setIfInBounds_toArray, List.set_cons_zero, List.set_cons_succ]); replace hI := Lib.hid (hI.out.below hS); have hb2 : Below u6.heap.size u6 (u6.alloc (.cells #[b64 (up32 x)] 22)) := (Below.refl _ _).alloc (Nat.le_refl _) _; have A2 : Hid (Arr u6.heap.size ((upL32 [x]).map b64) (u6.alloc (.cells #[b64 (up32 x)] 22))) := Lib.hid (Arr.new u6 _ _); replace hI := Lib.hid (hI.out.below hb2); clear hb2 hS; generalize u6.alloc (.cells #[b64 (up32 x)] 22) = u3 at *; refine wpAnyD_app (f := b64) (fun _ => rfl) (l := upL32 ((spread32 l).take (j + 16))) (m := upL32 [x]) (bw := 8) (z := .int .u64 0) 35 (by kernel_rfl) rfl rfl rfl rfl rfl Tryd.underlying110 (by kernel_rfl) rfl (by omega) rfl hI.out.O rfl A2.out.range (by show j + 16 + 1 ≤ _; omega) hI.out.A.lt (fun v3 u4 h3 hb3 => ?_); (try simp only [Act.put, List.setIfInBounds_toArray, List.set_cons_zero, List.set_cons_succ]); refine wpAnyD_val 36 (by kernel_rfl) rfl rfl rfl (run_asg (v := v3) rfl rfl) (.inl rfl) ?_; (try simp only [Act.put, List.setIfInBounds_toArray, List.set_cons_zero, List.set_cons_succ]); refine wpAnyL_done (by kernel_rfl) ?_ _; refine NoPanic.normal ?_; have H3 : Hid (B1I32 w h l v3 (j + 16 + 1) u4) := Lib.hid ⟨hI.out.bl.trans (hb3.mono (by omega)), arr_stands hI.out.A hb3, (by rw [take_snoc32 _ _ (by rw [hwl]; omega), EX.out]; unfold upL32 at *; rw [List.map_append]; exact h3)⟩; clear h3 hb3 A2 hI; go_wp2_with fail; go_roundw; (case rel => exact ⟨j + 16 + 1, by omega, by go_num, H3.out⟩); (case measure => simp [intOf]; omega)
theorem enters_block32 : Enters 76 := enters_of Tryd.func76 (by kernel_rfl) rfl
end Go.Proofs.YtobpgolchlgpfaaDoor
namespace Go.Proofs.YtobpgolchlgpfaaDoor
open Go.RowKit
set_option maxRecDepth 20000

theorem fill_congr32 {l l' : List (BitVec 8)} : ∀ k, (∀ j, j < k → l.getD j 0 = l'.getD j 0) → fill32 l k = fill32 l' k
  | 0, _ => rfl
  | k + 1, h => by rw [fill32, fill32, fill_congr32 k (fun j hj => h j (by omega)), h k (by omega)]
theorem spread_congr32 {l l' : List (BitVec 8)} (h : ∀ j, j < 64 → l.getD j 0 = l'.getD j 0) : spread32 l = spread32 l' := by
  unfold spread32; rw [fill_congr32 64 h]
theorem mixA_app32 : ∀ (n : Nat) (st : List (BitVec 32)) (a b : List (BitVec 8)), a.length = 64 * n → mixA32 st (a ++ b) = mixA32 (mixA32 st a) b
  | 0, st, a, b, h => by
    have : a = [] := List.eq_nil_of_length_eq_zero (by omega)
    subst this
    rw [mixA_end32 (l := []) (by simp), List.nil_append]
  | n + 1, st, a, b, h => by
    have hl : 64 ≤ a.length := by omega
    rw [← mixA_step32 (l := a ++ b) (by rw [List.length_append]; omega), ← mixA_step32 (l := a) hl, List.drop_append_of_le_length hl,
      mixA_app32 n _ _ _ (by rw [List.length_drop]; omega), spread_congr32 (l := a ++ b) (l' := a) (fun j hj => by simp only [List.getD_eq_getElem?_getD]; rw [List.getElem?_append_left (by omega)])]
theorem mixA_whole32 (st : List (BitVec 32)) (l : List (BitVec 8)) : mixA32 st (l.take (l.length - l.length % 64)) = mixA32 st l := by
  have h := mixA_app32 (l.length / 64) st (l.take (l.length - l.length % 64)) (l.drop (l.length - l.length % 64)) (by rw [List.length_take]; omega)
  rw [List.take_append_drop, mixA_end32 (l := l.drop _) (by rw [List.length_drop]; omega)] at h
  exact h.symm

def lbT32 (n : Nat) : Nat → List (BitVec 8)
  | 0 => []
  | j + 1 => lbT32 n j ++ [lbX n (8 - 1 - j)]
theorem lbT_len32 (n : Nat) : ∀ j, (lbT32 n j).length = j
  | 0 => rfl
  | j + 1 => by rw [lbT32, List.length_append, lbT_len32 n j]; rfl
theorem lbT_get32 (n : Nat) : ∀ j i, i < j → (lbT32 n j)[i]? = some (lbX n (8 - 1 - i))
  | 0, _, h => absurd h (Nat.not_lt_zero _)
  | j + 1, i, h => by
    rw [lbT32]
    by_cases hi : i < j
    · rw [List.getElem?_append_left (by rw [lbT_len32]; exact hi)]; exact lbT_get32 n j i hi
    · have : i = j := by omega
      subst this
      rw [List.getElem?_append_right (by rw [lbT_len32]; exact Nat.le_refl _), lbT_len32, Nat.sub_self]; rfl
theorem putB_app32 (X : List (BitVec 8)) (n : Nat) (hn : n < 1152921504606846976) : putB (X ++ List.replicate 8 0) n = X ++ lbT32 n 8 := by
  have hlen : (X ++ List.replicate 8 (0 : BitVec 8)).length = X.length + 8 := by rw [List.length_append, List.length_replicate]
  apply List.ext_getElem?
  intro j
  unfold putB
  rw [putR_get, List.length_set, hlen]
  by_cases hj : j < X.length
  · rw [List.getElem?_append_left (l₂ := lbT32 n 8) hj, List.getElem?_set_ne (by omega), List.getElem?_append_left hj]
    refine if_neg fun h => h.2.2 ?_
    refine Nat.div_eq_of_lt (Nat.lt_of_lt_of_le (show n / 32 < 256 ^ 7 by omega) (Nat.pow_le_pow_right (by omega) (by omega)))
  · by_cases hj2 : j < X.length + 8
    · rw [List.getElem?_append_right (l₁ := X) (l₂ := lbT32 n 8) (by omega), lbT_get32 n 8 (j - X.length) (by omega), lbX_eq n _ hn]
      by_cases hl : j = X.length + 8 - 1
      · rw [if_neg (by omega), hl, List.getElem?_set_self (by rw [hlen]; omega)]
        rw [show 8 - 1 - (X.length + 8 - 1 - X.length) = 0 by omega]; simp
      · have e : n * 8 / 256 ^ (8 - 1 - (j - X.length)) = n / 32 / 256 ^ (X.length + 8 - 1 - 1 - j) := by
          rw [show 8 - 1 - (j - X.length) = (X.length + 8 - 1 - 1 - j) + 1 by omega, Nat.pow_succ, Nat.mul_comm (256 ^ _) 256, ← Nat.div_div_eq_div_mul, show n * 8 / 256 = n / 32 by omega]
        rw [e]
        by_cases hz : n / 32 / 256 ^ (X.length + 8 - 1 - 1 - j) = 0
        · rw [if_neg (fun h => h.2.2 hz), hz, List.getElem?_set_ne (by omega), List.getElem?_append_right (by omega), List.getElem?_replicate, if_pos (by omega)]; rfl
        · rw [if_pos ⟨by omega, hj2, hz⟩]
    · rw [if_neg (by omega), List.getElem?_eq_none (by rw [List.length_set, hlen]; omega), List.getElem?_eq_none (by rw [List.length_append, lbT_len32]; omega)]
/-- So many noughts. -/
def zc32 (n : Nat) : Nat := (2 * 64 - 8 - (n + 1) % 64) % 64
def pad32 (l : List (BitVec 8)) : List (BitVec 8) := l ++ [128] ++ List.replicate (zc32 l.length) 0 ++ lbT32 l.length 8
theorem tail_eq32 (l : List (BitVec 8)) (hn : l.length < 1152921504606846976) : tail32 l = left32 l ++ [128] ++ List.replicate (zc32 l.length) 0 ++ lbT32 l.length 8 := by
  have hs := size_le32 l
  have hz : size32 l - l.length % 64 = 1 + (zc32 l.length + 8) := by unfold size32 zc32; split <;> omega
  unfold tail32
  rw [hz, show (1 + (zc32 l.length + 8)) = (zc32 l.length + 8) + 1 by omega, List.replicate_succ, List.set_append_right _ _ (by rw [left_len32]; exact Nat.le_refl _), left_len32, Nat.sub_self, List.set_cons_zero, ← List.replicate_append_replicate,
    show left32 l ++ (128 :: (List.replicate (zc32 l.length) 0 ++ List.replicate 8 0)) = (left32 l ++ [128] ++ List.replicate (zc32 l.length) 0) ++ List.replicate 8 0 by simp, putB_app32 _ _ hn]
theorem pad_mix32 (st : List (BitVec 32)) (l : List (BitVec 8)) (hn : l.length < 1152921504606846976) : mixA32 st (pad32 l) = mixA32 (mixA32 st l) (tail32 l) := by
  have e : pad32 l = l.take (l.length - l.length % 64) ++ tail32 l := by
    rw [tail_eq32 l hn]
    unfold pad32 left32
    simp only [← List.append_assoc, List.take_append_drop]
  rw [e, mixA_app32 (l.length / 64) _ _ _ (by rw [List.length_take]; omega), mixA_whole32]
end Go.Proofs.YtobpgolchlgpfaaDoor
namespace Go.Proofs.YtobpgolchlgpfaaDoor
open Go.RowKit
set_option maxRecDepth 20000

structure SuI32 (w : World) (h : G4) (v : Value) (l : List (BitVec 8)) (u : World) : Prop where
  bl : Below w.heap.size w u
  A : Arr w.heap.size (hC32 h) u
  O : u.ownsRow (w.heap.size + 1) 5 1 v l.length (l.map b8)
theorem SuI32.below {w u u' : World} {h : G4} {v : Value} {l : List (BitVec 8)} (i : SuI32 w h v l u) (hb : Below u.heap.size u u') : SuI32 w h v l u' :=
  ⟨i.bl.trans (hb.mono i.bl.size), i.A.below hb, own_below i.O hb⟩
/-- One byte more. -/
theorem SuI32.push {w u u' : World} {h : G4} {v v' : Value} {l : List (BitVec 8)} {x : BitVec 8} (i : SuI32 w h v l u) (ho : u'.ownsRow (w.heap.size + 1) 5 1 v' (l.length + [x].length) ((l ++ [x]).map b8)) (hb : Below (w.heap.size + 1) u u') : SuI32 w h v' (l ++ [x]) u' :=
  ⟨i.bl.trans (hb.mono (by omega)), arr_stands i.A hb, by rw [List.length_append]; exact ho⟩
theorem bg_up32 (k : Nat) : btab.getD k 0 >>> (64 - 32) = up32 (bg32 k) := by
  unfold up32 bg32
  generalize btab.getD k 0 = x
  apply BitVec.eq_of_toNat_eq
  rw [BitVec.toNat_setWidth, BitVec.toNat_setWidth]
  have h : (x >>> 32).toNat < 4294967296 := by
    rw [BitVec.toNat_ushiftRight, Nat.shiftRight_eq_div_pow]; have := x.isLt; omega
  show (x >>> 32).toNat = _
  generalize (x >>> 32).toNat = y at *
  omega
theorem beg_at32 (k : Nat) (h : k < 8) : (begT32 8).getD k 0 = bg32 k := by
  rcases (show k = 0 ∨ k = 1 ∨ k = 2 ∨ k = 3 ∨ k = 4 ∨ k = 5 ∨ k = 6 ∨ k = 7 by omega) with rfl | rfl | rfl | rfl | rfl | rfl | rfl | rfl <;> rfl
structure S332 (r : World) (v : Value) (k : Nat) (u : World) : Prop where
  bl : Below r.heap.size r u
  O : u.ownsRow r.heap.size 22 1 v k ((upL32 ((begT32 8).take k)).map b64)
theorem S332.below {r u u' : World} {v : Value} {k : Nat} (i : S332 r v k u) (hb : Below u.heap.size u u') : S332 r v k u' :=
  ⟨i.bl.trans (hb.mono i.bl.size), own_below i.O hb⟩
structure S432 (r : World) (g : Nat) (st : List (BitVec 32)) (u : World) : Prop where
  bl : Below r.heap.size r u
  S : Arr g ((upL32 st).map b64) u
  len : st.length = 8
theorem S432.below {r u u' : World} {g : Nat} {st : List (BitVec 32)} (i : S432 r g st u) (hb : Below u.heap.size u u') : S432 r g st u' :=
  ⟨i.bl.trans (hb.mono i.bl.size), i.S.below hb, i.len⟩
theorem pad_len32 (l : List (BitVec 8)) : (pad32 l).length % 64 = 0 ∧ (pad32 l).length ≤ l.length + 1 + 64 + 8 := by
  unfold pad32
  rw [List.length_append, List.length_append, List.length_append, List.length_replicate, lbT_len32]
  show (l.length + 1 + zc32 l.length + 8) % 64 = 0 ∧ l.length + 1 + zc32 l.length + 8 ≤ l.length + 1 + 64 + 8
  unfold zc32
  omega
theorem digT_at32 (st : List (BitVec 32)) (t : Nat) : ∀ k, k ≤ 32 → t < k → (digT32 st k).getD t 0 = digB32 st t
  | 0, _, h => absurd h (Nat.not_lt_zero _)
  | k + 1, hk, h => by
    rw [digT32, getD_set8 _ _ _ _ (by rw [digT_len32]; omega)]
    by_cases e : k = t
    · rw [if_pos e, e]
    · rw [if_neg e]; exact digT_at32 st t k (by omega) (by omega)
theorem dig_byte32 (st : List (BitVec 32)) (i m : Nat) (hi : i < 8) (hm : m < 4) : (up32 (st.getD i 0) >>> (8 * (4 - 1 - m))).setWidth 8 = (digT32 st 32).getD (i * 4 + m) 0 := by
  rw [digT_at32 st _ 32 (Nat.le_refl _) (by omega), digB32, show (i * 4 + m) / 4 = i by omega, show 4 * 8 - 8 - (i * 4 + m) % 4 * 8 = 8 * (4 - 1 - m) by omega, ← up_shr32]
  unfold up32
  exact BitVec.setWidth_setWidth_of_le _ (by omega)
theorem zc_spec32 (n k : Nat) (hk : k ≤ zc32 n) : (n + 1 + k) % 64 = 56 ↔ k = zc32 n := by unfold zc32 at *; omega
set_option maxRecDepth 100000 in
set_option maxHeartbeats 2000000 in
theorem rsum32_any (h : G4) (vb : Value) (l : List (BitVec 8)) (w : World) (hv : Sl vb l w) (hl : l.length ≤ 10000) (hM : HM32 h w) (hT : Tabs w) :
    Calls Tryd.prog 67 #[.agg (hC32 h).toArray, vb] w fun e w' => ∃ v, e = .returned v ∧ w'.ownsRow w.heap.size 5 1 v 32 ((sum32 l).map b8) ∧ Below w.heap.size w w' := by
  have HM := Lib.hid hM; clear hM
  have HT := Lib.hid hT; clear hT
  have HV := Lib.hid hv
  obtain ⟨ao, cc, rfl, hcc, h3⟩ := hv
  have hI : Hid (SuI32 w h (.slice none 0 0) [] (w.alloc (.cells (hC32 h).toArray 103))) := Lib.hid ⟨(Below.refl _ _).alloc (Nat.le_refl _) _, Arr.new w _ _, World.ownsRow_nil _ _ _ _⟩
  go_enter Tryd.func67, Tryd.ntmps67
  go_upto_region 0 with fail; refine wp_region_lit ?_
  refine wpList_val (run_box rfl rfl) rfl ?_; (try simp only [Act.put, List.setIfInBounds_toArray, List.set_cons_zero, List.set_cons_succ])
  refine wpList_val (run_asg (v := .slice _ _ _) rfl rfl) rfl ?_; (try simp only [Act.put, List.setIfInBounds_toArray, List.set_cons_zero, List.set_cons_succ])
  refine wpList_end ?_
  generalize w.alloc (.cells (hC32 h).toArray 103) = u1 at *
  go_upto_region 1 with fail; refine wp_region_lit ?_
  refine wpList_val (run_fld0 rfl rfl) rfl ?_; (try simp only [Act.put, List.setIfInBounds_toArray, List.set_cons_zero, List.set_cons_succ])
  refine wpList_val (run_ldu rfl rfl (hI.out.A.c 0 _ rfl)) rfl ?_; (try simp only [Act.put, List.setIfInBounds_toArray, List.set_cons_zero, List.set_cons_succ])
  refine wpList_val (run_cvui rfl rfl (by omega) (by omega)) rfl ?_; (try simp only [Act.put, List.setIfInBounds_toArray, List.set_cons_zero, List.set_cons_succ])
  refine wpList_val (run_mul rfl rfl rfl (by omega) (by omega)) rfl ?_; (try simp only [Act.put, List.setIfInBounds_toArray, List.set_cons_zero, List.set_cons_succ])
  rw [show ((32 : Int) * 2) = 64 from rfl]
  refine wpList_val (run_asg (v := .int _ _) rfl rfl) rfl ?_; (try simp only [Act.put, List.setIfInBounds_toArray, List.set_cons_zero, List.set_cons_succ])
  refine wpList_end ?_
  go_upto_region 2 with fail; refine wp_region_lit ?_
  refine wpList_val (run_asg (v := .slice none 0 0) rfl rfl) rfl ?_; (try simp only [Act.put, List.setIfInBounds_toArray, List.set_cons_zero, List.set_cons_succ])
  refine wpList_end ?_
  go_upto_region 3 with fail; refine wp_region_lit ?_
  refine wpList_val (run_mv (v := .slice none 0 0) rfl rfl) rfl ?_; (try simp only [Act.put, List.setIfInBounds_toArray, List.set_cons_zero, List.set_cons_succ])
  refine wpList_val (run_mv (v := .slice _ _ _) rfl rfl) rfl ?_; (try simp only [Act.put, List.setIfInBounds_toArray, List.set_cons_zero, List.set_cons_succ])
  clear h3
  refine wpList_appS (base := w.heap.size + 1) rfl rfl rfl rfl (HV.out.below hI.out.bl) (by omega) hI.out.A.lt (fun v2 u2 h3 hb3 => ?_); (try simp only [Act.put, List.setIfInBounds_toArray, List.set_cons_zero, List.set_cons_succ])
  replace hI : Hid (SuI32 w h v2 l u2) := Lib.hid ⟨hI.out.bl.trans (hb3.mono (by omega)), arr_stands hI.out.A hb3, h3⟩
  clear h3 hb3
  refine wpList_val (run_asg (v := v2) rfl rfl) rfl ?_; (try simp only [Act.put, List.setIfInBounds_toArray, List.set_cons_zero, List.set_cons_succ])
  refine wpList_end ?_
  go_upto_region 4 with fail; refine wp_region_lit ?_
  refine wpList_val (run_mv (v := v2) rfl rfl) rfl ?_; (try simp only [Act.put, List.setIfInBounds_toArray, List.set_cons_zero, List.set_cons_succ])
  refine wpList_val (run_bsl (cells := #[b8 (128#8)]) (z := .int .u8 0) rfl Tryd.underlying30 (by kernel_rfl) (by omega) (by omega) (by kernel_rfl)) rfl ?_; (try simp only [Act.put, List.setIfInBounds_toArray, List.set_cons_zero, List.set_cons_succ]); have hb2 : Below u2.heap.size u2 (u2.alloc (.cells #[b8 (128#8)] 5)) := (Below.refl _ _).alloc (Nat.le_refl _) _; have A2 : Hid (Arr u2.heap.size ([128#8].map b8) (u2.alloc (.cells #[b8 (128#8)] 5))) := Lib.hid (Arr.new u2 _ _); replace hI := Lib.hid (hI.out.below hb2); clear hb2; generalize u2.alloc (.cells #[b8 (128#8)] 5) = u0 at *; refine wpList_app (f := b8) (fun _ => rfl) (l := l) (m := [128#8]) (bw := 1) (z := .int .u8 0) rfl rfl Tryd.underlying30 (by kernel_rfl) rfl (by omega) rfl hI.out.O rfl A2.out.range (by show l.length + 1 ≤ _; omega) hI.out.A.lt (fun v3 u3 h3 hb3 => ?_); (try simp only [Act.put, List.setIfInBounds_toArray, List.set_cons_zero, List.set_cons_succ]); replace hI : Hid (SuI32 w h v3 (l ++ [128#8]) u3) := Lib.hid (hI.out.push h3 hb3); clear h3 hb3 A2; refine wpList_val (run_asg (v := v3) rfl rfl) rfl ?_; (try simp only [Act.put, List.setIfInBounds_toArray, List.set_cons_zero, List.set_cons_succ]); refine wpList_end ?_
  have hI0 : Hid (SuI32 w h v3 (l ++ [128#8] ++ List.replicate 0 0) u3) := Lib.hid (by have := hI.out; rwa [← List.append_nil (l ++ [128#8])] at this)
  clear hI
  have hz : zc32 l.length ≤ 64 := by unfold zc32; omega
  go_wp2_with fail
  go_loopw [6] (fun v6 u => ∃ k : Nat, k ≤ zc32 l.length ∧ SuI32 w h v6 (l ++ [128#8] ++ List.replicate k 0) u) (fun v6 _ => l.length + 1 + zc32 l.length - slLen v6)
  case atStart => exact ⟨0, by omega, hI0.out⟩
  case round =>
    clear hI0
    obtain ⟨k, hk, hJ⟩ := hrel
    have hI := Lib.hid hJ
    clear hJ
    have hln : (l ++ [128#8] ++ List.replicate k 0).length = l.length + 1 + k := by rw [List.length_append, List.length_append, List.length_replicate]; rfl
    generalize hL : l ++ [128#8] ++ List.replicate k 0 = L at *
    have EL := Lib.hid hL; clear hL
    obtain ⟨a6, c6, h6, -, -⟩ := Sl.own hI.out.O
    subst h6
    have hzs := zc_spec32 l.length k hk
    go_upto_region 5 with fail; refine wp_region_lit ?_
    refine wpList_val (run_mv (v := .slice _ _ _) rfl rfl) rfl ?_; (try simp only [Act.put, List.setIfInBounds_toArray, List.set_cons_zero, List.set_cons_succ])
    refine wpList_val (run_len rfl Tryd.underlying30 rfl) rfl ?_; (try simp only [Act.put, List.setIfInBounds_toArray, List.set_cons_zero, List.set_cons_succ])
    refine wpList_val (run_mv (v := .int _ _) rfl rfl) rfl ?_; (try simp only [Act.put, List.setIfInBounds_toArray, List.set_cons_zero, List.set_cons_succ])
    refine wpList_val (run_rem rfl rfl rfl (by omega) (by omega)) rfl ?_; (try simp only [Act.put, List.setIfInBounds_toArray, List.set_cons_zero, List.set_cons_succ])
    refine wpList_val (run_mv (v := .int _ _) rfl rfl) rfl ?_; (try simp only [Act.put, List.setIfInBounds_toArray, List.set_cons_zero, List.set_cons_succ]); refine wpList_val (run_mv (v := .int _ _) rfl rfl) rfl ?_; (try simp only [Act.put, List.setIfInBounds_toArray, List.set_cons_zero, List.set_cons_succ])
    refine wpList_val (run_quo rfl rfl rfl (by omega) (by omega) (by omega)) rfl ?_; (try simp only [Act.put, List.setIfInBounds_toArray, List.set_cons_zero, List.set_cons_succ])
    refine wpList_val (run_sub rfl rfl rfl (by omega) (by omega)) rfl ?_; (try simp only [Act.put, List.setIfInBounds_toArray, List.set_cons_zero, List.set_cons_succ])
    by_cases hkz : k = zc32 l.length
    · refine wpList_val (run_neqi (c := false) rfl rfl rfl (by simp; omega)) rfl ?_; (try simp only [Act.put, List.setIfInBounds_toArray, List.set_cons_zero, List.set_cons_succ])
      refine wpList_end ?_
      rw [hkz] at EL hln
      clear hkz hk hzs
      have HPAD : Hid (pad32 l = L ++ lbT32 l.length 8) := Lib.hid (by rw [← EL.out]; rfl)
      clear EL
      generalize L = P0 at *
      go_upto_region 7 with fail; refine wp_region_lit ?_
      refine wpList_val (run_mv (v := .int _ _) rfl rfl) rfl ?_; (try simp only [Act.put, List.setIfInBounds_toArray, List.set_cons_zero, List.set_cons_succ])
      refine wpList_val (run_quo rfl rfl rfl (by omega) (by omega) (by omega)) rfl ?_; (try simp only [Act.put, List.setIfInBounds_toArray, List.set_cons_zero, List.set_cons_succ])
      refine wpList_val (run_sub rfl rfl rfl (by omega) (by omega)) rfl ?_; (try simp only [Act.put, List.setIfInBounds_toArray, List.set_cons_zero, List.set_cons_succ])
      refine wpList_val (run_asg (v := .int _ _) rfl rfl) rfl ?_; (try simp only [Act.put, List.setIfInBounds_toArray, List.set_cons_zero, List.set_cons_succ])
      refine wpList_end ?_
      have hI0 : Hid (SuI32 w h (.slice a6 P0.length c6) (P0 ++ lbT32 l.length 0) wr) := Lib.hid (by rw [lbT32, List.append_nil]; exact hI.out)
      clear hI
      go_wp2_with fail
      go_loopw [6, 7] (fun v6 v7 u => ∃ j : Nat, j ≤ 8 ∧ v7 = .int .i64 ((8 : Int) - 1 - (j : Int)) ∧ SuI32 w h v6 (P0 ++ lbT32 l.length j) u) (fun _ v7 _ => (intOf v7 + 1).toNat)
      case atStart => exact ⟨0, by omega, rfl, hI0.out⟩
      case round =>
        clear hI0
        obtain ⟨j, hj, rfl, hJ⟩ := hrel
        have hI := Lib.hid hJ
        clear hJ
        have hlj : (P0 ++ lbT32 l.length j).length = l.length + 1 + zc32 l.length + j := by rw [List.length_append, lbT_len32, hln]
        by_cases hjq : j = 8
        · subst hjq
          have hk1 : ¬ ((0 : Int) ≤ (8 : Int) - 1 - ((8 : Nat) : Int)) := by omega
          rw [← HPAD.out] at hI
          clear HPAD hlj
          have hpl := pad_len32 l
          have HEND : Hid (sum32 l = digT32 (mixA32 (begT32 8) (pad32 l)) 32) := Lib.hid (by unfold sum32 endS32; rw [pad_mix32 _ _ (by omega)])
          generalize pad32 l = AL at *
          have SA := Lib.hid (Sl.own hI.out.O)
          have BA := Lib.hid (And.intro hI.out.bl hI.out.A)
          clear hI
          obtain ⟨aa, ca, h6, hca, -⟩ := SA.out
          subst h6
          go_upto_region 14 with fail
          generalize hW2 : wr = W2 at *
          clear hW2 wr
          refine wp_region_lit ?_
          refine wpList_val (run_asg (v := .slice none 0 0) rfl rfl) rfl ?_; (try simp only [Act.put, List.setIfInBounds_toArray, List.set_cons_zero, List.set_cons_succ])
          refine wpList_end ?_
          have hI : Hid (S332 W2 (.slice none 0 0) 0 W2) := Lib.hid ⟨Below.refl _ _, World.ownsRow_nil _ _ _ _⟩
          have HMW := Lib.hid (HM.out.below BA.out.1)
          go_wp2_with fail
          go_loopw [9, 10] (fun v9 v10 u => ∃ k : Nat, k ≤ 8 ∧ v10 = .int .i64 (k : Int) ∧ S332 W2 v9 k u) (fun _ v10 _ => (8 - intOf v10).toNat)
          case atStart => exact ⟨0, by omega, rfl, hI.out⟩
          case round =>
            obtain ⟨k, hk, rfl, hJ⟩ := hrel
            replace hI := Lib.hid hJ
            clear hJ
            by_cases hk8 : k = 8
            · subst hk8
              have hk2 : ¬ (((8 : Nat) : Int) < 8) := by omega
              obtain ⟨g9, c9, h9, hc9, -, AS⟩ := own_arr hI.out.O (by omega)
              subst h9
              rw [List.take_of_length_le (by rw [begT_len32]; exact Nat.le_refl _)] at AS
              have hK : Hid (S432 W2 g9 (begT32 8) wr) := Lib.hid ⟨hI.out.bl, AS, begT_len32 8⟩
              clear hI AS
              go_upto_region 19 with fail
              generalize hW3 : wr = W3 at *
              clear hW3 wr
              refine wp_region_lit ?_
              refine wpList_val (run_asg (v := .int _ _) rfl rfl) rfl ?_; (try simp only [Act.put, List.setIfInBounds_toArray, List.set_cons_zero, List.set_cons_succ])
              refine wpList_end ?_
              go_wp2_with fail
              go_loopw [9, 11] (fun v9 v11 u => ∃ (i g c : Nat) (st : List (BitVec 32)), i ≤ AL.length ∧ i % 64 = 0 ∧ v9 = .slice (some ⟨g, 0, none⟩) 8 c ∧ 8 ≤ c ∧ v11 = .int .i64 (i : Int) ∧ mixA32 st (AL.drop i) = mixA32 (begT32 8) AL ∧ S432 W2 g st u) (fun _ v11 _ => (20000 - intOf v11).toNat)
              case atStart => exact ⟨0, g9, c9, _, by omega, by omega, rfl, hc9, rfl, rfl, hK.out⟩
              case round =>
                clear hK hc9
                obtain ⟨i, g, c, st, hi, him, rfl, hc8, rfl, hmx, hJ⟩ := hrel
                have hK := Lib.hid hJ
                have HMX := Lib.hid hmx
                clear hJ hmx
                have hst := hK.out.len
                go_upto_region 20 with fail; refine wp_region_lit ?_
                refine wpList_val (run_mv (v := .int _ _) rfl rfl) rfl ?_; (try simp only [Act.put, List.setIfInBounds_toArray, List.set_cons_zero, List.set_cons_succ])
                refine wpList_val (run_mv (v := .slice _ _ _) rfl rfl) rfl ?_; (try simp only [Act.put, List.setIfInBounds_toArray, List.set_cons_zero, List.set_cons_succ])
                refine wpList_val (run_len rfl Tryd.underlying30 rfl) rfl ?_; (try simp only [Act.put, List.setIfInBounds_toArray, List.set_cons_zero, List.set_cons_succ])
                refine wpList_val (run_lss rfl rfl rfl) rfl ?_; (try simp only [Act.put, List.setIfInBounds_toArray, List.set_cons_zero, List.set_cons_succ])
                refine wpList_end ?_
                by_cases hie : i = AL.length
                · rw [decide_eq_false (show ¬ (i : Int) < (AL.length : Int) by omega)]
                  rw [hie, List.drop_length, mixA_end32 (l := []) (by simp)] at HMX
                  rw [← HMX.out] at HEND
                  clear HMX hie
                  have hdl := digT_len32 st 32
                  have HDB := Lib.hid (fun i m hi hm => dig_byte32 st i m hi hm)
                  have HU := Lib.hid hK.out.S
                  have hW := hK.out.bl
                  clear hK HM HMW HT HV SA
                  go_upto_region 23 with fail
                  generalize hW4 : wr = W4 at *
                  clear hW4 wr
                  refine wp_region_lit ?_
                  refine wpList_val (run_asg (v := .slice none 0 0) rfl rfl) rfl ?_; (try simp only [Act.put, List.setIfInBounds_toArray, List.set_cons_zero, List.set_cons_succ])
                  refine wpList_end ?_
                  generalize digT32 st 32 = DG at *
                  have h5 : Hid (S5 W4 (.slice none 0 0) (DG.take (0 * 4)) W4) := Lib.hid ⟨Below.refl _ _, by rw [Nat.zero_mul, List.take_zero]; exact World.ownsRow_nil _ _ _ _⟩
                  go_wp2_with fail
                  go_loopw [12, 13] (fun v12 v13 u => ∃ i : Nat, i ≤ 8 ∧ v13 = .int .i64 (i : Int) ∧ S5 W4 v12 (DG.take (i * 4)) u) (fun _ v13 _ => (8 - intOf v13).toNat)
                  case atStart => exact ⟨0, by omega, rfl, h5.out⟩
                  case round =>
                    clear h5
                    obtain ⟨i, hi, rfl, hJ⟩ := hrel
                    have h5 := Lib.hid hJ
                    clear hJ
                    by_cases hi8 : i = 8
                    · subst hi8
                      have hk3 : ¬ (((8 : Nat) : Int) < 8) := by omega
                      rw [List.take_of_length_le (by rw [hdl]; omega)] at h5
                      go_upto_region 31 with fail
                      refine wp_region_lit ?_
                      refine wpList_val (run_mv (v := u12) rfl rfl) rfl ?_; (try simp only [Act.put, List.setIfInBounds_toArray, List.set_cons_zero, List.set_cons_succ])
                      refine wpList_val (run_asg (v := u12) rfl rfl) rfl ?_; (try simp only [Act.put, List.setIfInBounds_toArray, List.set_cons_zero, List.set_cons_succ])
                      refine wpList_end ?_
                      go_wp2_with fail
                      have ho := h5.out.O
                      rw [hdl, ← HEND.out] at ho
                      have hb1 := BA.out.1
                      have hb2 := hW.size
                      exact bodyPost_ret (results_tmp Tryd.results67 _ _ _) rfl ⟨_, rfl, own_mono ho (Nat.le_trans hb1.size hb2), (hb1.trans (hW.mono hb1.size)).trans (h5.out.bl.mono (Nat.le_trans hb1.size hb2))⟩
                    · have hk3 : (i : Int) < 8 := by omega
                      go_upto_region 27 with fail; refine wp_region_lit ?_
                      refine wpList_val (run_fld0 rfl rfl) rfl ?_; (try simp only [Act.put, List.setIfInBounds_toArray, List.set_cons_zero, List.set_cons_succ])
                      refine wpList_val (run_ldu rfl rfl ((BA.out.2.below (hW.trans (h5.out.bl.mono hW.size))).c 0 _ rfl)) rfl ?_; (try simp only [Act.put, List.setIfInBounds_toArray, List.set_cons_zero, List.set_cons_succ])
                      refine wpList_val (run_cvui rfl rfl (by omega) (by omega)) rfl ?_; (try simp only [Act.put, List.setIfInBounds_toArray, List.set_cons_zero, List.set_cons_succ])
                      refine wpList_val (run_quo rfl rfl rfl (by omega) (by omega) (by omega)) rfl ?_; (try simp only [Act.put, List.setIfInBounds_toArray, List.set_cons_zero, List.set_cons_succ])
                      refine wpList_val (run_sub rfl rfl rfl (by omega) (by omega)) rfl ?_; (try simp only [Act.put, List.setIfInBounds_toArray, List.set_cons_zero, List.set_cons_succ])
                      refine wpList_val (run_asg (v := .int _ _) rfl rfl) rfl ?_; (try simp only [Act.put, List.setIfInBounds_toArray, List.set_cons_zero, List.set_cons_succ])
                      refine wpList_end ?_
                      go_wp2_with fail
                      go_loopw [12, 14] (fun v12 v14 u => ∃ m : Nat, m ≤ 4 ∧ v14 = .int .i64 ((4 : Int) - 1 - (m : Int)) ∧ S5 W4 v12 (DG.take (i * 4 + m)) u) (fun _ v14 _ => (intOf v14 + 1).toNat)
                      case atStart => exact ⟨0, by omega, rfl, h5.out⟩
                      case round =>
                        clear h5
                        obtain ⟨m, hm, rfl, hJ⟩ := hrel
                        have h5 := Lib.hid hJ
                        clear hJ
                        by_cases hmg : m = 4
                        · subst hmg
                          have hk4 : ¬ ((0 : Int) ≤ (4 : Int) - 1 - ((4 : Nat) : Int)) := by omega
                          go_upto_region 28 with fail; refine wp_region_lit ?_
                          refine wpList_val (run_mv (v := .int _ _) rfl rfl) rfl ?_; (try simp only [Act.put, List.setIfInBounds_toArray, List.set_cons_zero, List.set_cons_succ])
                          refine wpList_val (run_geq rfl rfl rfl) rfl ?_; (try simp only [Act.put, List.setIfInBounds_toArray, List.set_cons_zero, List.set_cons_succ])
                          refine wpList_end ?_
                          rw [decide_eq_false hk4]
                          clear hk4
                          go_upto_region 26 with fail; refine wp_region_lit ?_
                          refine wpList_val (run_mv (v := .int _ _) rfl rfl) rfl ?_; (try simp only [Act.put, List.setIfInBounds_toArray, List.set_cons_zero, List.set_cons_succ])
                          refine wpList_val (run_add rfl rfl rfl (by omega) (by omega)) rfl ?_; (try simp only [Act.put, List.setIfInBounds_toArray, List.set_cons_zero, List.set_cons_succ])
                          refine wpList_val (run_asg (v := .int _ _) rfl rfl) rfl ?_; (try simp only [Act.put, List.setIfInBounds_toArray, List.set_cons_zero, List.set_cons_succ])
                          refine wpList_end ?_
                          rw [show i * 4 + 4 = (i + 1) * 4 by omega] at h5
                          go_wp2_with fail
                          go_roundw
                          case rel => exact ⟨i + 1, by omega, by go_num, h5.out⟩
                          case measure => simp [intOf]; omega
                        · have hk4 : (0 : Int) ≤ (4 : Int) - 1 - (m : Int) := by omega
                          have HX := Lib.hid (HDB.out i m (by omega) (by omega))
                          have HLT : Hid ((DG.take (i * 4 + m)).length = i * 4 + m) := Lib.hid (by rw [List.length_take]; omega)
                          go_upto_region 28 with fail; refine wp_region_lit ?_
                          refine wpList_val (run_mv (v := .int _ _) rfl rfl) rfl ?_; (try simp only [Act.put, List.setIfInBounds_toArray, List.set_cons_zero, List.set_cons_succ])
                          refine wpList_val (run_geq rfl rfl rfl) rfl ?_; (try simp only [Act.put, List.setIfInBounds_toArray, List.set_cons_zero, List.set_cons_succ])
                          refine wpList_end ?_
                          rw [decide_eq_true hk4]
                          clear hk4
                          go_upto_region 30 with fail; refine wp_region_lit ?_
                          refine wpList_val (run_mv (v := u12) rfl rfl) rfl ?_; (try simp only [Act.put, List.setIfInBounds_toArray, List.set_cons_zero, List.set_cons_succ])
                          refine wpList_val (run_mv (v := .slice (some _) _ _) rfl rfl) rfl ?_; (try simp only [Act.put, List.setIfInBounds_toArray, List.set_cons_zero, List.set_cons_succ])
                          refine wpList_val (run_mv (v := .int _ _) rfl rfl) rfl ?_; (try simp only [Act.put, List.setIfInBounds_toArray, List.set_cons_zero, List.set_cons_succ])
                          refine wpList_val (run_ixs rfl Tryd.underlying110 (by kernel_rfl) rfl rfl (by omega)) rfl ?_; (try simp only [Act.put, List.setIfInBounds_toArray, List.set_cons_zero, List.set_cons_succ])
                          rw [Nat.zero_add i]
                          refine wpList_val (run_ld64 rfl rfl ((HU.out.below h5.out.bl).c i _ (up_at32 st i (by rw [hst]; omega)))) rfl ?_; (try simp only [Act.put, List.setIfInBounds_toArray, List.set_cons_zero, List.set_cons_succ])
                          refine wpList_val (run_mv (v := .int _ _) rfl rfl) rfl ?_; (try simp only [Act.put, List.setIfInBounds_toArray, List.set_cons_zero, List.set_cons_succ])
                          refine wpList_val (run_mul rfl rfl rfl (by omega) (by omega)) rfl ?_; (try simp only [Act.put, List.setIfInBounds_toArray, List.set_cons_zero, List.set_cons_succ])
                          rw [show ((8 : Int) * ((4 : Int) - 1 - (m : Int))) = ((8 * (4 - 1 - m) : Nat) : Int) by omega]
                          refine wpList_val (run_cvin rfl rfl (by omega)) rfl ?_; (try simp only [Act.put, List.setIfInBounds_toArray, List.set_cons_zero, List.set_cons_succ])
                          refine wpList_val (run_shr64 rfl rfl rfl (by omega)) rfl ?_; (try simp only [Act.put, List.setIfInBounds_toArray, List.set_cons_zero, List.set_cons_succ])
                          refine wpList_val (run_rem64 (b := 256) rfl rfl rfl (by decide)) rfl ?_; (try simp only [Act.put, List.setIfInBounds_toArray, List.set_cons_zero, List.set_cons_succ])
                          refine wpList_val (run_cv64_8 rfl rfl) rfl ?_; (try simp only [Act.put, List.setIfInBounds_toArray, List.set_cons_zero, List.set_cons_succ])
                          rw [mod_byte, HX.out]
                          generalize hx : DG.getD (i * 4 + m) 0 = x at *
                          have EX := Lib.hid hx; clear hx HX
                          refine wpList_val (run_bsl (cells := #[b8 x]) (z := .int .u8 0) rfl Tryd.underlying30 (by kernel_rfl) (by omega) (by omega) (by kernel_rfl)) rfl ?_; (try simp only [Act.put, List.setIfInBounds_toArray, List.set_cons_zero, List.set_cons_succ])
                          have hb2 : Below wr.heap.size wr (wr.alloc (.cells #[b8 x] 5)) := (Below.refl _ _).alloc (Nat.le_refl _) _
                          have A2 : Hid (Arr wr.heap.size ([x].map b8) (wr.alloc (.cells #[b8 x] 5))) := Lib.hid (Arr.new wr _ _)
                          replace h5 := Lib.hid (h5.out.below hb2)
                          clear hb2
                          generalize wr.alloc (.cells #[b8 x] 5) = u0 at *
                          refine wpList_app (f := b8) (fun _ => rfl) (l := DG.take (i * 4 + m)) (m := [x]) (bw := 1) (z := .int .u8 0) rfl rfl Tryd.underlying30 (by kernel_rfl) rfl (by omega) rfl h5.out.O rfl A2.out.range (by rw [HLT.out]; show i * 4 + m + 1 ≤ _; omega) h5.out.bl.size (fun v4 u4 h6 hb6 => ?_); (try simp only [Act.put, List.setIfInBounds_toArray, List.set_cons_zero, List.set_cons_succ])
                          have H6 : Hid (S5 W4 v4 (DG.take (i * 4 + (m + 1))) u4) := Lib.hid ⟨h5.out.bl.trans hb6, by rw [← Nat.add_assoc, take_snoc8 _ _ (by omega), EX.out, List.length_append]; exact h6⟩
                          clear h6 hb6 A2 h5
                          refine wpList_val (run_asg (v := v4) rfl rfl) rfl ?_; (try simp only [Act.put, List.setIfInBounds_toArray, List.set_cons_zero, List.set_cons_succ])
                          refine wpList_end ?_
                          go_upto_region 29 with fail; refine wp_region_lit ?_
                          refine wpList_val (run_mv (v := .int _ _) rfl rfl) rfl ?_; (try simp only [Act.put, List.setIfInBounds_toArray, List.set_cons_zero, List.set_cons_succ])
                          refine wpList_val (run_sub rfl rfl rfl (by omega) (by omega)) rfl ?_; (try simp only [Act.put, List.setIfInBounds_toArray, List.set_cons_zero, List.set_cons_succ])
                          refine wpList_val (run_asg (v := .int _ _) rfl rfl) rfl ?_; (try simp only [Act.put, List.setIfInBounds_toArray, List.set_cons_zero, List.set_cons_succ])
                          refine wpList_end ?_
                          go_wp2_with fail
                          go_roundw
                          case rel => exact ⟨m + 1, by omega, by go_num, H6.out⟩
                          case measure => simp [intOf]; omega
                · rw [decide_eq_true (show (i : Int) < (AL.length : Int) by omega)]
                  have hib : i + 64 ≤ AL.length := by omega
                  have HSP : Hid (spread32 ((AL.take (i + 64)).drop i) = spread32 (AL.drop i)) := Lib.hid (spread_congr32 fun j hj => by
                    simp only [List.getD_eq_getElem?_getD, List.getElem?_drop]; rw [List.getElem?_take_of_lt (by omega)])
                  have HDR : Hid (mixA32 (mix32 st (spread32 (AL.drop i))) (AL.drop (i + 64)) = mixA32 (begT32 8) AL) := Lib.hid (by
                    rw [← HMX.out, ← mixA_step32 (l := AL.drop i) (by rw [List.length_drop]; omega), List.drop_drop])
                  clear HMX
                  have hW := hK.out.bl
                  go_upto_region 22 with fail
                  refine wp_region_noPanic ?_; refine wp_region_late (S := fun _ V => Below wr.heap.size wr V) (by kernel_rfl) ((Below.refl _ _).drew) (fun hS => ?_)
                  refine wpAnyL_take 0 rfl rfl (by kernel_rfl) (by kernel_rfl) (by kernel_rfl) (fun _ _ _ h => h) rfl (fun V hV => run_ldS rfl Tryd.underlying103 rfl (size_h32 h) rfl (BA.out.2.below (hW.trans (hV.mono hW.size))).range) hS ?_; (try simp only [Act.put, List.setIfInBounds_toArray, List.set_cons_zero, List.set_cons_succ])
                  refine wpAnyL_take 1 rfl rfl (by kernel_rfl) (by kernel_rfl) (by kernel_rfl) (fun _ _ _ h => h) rfl (fun V hV => run_mv (v := .slice (some _) _ _) rfl rfl) hS ?_; (try simp only [Act.put, List.setIfInBounds_toArray, List.set_cons_zero, List.set_cons_succ])
                  refine wpAnyL_take 2 rfl rfl (by kernel_rfl) (by kernel_rfl) (by kernel_rfl) (fun _ _ _ h => h) rfl (fun V hV => run_mv (v := .slice _ _ _) rfl rfl) hS ?_; (try simp only [Act.put, List.setIfInBounds_toArray, List.set_cons_zero, List.set_cons_succ])
                  refine wpAnyL_take 3 rfl rfl (by kernel_rfl) (by kernel_rfl) (by kernel_rfl) (fun _ _ _ h => h) rfl (fun V hV => run_mv (v := .int _ _) rfl rfl) hS ?_; (try simp only [Act.put, List.setIfInBounds_toArray, List.set_cons_zero, List.set_cons_succ])
                  refine wpAnyL_take 4 rfl rfl (by kernel_rfl) (by kernel_rfl) (by kernel_rfl) (fun _ _ _ h => h) rfl (fun V hV => run_mv (v := .int _ _) rfl rfl) hS ?_; (try simp only [Act.put, List.setIfInBounds_toArray, List.set_cons_zero, List.set_cons_succ])
                  refine wpAnyL_take 5 rfl rfl (by kernel_rfl) (by kernel_rfl) (by kernel_rfl) (fun _ _ _ h => h) rfl (fun V hV => run_mv (v := .int _ _) rfl rfl) hS ?_; (try simp only [Act.put, List.setIfInBounds_toArray, List.set_cons_zero, List.set_cons_succ])
                  refine wpAnyL_take 6 rfl rfl (by kernel_rfl) (by kernel_rfl) (by kernel_rfl) (fun _ _ _ h => h) rfl (fun V hV => run_add rfl rfl rfl (by omega) (by omega)) hS ?_; (try simp only [Act.put, List.setIfInBounds_toArray, List.set_cons_zero, List.set_cons_succ])
                  rw [show ((i : Int) + 64) = ((i + 64 : Nat) : Int) by omega]
                  refine wpAnyL_take 7 rfl rfl (by kernel_rfl) (by kernel_rfl) (by kernel_rfl) (fun _ _ _ h => h) rfl (fun V hV => run_slhi rfl Tryd.underlying30 (by kernel_rfl) rfl rfl rfl (by omega) (by omega)) hS ?_; (try simp only [Act.put, List.setIfInBounds_toArray, List.set_cons_zero, List.set_cons_succ])
                  refine wpAnyL_call 8 (by kernel_rfl) rfl rfl rfl (run_call3 enters_block32 rfl rfl rfl rfl rfl) (block32_any h _ st ((AL.take (i + 64)).drop i) g c _ (hK.out.S.below hS) hst ((SA.out.part (by omega) hib).below (hW.trans (hS.mono hW.size))) (by rw [List.length_drop, List.length_take]; omega) (by rw [List.length_drop, List.length_take]; omega) (HMW.out.below (hW.trans (hS.mono hW.size)))) (fun v w h => hS.trans (h.2.mono hS.size)) (fun v8 u8 hR => ?_); (try simp only [Act.put, List.setIfInBounds_toArray, List.set_cons_zero, List.set_cons_succ])
                  obtain ⟨⟨g2, c2, h8, hc2, -, AS2⟩, hb8⟩ := hR
                  subst h8
                  replace hS := hS.trans (hb8.mono hS.size)
                  rw [HSP.out] at AS2
                  have hK2 : Hid (S432 W2 g2 (mix32 st (spread32 (AL.drop i))) u8) := Lib.hid ⟨hW.trans (hS.mono hW.size), AS2, by rw [mix_len32, hst]⟩
                  clear AS2 hb8 HSP
                  refine wpAnyL_take 9 rfl rfl (by kernel_rfl) (by kernel_rfl) (by kernel_rfl) (fun _ _ _ h => h) rfl (fun V hV => run_asg (v := .slice (some _) _ _) rfl rfl) hS ?_; (try simp only [Act.put, List.setIfInBounds_toArray, List.set_cons_zero, List.set_cons_succ])
                  refine wpAnyL_done (by kernel_rfl) ?_ _; refine NoPanic.normal ?_
                  go_upto_region 21 with fail; refine wp_region_lit ?_
                  refine wpList_val (run_mv (v := .int _ _) rfl rfl) rfl ?_; (try simp only [Act.put, List.setIfInBounds_toArray, List.set_cons_zero, List.set_cons_succ]); refine wpList_val (run_mv (v := .int _ _) rfl rfl) rfl ?_; (try simp only [Act.put, List.setIfInBounds_toArray, List.set_cons_zero, List.set_cons_succ])
                  refine wpList_val (run_add rfl rfl rfl (by omega) (by omega)) rfl ?_; (try simp only [Act.put, List.setIfInBounds_toArray, List.set_cons_zero, List.set_cons_succ])
                  rw [show ((i : Int) + 64) = ((i + 64 : Nat) : Int) by omega]
                  refine wpList_val (run_asg (v := .int _ _) rfl rfl) rfl ?_; (try simp only [Act.put, List.setIfInBounds_toArray, List.set_cons_zero, List.set_cons_succ])
                  refine wpList_end ?_
                  go_wp2_with fail
                  go_roundw
                  case rel => exact ⟨i + 64, g2, c2, _, hib, by omega, rfl, hc2, rfl, HDR.out, hK2.out⟩
                  case measure => simp [intOf]; omega
            · have hk2 : (k : Int) < 8 := by omega
              have HX : Hid (btab.getD k 0 >>> (64 - 32) = up32 ((begT32 8).getD k 0)) := Lib.hid (by rw [beg_at32 k (by omega)]; exact bg_up32 k)
              have hbl := hI.out.bl.size
              go_upto_region 18 with fail
              refine wp_region_noPanic ?_; refine wp_region_late (S := Till 8 (fun V => Below wr.heap.size wr V)) (by kernel_rfl) (.inr (Below.refl _ _).drew) (fun _ => ?_); have hS : Below wr.heap.size wr wr.drew := (Below.refl _ _).drew
              refine wpAnyD_take 0 rfl rfl (by kernel_rfl) (by kernel_rfl) (by kernel_rfl) (by kernel_rfl) (by kernel_rfl) (fun _ _ _ h => h) rfl (fun V hV => run_mv (v := u9) rfl rfl) hS ?_; (try simp only [Act.put, List.setIfInBounds_toArray, List.set_cons_zero, List.set_cons_succ])
              refine wpAnyD_take 1 rfl rfl (by kernel_rfl) (by kernel_rfl) (by kernel_rfl) (by kernel_rfl) (by kernel_rfl) (fun _ _ _ h => h) rfl (fun V hV => run_mv (v := .int _ _) rfl rfl) hS ?_; (try simp only [Act.put, List.setIfInBounds_toArray, List.set_cons_zero, List.set_cons_succ])
              refine wpAnyD_take 3 rfl rfl (by kernel_rfl) (by kernel_rfl) (by kernel_rfl) (by kernel_rfl) (by kernel_rfl) (fun _ _ _ h => h) rfl (fun V hV => run_fld0 rfl rfl) hS ?_; (try simp only [Act.put, List.setIfInBounds_toArray, List.set_cons_zero, List.set_cons_succ])
              refine wpAnyD_take 4 rfl rfl (by kernel_rfl) (by kernel_rfl) (by kernel_rfl) (by kernel_rfl) (by kernel_rfl) (fun _ _ _ h => h) rfl (fun V hV => run_ldu rfl rfl ((BA.out.2.below (hI.out.bl.trans (hV.mono hI.out.bl.size))).c 0 _ rfl)) hS ?_; (try simp only [Act.put, List.setIfInBounds_toArray, List.set_cons_zero, List.set_cons_succ])
              refine wpAnyD_take 5 rfl rfl (by kernel_rfl) (by kernel_rfl) (by kernel_rfl) (by kernel_rfl) (by kernel_rfl) (fun _ _ _ h => h) rfl (fun V hV => run_wsub64 (n := 32) rfl rfl rfl (by omega)) hS ?_; (try simp only [Act.put, List.setIfInBounds_toArray, List.set_cons_zero, List.set_cons_succ])
              refine wpAnyD_call 2 (by kernel_rfl) rfl rfl rfl (run_call1 enters_refbegin rfl rfl rfl) (refbegin_any (k : Int) _) (fun w hb => hS.trans (hb.mono hS.size)) (fun u2 hb => ?_); replace hS := hS.trans (hb.mono hS.size); clear hb; (try simp only [Act.put, List.setIfInBounds_toArray, List.set_cons_zero, List.set_cons_succ])
              rw [tabOf_at (show k < btab.length by rw [btab_len]; omega)]
              refine wpAnyD_take 6 rfl rfl (by kernel_rfl) (by kernel_rfl) (by kernel_rfl) (by kernel_rfl) (by kernel_rfl) (fun _ _ _ h => h) rfl (fun V hV => run_shr64 rfl rfl rfl (by omega)) hS ?_; (try simp only [Act.put, List.setIfInBounds_toArray, List.set_cons_zero, List.set_cons_succ])
              rw [HX.out]
              generalize hx : (begT32 8).getD k 0 = x at *
              have EX := Lib.hid hx; clear hx HX
              refine wpAnyD_val 7 (by kernel_rfl) rfl rfl rfl (run_bsl (cells := #[b64 (up32 x)]) (z := .int .u64 0) rfl Tryd.underlying110 (by kernel_rfl) (by omega) (by omega) (by kernel_rfl)) (.inr (hS.alloc hS.size _)) ?_; (try simp only [Act.put, List.setIfInBounds_toArray, List.set_cons_zero, List.set_cons_succ])
              replace hI := Lib.hid (hI.out.below hS)
              have hb2 : Below u2.heap.size u2 (u2.alloc (.cells #[b64 (up32 x)] 22)) := (Below.refl _ _).alloc (Nat.le_refl _) _
              have A2 : Hid (Arr u2.heap.size ((upL32 [x]).map b64) (u2.alloc (.cells #[b64 (up32 x)] 22))) := Lib.hid (Arr.new u2 _ _)
              replace hI := Lib.hid (hI.out.below hb2)
              clear hb2 hS
              generalize u2.alloc (.cells #[b64 (up32 x)] 22) = u3 at *
              refine wpAnyD_app (f := b64) (fun _ => rfl) (l := upL32 ((begT32 8).take k)) (m := upL32 [x]) (bw := 8) (z := .int .u64 0) 8 (by kernel_rfl) rfl rfl rfl rfl rfl Tryd.underlying110 (by kernel_rfl) rfl (by omega) rfl hI.out.O rfl A2.out.range (by show k + 1 ≤ _; omega) hI.out.bl.size (fun v3 u4 h3 hb3 => ?_); (try simp only [Act.put, List.setIfInBounds_toArray, List.set_cons_zero, List.set_cons_succ])
              refine wpAnyD_val 9 (by kernel_rfl) rfl rfl rfl (run_asg (v := v3) rfl rfl) (.inl rfl) ?_; (try simp only [Act.put, List.setIfInBounds_toArray, List.set_cons_zero, List.set_cons_succ])
              refine wpAnyL_done (by kernel_rfl) ?_ _; refine NoPanic.normal ?_
              have H3 : Hid (S332 W2 v3 (k + 1) u4) := Lib.hid ⟨hI.out.bl.trans hb3, by rw [take_snoc32 _ _ (by rw [begT_len32]; omega), EX.out]; unfold upL32 at *; rw [List.map_append]; exact h3⟩
              clear h3 hb3 A2 hI
              go_wp2_with fail
              go_roundw
              case rel => exact ⟨k + 1, by omega, by go_num, H3.out⟩
              case measure => simp [intOf]; omega
        · have hk1 : (0 : Int) ≤ (8 : Int) - 1 - (j : Int) := by omega
          go_upto_region 10 with fail; refine wp_region_lit ?_
          refine wpList_val (run_asg (v := b64 0) rfl rfl) rfl ?_; (try simp only [Act.put, List.setIfInBounds_toArray, List.set_cons_zero, List.set_cons_succ])
          refine wpList_end ?_
          go_upto_region 11 with fail; refine wp_region_lit ?_
          refine wpList_val (run_mv (v := .int _ _) rfl rfl) rfl ?_; (try simp only [Act.put, List.setIfInBounds_toArray, List.set_cons_zero, List.set_cons_succ])
          refine wpList_val (run_lss rfl rfl rfl) rfl ?_; (try simp only [Act.put, List.setIfInBounds_toArray, List.set_cons_zero, List.set_cons_succ])
          refine wpList_end ?_
          by_cases hi8 : 8 - 1 - j < 8
          · rw [decide_eq_true (show (8 : Int) - 1 - (j : Int) < 8 by omega)]
            have HLX : Hid (((BitVec.ofNat 64 l.length * 8) >>> (8 * (8 - 1 - j))).setWidth 8 = lbX l.length (8 - 1 - j)) := Lib.hid (by unfold lbX; rw [if_pos hi8])
            go_upto_region 12 with fail; refine wp_region_lit ?_
            refine wpList_val (run_mv (v := .slice _ _ _) rfl rfl) rfl ?_; (try simp only [Act.put, List.setIfInBounds_toArray, List.set_cons_zero, List.set_cons_succ])
            refine wpList_val (run_len rfl Tryd.underlying30 rfl) rfl ?_; (try simp only [Act.put, List.setIfInBounds_toArray, List.set_cons_zero, List.set_cons_succ])
            refine wpList_val (run_cviu rfl rfl) rfl ?_; (try simp only [Act.put, List.setIfInBounds_toArray, List.set_cons_zero, List.set_cons_succ])
            refine wpList_val (run_mul64 (b := 8) rfl rfl rfl) rfl ?_; (try simp only [Act.put, List.setIfInBounds_toArray, List.set_cons_zero, List.set_cons_succ])
            refine wpList_val (run_mv (v := .int _ _) rfl rfl) rfl ?_; (try simp only [Act.put, List.setIfInBounds_toArray, List.set_cons_zero, List.set_cons_succ])
            refine wpList_val (run_mul rfl rfl rfl (by omega) (by omega)) rfl ?_; (try simp only [Act.put, List.setIfInBounds_toArray, List.set_cons_zero, List.set_cons_succ])
            rw [show ((8 : Int) * ((8 : Int) - 1 - (j : Int))) = ((8 * (8 - 1 - j) : Nat) : Int) by omega]
            refine wpList_val (run_cvin rfl rfl (by omega)) rfl ?_; (try simp only [Act.put, List.setIfInBounds_toArray, List.set_cons_zero, List.set_cons_succ])
            refine wpList_val (run_shr64 rfl rfl rfl (by omega)) rfl ?_; (try simp only [Act.put, List.setIfInBounds_toArray, List.set_cons_zero, List.set_cons_succ])
            refine wpList_val (run_asg (v := b64 _) rfl rfl) rfl ?_; (try simp only [Act.put, List.setIfInBounds_toArray, List.set_cons_zero, List.set_cons_succ])
            refine wpList_end ?_
            (try go_upto_region 13 with fail); refine wp_region_lit ?_; refine wpList_val (run_mv (v := u6) rfl rfl) rfl ?_; (try simp only [Act.put, List.setIfInBounds_toArray, List.set_cons_zero, List.set_cons_succ]); refine wpList_val (run_mv (v := b64 _) rfl rfl) rfl ?_; (try simp only [Act.put, List.setIfInBounds_toArray, List.set_cons_zero, List.set_cons_succ]); refine wpList_val (run_rem64 (b := 256) rfl rfl rfl (by decide)) rfl ?_; (try simp only [Act.put, List.setIfInBounds_toArray, List.set_cons_zero, List.set_cons_succ]); refine wpList_val (run_cv64_8 rfl rfl) rfl ?_; (try simp only [Act.put, List.setIfInBounds_toArray, List.set_cons_zero, List.set_cons_succ]); rw [mod_byte, HLX.out]; generalize hx : lbX l.length (8 - 1 - j) = x at *; have EX := Lib.hid hx; clear hx HLX; refine wpList_val (run_bsl (cells := #[b8 (x)]) (z := .int .u8 0) rfl Tryd.underlying30 (by kernel_rfl) (by omega) (by omega) (by kernel_rfl)) rfl ?_; (try simp only [Act.put, List.setIfInBounds_toArray, List.set_cons_zero, List.set_cons_succ]); have hb2 : Below wr.heap.size wr (wr.alloc (.cells #[b8 (x)] 5)) := (Below.refl _ _).alloc (Nat.le_refl _) _; have A2 : Hid (Arr wr.heap.size ([x].map b8) (wr.alloc (.cells #[b8 (x)] 5))) := Lib.hid (Arr.new wr _ _); replace hI := Lib.hid (hI.out.below hb2); clear hb2; generalize wr.alloc (.cells #[b8 (x)] 5) = u0 at *; refine wpList_app (f := b8) (fun _ => rfl) (l := P0 ++ lbT32 l.length j) (m := [x]) (bw := 1) (z := .int .u8 0) rfl rfl Tryd.underlying30 (by kernel_rfl) rfl (by omega) rfl hI.out.O rfl A2.out.range (by rw [hlj]; show l.length + 1 + zc32 l.length + j + 1 ≤ _; omega) hI.out.A.lt (fun v4 u4 h3 hb3 => ?_); (try simp only [Act.put, List.setIfInBounds_toArray, List.set_cons_zero, List.set_cons_succ]); replace hI : Hid (SuI32 w h v4 (P0 ++ lbT32 l.length j ++ [x]) u4) := Lib.hid (hI.out.push h3 hb3); clear h3 hb3 A2; refine wpList_val (run_asg (v := v4) rfl rfl) rfl ?_; (try simp only [Act.put, List.setIfInBounds_toArray, List.set_cons_zero, List.set_cons_succ]); refine wpList_end ?_; have H4 : Hid (SuI32 w h v4 (P0 ++ lbT32 l.length (j + 1)) u4) := Lib.hid (by have := hI.out; rw [lbT32, EX.out, ← List.append_assoc]; exact this); clear hI; go_upto_region 9 with fail; refine wp_region_lit ?_; refine wpList_val (run_mv (v := .int _ _) rfl rfl) rfl ?_; (try simp only [Act.put, List.setIfInBounds_toArray, List.set_cons_zero, List.set_cons_succ]); refine wpList_val (run_sub rfl rfl rfl (by omega) (by omega)) rfl ?_; (try simp only [Act.put, List.setIfInBounds_toArray, List.set_cons_zero, List.set_cons_succ]); refine wpList_val (run_asg (v := .int _ _) rfl rfl) rfl ?_; (try simp only [Act.put, List.setIfInBounds_toArray, List.set_cons_zero, List.set_cons_succ]); refine wpList_end ?_; go_wp2_with fail; go_roundw; (case rel => exact ⟨j + 1, by omega, by go_num, H4.out⟩); (case measure => simp [intOf]; omega)
          · rw [decide_eq_false (show ¬ (8 : Int) - 1 - (j : Int) < 8 by omega)]
            have HLX : Hid ((0 : BitVec 64).setWidth 8 = lbX l.length (8 - 1 - j)) := Lib.hid (by unfold lbX; rw [if_neg hi8]; rfl)
            go_upto_region 13 with fail
            (try go_upto_region 13 with fail); refine wp_region_lit ?_; refine wpList_val (run_mv (v := u6) rfl rfl) rfl ?_; (try simp only [Act.put, List.setIfInBounds_toArray, List.set_cons_zero, List.set_cons_succ]); refine wpList_val (run_mv (v := b64 _) rfl rfl) rfl ?_; (try simp only [Act.put, List.setIfInBounds_toArray, List.set_cons_zero, List.set_cons_succ]); refine wpList_val (run_rem64 (b := 256) rfl rfl rfl (by decide)) rfl ?_; (try simp only [Act.put, List.setIfInBounds_toArray, List.set_cons_zero, List.set_cons_succ]); refine wpList_val (run_cv64_8 rfl rfl) rfl ?_; (try simp only [Act.put, List.setIfInBounds_toArray, List.set_cons_zero, List.set_cons_succ]); rw [mod_byte, HLX.out]; generalize hx : lbX l.length (8 - 1 - j) = x at *; have EX := Lib.hid hx; clear hx HLX; refine wpList_val (run_bsl (cells := #[b8 (x)]) (z := .int .u8 0) rfl Tryd.underlying30 (by kernel_rfl) (by omega) (by omega) (by kernel_rfl)) rfl ?_; (try simp only [Act.put, List.setIfInBounds_toArray, List.set_cons_zero, List.set_cons_succ]); have hb2 : Below wr.heap.size wr (wr.alloc (.cells #[b8 (x)] 5)) := (Below.refl _ _).alloc (Nat.le_refl _) _; have A2 : Hid (Arr wr.heap.size ([x].map b8) (wr.alloc (.cells #[b8 (x)] 5))) := Lib.hid (Arr.new wr _ _); replace hI := Lib.hid (hI.out.below hb2); clear hb2; generalize wr.alloc (.cells #[b8 (x)] 5) = u0 at *; refine wpList_app (f := b8) (fun _ => rfl) (l := P0 ++ lbT32 l.length j) (m := [x]) (bw := 1) (z := .int .u8 0) rfl rfl Tryd.underlying30 (by kernel_rfl) rfl (by omega) rfl hI.out.O rfl A2.out.range (by rw [hlj]; show l.length + 1 + zc32 l.length + j + 1 ≤ _; omega) hI.out.A.lt (fun v4 u4 h3 hb3 => ?_); (try simp only [Act.put, List.setIfInBounds_toArray, List.set_cons_zero, List.set_cons_succ]); replace hI : Hid (SuI32 w h v4 (P0 ++ lbT32 l.length j ++ [x]) u4) := Lib.hid (hI.out.push h3 hb3); clear h3 hb3 A2; refine wpList_val (run_asg (v := v4) rfl rfl) rfl ?_; (try simp only [Act.put, List.setIfInBounds_toArray, List.set_cons_zero, List.set_cons_succ]); refine wpList_end ?_; have H4 : Hid (SuI32 w h v4 (P0 ++ lbT32 l.length (j + 1)) u4) := Lib.hid (by have := hI.out; rw [lbT32, EX.out, ← List.append_assoc]; exact this); clear hI; go_upto_region 9 with fail; refine wp_region_lit ?_; refine wpList_val (run_mv (v := .int _ _) rfl rfl) rfl ?_; (try simp only [Act.put, List.setIfInBounds_toArray, List.set_cons_zero, List.set_cons_succ]); refine wpList_val (run_sub rfl rfl rfl (by omega) (by omega)) rfl ?_; (try simp only [Act.put, List.setIfInBounds_toArray, List.set_cons_zero, List.set_cons_succ]); refine wpList_val (run_asg (v := .int _ _) rfl rfl) rfl ?_; (try simp only [Act.put, List.setIfInBounds_toArray, List.set_cons_zero, List.set_cons_succ]); refine wpList_end ?_; go_wp2_with fail; go_roundw; (case rel => exact ⟨j + 1, by omega, by go_num, H4.out⟩); (case measure => simp [intOf]; omega)
    · refine wpList_val (run_neqi (c := true) rfl rfl rfl (by simp; omega)) rfl ?_; (try simp only [Act.put, List.setIfInBounds_toArray, List.set_cons_zero, List.set_cons_succ])
      refine wpList_end ?_
      go_upto_region 6 with fail; refine wp_region_lit ?_
      refine wpList_val (run_mv (v := .slice _ _ _) rfl rfl) rfl ?_; (try simp only [Act.put, List.setIfInBounds_toArray, List.set_cons_zero, List.set_cons_succ])
      refine wpList_val (run_bsl (cells := #[b8 (0#8)]) (z := .int .u8 0) rfl Tryd.underlying30 (by kernel_rfl) (by omega) (by omega) (by kernel_rfl)) rfl ?_; (try simp only [Act.put, List.setIfInBounds_toArray, List.set_cons_zero, List.set_cons_succ]); have hb2 : Below wr.heap.size wr (wr.alloc (.cells #[b8 (0#8)] 5)) := (Below.refl _ _).alloc (Nat.le_refl _) _; have A2 : Hid (Arr wr.heap.size ([0#8].map b8) (wr.alloc (.cells #[b8 (0#8)] 5))) := Lib.hid (Arr.new wr _ _); replace hI := Lib.hid (hI.out.below hb2); clear hb2; generalize wr.alloc (.cells #[b8 (0#8)] 5) = u0 at *; refine wpList_app (f := b8) (fun _ => rfl) (l := L) (m := [0#8]) (bw := 1) (z := .int .u8 0) rfl rfl Tryd.underlying30 (by kernel_rfl) rfl (by omega) rfl hI.out.O rfl A2.out.range (by show L.length + 1 ≤ _; omega) hI.out.A.lt (fun v4 u4 h3 hb3 => ?_); (try simp only [Act.put, List.setIfInBounds_toArray, List.set_cons_zero, List.set_cons_succ]); replace hI : Hid (SuI32 w h v4 (L ++ [0#8]) u4) := Lib.hid (hI.out.push h3 hb3); clear h3 hb3 A2; refine wpList_val (run_asg (v := v4) rfl rfl) rfl ?_; (try simp only [Act.put, List.setIfInBounds_toArray, List.set_cons_zero, List.set_cons_succ]); refine wpList_end ?_
      have H4 : Hid (SuI32 w h v4 (l ++ [128#8] ++ List.replicate (k + 1) 0) u4) := Lib.hid (by rw [List.replicate_succ', ← List.append_assoc, EL.out]; exact hI.out)
      clear hI
      obtain ⟨a7, c7, h7, -, -⟩ := Sl.own H4.out.O
      have hl7 : slLen v4 = l.length + 1 + (k + 1) := by rw [h7]; show (l ++ [128#8] ++ List.replicate (k + 1) 0).length = _; rw [List.length_append, List.length_append, List.length_replicate]; rfl
      clear h7
      go_wp2_with fail
      go_roundw
      case rel => exact ⟨k + 1, by omega, H4.out⟩
      case measure => simp [slLen] at hl7 ⊢; omega
end Go.Proofs.YtobpgolchlgpfaaDoor
