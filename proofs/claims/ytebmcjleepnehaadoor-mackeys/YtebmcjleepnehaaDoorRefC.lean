/- What both widths of the reference share. -/
import Derived.Test.YtebmcjleepnehaaDoorRefH
import Derived.Test.YtebmcjleepnehaaDoorShaPut
import Derived.Test.YtebmcjleepnehaaDoorLateD
import Derived.Test.YtebmcjleepnehaaDoorCpy
import Derived.Test.YtebmcjleepnehaaDoorLawByt
namespace Go.Proofs.YtebmcjleepnehaaDoor
open Go.RowKit

structure G4 where
  a : Nat
  b : Nat
  c : Nat
  d : Nat
def t3 (a b c : Nat) : List Value := [.int .u64 (a : Int), .int .u64 (b : Int), .int .u64 (c : Int)]
theorem run_cvui {w : World} {ρ : Operand → Value} {o : Oper} {x : Operand} {n : Int} (ho : o.op = .convert 51 3 x) (hx : ρ x = .int .u64 n) (h0 : 0 ≤ n) (h1 : n < 9223372036854775808) : (execOp ρ o).run Tryd.prog w = .ok (.value (.int .i64 n)) w := by
  rw [run_cv ho Tryd.underlying51 Tryd.underlying3 hx, i64_fit (by omega) (by omega)]
theorem Sl.cell {v : Value} {l : List (BitVec 8)} {u : World} (h : Sl v l u) (hn : 0 < l.length) : ∃ b f c, v = .slice (some ⟨b, f, none⟩) l.length c ∧ b < u.heap.size ∧ u.rangeAt b f (l.map b8) := by
  obtain ⟨ao, c, rfl, _, h3⟩ := h
  obtain ⟨b, f, rfl, h4, h5⟩ := h3 (by intro e; rw [e] at hn; exact absurd hn (Nat.lt_irrefl _))
  exact ⟨b, f, c, rfl, h4, h5⟩
def zeroH : List Value := [.int .u64 0, .int .i64 0, .slice none 0 0, .slice none 0 0, .slice none 0 0, .slice none 0 0]
theorem putR_get : ∀ (k : Nat) (l : List (BitVec 8)) (n j : Nat), (putR l k n)[j]? = if j < k ∧ j < l.length ∧ n / 256 ^ (k - 1 - j) ≠ 0 then some (BitVec.ofNat 8 (n / 256 ^ (k - 1 - j))) else l[j]?
  | 0, l, n, j => by rw [putR, if_neg (by omega)]
  | k + 1, l, n, j => by
    rw [putR]
    by_cases hn : n = 0
    · rw [if_pos hn, hn, if_neg (by simp)]
    · rw [if_neg hn, putR_get k, List.length_set]
      by_cases hj : j = k
      · subst hj
        rw [if_neg (by omega)]
        by_cases hl : j < l.length
        · rw [List.getElem?_set_self hl, if_pos ⟨by omega, hl, by simpa using hn⟩]; simp
        · rw [if_neg (by omega), List.getElem?_eq_none (by rw [List.length_set]; omega), List.getElem?_eq_none (by omega)]
      · rw [List.getElem?_set_ne (Ne.symm hj)]
        by_cases hjk : j < k
        · have e : n / 256 / 256 ^ (k - 1 - j) = n / 256 ^ (k + 1 - 1 - j) := by
            rw [Nat.div_div_eq_div_mul, Nat.mul_comm, ← Nat.pow_succ, show (k - 1 - j).succ = k + 1 - 1 - j by omega]
          rw [e]
          by_cases hc : j < l.length ∧ n / 256 ^ (k + 1 - 1 - j) ≠ 0
          · rw [if_pos ⟨hjk, hc⟩, if_pos ⟨by omega, hc⟩]
          · rw [if_neg (fun h => hc h.2), if_neg (fun h => hc h.2)]
        · rw [if_neg (by omega), if_neg (by omega)]
/-- A byte of how many bits there were. -/
def lbX (n i : Nat) : BitVec 8 := if i < 8 then ((BitVec.ofNat 64 n * 8) >>> (8 * i)).setWidth 8 else 0
theorem lbX_eq (n i : Nat) (hn : n < 1152921504606846976) : lbX n i = BitVec.ofNat 8 (n * 8 / 256 ^ i) := by
  unfold lbX
  apply BitVec.eq_of_toNat_eq
  by_cases hi : i < 8
  · rw [if_pos hi, BitVec.toNat_setWidth, BitVec.toNat_ushiftRight, BitVec.toNat_mul, BitVec.toNat_ofNat, BitVec.toNat_ofNat, Nat.shiftRight_eq_div_pow, show (256 : Nat) = 2 ^ 8 from rfl, ← Nat.pow_mul]
    have e : n % 2 ^ 64 * (8 : BitVec 64).toNat % 2 ^ 64 = n * 8 := by
      rw [show (8 : BitVec 64).toNat = 8 from rfl, Nat.mod_eq_of_lt (show n < 2 ^ 64 by omega), Nat.mod_eq_of_lt (by omega)]
    rw [e]
  · rw [if_neg hi, BitVec.toNat_ofNat]
    have h1 : n * 8 / 256 ^ i = 0 := by
      refine Nat.div_eq_of_lt (Nat.lt_of_lt_of_le (show n * 8 < 256 ^ 8 by omega) (Nat.pow_le_pow_right (by omega) (by omega)))
    rw [h1]; rfl
section
variable {w : World} {ρ : Operand → Value} {o : Oper} {x y : Operand} {t t' : TypeId}
theorem run_neqi {a b : Int} {c : Bool} (ho : o.op = .binOp .neq t x y t') (hx : ρ x = .int .i64 a) (hy : ρ y = .int .i64 b) (hc : (!(a == b)) = c) : (execOp ρ o).run Tryd.prog w = .ok (.value (.bool c)) w := by
  obtain ⟨dst, op, type, pos, after, guard⟩ := o
  subst ho
  go_simp
  try exact hc
theorem run_cviu {n : Nat} (ho : o.op = .convert 3 47 x) (hx : ρ x = .int .i64 (n : Int)) : (execOp ρ o).run Tryd.prog w = .ok (.value (b64 (BitVec.ofNat 64 n))) w := by
  rw [run_cv ho Tryd.underlying3 Tryd.underlying47 hx]
  have e : IntKind.u64.wrap (n : Int) = ((BitVec.ofNat 64 n).toNat : Int) := by rw [wrap64, BitVec.toNat_ofNat]; omega
  rw [e]; rfl
theorem run_cvin {n : Nat} (ho : o.op = .convert 3 51 x) (hx : ρ x = .int .i64 (n : Int)) (hn : n < 1000) : (execOp ρ o).run Tryd.prog w = .ok (.value (.int .u64 (n : Int))) w := by
  rw [run_cv ho Tryd.underlying3 Tryd.underlying51 hx]
  have e : IntKind.u64.wrap (n : Int) = (n : Int) := by rw [wrap64]; omega
  rw [e]
end
theorem app_none {w : World} {ops : Array Oper} {Q : Exit → Act → World → Prop} {rest : List Oper} {o : Oper} {a : Act} {s x : Operand} {ao : Option Addr} {c : Nat} (hg : o.guard = none) (ho : o.op = .call { callee := .builtin .append, args := #[s, x], argTypes := #[22, 22] }) (hs : a.eval s = .slice none 0 0) (hx : a.eval x = .slice ao 0 c)
    (h : wpList Tryd.prog ops Q rest (a.put o.dst (.slice none 0 0)) w) : wpList Tryd.prog ops Q (o :: rest) a w := by
  have hi : (Tryd.prog.info? 5).map (·.size) = some 1 := by kernel_rfl
  obtain ⟨inf, h1, _⟩ := Option.map_eq_some_iff.1 hi
  have hl : ∀ b : Addr, (loadCells b 0).run Tryd.prog w = .ok #[] w := fun b => by simpa using run_loadCells_list (P := Tryd.prog) w b [] (by simp)
  have hr : (Builtin.append_ #[22, 22] o.type #[.slice none 0 0, .slice ao 0 c]).run Tryd.prog w = .ok (.slice none 0 0) w := by
    cases ao <;> simp [Builtin.append_, run_underlying Tryd.underlying22, sizeOf, typeInfo, h1, Builtin.lenOf, Builtin.firstCells, hl]
  refine wpList_val (v := .slice none 0 0) (w' := w) ?_ hg h
  unfold execOp
  simp [ho, resolve, invoke, builtin, hs, hx, hr, Result.andThen]
/-- append of any bytes to nothing. -/
theorem wpList_appS {w : World} {ops : Array Oper} {Q : Exit → Act → World → Prop} {rest : List Oper} {o : Oper} {a : Act} {s x : Operand} {base : Nat} {v : Value} {l : List (BitVec 8)} (hg : o.guard = none) (ho : o.op = .call { callee := .builtin .append, args := #[s, x], argTypes := #[22, 22] }) (hs : a.eval s = .slice none 0 0) (hx : a.eval x = v) (hv : Sl v l w) (hl : l.length ≤ 16777216) (hb : base ≤ w.heap.size)
    (h : ∀ v' w', w'.ownsRow base 5 1 v' l.length (l.map b8) → Below base w w' → wpList Tryd.prog ops Q rest (a.put o.dst v') w') : wpList Tryd.prog ops Q (o :: rest) a w := by
  by_cases he : l = []
  · subst he
    obtain ⟨ao, c, rfl, _, _⟩ := hv
    exact app_none hg ho hs hx (h _ _ (World.ownsRow_nil _ _ _ _) (Below.refl _ _))
  · obtain ⟨b, f, c, rfl, _, hr⟩ := hv.cell (List.length_pos_iff.2 he)
    exact wpList_app (f := b8) (fun _ => rfl) (l := []) (m := l) (bw := 1) (z := .int .u8 0) hg ho Tryd.underlying22 (by kernel_rfl) rfl (by omega) hs (World.ownsRow_nil _ _ _ _) hx hr (by omega) hb fun v' w' h1 h2 => h v' w' (by rwa [Nat.zero_add, List.nil_append] at h1) h2
theorem mod_byte (x : BitVec 64) : (x % 256).setWidth 8 = x.setWidth 8 := by
  apply BitVec.eq_of_toNat_eq
  rw [BitVec.toNat_setWidth, BitVec.toNat_setWidth, BitVec.toNat_umod, show (256 : BitVec 64).toNat = 256 from rfl]
  exact Nat.mod_mod_of_dvd _ (by decide)
structure S5 (r : World) (v : Value) (l : List (BitVec 8)) (u : World) : Prop where
  bl : Below r.heap.size r u
  O : u.ownsRow r.heap.size 5 1 v l.length (l.map b8)
theorem S5.below {r u u' : World} {v : Value} {l : List (BitVec 8)} (i : S5 r v l u) (hb : Below u.heap.size u u') : S5 r v l u' :=
  ⟨i.bl.trans (hb.mono i.bl.size), own_below i.O hb⟩
theorem enters_rsum : Enters 31 := enters_of Tryd.func31 (by kernel_rfl) rfl
theorem run_wsub64 {w : World} {ρ : Operand → Value} {o : Oper} {t t' : TypeId} {x y : Operand} {n : Nat} (ho : o.op = .binOp .sub t x y t') (hx : ρ x = .int .u64 64) (hy : ρ y = .int .u64 (n : Int)) (hn : n ≤ 64) : (execOp ρ o).run Tryd.prog w = .ok (.value (.int .u64 ((64 - n : Nat) : Int))) w := by
  obtain ⟨dst, op, type, pos, after, guard⟩ := o
  subst ho
  have e : IntKind.u64.wrap (64 - (n : Int)) = ((64 - n : Nat) : Int) := by rw [wrap64]; omega
  generalize ((64 - n : Nat) : Int) = z at *
  go_simp
  try exact e
end Go.Proofs.YtebmcjleepnehaaDoor
