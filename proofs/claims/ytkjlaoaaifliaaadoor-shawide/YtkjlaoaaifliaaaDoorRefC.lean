/- What both widths of the reference share. -/
import Derived.Test.YtkjlaoaaifliaaaDoorRefH
import Derived.Test.YtkjlaoaaifliaaaDoorShaPut
import Derived.Test.YtkjlaoaaifliaaaDoorLateD
import Derived.Test.YtkjlaoaaifliaaaDoorLawFront
namespace Go.Proofs.YtkjlaoaaifliaaaDoor
open Go.RowKit

structure G4 where
  a : Nat
  b : Nat
  c : Nat
  d : Nat
def t3 (a b c : Nat) : List Value := [.int .u64 (a : Int), .int .u64 (b : Int), .int .u64 (c : Int)]
theorem run_cvui {w : World} {ρ : Operand → Value} {o : Oper} {x : Operand} {n : Int} (ho : o.op = .convert 46 3 x) (hx : ρ x = .int .u64 n) (h0 : 0 ≤ n) (h1 : n < 9223372036854775808) : (execOp ρ o).run Tryd.prog w = .ok (.value (.int .i64 n)) w := by
  rw [run_cv ho Tryd.underlying46 Tryd.underlying3 hx, i64_fit (by omega) (by omega)]
theorem Sl.cell {v : Value} {l : List (BitVec 8)} {u : World} (h : Sl v l u) (hn : 0 < l.length) : ∃ b f c, v = .slice (some ⟨b, f, none⟩) l.length c ∧ b < u.heap.size ∧ u.rangeAt b f (l.map b8) := by
  obtain ⟨ao, c, rfl, _, h3⟩ := h
  obtain ⟨b, f, rfl, h4, h5⟩ := h3 (by intro e; rw [e] at hn; exact absurd hn (Nat.lt_irrefl _))
  exact ⟨b, f, c, rfl, h4, h5⟩
def zeroH : List Value := [.int .u64 0, .int .i64 0, .slice none 0 0, .slice none 0 0, .slice none 0 0, .slice none 0 0]
theorem putR_get : ∀ (k : Nat) (l : List (BitVec 8)) (n j : Nat), (putR l k n)[j]? = if j < k ∧ j < l.length ∧ n / 256 ^ (k - 1 - j) ≠ 0 then some (BitVec.ofNat 8 (n / 256 ^ (k - 1 - j))) else l[j]?
  | 0, l, n, j => by rw [putR, if_neg (by omega)]
  | k + 1, l, n, j => by
    rw [putR]
    by_cases hn : n = 0
    · rw [if_pos hn, hn, if_neg (by simp)]
    · rw [if_neg hn, putR_get k, List.length_set]
      by_cases hj : j = k
      · subst hj
        rw [if_neg (by omega)]
        by_cases hl : j < l.length
        · rw [List.getElem?_set_self hl, if_pos ⟨by omega, hl, by simpa using hn⟩]; simp
        · rw [if_neg (by omega), List.getElem?_eq_none (by rw [List.length_set]; omega), List.getElem?_eq_none (by omega)]
      · rw [List.getElem?_set_ne (Ne.symm hj)]
        by_cases hjk : j < k
        · have e : n / 256 / 256 ^ (k - 1 - j) = n / 256 ^ (k + 1 - 1 - j) := by
            rw [Nat.div_div_eq_div_mul, Nat.mul_comm, ← Nat.pow_succ, show (k - 1 - j).succ = k + 1 - 1 - j by omega]
          rw [e]
          by_cases hc : j < l.length ∧ n / 256 ^ (k + 1 - 1 - j) ≠ 0
          · rw [if_pos ⟨hjk, hc⟩, if_pos ⟨by omega, hc⟩]
          · rw [if_neg (fun h => hc h.2), if_neg (fun h => hc h.2)]
        · rw [if_neg (by omega), if_neg (by omega)]
/-- A byte of how many bits there were. -/
def lbX (n i : Nat) : BitVec 8 := if i < 8 then ((BitVec.ofNat 64 n * 8) >>> (8 * i)).setWidth 8 else 0
theorem lbX_eq (n i : Nat) (hn : n < 1152921504606846976) : lbX n i = BitVec.ofNat 8 (n * 8 / 256 ^ i) := by
  unfold lbX
  apply BitVec.eq_of_toNat_eq
  by_cases hi : i < 8
  · rw [if_pos hi, BitVec.toNat_setWidth, BitVec.toNat_ushiftRight, BitVec.toNat_mul, BitVec.toNat_ofNat, BitVec.toNat_ofNat, Nat.shiftRight_eq_div_pow, show (256 : Nat) = 2 ^ 8 from rfl, ← Nat.pow_mul]
    have e : n % 2 ^ 64 * (8 : BitVec 64).toNat % 2 ^ 64 = n * 8 := by
      rw [show (8 : BitVec 64).toNat = 8 from rfl, Nat.mod_eq_of_lt (show n < 2 ^ 64 by omega), Nat.mod_eq_of_lt (by omega)]
    rw [e]
  · rw [if_neg hi, BitVec.toNat_ofNat]
    have h1 : n * 8 / 256 ^ i = 0 := by
      refine Nat.div_eq_of_lt (Nat.lt_of_lt_of_le (show n * 8 < 256 ^ 8 by omega) (Nat.pow_le_pow_right (by omega) (by omega)))
    rw [h1]; rfl
section
variable {w : World} {ρ : Operand → Value} {o : Oper} {x y : Operand} {t t' : TypeId}
theorem run_neqi {a b : Int} {c : Bool} (ho : o.op = .binOp .neq t x y t') (hx : ρ x = .int .i64 a) (hy : ρ y = .int .i64 b) (hc : (!(a == b)) = c) : (execOp ρ o).run Tryd.prog w = .ok (.value (.bool c)) w := by
  obtain ⟨dst, op, type, pos, after, guard⟩ := o
  subst ho
  go_simp
  try exact hc
theorem run_cviu {n : Nat} (ho : o.op = .convert 3 35 x) (hx : ρ x = .int .i64 (n : Int)) : (execOp ρ o).run Tryd.prog w = .ok (.value (b64 (BitVec.ofNat 64 n))) w := by
  rw [run_cv ho Tryd.underlying3 Tryd.underlying35 hx]
  have e : IntKind.u64.wrap (n : Int) = ((BitVec.ofNat 64 n).toNat : Int) := by rw [wrap64, BitVec.toNat_ofNat]; omega
  rw [e]; rfl
theorem run_cvin {n : Nat} (ho : o.op = .convert 3 46 x) (hx : ρ x = .int .i64 (n : Int)) (hn : n < 1000) : (execOp ρ o).run Tryd.prog w = .ok (.value (.int .u64 (n : Int))) w := by
  rw [run_cv ho Tryd.underlying3 Tryd.underlying46 hx]
  have e : IntKind.u64.wrap (n : Int) = (n : Int) := by rw [wrap64]; omega
  rw [e]
end
theorem app_none {w : World} {ops : Array Oper} {Q : Exit → Act → World → Prop} {rest : List Oper} {o : Oper} {a : Act} {s x : Operand} {ao : Option Addr} {c : Nat} (hg : o.guard = none) (ho : o.op = .call { callee := .builtin .append, args := #[s, x], argTypes := #[23, 23] }) (hs : a.eval s = .slice none 0 0) (hx : a.eval x = .slice ao 0 c)
    (h : wpList Tryd.prog ops Q rest (a.put o.dst (.slice none 0 0)) w) : wpList Tryd.prog ops Q (o :: rest) a w := by
  have hi : (Tryd.prog.info? 5).map (·.size) = some 1 := by kernel_rfl
  obtain ⟨inf, h1, _⟩ := Option.map_eq_some_iff.1 hi
  have hl : ∀ b : Addr, (loadCells b 0).run Tryd.prog w = .ok #[] w := fun b => by simpa using run_loadCells_list (P := Tryd.prog) w b [] (by simp)
  have hr : (Builtin.append_ #[23, 23] o.type #[.slice none 0 0, .slice ao 0 c]).run Tryd.prog w = .ok (.slice none 0 0) w := by
    cases ao <;> simp [Builtin.append_, run_underlying Tryd.underlying23, sizeOf, typeInfo, h1, Builtin.lenOf, Builtin.firstCells, hl]
  refine wpList_val (v := .slice none 0 0) (w' := w) ?_ hg h
  unfold execOp
  simp [ho, resolve, invoke, builtin, hs, hx, hr, Result.andThen]
/-- append of any bytes to nothing. -/
theorem wpList_appS {w : World} {ops : Array Oper} {Q : Exit → Act → World → Prop} {rest : List Oper} {o : Oper} {a : Act} {s x : Operand} {base : Nat} {v : Value} {l : List (BitVec 8)} (hg : o.guard = none) (ho : o.op = .call { callee := .builtin .append, args := #[s, x], argTypes := #[23, 23] }) (hs : a.eval s = .slice none 0 0) (hx : a.eval x = v) (hv : Sl v l w) (hl : l.length ≤ 16777216) (hb : base ≤ w.heap.size)
    (h : ∀ v' w', w'.ownsRow base 5 1 v' l.length (l.map b8) → Below base w w' → wpList Tryd.prog ops Q rest (a.put o.dst v') w') : wpList Tryd.prog ops Q (o :: rest) a w := by
  by_cases he : l = []
  · subst he
    obtain ⟨ao, c, rfl, _, _⟩ := hv
    exact app_none hg ho hs hx (h _ _ (World.ownsRow_nil _ _ _ _) (Below.refl _ _))
  · obtain ⟨b, f, c, rfl, _, hr⟩ := hv.cell (List.length_pos_iff.2 he)
    exact wpList_app (f := b8) (fun _ => rfl) (l := []) (m := l) (bw := 1) (z := .int .u8 0) hg ho Tryd.underlying23 (by kernel_rfl) rfl (by omega) hs (World.ownsRow_nil _ _ _ _) hx hr (by omega) hb fun v' w' h1 h2 => h v' w' (by rwa [Nat.zero_add, List.nil_append] at h1) h2
theorem run_slhi {w : World} {ρ : Operand → Value} {o : Oper} {t e : TypeId} {x y z : Operand} {ao : Option Addr} {n c lo hi : Nat} {k k' : IntKind} (ho : o.op = .slice t x (some y) (some z) none) (ht : Tryd.prog.underlying t = some (.slice e)) (hs : (Tryd.prog.info? e).map (·.size) = some 1) (hx : ρ x = .slice ao n c) (hy : ρ y = .int k (lo : Int)) (hz : ρ z = .int k' (hi : Int)) (h1 : lo ≤ hi) (h2 : hi ≤ c) : (execOp ρ o).run Tryd.prog w = .ok (.value (cutO ao hi c lo)) w := by
  have el : Tryd.prog.elem t = e := by unfold Program.elem; rw [ht]
  have ht' : Tryd.prog.underlying t = some (.slice (Tryd.prog.elem t)) := by rw [el]; exact ht
  have h3 := run_slice_lh (P := Tryd.prog) (w := w) t ao n c ht' k k' (lo : Int) (hi : Int) (by omega) (by omega) (by omega)
  obtain ⟨inf, hi1, hi2⟩ := Option.map_eq_some_iff.1 hs
  have hz' : (sizeOf e).run Tryd.prog w = .ok 1 w := by simp [sizeOf, typeInfo, go_sem, hi1, hi2]
  rw [el, hz'] at h3
  have h4 := run_sliceAt_slice (P := Tryd.prog) (w := w) t (.slice ao n c) (some (.int k (lo : Int))) (some (.int k' (hi : Int))) none ht'
  unfold execOp cutO
  simp only [ho, hx, hy, hz, Option.map_some, Option.map_none, Sem.run_bind, h4, h3]
  simp [go_sem]
theorem Sl.part {ao : Option Addr} {n c lo hi : Nat} {l : List (BitVec 8)} {u : World} (h : Sl (.slice ao n c) l u) (h1 : lo ≤ hi) (h2 : hi ≤ l.length) : Sl (cutO ao hi c lo) ((l.take hi).drop lo) u := by
  have e : (l.take hi).length = hi := by rw [List.length_take]; omega
  have h3 : Sl (.slice ao (l.take hi).length c) (l.take hi) u := by rw [e]; exact h.front h2
  have h4 := h3.cut (k := lo) (by rw [e]; exact h1)
  rwa [e] at h4
theorem own_mono {w : World} {base base' e n : Nat} {v : Value} {vs : List Value} (h : w.ownsRow base e 1 v n vs) (hb : base' ≤ base) : w.ownsRow base' e 1 v n vs := by
  refine ⟨h.1, ?_⟩
  rcases h.2 with h1 | ⟨g, cap, cur, h1, h2, h3⟩
  · exact .inl h1
  · exact .inr ⟨g, cap, cur, h1, Nat.le_trans hb h2, h3⟩
theorem getD_set8 (l : List (BitVec 8)) (i j : Nat) (v : BitVec 8) (h : i < l.length) : (l.set i v).getD j 0 = if i = j then v else l.getD j 0 := by
  simp only [List.getD_eq_getElem?_getD, List.getElem?_set]
  by_cases e : i = j
  · subst e; simp [h]
  · simp [e]
theorem take_snoc8 (l : List (BitVec 8)) (t : Nat) (h : t < l.length) : l.take (t + 1) = l.take t ++ [l.getD t 0] := by
  rw [List.take_succ_eq_append_getElem h]; simp [h]
theorem mod_byte (x : BitVec 64) : (x % 256).setWidth 8 = x.setWidth 8 := by
  apply BitVec.eq_of_toNat_eq
  rw [BitVec.toNat_setWidth, BitVec.toNat_setWidth, BitVec.toNat_umod, show (256 : BitVec 64).toNat = 256 from rfl]
  exact Nat.mod_mod_of_dvd _ (by decide)
structure S5 (r : World) (v : Value) (l : List (BitVec 8)) (u : World) : Prop where
  bl : Below r.heap.size r u
  O : u.ownsRow r.heap.size 5 1 v l.length (l.map b8)
theorem S5.below {r u u' : World} {v : Value} {l : List (BitVec 8)} (i : S5 r v l u) (hb : Below u.heap.size u u') : S5 r v l u' :=
  ⟨i.bl.trans (hb.mono i.bl.size), own_below i.O hb⟩
theorem enters_rsum : Enters 26 := enters_of Tryd.func26 (by kernel_rfl) rfl
theorem run_gtrb {w : World} {ρ : Operand → Value} {o : Oper} {t t' : TypeId} {x y : Operand} {k : IntKind} {a b : Int} {c : Bool} (ho : o.op = .binOp .gtr t x y t') (hx : ρ x = .int k a) (hy : ρ y = .int k b) (h : decide (b < a) = c) : (execOp ρ o).run Tryd.prog w = .ok (.value (.bool c)) w := by
  rw [run_gtr ho hx hy, h]
theorem wpList_callRG {ops : Array Oper} {Q : Exit → Act → World → Prop} {rest : List Oper} {o : Oper} {a : Act} {w : World} {f : FuncId} {args : Array Value} {R : Value → World → Prop} (hr : (execOp a.eval o).run Tryd.prog w = .ok (.enter f args) w) (hw : Region.wanted o (yielded ops a.tmps) = true)
    (hc : Calls Tryd.prog f args w fun e w' => ∃ v, e = .returned v ∧ R v w') (h : ∀ v w', R v w' → wpList Tryd.prog ops Q rest (a.put o.dst v) w') : wpList Tryd.prog ops Q (o :: rest) a w := by
  simp only [wpList, hw, if_true]
  refine .inl ?_
  unfold Oper.wp
  rw [hr]
  simp only [Oper.upon]
  refine hc.mono fun e w' ⟨v, he, hb⟩ => ?_
  subst he
  exact h v w' hb
theorem wpList_pass {ops : Array Oper} {Q : Exit → Act → World → Prop} {rest : List Oper} {o : Oper} {a : Act} {w : World} (hw : Region.wanted o (yielded ops a.tmps) = false) (h : wpList Tryd.prog ops Q rest (a.put o.dst undef) w) : wpList Tryd.prog ops Q (o :: rest) a w := by
  simp only [wpList, hw]
  exact h
end Go.Proofs.YtkjlaoaaifliaaaDoor
