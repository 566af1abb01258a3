import Derived.Test.YtcgbgmbnagmohaaGreatPr2
import Derived.Recover
namespace Go.Proofs.YtcgbgmbnagmohaaGreat
open Go.RowKit
set_option maxRecDepth 20000
attribute [local irreducible] wpList
theorem ta_short (t : TypeId) (w : World) : (Instr.typeAssert (.iface 197 (.agg #[])) t 197 true).run Tryz.prog w = .ok (.tuple #[.agg #[], .bool true]) w := by kernel_rfl
theorem ta_form (t : TypeId) (w : World) : (Instr.typeAssert (.iface 200 (.agg #[])) t 197 true).run Tryz.prog w = .ok (.tuple #[.agg #[], .bool false]) w := by kernel_rfl
def panR (e : Int) : PanicEntry := { v := (pan e).v, recovered := true }
def errOf (e : Int) : Int := if e = 10 then 10 else 11
def ok3 (e : Int) : Prop := e = 0 ∨ e = 10 ∨ e = 11
theorem errOf_ok {e : Int} (h : ok3 e) (h0 : e ≠ 0) : errOf e = e := by
  unfold errOf
  rcases h with h | h | h
  · exact absurd h h0
  · rw [if_pos h, h]
  · rw [if_neg (by omega), h]
theorem gnL_ok {b : List (BitVec 8)} {most : Int} : ∀ (k i n t : Nat), ok3 (gnL b most k i n t).2.1
  | 0, _, _, _ => .inr (.inr rfl)
  | k + 1, i, n, t => by
    unfold gnL
    split
    · exact .inr (.inl rfl)
    · split
      · split
        · exact .inr (.inr rfl)
        · exact .inl rfl
      · exact gnL_ok k _ _ _
theorem nM_ok {b : List (BitVec 8)} {most : Int} {s : Nat × Int} (h : ok3 s.2) : ok3 (nM b most s).1.2 := by
  unfold nM gn
  by_cases he : s.2 = 0
  · rw [if_pos he]; exact gnL_ok _ _ _ _
  · rw [if_neg he]; exact h
theorem tkE_ok {m i n : Nat} {e : Int} (h : ok3 e) : ok3 (tkE m i e n) := by
  unfold tkE
  split
  · exact .inr (.inl rfl)
  · exact h
theorem kM_ok {n : Nat} {b : List (BitVec 8)} {s : Nat × Int} (h : ok3 s.2) : ok3 (kM n b s).1.2 := tkE_ok h
theorem trM_ok {b : List (BitVec 8)} {s : Nat × Int} (h : ok3 s.2) : ok3 (trM b s).1.2 := by
  unfold trM
  split
  · split
    · exact .inr (.inr rfl)
    · exact .inl rfl
  · exact tkE_ok h
theorem byM_ok {b : List (BitVec 8)} {s : Nat × Int} (h : ok3 s.2) : ok3 (byM b s).1.2 := tkE_ok (nM_ok h)
theorem rowsM_ok {α : Type} {g : Nat × Int → (Nat × Int) × α} (hg : ∀ s, ok3 s.2 → ok3 (g s).1.2) : ∀ (k : Nat) {s : Nat × Int}, ok3 s.2 → ok3 (rowsM g k s).1.2
  | 0, _, h => h
  | k + 1, s, h => by
    unfold rowsM
    by_cases he : s.2 = 0
    · rw [if_pos he]; exact rowsM_ok hg k (hg s h)
    · rw [if_neg he]; exact h
theorem pkM_ok {b : List (BitVec 8)} {s : Nat × Int} (h : ok3 s.2) : ok3 (pkM b s).1.2 := kM_ok (nM_ok h)
theorem hdM_ok {b : List (BitVec 8)} {s : Nat × Int} (h : ok3 s.2) : ok3 (hdM b s).1.2 := nM_ok (nM_ok (kM_ok h))
theorem psM_ok {b : List (BitVec 8)} {s : Nat × Int} (h : ok3 s.2) : ok3 (psM b s).1.2 := rowsM_ok (fun _ h => pkM_ok h) _ (nM_ok h)
theorem enM_ok {b : List (BitVec 8)} {s : Nat × Int} (h : ok3 s.2) : ok3 (enM b s).1.2 := rowsM_ok (fun _ h => pkM_ok h) _ (nM_ok h)
theorem lsM_ok {b : List (BitVec 8)} {s : Nat × Int} (h : ok3 s.2) : ok3 (lsM b s).1.2 := kM_ok (enM_ok (kM_ok (nM_ok (nM_ok h))))
theorem buM_ok {b : List (BitVec 8)} {s : Nat × Int} (h : ok3 s.2) : ok3 (buM b s).1.2 := psM_ok (kM_ok (pkM_ok (kM_ok (kM_ok (nM_ok (nM_ok h))))))
theorem evM_ok {b : List (BitVec 8)} {s : Nat × Int} (h : ok3 s.2) : ok3 (evM b s).1.2 := byM_ok (hdM_ok (nM_ok (nM_ok (kM_ok (trM_ok (nM_ok (nM_ok h)))))))
theorem evsM_ok {b : List (BitVec 8)} {s : Nat × Int} (h : ok3 s.2) : ok3 (evsM b s).1.2 := rowsM_ok (fun _ h => evM_ok h) _ (nM_ok h)
theorem itM_ok {b : List (BitVec 8)} {s : Nat × Int} (h : ok3 s.2) : ok3 (itM b s).1.2 := evM_ok (nM_ok h)
theorem itsM_ok {b : List (BitVec 8)} {s : Nat × Int} (h : ok3 s.2) : ok3 (itsM b s).1.2 := rowsM_ok (fun _ h => itM_ok h) _ (nM_ok h)
theorem slM_ok {b : List (BitVec 8)} {s : Nat × Int} (h : ok3 s.2) : ok3 (slM b s).1.2 := evsM_ok (nM_ok (psM_ok (kM_ok (pkM_ok (nM_ok h)))))
theorem slsM_ok {b : List (BitVec 8)} {s : Nat × Int} (h : ok3 s.2) : ok3 (slsM b s).1.2 := rowsM_ok (fun _ h => slM_ok h) _ (nM_ok h)
theorem tkM_ok {b : List (BitVec 8)} {s : Nat × Int} (h : ok3 s.2) : ok3 (tkM b s).1.2 := rowsM_ok (fun _ h => kM_ok h) _ (nM_ok h)
theorem usM_ok {b : List (BitVec 8)} {s : Nat × Int} (h : ok3 s.2) : ok3 (usM b s).1.2 := trM_ok (nM_ok (byM_ok h))
theorem ussM_ok {b : List (BitVec 8)} {s : Nat × Int} (h : ok3 s.2) : ok3 (ussM b s).1.2 := rowsM_ok (fun _ h => usM_ok h) _ (nM_ok h)
theorem rdRqA_ok {b : List (BitVec 8)} {s : Nat × Int} (h : ok3 s.2) : ok3 (rdRqA b s).1.2 := itsM_ok (nM_ok (psM_ok (kM_ok (pkM_ok (kM_ok (lsM_ok (byM_ok (byM_ok (byM_ok (nM_ok (nM_ok (nM_ok h))))))))))))
theorem rdAcA_ok {b : List (BitVec 8)} {s : Nat × Int} (h : ok3 s.2) : ok3 (rdAcA b s).1.2 := tkM_ok (slsM_ok (lsM_ok (nM_ok (nM_ok (byM_ok (nM_ok h))))))
theorem rdRpA_ok {b : List (BitVec 8)} {s : Nat × Int} (h : ok3 s.2) : ok3 (rdRpA b s).1.2 := evsM_ok (buM_ok (lsM_ok (nM_ok h)))
section
variable {w u u' : World} {L : List (Nat × List Value)} {K : List Nat} {F H H0 : World → Prop} {p : Nat} {l : List Value}
theorem Ev.callIn (e : Ev w ((p, l) :: L) K F H u) (k : Kp p u u') (h0 : Fro u.heap.size H0 u') : Ev w L K F (fun V => H0 V ∧ H V) u' := by
  have hp := (e.mv.all (p, l) (List.mem_cons_self ..)).1
  have hnd := e.mv.nd
  rw [List.map_cons, List.nodup_cons] at hnd
  have key : ∀ B V, Ext B (K ++ L.map (·.1)) u' V → Ext B (K ++ ((p, l) :: L).map (·.1)) u V := fun B V hV =>
    ⟨Nat.le_trans k.size hV.size, fun b h1 h2 h3 => (hV.block b h1 (Nat.lt_of_lt_of_le h2 k.size) fun hm => h3 (by
      rcases List.mem_append.1 hm with h | h
      · exact List.mem_append.2 (.inl h)
      · exact List.mem_append.2 (.inr (List.mem_cons_of_mem _ h)))).trans (k.block b h2 fun he => h3 (List.mem_append.2 (.inr (by rw [List.map_cons, he]; exact List.mem_cons_self ..))))⟩
  refine ⟨⟨k.below hp e.mv.bl, hnd.2, fun q hq => ⟨(e.mv.all q (List.mem_cons_of_mem _ hq)).1, k.arr (e.mv.all q (List.mem_cons_of_mem _ hq)).2 fun he => hnd.1 (he ▸ List.mem_map.2 ⟨q, hq, rfl⟩)⟩⟩, fun b hb => Nat.lt_of_lt_of_le (e.kb b hb) k.size, fun V hV => e.fs V (key 0 V hV), fun V hV => ⟨h0 V ⟨hV.size, fun b b1 b2 _ => hV.block b (Nat.le_trans e.mv.bl.size b1) b2 fun hm => ?_⟩, e.hs V (key _ V hV)⟩⟩
  refine Nat.lt_irrefl _ (Nat.lt_of_lt_of_le (e.gs ?_) b1)
  rcases List.mem_append.1 hm with h | h
  · exact List.mem_append.2 (.inl h)
  · exact List.mem_append.2 (.inr (List.mem_cons_of_mem _ h))
end
theorem rdS_new {w a : World} {g : Nat} {ao : Option Addr} {c : Nat} {b : List (BitVec 8)} (hA : Arr g [.slice ao b.length c] a) (hb : Below w.heap.size w a) (hg : w.heap.size ≤ g) (hS : Sl (.slice ao b.length c) b w) : RdS a.heap.size g b 0 a :=
  ⟨Nat.zero_le _, hA.lt, Nat.le_refl _, ao, c, by rw [List.drop_zero]; exact hA, fun V hV => by
    rw [List.drop_zero]
    exact hS.ext ⟨Nat.le_trans hb.size hV.1, fun k _ hk _ => (hV.2 k (Nat.lt_of_lt_of_le hk hb.size) (by omega)).trans (hb.block k hk)⟩⟩
theorem qbb {fn : Func} {p q : Tmp} {t t' : TypeId} {d d' : TypeDesc} (h : fn.results = #[.cell p t, .cell q t']) {tmps : Array Value} {w : World} {g g' : Nat} {l : List Value} {v : Value} (ht : tmps.getD p undef = .pointer (some ⟨g, 0, none⟩)) (ht' : tmps.getD q undef = .pointer (some ⟨g', 0, none⟩)) (hu : Tryz.prog.underlying t = some d) (hd : d.isRow = true) (hu' : Tryz.prog.underlying t' = some d') (hd' : d'.isRow = false) (hl : (Tryz.prog.info? t).map (·.size) = some l.length) (hr : w.rangeAt g 0 l) (hc : w.cell? ⟨g', 0, none⟩ = some v) :
    (results fn tmps).run Tryz.prog w = .ok (.tuple #[.agg l.toArray, v]) w := by
  have e := run_loadVar_mid (P := Tryz.prog) w g 0 t l d hr hu hd hl
  have hagg : (isAgg t').run Tryz.prog w = .ok false w := by
    unfold isAgg
    rw [Sem.run_bind, run_underlying hu' w]
    cases d' <;> simp_all
  have e' : (loadVar t' ⟨g', 0, none⟩).run Tryz.prog w = .ok v w := by
    simp [loadVar, Sem.run_bind, hagg, go_sem, hc]
  rw [Array.getD_eq_getD_getElem?] at ht ht'
  simp only [results, h]
  simp [ht, ht', asAddr, e, e', Result.andThen]
theorem qde {fn : Func} {p q : Tmp} {t' : TypeId} {d' : TypeDesc} (h : fn.results = #[.tmp p, .cell q t']) {tmps : Array Value} {w : World} {g' : Nat} {x v : Value} (ht : tmps.getD p undef = x) (ht' : tmps.getD q undef = .pointer (some ⟨g', 0, none⟩)) (hu' : Tryz.prog.underlying t' = some d') (hd' : d'.isRow = false) (hc : w.cell? ⟨g', 0, none⟩ = some v) :
    (results fn tmps).run Tryz.prog w = .ok (.tuple #[x, v]) w := by
  have hagg : (isAgg t').run Tryz.prog w = .ok false w := by
    unfold isAgg
    rw [Sem.run_bind, run_underlying hu' w]
    cases d' <;> simp_all
  have e' : (loadVar t' ⟨g', 0, none⟩).run Tryz.prog w = .ok v w := by
    simp [loadVar, Sem.run_bind, hagg, go_sem, hc]
  rw [Array.getD_eq_getD_getElem?] at ht ht'
  simp only [results, h]
  simp [ht, ht', asAddr, e', Result.andThen]
theorem run_alc1 {w : World} {ρ : Operand → Value} {o : Oper} {t : TypeId} {v : Value} (ho : o.op = .alloc t) (hz : (Tryz.prog.info? t).map (·.zero) = some (some v)) (hv : v.cells = #[v]) : (execOp ρ o).run Tryz.prog w = .ok (.value (.pointer (some ⟨w.heap.size, 0, none⟩))) (w.alloc (.cells ([v] : List Value).toArray t)) := by
  obtain ⟨inf, h1, h2⟩ := Option.map_eq_some_iff.1 hz
  unfold execOp
  simp only [ho]
  simp [Instr.alloc, zeroValue, typeInfo, newVar, go_sem, h1, h2]
  exact congrArg (fun c => w.alloc (Obj.cells c t)) hv
theorem run_mkf {w : World} {ρ : Operand → Value} {o : Oper} {fn : Fn} {x : Operand} {v : Value} (ho : o.op = .makeFunc fn #[] #[x]) (hx : ρ x = v) : (execOp ρ o).run Tryz.prog w = .ok (.value (.func fn #[] #[v])) w := by
  obtain ⟨dst, op, type, pos, after, guard⟩ := o
  subst ho
  have hmf : ∀ (fn : Fn) (first cap : Array Value) (w : World), (Instr.makeFunc fn first cap).run Tryz.prog w = .ok (.func fn first cap) w := fun _ _ _ _ => rfl
  go_simp
theorem run_defer {w : World} {ρ : Operand → Value} {o : Oper} {x : Operand} {fn : Fn} {cap : Array Value} (ho : o.op = .defer { callee := .value x, args := #[], argTypes := #[] }) (hx : ρ x = .func fn #[] cap) : (execOp ρ o).run Tryz.prog w = .ok (.defer { target := .fn fn cap, args := #[] }) w := by
  obtain ⟨dst, op, type, pos, after, guard⟩ := o
  subst ho
  go_simp
theorem qc7 {ops : Array Oper} {Q : Exit → Act → World → Prop} {rest : List Oper} {o : Oper} {a : Act} {w : World} {d : Deferred} (hr : (execOp a.eval o).run Tryz.prog w = .ok (.defer d) w) (hg : o.guard = none) (h : wpList Tryz.prog ops Q rest ({ a with defers := d :: a.defers }.put o.dst undef) w) : wpList Tryz.prog ops Q (o :: rest) a w := by
  have hw : Region.wanted o (yielded ops a.tmps) = true := by unfold Region.wanted; rw [hg]
  simp only [wpList, hw, if_true]
  refine .inl ?_
  unfold Oper.wp
  rw [hr]
  exact h
end Go.Proofs.YtcgbgmbnagmohaaGreat
