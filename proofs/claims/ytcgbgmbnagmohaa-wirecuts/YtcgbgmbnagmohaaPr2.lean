import Derived.Test.YtcgbgmbnagmohaaPr1
import Derived.Test.YtcgbgmbnagmohaaLy
namespace Go.Proofs.Ytcgbgmbnagmohaa
open Go.RowKit
set_option maxRecDepth 20000
attribute [local irreducible] wpList
structure Rm (u : World) (B p : Nat) (b : List (BitVec 8)) (q : Nat) (L : List (Nat × List Value)) (H : World → Prop) (a : World) : Prop where
  Bu : B ≤ u.heap.size
  rd : RdS B p b q a
  ex : ∃ w, w.heap.size = u.heap.size ∧ Kp p u w ∧ Ev w L [] (fun _ => True) H a
section
variable {u a a' : World} {B p q q' : Nat} {b : List (BitVec 8)} {L : List (Nat × List Value)} {H H0 : World → Prop}
theorem Rm.start (R : RdS B p b q u) : Rm u B p b q [] (fun _ => True) u := ⟨R.Bu, R, u, rfl, Kp.refl _ _, Ev.start fun _ _ => trivial⟩
theorem Rm.le (h : Rm u B p b q L H a) : q ≤ b.length := h.rd.le
theorem Rm.kp (h : Rm u B p b q L H a) : Kp p u a := by
  obtain ⟨hB, _, w, hz, hk, E⟩ := h
  exact hk.fresh E.bl (by rw [hz]; exact Nat.le_refl _)
theorem Rm.new (h : Rm u B p b q L H a) (m : List Value) (t : TypeId) : Rm u B p b q ((a.heap.size, m) :: L) H (a.alloc (.cells m.toArray t)) := by
  obtain ⟨hB, hr, w, hz, hk, E⟩ := h
  exact ⟨hB, hr.below ((Below.refl _ _).alloc (Nat.le_refl _) _), w, hz, hk, E.new m t⟩
theorem Rm.get (h : Rm u B p b q L H a) {i g : Nat} {m : List Value} (hi : L[i]? = some (g, m)) : Arr g m a := h.ex.elim fun _ h => h.2.2.get hi
theorem Rm.put (h : Rm u B p b q L H a) (i : Nat) {g : Nat} {l m : List Value} (hi : L[i]? = some (g, l)) (hm : m.length = l.length) : Rm u B p b q (L.set i (g, m)) H (a.setCells g 0 m) := by
  obtain ⟨hB, hr, w, hz, hk, E⟩ := h
  have hg : w.heap.size ≤ g := (E.mv.all (g, l) (List.mem_of_getElem? hi)).1
  exact ⟨hB, hr.step (qa3 (by omega) m 0 (Below.refl _ a)), w, hz, hk, E.put i hi hm⟩
theorem Rm.call (h : Rm u B p b q L H a) (k : Kp p a a') (hr : RdS B p b q' a') (h0 : Fro a.heap.size H0 a') : Rm u B p b q' L (fun V => H0 V ∧ H V) a' := by
  obtain ⟨hB, hr0, w, hz, hk, E⟩ := h
  obtain ⟨w', e1, e2, E'⟩ := E.kept (by have := hr0.pB; omega) k h0
  exact ⟨hB, hr, w', e1.trans hz, hk.trans e2, E'⟩
theorem Rm.tell (h : Rm u B p b q L H a) : Fro u.heap.size H a := by
  obtain ⟨_, _, w, hz, _, E⟩ := h
  rw [← hz]
  exact E.tell
theorem Rm.panic (h : Rm u B p b q L H a) (k : Kp p a a') : Kp p u a' := h.kp.trans k
end
structure Rg (u : World) (B p : Nat) (b : List (BitVec 8)) (i : Nat) (e : TypeId) (z : Nat) (v : Value) (n : Nat) (cs : List Value) (H : World → Prop) (a : World) : Prop where
  Bu : B ≤ u.heap.size
  rd : RdS B p b i a
  ex : ∃ w, w.heap.size = u.heap.size ∧ Kp p u w ∧ Gw w [] e z v n cs (fun _ => True) H a
section
variable {u a a' : World} {B p i i' : Nat} {b : List (BitVec 8)} {e : TypeId} {z n : Nat} {v : Value} {cs : List Value} {H H0 : World → Prop}
theorem Rg.start (R : RdS B p b i u) (e : TypeId) (z : Nat) : Rg u B p b i e z (.slice none 0 0) 0 [] (fun _ => True) u := ⟨R.Bu, R, u, rfl, Kp.refl _ _, Gw.start (Ev.start fun _ _ => trivial) e z⟩
theorem Rg.kp (h : Rg u B p b i e z v n cs H a) : Kp p u a := by
  obtain ⟨hB, _, w, hz, hk, E⟩ := h
  exact hk.fresh E.bl (by rw [hz]; exact Nat.le_refl _)
theorem Rg.call (h : Rg u B p b i e z v n cs H a) (k : Kp p a a') (hr : RdS B p b i' a') (h0 : Fro a.heap.size H0 a') : Rg u B p b i' e z v n cs (fun V => H0 V ∧ H V) a' := by
  obtain ⟨hB, hr0, w, hz, hk, E⟩ := h
  obtain ⟨w', e1, e2, E'⟩ := E.kept (by have := hr0.pB; omega) k h0
  exact ⟨hB, hr, w', e1.trans hz, hk.trans e2, E'⟩
theorem Rg.below (h : Rg u B p b i e z v n cs H a) (hb : Below a.heap.size a a') : Rg u B p b i e z v n cs H a' := by
  obtain ⟨hB, hr, w, hz, hk, E⟩ := h
  exact ⟨hB, hr.below hb, w, hz, hk, E.below hb⟩
theorem Rg.know (h : Rg u B p b i e z v n cs H a) (hH : ∀ V, H V → H0 V) : Rg u B p b i e z v n cs H0 a := by
  obtain ⟨hB, hr, w, hz, hk, E⟩ := h
  exact ⟨hB, hr, w, hz, hk, E.know hH⟩
theorem Rg.tell (h : Rg u B p b i e z v n cs H a) : Fro u.heap.size (fun V => V.ownsRow u.heap.size e z v n cs ∧ H V) a := by
  obtain ⟨_, _, w, hz, _, E⟩ := h
  have := E.done.tell
  rw [hz] at this
  exact this
theorem run_growZ {w : World} {L : List (Nat × List Value)} {F : World → Prop} {o : Oper} {c : Act} {s x : Operand} {t : TypeId} {bw : Nat} {zv : Value} (ho : o.op = .call { callee := .builtin .append, args := #[s, x], argTypes := #[t, t] })
    (ht : Try.prog.underlying t = some (.slice e)) (hi : (Try.prog.info? e).map (fun i => (i.size, i.bytes, i.zero)) = some (z, bw, some zv)) (hzs : zv.cells.size = z) (hz : 0 < z)
    (hs : c.eval s = v) {g f k : Nat} {m : List Value} (hx : c.eval x = .slice (some ⟨g, f, none⟩) 1 k) (hr : a.rangeAt g f m) (hl : m.length = z) (h1 : One m)
    (hn : n < 100000) (hbw : bw ≤ 1000000) (G : Gw w L e z v n cs F H a) :
    ∃ v' a', (execOp c.eval o).run Try.prog a = .ok (.value v') a' ∧ Gw w L e z v' (n + 1) (cs ++ m) F H a' ∧ Below w.heap.size a a' := by
  obtain ⟨inf, q1, q2⟩ := Option.map_eq_some_iff.1 hi
  obtain ⟨e1, e2, e3⟩ : inf.size = z ∧ inf.bytes = bw ∧ inf.zero = some zv := by simpa using q2
  have hc : ∀ j w', m[j]? = some w' → a.cell? ((⟨g, f, none⟩ : Addr).add j) = some w' := fun j w' hw => by rw [Addr.add_mid]; exact hr j w' hw
  have hby : (n + 1) * bw ≤ 140737488355328 := Nat.le_trans (Nat.mul_le_mul (show n + 1 ≤ 100000 by omega) hbw) (by omega)
  obtain ⟨v', w', hrun, h3, h4, _⟩ := run_append_own (P := Try.prog) a w.heap.size t o.type e inf zv z bw ht q1 e3 e1 e2 hzs hz v n cs G.row ⟨g, f, none⟩ 1 k m (by rw [hl, Nat.one_mul]) hc h1 (by unfold maxLen; omega) hby G.bl.size
  have hw := append_where (P := Try.prog) w.heap.size t o.type e inf zv z bw ht q1 e3 e1 e2 hzs hz v n cs G.row ⟨g, f, none⟩ 1 k m (by rw [hl, Nat.one_mul]) hc h1 (by unfold maxLen; omega) hby (by omega) hrun
  refine ⟨v', w', ?_, G.grown h3 h4 hw, below_grown h4 (fun k hk => (qaq G.row hk).1) G.bl.size⟩
  unfold execOp
  simp [ho, resolve, invoke, builtin, hs, hx, hrun, Result.andThen]
theorem qcg {ops : Array Oper} {Q : Exit → Act → World → Prop} {rest : List Oper} {o : Oper} {c : Act} {s x : Operand} {t : TypeId} {bw : Nat} {zv : Value} (hg : o.guard = none) (ho : o.op = .call { callee := .builtin .append, args := #[s, x], argTypes := #[t, t] })
    (ht : Try.prog.underlying t = some (.slice e)) (hi : (Try.prog.info? e).map (fun i => (i.size, i.bytes, i.zero)) = some (z, bw, some zv)) (hzs : zv.cells.size = z) (hz : 0 < z)
    (hs : c.eval s = v) {g f k : Nat} {m : List Value} (hx : c.eval x = .slice (some ⟨g, f, none⟩) 1 k) (hr : a.rangeAt g f m) (hl : m.length = z) (h1 : One m)
    (hn : n < 100000) (hbw : bw ≤ 1000000) (G : Rg u B p b i e z v n cs H a)
    (h : ∀ v' a', Rg u B p b i e z v' (n + 1) (cs ++ m) H a' → wpList Try.prog ops Q rest (c.put o.dst v') a') : wpList Try.prog ops Q (o :: rest) c a := by
  obtain ⟨hB, hr0, w, hwz, hk, E⟩ := G
  obtain ⟨v', a', h2, h3, h4⟩ := run_growZ ho ht hi hzs hz hs hx hr hl h1 hn hbw E
  exact qaa h2 hg (h v' a' ⟨hB, hr0.step (h4.mono (by omega)), w, hwz, hk, h3⟩)
end
theorem qa6 {b : List (BitVec 8)} {most : Int} {i : Nat} {e : Int} (h : e ≠ 0) : (nM b most (i, e)).1 = (i, e) := by unfold nM gn; simp only [if_neg h]
theorem qb3 {n : Nat} {b : List (BitVec 8)} {i : Nat} {e : Int} (h : e ≠ 0) : (kM n b (i, e)).1 = (i, e) := by
  have e1 : tkE b.length i e n = e := by unfold tkE; rw [if_neg (fun h2 => h h2.1)]
  unfold kM tkI
  simp only [e1, if_neg h]
theorem trM_stay {b : List (BitVec 8)} {i : Nat} {e : Int} (h : e ≠ 0) : (trM b (i, e)).1 = (i, e) := by
  have e1 : tkE b.length i e 1 = e := by unfold tkE; rw [if_neg (fun h2 => h h2.1)]
  unfold trM tkI
  simp only [e1, if_neg h]
theorem qca {b : List (BitVec 8)} {i : Nat} {e : Int} (h : e ≠ 0) : (byM b (i, e)).1 = (i, e) := by
  have e0 := qa6 (b := b) (most := 60000) (i := i) h
  have e1 : ∀ n, tkE b.length i e n = e := fun n => by unfold tkE; rw [if_neg (fun h2 => h h2.1)]
  unfold byM tkI
  simp only [e0, e1, if_neg h]
theorem rows_stay {α : Type} {b : List (BitVec 8)} (g : Nat × Int → (Nat × Int) × α) {i : Nat} {e : Int} (h : e ≠ 0) : (rowsM g (nM b 60000 (i, e)).2.toNat (nM b 60000 (i, e)).1).1 = (i, e) := by
  rw [qa6 h, qbr _ _ h]
theorem pkM_stay {b : List (BitVec 8)} {i : Nat} {e : Int} (h : e ≠ 0) : (pkM b (i, e)).1 = (i, e) := by
  show (kM 32 b (nM b 1099511627776 (i, e)).1).1 = _
  rw [qa6 h, qb3 h]
theorem hdM_stay {b : List (BitVec 8)} {i : Nat} {e : Int} (h : e ≠ 0) : (hdM b (i, e)).1 = (i, e) := by
  show (nM b 1099511627776 (nM b 1099511627776 (kM 32 b (i, e)).1).1).1 = _
  rw [qb3 h, qa6 h, qa6 h]
theorem psM_stay {b : List (BitVec 8)} {i : Nat} {e : Int} (h : e ≠ 0) : (psM b (i, e)).1 = (i, e) := rows_stay _ h
theorem enM_stay {b : List (BitVec 8)} {i : Nat} {e : Int} (h : e ≠ 0) : (enM b (i, e)).1 = (i, e) := rows_stay _ h
theorem lsM_stay {b : List (BitVec 8)} {i : Nat} {e : Int} (h : e ≠ 0) : (lsM b (i, e)).1 = (i, e) := by
  show (kM 64 b (enM b (kM 32 b (nM b 1099511627776 (nM b 1099511627776 (i, e)).1).1).1).1).1 = _
  rw [qa6 h, qa6 h, qb3 h, enM_stay h, qb3 h]
theorem evM_stay {b : List (BitVec 8)} {i : Nat} {e : Int} (h : e ≠ 0) : (evM b (i, e)).1 = (i, e) := by
  show (byM b (hdM b (nM b 1099511627776 (nM b 1099511627776 (kM 32 b (trM b (nM b 1099511627776 (nM b 1099511627776 (i, e)).1).1).1).1).1).1).1).1 = _
  rw [qa6 h, qa6 h, trM_stay h, qb3 h, qa6 h, qa6 h, hdM_stay h, qca h]
theorem evsM_stay {b : List (BitVec 8)} {i : Nat} {e : Int} (h : e ≠ 0) : (evsM b (i, e)).1 = (i, e) := rows_stay _ h
theorem itsM_stay {b : List (BitVec 8)} {i : Nat} {e : Int} (h : e ≠ 0) : (itsM b (i, e)).1 = (i, e) := rows_stay _ h
theorem slsM_stay {b : List (BitVec 8)} {i : Nat} {e : Int} (h : e ≠ 0) : (slsM b (i, e)).1 = (i, e) := rows_stay _ h
theorem tkM_stay {b : List (BitVec 8)} {i : Nat} {e : Int} (h : e ≠ 0) : (tkM b (i, e)).1 = (i, e) := rows_stay _ h
theorem gnL_upto {b : List (BitVec 8)} {most : Int} (hm : most ≤ 1099511627776) : ∀ (k i n t : Nat), gnL b most k i n t = if (gnL b 1099511627776 k i n t).2.1 = 0 ∧ most < (gnL b 1099511627776 k i n t).2.2 then ((gnL b 1099511627776 k i n t).1, 11, 0) else gnL b 1099511627776 k i n t
  | 0, i, n, t => by unfold gnL; rw [if_neg (fun h => nz11 h.1)]
  | k + 1, i, n, t => by
    unfold gnL
    by_cases h1 : b.length ≤ i
    · simp only [if_pos h1]; rw [if_neg (fun h => nz10 h.1)]
    · simp only [if_neg h1]
      by_cases h2 : (b.getD i 0).toNat < 128
      · simp only [if_pos h2]
        generalize n + (b.getD i 0).toNat % 128 * t = N
        by_cases h3 : (b.getD i 0).toNat = 0 ∧ k < 5
        · have a1 : ((b.getD i 0).toNat = 0 ∧ k < 5) ∨ most < (N : Int) := .inl h3
          have a2 : ((b.getD i 0).toNat = 0 ∧ k < 5) ∨ (1099511627776 : Int) < (N : Int) := .inl h3
          simp only [if_pos a1, if_pos a2]
          rw [if_neg (fun h => nz11 h.1)]
        · by_cases h4 : (1099511627776 : Int) < (N : Int)
          · have a1 : ((b.getD i 0).toNat = 0 ∧ k < 5) ∨ most < (N : Int) := .inr (by omega)
            have a2 : ((b.getD i 0).toNat = 0 ∧ k < 5) ∨ (1099511627776 : Int) < (N : Int) := .inr h4
            simp only [if_pos a1, if_pos a2]
            rw [if_neg (fun h => nz11 h.1)]
          · have a2 : ¬ (((b.getD i 0).toNat = 0 ∧ k < 5) ∨ (1099511627776 : Int) < (N : Int)) := fun h => h.elim h3 h4
            simp only [if_neg a2]
            by_cases h5 : most < (N : Int)
            · have a1 : ((b.getD i 0).toNat = 0 ∧ k < 5) ∨ most < (N : Int) := .inr h5
              simp only [if_pos a1]
              rw [if_pos ⟨trivial, h5⟩]
            · have a1 : ¬ (((b.getD i 0).toNat = 0 ∧ k < 5) ∨ most < (N : Int)) := fun h => h.elim h3 h5
              simp only [if_neg a1]
              rw [if_neg (fun h => h5 h.2)]
      · simp only [if_neg h2]
        exact gnL_upto hm k _ _ _
theorem nM_upto {b : List (BitVec 8)} {most : Int} (hm : most ≤ 1099511627776) {i i0 : Nat} {e0 N : Int} (h : nM b 1099511627776 (i, 0) = ((i0, e0), N)) : nM b most (i, 0) = if e0 = 0 ∧ most < N then ((i0, 11), 0) else ((i0, e0), N) := by
  have h2 := gnL_upto (b := b) hm 6 i 0 1
  simp only [nM, gn, if_pos, Prod.mk.injEq] at h ⊢
  obtain ⟨⟨h3, h4⟩, h5⟩ := h
  rw [h2, h3, h4, h5]
  split <;> simp [*]
theorem tk_nx {b : List (BitVec 8)} {i n : Nat} (hi : i ≤ b.length) : (tkI b.length i 0 n, tkE b.length i 0 n) = nxM b n i := by
  have e1 : tkE b.length i 0 n = if b.length - i < n then 10 else 0 := by
    unfold tkE
    by_cases h : b.length - i < n
    · rw [if_pos h, if_pos ⟨rfl, by omega⟩]
    · rw [if_neg h, if_neg (fun h3 => h (by omega))]
  unfold tkI nxM
  rw [e1]
  by_cases h : b.length - i < n
  · simp only [if_pos h, if_neg nz10]
  · simp only [if_neg h, if_pos]
end Go.Proofs.Ytcgbgmbnagmohaa
namespace Go.Proofs.Ytcgbgmbnagmohaa
open Go.RowKit
set_option maxRecDepth 20000
attribute [local irreducible] wpList
theorem run_s2aR {w : World} {ρ : Operand → Value} {o : Oper} {t e : TypeId} {x : Operand} {n len c : Nat} {a : Option Addr} (ho : o.op = .sliceToArrayPointer t x) (ht : Try.prog.underlying t = some (.array n e)) (hx : ρ x = .slice a len c) (hn : n ≤ len) : (execOp ρ o).run Try.prog w = .ok (.value (.pointer a)) w := by
  unfold execOp
  simp only [ho, hx, Sem.run_bind, run_arrayAt (P := Try.prog) (w := w) t e n a len c ht hn]
  simp [go_sem]
theorem enters_rnup : Enters 107 := qak Try.func107 (by kernel_rfl) rfl
set_option maxHeartbeats 8000000 in
theorem rnup_any (B p : Nat) (b : List (BitVec 8)) (i i' : Nat) (e' : Int) (x most : Int) (hm : most ≤ 1099511627776) (u : World) (H : nM b most (i, 0) = ((i', e'), x)) (R : RdS B p b i u) : Calls Try.prog 107 #[.pointer (some ⟨p, 0, none⟩), .int .i64 most] u (RPost B p b u (i', e') fun v _ => v = .int .i64 x) := by
  rcases HN : nM b 1099511627776 (i, 0) with ⟨⟨i0, e0⟩, N⟩
  have HU := nM_upto hm HN
  rw [H] at HU
  have HH := Lib.hid HU
  have HR := Lib.hid R
  clear H HU R
  go_enter Try.func107, Try.ntmps107
  go_upto_region 0 with fail; refine wp_region_lit ?_
  refine qaa (qai (v := .int .i64 0) rfl rfl) rfl ?_; (try simp only [Act.put, lyy])
  refine qab ?_
  go_upto_region 1 with fail; refine wp_region_lit ?_
  refine qaa (qad (v := .pointer (some ⟨p, 0, none⟩)) rfl rfl) rfl ?_; (try simp only [Act.put, lyy])
  refine qag (qal qa7 rfl rfl rfl) rfl (qbq B p b i i0 e0 N _ HN HR.out) (fun v a1 hs hk hr hT => ?_) (fun a1 hs hk => ?pana1)
  case pana1 =>
    go_wp2_with fail
    have q := HH.out
    rw [if_neg (fun h => hs h.1)] at q
    simp only [Prod.mk.injEq] at q
    obtain ⟨⟨rfl, rfl⟩, rfl⟩ := q
    exact ⟨rfl, hk, .inr ⟨hs, rfl⟩⟩
  (try simp only [Act.put, lyy])
  subst hT
  replace hs : e0 = 0 := hs
  subst hs
  replace HR := Lib.hid hr
  have HK := Lib.hid hk
  clear hr hk
  refine qaa (qai (v := .int .i64 N) rfl rfl) rfl ?_; (try simp only [Act.put, lyy])
  refine qab ?_
  by_cases hlt : most < N
  · have q := HH.out
    rw [if_pos ⟨rfl, hlt⟩] at q
    simp only [Prod.mk.injEq] at q
    obtain ⟨⟨rfl, rfl⟩, rfl⟩ := q
    go_upto_region 2 with fail; refine wp_region_lit ?_
    refine qaa (qad (v := .int .i64 N) rfl rfl) rfl ?_; (try simp only [Act.put, lyy])
    refine qaa (qad (v := .int .i64 most) rfl rfl) rfl ?_; (try simp only [Act.put, lyy])
    refine qaa (qbd (c := true) rfl rfl rfl (decide_eq_true hlt)) rfl ?_; (try simp only [Act.put, lyy])
    refine qab ?_
    go_upto_region 3 with fail; refine wp_region_lit ?_
    refine qaa (run_bld (cells := #[]) rfl (by kernel_rfl)) rfl ?_; (try simp only [Act.put, lyy])
    refine qaa (run_mki (v := .agg #[]) rfl (by kernel_rfl) rfl) rfl ?_; (try simp only [Act.put, lyy])
    refine qby rfl rfl rfl ?_
    go_wp2_with fail
    exact ⟨rfl, HK.out, .inr ⟨nz11, rfl⟩⟩
  · have q := HH.out
    rw [if_neg (fun h => hlt h.2)] at q
    simp only [Prod.mk.injEq] at q
    go_upto_region 2 with fail; refine wp_region_lit ?_
    refine qaa (qad (v := .int .i64 N) rfl rfl) rfl ?_; (try simp only [Act.put, lyy])
    refine qaa (qad (v := .int .i64 most) rfl rfl) rfl ?_; (try simp only [Act.put, lyy])
    refine qaa (qbd (c := false) rfl rfl rfl (decide_eq_false hlt)) rfl ?_; (try simp only [Act.put, lyy])
    refine qab ?_
    obtain ⟨⟨rfl, rfl⟩, rfl⟩ := q
    go_upto_region 4 with fail; refine wp_region_lit ?_
    refine qaa (qad (v := .int .i64 x) rfl rfl) rfl ?_; (try simp only [Act.put, lyy])
    refine qaa (qai (v := .int .i64 x) rfl rfl) rfl ?_; (try simp only [Act.put, lyy])
    refine qab ?_
    go_wp2_with fail
    exact bodyPost_ret (results_tmp Try.results107 _ _ _) rfl ⟨HK.out, .inl ⟨rfl, HR.out, _, rfl, rfl⟩⟩
theorem enters_rsml : Enters 80 := qak Try.func80 (by kernel_rfl) rfl
set_option maxHeartbeats 8000000 in
theorem rsml_any (B p : Nat) (b : List (BitVec 8)) (i i' : Nat) (e' : Int) (x : Int) (u : World) (H : nM b 255 (i, 0) = ((i', e'), x)) (R : RdS B p b i u) : Calls Try.prog 80 #[.pointer (some ⟨p, 0, none⟩)] u (RPost B p b u (i', e') fun v _ => v = .int .i64 x) := by
  have HR := Lib.hid R
  clear R
  go_enter Try.func80, Try.ntmps80
  go_upto_region 0 with fail; refine wp_region_lit ?_
  refine qaa (qai (v := .int .i64 0) rfl rfl) rfl ?_; (try simp only [Act.put, lyy])
  refine qab ?_
  go_upto_region 1 with fail; refine wp_region_lit ?_
  refine qaa (qad (v := .pointer (some ⟨p, 0, none⟩)) rfl rfl) rfl ?_; (try simp only [Act.put, lyy])
  refine qag (qae enters_rnup rfl rfl rfl rfl) rfl (rnup_any B p b i i' e' x 255 (by omega) _ H HR.out) (fun v a1 hs hk hr hT => ?_) (fun a1 hs hk => ?pana1)
  case pana1 =>
    go_wp2_with fail
    exact ⟨rfl, hk, .inr ⟨hs, rfl⟩⟩
  (try simp only [Act.put, lyy])
  subst hT
  have HK := Lib.hid hk
  replace HR := Lib.hid hr
  clear hk hr
  refine qaa (qai (v := .int .i64 x) rfl rfl) rfl ?_; (try simp only [Act.put, lyy])
  refine qab ?_
  go_wp2_with fail
  exact bodyPost_ret (results_tmp Try.results80 _ _ _) rfl ⟨HK.out, .inl ⟨(by first | exact hs | rfl), HR.out, _, rfl, rfl⟩⟩
theorem qb8 : Enters 109 := qak Try.func109 (by kernel_rfl) rfl
set_option maxHeartbeats 8000000 in
theorem rcnt_any (B p : Nat) (b : List (BitVec 8)) (i i' : Nat) (e' : Int) (x : Int) (u : World) (H : nM b 60000 (i, 0) = ((i', e'), x)) (R : RdS B p b i u) : Calls Try.prog 109 #[.pointer (some ⟨p, 0, none⟩)] u (RPost B p b u (i', e') fun v _ => v = .int .i64 x) := by
  have HR := Lib.hid R
  clear R
  go_enter Try.func109, Try.ntmps109
  go_upto_region 0 with fail; refine wp_region_lit ?_
  refine qaa (qai (v := .int .i64 0) rfl rfl) rfl ?_; (try simp only [Act.put, lyy])
  refine qab ?_
  go_upto_region 1 with fail; refine wp_region_lit ?_
  refine qaa (qad (v := .pointer (some ⟨p, 0, none⟩)) rfl rfl) rfl ?_; (try simp only [Act.put, lyy])
  refine qag (qae enters_rnup rfl rfl rfl rfl) rfl (rnup_any B p b i i' e' x 60000 (by omega) _ H HR.out) (fun v a1 hs hk hr hT => ?_) (fun a1 hs hk => ?pana1)
  case pana1 =>
    go_wp2_with fail
    exact ⟨rfl, hk, .inr ⟨hs, rfl⟩⟩
  (try simp only [Act.put, lyy])
  subst hT
  have HK := Lib.hid hk
  replace HR := Lib.hid hr
  clear hk hr
  refine qaa (qai (v := .int .i64 x) rfl rfl) rfl ?_; (try simp only [Act.put, lyy])
  refine qab ?_
  go_wp2_with fail
  exact bodyPost_ret (results_tmp Try.results109 _ _ _) rfl ⟨HK.out, .inl ⟨(by first | exact hs | rfl), HR.out, _, rfl, rfl⟩⟩
theorem enters_rtru : Enters 112 := qak Try.func112 (by kernel_rfl) rfl
set_option maxHeartbeats 8000000 in
theorem rtru_any (B p : Nat) (b : List (BitVec 8)) (i i' : Nat) (e' : Int) (x : Bool) (u : World) (H : trM b (i, 0) = ((i', e'), x)) (R : RdS B p b i u) : Calls Try.prog 112 #[.pointer (some ⟨p, 0, none⟩)] u (RPost B p b u (i', e') fun v _ => v = .bool x) := by
  have HR := Lib.hid R
  have hle := R.le
  have hT0 := tk_nx (n := 1) hle
  simp only [trM] at H
  have hT1 := congrArg Prod.fst hT0
  have hT2 := congrArg Prod.snd hT0
  simp only at hT1 hT2
  rw [hT1, hT2] at H
  have HH := Lib.hid H
  clear H R hT1 hT2 hT0
  go_enter Try.func112, Try.ntmps112
  go_upto_region 0 with fail; refine wp_region_lit ?_
  refine qaa (qai (v := .bool false) rfl rfl) rfl ?_; (try simp only [Act.put, lyy])
  refine qab ?_
  go_upto_region 1 with fail; refine wp_region_lit ?_
  refine qaa (qad (v := .pointer (some ⟨p, 0, none⟩)) rfl rfl) rfl ?_; (try simp only [Act.put, lyy])
  refine qag (qae qcj rfl rfl rfl rfl) rfl (rnext_any B p b i 1 _ HR.out) (fun v a1 hs hk hr hT => ?_) (fun a1 hs hk => ?pana1)
  case pana1 =>
    go_wp2_with fail
    have q := HH.out
    rw [if_neg hs] at q
    simp only [Prod.mk.injEq] at q
    obtain ⟨⟨q1, q2⟩, -⟩ := q
    exact ⟨rfl, hk, .inr ⟨by rw [← q2]; exact hs, by rw [← q2]⟩⟩
  (try simp only [Act.put, lyy])
  have hlt : i < b.length := by
    rcases Nat.lt_or_ge i b.length with h | h
    · exact h
    · rw [rnext_short hle (by omega)] at hs; exact absurd hs nz10
  rw [rnext_ok (by omega)] at hr
  have q := HH.out
  rw [if_pos hs] at q
  obtain ⟨av, cv, rfl, hS⟩ := hT
  rw [take_one b hlt] at hS
  obtain ⟨g, f, cc, hve, hgl, hrange⟩ := hS.adr (by simp)
  simp only [Value.slice.injEq] at hve
  obtain ⟨rfl, -, rfl⟩ := hve
  have HC : Hid (a1.cell? ⟨g, f + 0 * 1, none⟩ = some (b8 (b.getD i 0))) := Lib.hid (hrange 0 _ rfl)
  clear hS hrange HH hs
  have HK := Lib.hid hk
  replace HR := Lib.hid hr
  clear hk hr
  generalize b.getD i 0 = X at *
  refine qaa (run_ixs (i := 0) rfl Try.underlying22 (by kernel_rfl) rfl rfl (by omega)) rfl ?_; (try simp only [Act.put, lyy])
  refine qaa (qav (v := b8 X) rfl Try.underlying5 rfl rfl HC.out) rfl ?_; (try simp only [Act.put, lyy])
  refine qaa (qai (v := b8 X) rfl rfl) rfl ?_; (try simp only [Act.put, lyy])
  refine qab ?_
  by_cases h1 : 1 < X.toNat
  · rw [if_pos h1] at q
    simp only [Prod.mk.injEq] at q
    obtain ⟨⟨rfl, rfl⟩, rfl⟩ := q
    go_upto_region 2 with fail; refine wp_region_lit ?_
    refine qaa (qad (v := b8 X) rfl rfl) rfl ?_; (try simp only [Act.put, lyy])
    refine qaa (qbd (a := (X.toNat : Int)) (b := 1) (c := true) rfl rfl rfl (decide_eq_true (by omega))) rfl ?_; (try simp only [Act.put, lyy])
    refine qab ?_
    go_upto_region 3 with fail; refine wp_region_lit ?_
    refine qaa (run_bld (cells := #[]) rfl (by kernel_rfl)) rfl ?_; (try simp only [Act.put, lyy])
    refine qaa (run_mki (v := .agg #[]) rfl (by kernel_rfl) rfl) rfl ?_; (try simp only [Act.put, lyy])
    refine qby rfl rfl rfl ?_
    go_wp2_with fail
    exact ⟨rfl, HK.out, .inr ⟨nz11, rfl⟩⟩
  · rw [if_neg h1] at q
    simp only [Prod.mk.injEq] at q
    obtain ⟨⟨rfl, rfl⟩, hy⟩ := q
    go_upto_region 2 with fail; refine wp_region_lit ?_
    refine qaa (qad (v := b8 X) rfl rfl) rfl ?_; (try simp only [Act.put, lyy])
    refine qaa (qbd (a := (X.toNat : Int)) (b := 1) (c := false) rfl rfl rfl (decide_eq_false (by omega))) rfl ?_; (try simp only [Act.put, lyy])
    refine qab ?_
    go_upto_region 4 with fail; refine wp_region_lit ?_
    refine qaa (qad (v := b8 X) rfl rfl) rfl ?_; (try simp only [Act.put, lyy])
    refine qaa (qbx (a := (X.toNat : Int)) (b := 1) (c := x) rfl rfl rfl (by rw [← hy]; by_cases h : X.toNat = 1 <;> simp [h] <;> omega)) rfl ?_; (try simp only [Act.put, lyy])
    refine qaa (qai (v := .bool x) rfl rfl) rfl ?_; (try simp only [Act.put, lyy])
    refine qab ?_
    go_wp2_with fail
    exact bodyPost_ret (results_tmp Try.results112 _ _ _) rfl ⟨HK.out, .inl ⟨rfl, HR.out, _, rfl, rfl⟩⟩
theorem qco : Enters 83 := qak Try.func83 (by kernel_rfl) rfl
set_option maxHeartbeats 8000000 in
theorem rkey_any (B p : Nat) (b : List (BitVec 8)) (i i' : Nat) (e' : Int) (x : List (BitVec 8)) (u : World) (H : kM 32 b (i, 0) = ((i', e'), x)) (R : RdS B p b i u) : Calls Try.prog 83 #[.pointer (some ⟨p, 0, none⟩)] u (RPost B p b u (i', e') fun v _ => v = .agg (x.map b8).toArray ∧ x.length = 32) := by
  have hle := R.le
  have hT0 := tk_nx (n := 32) hle
  have hlen : x.length = 32 := by have q := kM_len (n := 32) (b := b) (s := (i, 0)) hle; rw [H] at q; exact q
  have HX : Hid ((nxM b 32 i).2 = 0 → x = (b.drop i).take 32) := Lib.hid (by intro h; have hT2 : tkE b.length i 0 32 = (nxM b 32 i).2 := congrArg Prod.snd hT0; simp only [kM, gkX, Prod.mk.injEq] at H; rw [hT2, if_pos h] at H; exact H.2.symm)
  have HS : Hid (nxM b 32 i = (i', e')) := Lib.hid (by rw [← hT0]; simp only [kM, Prod.mk.injEq] at H; rw [H.1.1, H.1.2])
  have E := Lib.hid (Rm.start R)
  clear H hT0 R
  go_enter Try.func83, Try.ntmps83
  go_upto_region 0 with fail; refine wp_region_lit ?_
  refine qaa (qay (vs := z8 32) rfl (by kernel_rfl)) rfl ?_; (try simp only [Act.put, lyy])
  replace E := Lib.hid (E.out.new (z8 32) 27)
  generalize u.alloc (.cells (z8 32).toArray 27) = a1 at *
  obtain ⟨g1, hg1⟩ : ∃ g1, g1 = u.heap.size := ⟨_, rfl⟩
  rw [← hg1] at E ⊢
  clear hg1
  refine qab ?_
  go_upto_region 1 with fail; refine wp_region_lit ?_
  refine qaa (qad (v := .pointer (some ⟨p, 0, none⟩)) rfl rfl) rfl ?_; (try simp only [Act.put, lyy])
  refine qag (qae qcj rfl rfl rfl rfl) rfl (rnext_any B p b i 32 _ E.out.rd) (fun v a2 hs hk hr hT => ?_) (fun a2 hs hk => ?pana2)
  case pana2 =>
    go_wp2_with fail
    rw [HS.out] at hs ⊢
    exact ⟨rfl, E.out.panic hk, .inr ⟨hs, rfl⟩⟩
  (try simp only [Act.put, lyy])
  have hx := HX.out hs
  obtain ⟨av, cv, rfl, hS⟩ := hT
  rw [← hx] at hS
  rw [HS.out] at hr hs
  replace E := Lib.hid (E.out.call hk hr (H0 := fun _ => True) fun _ _ => trivial)
  clear hk hr hx
  obtain ⟨g, f, cc, hve, hgl, hrange⟩ := hS.adr (by omega)
  rw [hlen] at hve
  simp only [Value.slice.injEq] at hve
  obtain ⟨rfl, -, rfl⟩ := hve
  have HC := Lib.hid hrange
  clear hS hrange
  refine qaa (run_s2aR rfl Try.underlying27 rfl (by omega)) rfl ?_; (try simp only [Act.put, lyy])
  refine qaa (qa2 (vs := x.map b8) rfl Try.underlying27 rfl (szR (by rw [List.length_map, hlen]) (by kernel_rfl)) rfl HC.out) rfl ?_; (try simp only [Act.put, lyy])
  refine qah (qax (vs := x.map b8) rfl (szR (by rw [List.length_map, hlen]) (by kernel_rfl)) rfl rfl (One.all (One.b8 _)) ((E.out.get (i := 0) rfl).thereM (by have q1 : (x.map b8).length = 32 := (by rw [List.length_map, hlen]); have q2 := qac 32; omega))) rfl rfl ?_
  replace E := Lib.hid (E.out.put 0 rfl (m := x.map b8) (by rw [qac, List.length_map, hlen]))
  replace E := Lib.hid (show Rm _ _ _ _ _ [(g1, x.map b8)] _ _ from E.out)
  generalize a2.setCells g1 0 (x.map b8) = a3 at *
  refine qab ?_
  go_wp2_with fail
  exact bodyPost_ret (v := .agg (x.map b8).toArray) (qa9 Try.results83 rfl Try.underlying27 rfl (szR (by rw [List.length_map, hlen]) (by kernel_rfl)) (E.out.get (i := 0) rfl).range) rfl ⟨E.out.kp, .inl ⟨(by first | exact hs | rfl), E.out.rd, _, rfl, (by first | exact ⟨rfl, hlen⟩ | rfl | simp [hlen])⟩⟩
theorem enters_rsig : Enters 85 := qak Try.func85 (by kernel_rfl) rfl
set_option maxHeartbeats 8000000 in
theorem rsig_any (B p : Nat) (b : List (BitVec 8)) (i i' : Nat) (e' : Int) (x : List (BitVec 8)) (u : World) (H : kM 64 b (i, 0) = ((i', e'), x)) (R : RdS B p b i u) : Calls Try.prog 85 #[.pointer (some ⟨p, 0, none⟩)] u (RPost B p b u (i', e') fun v _ => v = .agg (x.map b8).toArray ∧ x.length = 64) := by
  have hle := R.le
  have hT0 := tk_nx (n := 64) hle
  have hlen : x.length = 64 := by have q := kM_len (n := 64) (b := b) (s := (i, 0)) hle; rw [H] at q; exact q
  have HX : Hid ((nxM b 64 i).2 = 0 → x = (b.drop i).take 64) := Lib.hid (by intro h; have hT2 : tkE b.length i 0 64 = (nxM b 64 i).2 := congrArg Prod.snd hT0; simp only [kM, gkX, Prod.mk.injEq] at H; rw [hT2, if_pos h] at H; exact H.2.symm)
  have HS : Hid (nxM b 64 i = (i', e')) := Lib.hid (by rw [← hT0]; simp only [kM, Prod.mk.injEq] at H; rw [H.1.1, H.1.2])
  have E := Lib.hid (Rm.start R)
  clear H hT0 R
  go_enter Try.func85, Try.ntmps85
  go_upto_region 0 with fail; refine wp_region_lit ?_
  refine qaa (qay (vs := z8 64) rfl (by kernel_rfl)) rfl ?_; (try simp only [Act.put, lyy])
  replace E := Lib.hid (E.out.new (z8 64) 30)
  generalize u.alloc (.cells (z8 64).toArray 30) = a1 at *
  obtain ⟨g1, hg1⟩ : ∃ g1, g1 = u.heap.size := ⟨_, rfl⟩
  rw [← hg1] at E ⊢
  clear hg1
  refine qab ?_
  go_upto_region 1 with fail; refine wp_region_lit ?_
  refine qaa (qad (v := .pointer (some ⟨p, 0, none⟩)) rfl rfl) rfl ?_; (try simp only [Act.put, lyy])
  refine qag (qae qcj rfl rfl rfl rfl) rfl (rnext_any B p b i 64 _ E.out.rd) (fun v a2 hs hk hr hT => ?_) (fun a2 hs hk => ?pana2)
  case pana2 =>
    go_wp2_with fail
    rw [HS.out] at hs ⊢
    exact ⟨rfl, E.out.panic hk, .inr ⟨hs, rfl⟩⟩
  (try simp only [Act.put, lyy])
  have hx := HX.out hs
  obtain ⟨av, cv, rfl, hS⟩ := hT
  rw [← hx] at hS
  rw [HS.out] at hr hs
  replace E := Lib.hid (E.out.call hk hr (H0 := fun _ => True) fun _ _ => trivial)
  clear hk hr hx
  obtain ⟨g, f, cc, hve, hgl, hrange⟩ := hS.adr (by omega)
  rw [hlen] at hve
  simp only [Value.slice.injEq] at hve
  obtain ⟨rfl, -, rfl⟩ := hve
  have HC := Lib.hid hrange
  clear hS hrange
  refine qaa (run_s2aR rfl Try.underlying30 rfl (by omega)) rfl ?_; (try simp only [Act.put, lyy])
  refine qaa (qa2 (vs := x.map b8) rfl Try.underlying30 rfl (szR (by rw [List.length_map, hlen]) (by kernel_rfl)) rfl HC.out) rfl ?_; (try simp only [Act.put, lyy])
  refine qah (qax (vs := x.map b8) rfl (szR (by rw [List.length_map, hlen]) (by kernel_rfl)) rfl rfl (One.all (One.b8 _)) ((E.out.get (i := 0) rfl).thereM (by have q1 : (x.map b8).length = 64 := (by rw [List.length_map, hlen]); have q2 := qac 64; omega))) rfl rfl ?_
  replace E := Lib.hid (E.out.put 0 rfl (m := x.map b8) (by rw [qac, List.length_map, hlen]))
  replace E := Lib.hid (show Rm _ _ _ _ _ [(g1, x.map b8)] _ _ from E.out)
  generalize a2.setCells g1 0 (x.map b8) = a3 at *
  refine qab ?_
  go_wp2_with fail
  exact bodyPost_ret (v := .agg (x.map b8).toArray) (qa9 Try.results85 rfl Try.underlying30 rfl (szR (by rw [List.length_map, hlen]) (by kernel_rfl)) (E.out.get (i := 0) rfl).range) rfl ⟨E.out.kp, .inl ⟨(by first | exact hs | rfl), E.out.rd, _, rfl, (by first | exact ⟨rfl, hlen⟩ | rfl | simp [hlen])⟩⟩
theorem enters_rtxt : Enters 82 := qak Try.func82 (by kernel_rfl) rfl
set_option maxHeartbeats 8000000 in
theorem rtxt_any (B p : Nat) (b : List (BitVec 8)) (i i' : Nat) (e' : Int) (x : List (BitVec 8)) (u : World) (H : byM b (i, 0) = ((i', e'), x)) (R : RdS B p b i u) : Calls Try.prog 82 #[.pointer (some ⟨p, 0, none⟩)] u (RPost B p b u (i', e') fun v _ => v = .string (strOf x)) := by
  rcases HN : nM b 60000 (i, 0) with ⟨⟨i0, e0⟩, N⟩
  have hn0 := nM_num (b := b) (most := 60000) (s := (i, 0)) (by omega)
  rw [HN] at hn0
  obtain ⟨n, hn⟩ : ∃ n : Nat, N = (n : Int) := ⟨N.toNat, by omega⟩
  subst hn
  have hnn : n ≤ 60000 := by have := hn0.2; simp only at this; omega
  clear hn0
  simp only [byM, HN, Int.toNat_natCast, Prod.mk.injEq] at H
  obtain ⟨⟨h1, h2⟩, h3⟩ := H
  have S1 : Hid (e0 ≠ 0 → i' = i0 ∧ e' = e0) := Lib.hid (by intro h; have q1 : tkE b.length i0 e0 n = e0 := (by unfold tkE; rw [if_neg (fun h2 => h h2.1)]); rw [q1] at h2; refine ⟨?_, h2.symm⟩; rw [← h1]; unfold tkI; rw [q1, if_neg h])
  have S2 : Hid (e0 = 0 → i0 ≤ b.length → nxM b n i0 = (i', e') ∧ (e' = 0 → x = (b.drop i0).take n)) := Lib.hid (by intro h hle; subst h; have q := tk_nx (n := n) hle; rw [h1, h2] at q; refine ⟨q.symm, fun h => ?_⟩; rw [h2, if_pos h] at h3; exact h3.symm)
  clear h1 h2 h3
  have HR := Lib.hid R
  clear R
  go_enter Try.func82, Try.ntmps82
  go_upto_region 0 with fail; refine wp_region_lit ?_
  refine qaa (qai (v := .string { data := #[] }) rfl rfl) rfl ?_; (try simp only [Act.put, lyy])
  refine qab ?_
  go_upto_region 1 with fail; refine wp_region_lit ?_
  refine qaa (qad (v := .pointer (some ⟨p, 0, none⟩)) rfl rfl) rfl ?_; (try simp only [Act.put, lyy])
  refine qaa (qad (v := .pointer (some ⟨p, 0, none⟩)) rfl rfl) rfl ?_; (try simp only [Act.put, lyy])
  refine qag (qal qb8 rfl rfl rfl) rfl (rcnt_any B p b i i0 e0 _ _ HN HR.out) (fun v a1 hs hk hr hT => ?_) (fun a1 hs hk => ?pana1)
  case pana1 =>
    go_wp2_with fail
    obtain ⟨-, rfl⟩ := S1.out hs
    exact ⟨rfl, hk, .inr ⟨hs, rfl⟩⟩
  (try simp only [Act.put, lyy])
  subst hT
  obtain ⟨hS1, hS2⟩ := S2.out hs hr.le
  replace HR := Lib.hid hr
  have HK := Lib.hid hk
  clear hk hr hs S1 S2
  refine qag (qae qcj rfl rfl rfl rfl) rfl (rnext_any B p b i0 n _ HR.out) (fun v a2 hs hk hr hT => ?_) (fun a2 hs hk => ?pana2)
  case pana2 =>
    go_wp2_with fail
    rw [hS1] at hs
    (try rw [hS1])
    exact ⟨rfl, HK.out.trans hk, .inr ⟨hs, rfl⟩⟩
  (try simp only [Act.put, lyy])
  obtain ⟨av, cv, rfl, hSl⟩ := hT
  rw [hS1] at hs hr
  have hx := hS2 hs
  rw [← hx] at hSl
  replace HK := Lib.hid (HK.out.trans hk)
  replace HR := Lib.hid hr
  have HSl := Lib.hid hSl
  clear hk hr hSl hx hS1 hS2
  refine qaa (run_str rfl rfl HSl.out) rfl ?_; (try simp only [Act.put, lyy])
  refine qaa (qai (v := .string (strOf x)) rfl rfl) rfl ?_; (try simp only [Act.put, lyy])
  refine qab ?_
  go_wp2_with fail
  exact bodyPost_ret (results_tmp Try.results82 _ _ _) rfl ⟨HK.out, .inl ⟨(by first | exact hs | rfl), HR.out, _, rfl, rfl⟩⟩
theorem enters_rbyt : Enters 114 := qak Try.func114 (by kernel_rfl) rfl
set_option maxHeartbeats 8000000 in
theorem rbyt_any (B p : Nat) (b : List (BitVec 8)) (i i' : Nat) (e' : Int) (x : List (BitVec 8)) (u : World) (H : byM b (i, 0) = ((i', e'), x)) (R : RdS B p b i u) : Calls Try.prog 114 #[.pointer (some ⟨p, 0, none⟩)] u (RPost B p b u (i', e') fun v u' => ∃ a c, v = .slice a x.length c ∧ Fro u.heap.size (Sl (.slice a x.length c) x) u') := by
  rcases HN : nM b 60000 (i, 0) with ⟨⟨i0, e0⟩, N⟩
  have hn0 := nM_num (b := b) (most := 60000) (s := (i, 0)) (by omega)
  rw [HN] at hn0
  obtain ⟨n, hn⟩ : ∃ n : Nat, N = (n : Int) := ⟨N.toNat, by omega⟩
  subst hn
  have hnn : n ≤ 60000 := by have := hn0.2; simp only at this; omega
  clear hn0
  simp only [byM, HN, Int.toNat_natCast, Prod.mk.injEq] at H
  obtain ⟨⟨h1, h2⟩, h3⟩ := H
  have S1 : Hid (e0 ≠ 0 → i' = i0 ∧ e' = e0) := Lib.hid (by intro h; have q1 : tkE b.length i0 e0 n = e0 := (by unfold tkE; rw [if_neg (fun h2 => h h2.1)]); rw [q1] at h2; refine ⟨?_, h2.symm⟩; rw [← h1]; unfold tkI; rw [q1, if_neg h])
  have S2 : Hid (e0 = 0 → i0 ≤ b.length → nxM b n i0 = (i', e') ∧ (e' = 0 → x = (b.drop i0).take n)) := Lib.hid (by intro h hle; subst h; have q := tk_nx (n := n) hle; rw [h1, h2] at q; refine ⟨q.symm, fun h => ?_⟩; rw [h2, if_pos h] at h3; exact h3.symm)
  clear h1 h2 h3
  have HR := Lib.hid R
  have HR0 := Lib.hid R.Bu
  clear R
  go_enter Try.func114, Try.ntmps114
  go_upto_region 0 with fail; refine wp_region_lit ?_
  refine qaa (qai (v := .slice none 0 0) rfl rfl) rfl ?_; (try simp only [Act.put, lyy])
  refine qab ?_
  go_upto_region 1 with fail; refine wp_region_lit ?_
  refine qaa (qad (v := .pointer (some ⟨p, 0, none⟩)) rfl rfl) rfl ?_; (try simp only [Act.put, lyy])
  refine qaa (qad (v := .pointer (some ⟨p, 0, none⟩)) rfl rfl) rfl ?_; (try simp only [Act.put, lyy])
  refine qag (qal qb8 rfl rfl rfl) rfl (rcnt_any B p b i i0 e0 _ _ HN HR.out) (fun v a1 hs hk hr hT => ?_) (fun a1 hs hk => ?pana1)
  case pana1 =>
    go_wp2_with fail
    obtain ⟨-, rfl⟩ := S1.out hs
    exact ⟨rfl, hk, .inr ⟨hs, rfl⟩⟩
  (try simp only [Act.put, lyy])
  subst hT
  obtain ⟨hS1, hS2⟩ := S2.out hs hr.le
  replace HR := Lib.hid hr
  have HK := Lib.hid hk
  clear hk hr hs S1 S2
  refine qag (qae qcj rfl rfl rfl rfl) rfl (rnext_any B p b i0 n _ HR.out) (fun v a2 hs hk hr hT => ?_) (fun a2 hs hk => ?pana2)
  case pana2 =>
    go_wp2_with fail
    rw [hS1] at hs
    (try rw [hS1])
    exact ⟨rfl, HK.out.trans hk, .inr ⟨hs, rfl⟩⟩
  (try simp only [Act.put, lyy])
  obtain ⟨av, cv, rfl, hSl⟩ := hT
  rw [hS1] at hs hr
  have hx := hS2 hs
  rw [← hx] at hSl
  replace HK := Lib.hid (HK.out.trans hk)
  replace HR := Lib.hid hr
  have HSl := Lib.hid hSl
  clear hk hr hSl hx hS1 hS2
  have hxl : x.length ≤ 60000 := by obtain ⟨_, _, hq, _⟩ := HSl.out; simp only [Value.slice.injEq] at hq; omega
  refine wpList_appG (l := []) (base := u.heap.size) rfl rfl rfl (World.ownsRow_nil _ _ _ _) rfl HSl.out (by omega) HK.out.size (fun v3 a3 ho hb => ?_); (try simp only [Act.put, lyy])
  rw [List.nil_append] at ho
  have HO : Hid (a3.ownsRow u.heap.size 5 1 v3 x.length (x.map b8)) := Lib.hid (by have h := ho; rwa [Nat.zero_add] at h)
  replace HK := Lib.hid (HK.out.fresh hb (Nat.le_refl _))
  replace HR := Lib.hid (HR.out.step (hb.mono HR0.out))
  clear ho hb HSl
  obtain ⟨a4, c4, rfl, -, -⟩ := Sl.own HO.out
  refine qaa (qai (v := .slice a4 x.length c4) rfl rfl) rfl ?_; (try simp only [Act.put, lyy])
  refine qab ?_
  go_wp2_with fail
  exact bodyPost_ret (results_tmp Try.results114 _ _ _) rfl ⟨HK.out, .inl ⟨(by first | exact hs | rfl), HR.out, _, rfl, _, _, rfl, fro_sl HO.out⟩⟩
end Go.Proofs.Ytcgbgmbnagmohaa
