import Derived.Test.YtgioojahadlmhaaPr1
namespace Go.Proofs.Ytgioojahadlmhaa
open Go.RowKit
set_option maxRecDepth 20000
attribute [local irreducible] wpList
structure Rm (u : World) (B p : Nat) (b : List (BitVec 8)) (q : Nat) (L : List (Nat × List Value)) (H : World → Prop) (a : World) : Prop where
  Bu : B ≤ u.heap.size
  rd : RdS B p b q a
  ex : ∃ w, w.heap.size = u.heap.size ∧ Kp p u w ∧ Ev w L [] (fun _ => True) H a
section
variable {u a a' : World} {B p q q' : Nat} {b : List (BitVec 8)} {L : List (Nat × List Value)} {H H0 : World → Prop}
theorem Rm.start (R : RdS B p b q u) : Rm u B p b q [] (fun _ => True) u := ⟨R.Bu, R, u, rfl, Kp.refl _ _, Ev.start fun _ _ => trivial⟩
theorem Rm.le (h : Rm u B p b q L H a) : q ≤ b.length := h.rd.le
theorem Rm.kp (h : Rm u B p b q L H a) : Kp p u a := by
  obtain ⟨hB, _, w, hz, hk, E⟩ := h
  exact hk.fresh E.bl (by rw [hz]; exact Nat.le_refl _)
theorem Rm.new (h : Rm u B p b q L H a) (m : List Value) (t : TypeId) : Rm u B p b q ((a.heap.size, m) :: L) H (a.alloc (.cells m.toArray t)) := by
  obtain ⟨hB, hr, w, hz, hk, E⟩ := h
  exact ⟨hB, hr.below ((Below.refl _ _).alloc (Nat.le_refl _) _), w, hz, hk, E.new m t⟩
theorem Rm.get (h : Rm u B p b q L H a) {i g : Nat} {m : List Value} (hi : L[i]? = some (g, m)) : Arr g m a := h.ex.elim fun _ h => h.2.2.get hi
theorem Rm.put (h : Rm u B p b q L H a) (i : Nat) {g : Nat} {l m : List Value} (hi : L[i]? = some (g, l)) (hm : m.length = l.length) : Rm u B p b q (L.set i (g, m)) H (a.setCells g 0 m) := by
  obtain ⟨hB, hr, w, hz, hk, E⟩ := h
  have hg : w.heap.size ≤ g := (E.mv.all (g, l) (List.mem_of_getElem? hi)).1
  exact ⟨hB, hr.step (qa3 (by omega) m 0 (Below.refl _ a)), w, hz, hk, E.put i hi hm⟩
theorem Rm.call (h : Rm u B p b q L H a) (k : Kp p a a') (hr : RdS B p b q' a') (h0 : Fro a.heap.size H0 a') : Rm u B p b q' L (fun V => H0 V ∧ H V) a' := by
  obtain ⟨hB, hr0, w, hz, hk, E⟩ := h
  obtain ⟨w', e1, e2, E'⟩ := E.kept (by have := hr0.pB; omega) k h0
  exact ⟨hB, hr, w', e1.trans hz, hk.trans e2, E'⟩
theorem Rm.tell (h : Rm u B p b q L H a) : Fro u.heap.size H a := by
  obtain ⟨_, _, w, hz, _, E⟩ := h
  rw [← hz]
  exact E.tell
theorem Rm.panic (h : Rm u B p b q L H a) (k : Kp p a a') : Kp p u a' := h.kp.trans k
end
structure Rg (u : World) (B p : Nat) (b : List (BitVec 8)) (i : Nat) (e : TypeId) (z : Nat) (v : Value) (n : Nat) (cs : List Value) (H : World → Prop) (a : World) : Prop where
  Bu : B ≤ u.heap.size
  rd : RdS B p b i a
  ex : ∃ w, w.heap.size = u.heap.size ∧ Kp p u w ∧ Gw w [] e z v n cs (fun _ => True) H a
section
variable {u a a' : World} {B p i i' : Nat} {b : List (BitVec 8)} {e : TypeId} {z n : Nat} {v : Value} {cs : List Value} {H H0 : World → Prop}
theorem Rg.start (R : RdS B p b i u) (e : TypeId) (z : Nat) : Rg u B p b i e z (.slice none 0 0) 0 [] (fun _ => True) u := ⟨R.Bu, R, u, rfl, Kp.refl _ _, Gw.start (Ev.start fun _ _ => trivial) e z⟩
theorem Rg.kp (h : Rg u B p b i e z v n cs H a) : Kp p u a := by
  obtain ⟨hB, _, w, hz, hk, E⟩ := h
  exact hk.fresh E.bl (by rw [hz]; exact Nat.le_refl _)
theorem Rg.call (h : Rg u B p b i e z v n cs H a) (k : Kp p a a') (hr : RdS B p b i' a') (h0 : Fro a.heap.size H0 a') : Rg u B p b i' e z v n cs (fun V => H0 V ∧ H V) a' := by
  obtain ⟨hB, hr0, w, hz, hk, E⟩ := h
  obtain ⟨w', e1, e2, E'⟩ := E.kept (by have := hr0.pB; omega) k h0
  exact ⟨hB, hr, w', e1.trans hz, hk.trans e2, E'⟩
theorem Rg.below (h : Rg u B p b i e z v n cs H a) (hb : Below a.heap.size a a') : Rg u B p b i e z v n cs H a' := by
  obtain ⟨hB, hr, w, hz, hk, E⟩ := h
  exact ⟨hB, hr.below hb, w, hz, hk, E.below hb⟩
theorem Rg.know (h : Rg u B p b i e z v n cs H a) (hH : ∀ V, H V → H0 V) : Rg u B p b i e z v n cs H0 a := by
  obtain ⟨hB, hr, w, hz, hk, E⟩ := h
  exact ⟨hB, hr, w, hz, hk, E.know hH⟩
theorem Rg.tell (h : Rg u B p b i e z v n cs H a) : Fro u.heap.size (fun V => V.ownsRow u.heap.size e z v n cs ∧ H V) a := by
  obtain ⟨_, _, w, hz, _, E⟩ := h
  have := E.done.tell
  rw [hz] at this
  exact this
theorem run_growZ {w : World} {L : List (Nat × List Value)} {F : World → Prop} {o : Oper} {c : Act} {s x : Operand} {t : TypeId} {bw : Nat} {zv : Value} (ho : o.op = .call { callee := .builtin .append, args := #[s, x], argTypes := #[t, t] })
    (ht : Try.prog.underlying t = some (.slice e)) (hi : (Try.prog.info? e).map (fun i => (i.size, i.bytes, i.zero)) = some (z, bw, some zv)) (hzs : zv.cells.size = z) (hz : 0 < z)
    (hs : c.eval s = v) {g f k : Nat} {m : List Value} (hx : c.eval x = .slice (some ⟨g, f, none⟩) 1 k) (hr : a.rangeAt g f m) (hl : m.length = z) (h1 : One m)
    (hn : n < 100000) (hbw : bw ≤ 1000000) (G : Gw w L e z v n cs F H a) :
    ∃ v' a', (execOp c.eval o).run Try.prog a = .ok (.value v') a' ∧ Gw w L e z v' (n + 1) (cs ++ m) F H a' ∧ Below w.heap.size a a' := by
  obtain ⟨inf, q1, q2⟩ := Option.map_eq_some_iff.1 hi
  obtain ⟨e1, e2, e3⟩ : inf.size = z ∧ inf.bytes = bw ∧ inf.zero = some zv := by simpa using q2
  have hc : ∀ j w', m[j]? = some w' → a.cell? ((⟨g, f, none⟩ : Addr).add j) = some w' := fun j w' hw => by rw [Addr.add_mid]; exact hr j w' hw
  have hby : (n + 1) * bw ≤ 140737488355328 := Nat.le_trans (Nat.mul_le_mul (show n + 1 ≤ 100000 by omega) hbw) (by omega)
  obtain ⟨v', w', hrun, h3, h4, _⟩ := run_append_own (P := Try.prog) a w.heap.size t o.type e inf zv z bw ht q1 e3 e1 e2 hzs hz v n cs G.row ⟨g, f, none⟩ 1 k m (by rw [hl, Nat.one_mul]) hc h1 (by unfold maxLen; omega) hby G.bl.size
  have hw := append_where (P := Try.prog) w.heap.size t o.type e inf zv z bw ht q1 e3 e1 e2 hzs hz v n cs G.row ⟨g, f, none⟩ 1 k m (by rw [hl, Nat.one_mul]) hc h1 (by unfold maxLen; omega) hby (by omega) hrun
  refine ⟨v', w', ?_, G.grown h3 h4 hw, below_grown h4 (fun k hk => (qa2 G.row hk).1) G.bl.size⟩
  unfold execOp
  simp [ho, resolve, invoke, builtin, hs, hx, hrun, Result.andThen]
theorem wpList_growR {ops : Array Oper} {Q : Exit → Act → World → Prop} {rest : List Oper} {o : Oper} {c : Act} {s x : Operand} {t : TypeId} {bw : Nat} {zv : Value} (hg : o.guard = none) (ho : o.op = .call { callee := .builtin .append, args := #[s, x], argTypes := #[t, t] })
    (ht : Try.prog.underlying t = some (.slice e)) (hi : (Try.prog.info? e).map (fun i => (i.size, i.bytes, i.zero)) = some (z, bw, some zv)) (hzs : zv.cells.size = z) (hz : 0 < z)
    (hs : c.eval s = v) {g f k : Nat} {m : List Value} (hx : c.eval x = .slice (some ⟨g, f, none⟩) 1 k) (hr : a.rangeAt g f m) (hl : m.length = z) (h1 : One m)
    (hn : n < 100000) (hbw : bw ≤ 1000000) (G : Rg u B p b i e z v n cs H a)
    (h : ∀ v' a', Rg u B p b i e z v' (n + 1) (cs ++ m) H a' → wpList Try.prog ops Q rest (c.put o.dst v') a') : wpList Try.prog ops Q (o :: rest) c a := by
  obtain ⟨hB, hr0, w, hwz, hk, E⟩ := G
  obtain ⟨v', a', h2, h3, h4⟩ := run_growZ ho ht hi hzs hz hs hx hr hl h1 hn hbw E
  exact qaa h2 hg (h v' a' ⟨hB, hr0.step (h4.mono (by omega)), w, hwz, hk, h3⟩)
end
theorem qbb {b : List (BitVec 8)} {most : Int} {i : Nat} {e : Int} (h : e ≠ 0) : (nM b most (i, e)).1 = (i, e) := by unfold nM gn; simp only [if_neg h]
theorem qb3 {n : Nat} {b : List (BitVec 8)} {i : Nat} {e : Int} (h : e ≠ 0) : (kM n b (i, e)).1 = (i, e) := by
  have e1 : tkE b.length i e n = e := by unfold tkE; rw [if_neg (fun h2 => h h2.1)]
  unfold kM tkI
  simp only [e1, if_neg h]
theorem trM_stay {b : List (BitVec 8)} {i : Nat} {e : Int} (h : e ≠ 0) : (trM b (i, e)).1 = (i, e) := by
  have e1 : tkE b.length i e 1 = e := by unfold tkE; rw [if_neg (fun h2 => h h2.1)]
  unfold trM tkI
  simp only [e1, if_neg h]
theorem qch {b : List (BitVec 8)} {i : Nat} {e : Int} (h : e ≠ 0) : (byM b (i, e)).1 = (i, e) := by
  have e0 := qbb (b := b) (most := 60000) (i := i) h
  have e1 : ∀ n, tkE b.length i e n = e := fun n => by unfold tkE; rw [if_neg (fun h2 => h h2.1)]
  unfold byM tkI
  simp only [e0, e1, if_neg h]
theorem rows_stay {α : Type} {b : List (BitVec 8)} (g : Nat × Int → (Nat × Int) × α) {i : Nat} {e : Int} (h : e ≠ 0) : (rowsM g (nM b 60000 (i, e)).2.toNat (nM b 60000 (i, e)).1).1 = (i, e) := by
  rw [qbb h, qb8 _ _ h]
theorem pkM_stay {b : List (BitVec 8)} {i : Nat} {e : Int} (h : e ≠ 0) : (pkM b (i, e)).1 = (i, e) := by
  show (kM 32 b (nM b 1099511627776 (i, e)).1).1 = _
  rw [qbb h, qb3 h]
theorem hdM_stay {b : List (BitVec 8)} {i : Nat} {e : Int} (h : e ≠ 0) : (hdM b (i, e)).1 = (i, e) := by
  show (nM b 1099511627776 (nM b 1099511627776 (kM 32 b (i, e)).1).1).1 = _
  rw [qb3 h, qbb h, qbb h]
theorem psM_stay {b : List (BitVec 8)} {i : Nat} {e : Int} (h : e ≠ 0) : (psM b (i, e)).1 = (i, e) := rows_stay _ h
theorem enM_stay {b : List (BitVec 8)} {i : Nat} {e : Int} (h : e ≠ 0) : (enM b (i, e)).1 = (i, e) := rows_stay _ h
theorem lsM_stay {b : List (BitVec 8)} {i : Nat} {e : Int} (h : e ≠ 0) : (lsM b (i, e)).1 = (i, e) := by
  show (kM 64 b (enM b (kM 32 b (nM b 1099511627776 (nM b 1099511627776 (i, e)).1).1).1).1).1 = _
  rw [qbb h, qbb h, qb3 h, enM_stay h, qb3 h]
theorem evM_stay {b : List (BitVec 8)} {i : Nat} {e : Int} (h : e ≠ 0) : (evM b (i, e)).1 = (i, e) := by
  show (byM b (hdM b (nM b 1099511627776 (nM b 1099511627776 (kM 32 b (trM b (nM b 1099511627776 (nM b 1099511627776 (i, e)).1).1).1).1).1).1).1).1 = _
  rw [qbb h, qbb h, trM_stay h, qb3 h, qbb h, qbb h, hdM_stay h, qch h]
theorem itsM_stay {b : List (BitVec 8)} {i : Nat} {e : Int} (h : e ≠ 0) : (itsM b (i, e)).1 = (i, e) := rows_stay _ h
theorem gnL_upto {b : List (BitVec 8)} {most : Int} (hm : most ≤ 1099511627776) : ∀ (k i n t : Nat), gnL b most k i n t = if (gnL b 1099511627776 k i n t).2.1 = 0 ∧ most < (gnL b 1099511627776 k i n t).2.2 then ((gnL b 1099511627776 k i n t).1, 11, 0) else gnL b 1099511627776 k i n t
  | 0, i, n, t => by unfold gnL; rw [if_neg (fun h => nz11 h.1)]
  | k + 1, i, n, t => by
    unfold gnL
    by_cases h1 : b.length ≤ i
    · simp only [if_pos h1]; rw [if_neg (fun h => nz10 h.1)]
    · simp only [if_neg h1]
      by_cases h2 : (b.getD i 0).toNat < 128
      · simp only [if_pos h2]
        generalize n + (b.getD i 0).toNat % 128 * t = N
        by_cases h3 : (b.getD i 0).toNat = 0 ∧ k < 5
        · have a1 : ((b.getD i 0).toNat = 0 ∧ k < 5) ∨ most < (N : Int) := .inl h3
          have a2 : ((b.getD i 0).toNat = 0 ∧ k < 5) ∨ (1099511627776 : Int) < (N : Int) := .inl h3
          simp only [if_pos a1, if_pos a2]
          rw [if_neg (fun h => nz11 h.1)]
        · by_cases h4 : (1099511627776 : Int) < (N : Int)
          · have a1 : ((b.getD i 0).toNat = 0 ∧ k < 5) ∨ most < (N : Int) := .inr (by omega)
            have a2 : ((b.getD i 0).toNat = 0 ∧ k < 5) ∨ (1099511627776 : Int) < (N : Int) := .inr h4
            simp only [if_pos a1, if_pos a2]
            rw [if_neg (fun h => nz11 h.1)]
          · have a2 : ¬ (((b.getD i 0).toNat = 0 ∧ k < 5) ∨ (1099511627776 : Int) < (N : Int)) := fun h => h.elim h3 h4
            simp only [if_neg a2]
            by_cases h5 : most < (N : Int)
            · have a1 : ((b.getD i 0).toNat = 0 ∧ k < 5) ∨ most < (N : Int) := .inr h5
              simp only [if_pos a1]
              rw [if_pos ⟨trivial, h5⟩]
            · have a1 : ¬ (((b.getD i 0).toNat = 0 ∧ k < 5) ∨ most < (N : Int)) := fun h => h.elim h3 h5
              simp only [if_neg a1]
              rw [if_neg (fun h => h5 h.2)]
      · simp only [if_neg h2]
        exact gnL_upto hm k _ _ _
theorem nM_upto {b : List (BitVec 8)} {most : Int} (hm : most ≤ 1099511627776) {i i0 : Nat} {e0 N : Int} (h : nM b 1099511627776 (i, 0) = ((i0, e0), N)) : nM b most (i, 0) = if e0 = 0 ∧ most < N then ((i0, 11), 0) else ((i0, e0), N) := by
  have h2 := gnL_upto (b := b) hm 6 i 0 1
  simp only [nM, gn, if_pos, Prod.mk.injEq] at h ⊢
  obtain ⟨⟨h3, h4⟩, h5⟩ := h
  rw [h2, h3, h4, h5]
  split <;> simp [*]
theorem tk_nx {b : List (BitVec 8)} {i n : Nat} (hi : i ≤ b.length) : (tkI b.length i 0 n, tkE b.length i 0 n) = nxM b n i := by
  have e1 : tkE b.length i 0 n = if b.length - i < n then 10 else 0 := by
    unfold tkE
    by_cases h : b.length - i < n
    · rw [if_pos h, if_pos ⟨rfl, by omega⟩]
    · rw [if_neg h, if_neg (fun h3 => h (by omega))]
  unfold tkI nxM
  rw [e1]
  by_cases h : b.length - i < n
  · simp only [if_pos h, if_neg nz10]
  · simp only [if_neg h, if_pos]
end Go.Proofs.Ytgioojahadlmhaa
