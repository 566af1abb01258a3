import Derived.Test.YtcgbgmbnagmohaaGw
import Derived.Test.YtcgbgmbnagmohaaChG
namespace Go.Proofs.Ytcgbgmbnagmohaa
open Go.RowKit
set_option maxRecDepth 20000
attribute [local irreducible] wpList
theorem row_mono {u : World} {B B' : Nat} {e : TypeId} {z n : Nat} {v : Value} {cs : List Value} (h : u.ownsRow B e z v n cs) (hB : B' ≤ B) : u.ownsRow B' e z v n cs :=
  ⟨h.1, h.2.imp id fun ⟨g, cap, cur, h1, h2, h3⟩ => ⟨g, cap, cur, h1, Nat.le_trans hB h2, h3⟩⟩
theorem Gw.ofcall {w u u' : World} {L : List (Nat × List Value)} {F H : World → Prop} {e : TypeId} {z n : Nat} {v : Value} {cs : List Value} (h : Ev w L [] F H u) (hb : Below u.heap.size u u') (hr : u'.ownsRow u.heap.size e z v n cs) : Gw w L e z v n cs F H u' := by
  have hk : ∀ k, v.ownBlock = some k → u.heap.size ≤ k ∧ k < u'.heap.size := fun k hk => qaq hr hk
  have h' := h.below hb
  have key : ∀ B V, Ext B (v.ownBlock.toList ++ L.map (·.1)) u' V → Ext B ([] ++ L.map (·.1)) u V := fun B V hV =>
    ⟨Nat.le_trans hb.size hV.size, fun b k1 k2 k3 => (hV.block b k1 (Nat.lt_of_lt_of_le k2 hb.size) fun hm => by
      rcases List.mem_append.1 hm with hm | hm
      · have he : v.ownBlock = some b := by simpa using hm
        have := (hk b he).1
        omega
      · exact k3 (by simpa using hm)).trans (hb.block b k2)⟩
  refine ⟨⟨h'.mv, fun k hm => (hk k (by simpa using hm)).2, fun V hV => h.fs V (key 0 V hV), fun V hV => h.hs V (key _ V hV)⟩, row_mono hr h.bl.size, fun p hp he => ?_⟩
  have h1 := (hk p.1 he).1
  have h2 := (h.mv.all p hp).2.lt
  omega
theorem own_slice {u : World} {B : Nat} {e : TypeId} {z n : Nat} {v : Value} {cs : List Value} (h : u.ownsRow B e z v n cs) : ∃ a c, v = .slice a n c := by
  rcases h.2 with ⟨rfl, rfl⟩ | ⟨g, cap, cur, rfl, _⟩
  · exact ⟨_, _, rfl⟩
  · exact ⟨_, _, rfl⟩
theorem wpList_some {ops : Array Oper} {Q : Exit → Act → World → Prop} {rest : List Oper} {o : Oper} {a : Act} {u : World} {R : Value → World → Prop} (hg : o.guard = none) (hrun : ∃ v' u', (execOp a.eval o).run Try.prog u = .ok (.value v') u' ∧ R v' u') (h : ∀ v' u', R v' u' → wpList Try.prog ops Q rest (a.put o.dst v') u') : wpList Try.prog ops Q (o :: rest) a u := by
  obtain ⟨v', u', h1, h2⟩ := hrun
  exact qaa h1 hg (h v' u' h2)
end Go.Proofs.Ytcgbgmbnagmohaa
namespace Go.Proofs.Ytcgbgmbnagmohaa
open Go.RowKit
set_option maxRecDepth 20000
attribute [local irreducible] wpList
structure Hw (w : World) (L : List (Nat × List Value)) (e : TypeId) (z : Nat) (v : Value) (n : Nat) (cs : List Value) (e2 : TypeId) (z2 : Nat) (v2 : Value) (n2 : Nat) (cs2 : List Value) (F H : World → Prop) (u : World) : Prop where
  ev : Ev w L (v.ownBlock.toList ++ v2.ownBlock.toList) F H u
  row : u.ownsRow w.heap.size e z v n cs
  row2 : u.ownsRow w.heap.size e2 z2 v2 n2 cs2
  ap : ∀ p ∈ L, v.ownBlock ≠ some p.1
  ap2 : ∀ p ∈ L, v2.ownBlock ≠ some p.1
  ne : ∀ k, v.ownBlock = some k → v2.ownBlock ≠ some k
section
variable {w u u' : World} {L : List (Nat × List Value)} {e e2 : TypeId} {z z2 n n2 : Nat} {v v2 : Value} {cs cs2 : List Value} {F H F0 H0 : World → Prop}
theorem Hw.swap (h : Hw w L e z v n cs e2 z2 v2 n2 cs2 F H u) : Hw w L e2 z2 v2 n2 cs2 e z v n cs F H u :=
  ⟨⟨h.ev.mv, fun k hk => h.ev.kb k (by rw [List.mem_append] at hk ⊢; exact hk.symm), fun V hV => h.ev.fs V (hV.mono (Nat.le_refl _) fun b hb => by simp only [List.mem_append] at hb ⊢; rcases hb with (hb | hb) | hb; exact .inl (.inr hb); exact .inl (.inl hb); exact .inr hb),
    fun V hV => h.ev.hs V (hV.mono (Nat.le_refl _) fun b hb => by simp only [List.mem_append] at hb ⊢; rcases hb with (hb | hb) | hb; exact .inl (.inr hb); exact .inl (.inl hb); exact .inr hb)⟩, h.row2, h.row, h.ap2, h.ap, fun k h1 h2 => h.ne k h2 h1⟩
theorem Hw.start (h : Ev w L [] F H u) (e : TypeId) (z : Nat) (e2 : TypeId) (z2 : Nat) : Hw w L e z (.slice none 0 0) 0 [] e2 z2 (.slice none 0 0) 0 [] F H u :=
  ⟨h, ⟨by simp, .inl ⟨rfl, rfl⟩⟩, ⟨by simp, .inl ⟨rfl, rfl⟩⟩, (fun _ _ h => by cases h), (fun _ _ h => by cases h), (fun _ h => by cases h)⟩
theorem Hw.bl (h : Hw w L e z v n cs e2 z2 v2 n2 cs2 F H u) : Below w.heap.size w u := h.ev.bl
theorem Hw.get (h : Hw w L e z v n cs e2 z2 v2 n2 cs2 F H u) {i g : Nat} {l : List Value} (hi : L[i]? = some (g, l)) : Arr g l u := h.ev.get hi
theorem Hw.below (h : Hw w L e z v n cs e2 z2 v2 n2 cs2 F H u) (hb : Below u.heap.size u u') : Hw w L e z v n cs e2 z2 v2 n2 cs2 F H u' :=
  ⟨h.ev.below hb, qbg h.row fun k hk => hb.block k (qaq h.row hk).2, qbg h.row2 fun k hk => hb.block k (qaq h.row2 hk).2, h.ap, h.ap2, h.ne⟩
theorem Hw.call (h : Hw w L e z v n cs e2 z2 v2 n2 cs2 F H u) (hb : Below u.heap.size u u') (h0 : Fro u.heap.size H0 u') : Hw w L e z v n cs e2 z2 v2 n2 cs2 F (fun V => H0 V ∧ H V) u' :=
  ⟨h.ev.call hb h0, qbg h.row fun k hk => hb.block k (qaq h.row hk).2, qbg h.row2 fun k hk => hb.block k (qaq h.row2 hk).2, h.ap, h.ap2, h.ne⟩
theorem Hw.know (h : Hw w L e z v n cs e2 z2 v2 n2 cs2 F H u) (hk : ∀ V, H V → H0 V) : Hw w L e z v n cs e2 z2 v2 n2 cs2 F H0 u := ⟨h.ev.knowH hk, h.row, h.row2, h.ap, h.ap2, h.ne⟩
theorem Hw.set (h : Hw w L e z v n cs e2 z2 v2 n2 cs2 F H u) (i : Nat) {g : Nat} {l : List Value} (hi : L[i]? = some (g, l)) {j : Nat} (hj : j < l.length) (x : Value) : Hw w (L.set i (g, l.set j x)) e z v n cs e2 z2 v2 n2 cs2 F H (u.setCell ⟨g, j, none⟩ x) := by
  have hg := h.ap (g, l) (List.mem_of_getElem? hi)
  have hg2 := h.ap2 (g, l) (List.mem_of_getElem? hi)
  refine ⟨h.ev.set i hi hj x, qbg h.row fun k hk => setCell_far (fun e => hg (by rw [hk, e])) j x u, qbg h.row2 fun k hk => setCell_far (fun e => hg2 (by rw [hk, e])) j x u, fun p hp => ?_, fun p hp => ?_, h.ne⟩
  · rcases List.mem_or_eq_of_mem_set hp with hp | rfl
    · exact h.ap p hp
    · exact hg
  · rcases List.mem_or_eq_of_mem_set hp with hp | rfl
    · exact h.ap2 p hp
    · exact hg2
theorem Hw.new (h : Hw w L e z v n cs e2 z2 v2 n2 cs2 F H u) (l : List Value) (t : TypeId) : Hw w ((u.heap.size, l) :: L) e z v n cs e2 z2 v2 n2 cs2 F H (u.alloc (.cells l.toArray t)) := by
  have hb : Below u.heap.size u (u.alloc (.cells l.toArray t)) := (Below.refl _ _).alloc (Nat.le_refl _) _
  refine ⟨h.ev.new l t, qbg h.row fun k hk => hb.block k (qaq h.row hk).2, qbg h.row2 fun k hk => hb.block k (qaq h.row2 hk).2, fun p hp he => ?_, fun p hp he => ?_, h.ne⟩
  · rcases List.mem_cons.1 hp with rfl | hp
    · have := (qaq h.row he).2
      simp only at this; omega
    · exact h.ap p hp he
  · rcases List.mem_cons.1 hp with rfl | hp
    · have := (qaq h.row2 he).2
      simp only at this; omega
    · exact h.ap2 p hp he
theorem Hw.put (h : Hw w L e z v n cs e2 z2 v2 n2 cs2 F H u) (i : Nat) {g : Nat} {l : List Value} (hi : L[i]? = some (g, l)) {m : List Value} (hm : m.length = l.length) : Hw w (L.set i (g, m)) e z v n cs e2 z2 v2 n2 cs2 F H (u.setCells g 0 m) := by
  have hg := h.ap (g, l) (List.mem_of_getElem? hi)
  have hg2 := h.ap2 (g, l) (List.mem_of_getElem? hi)
  refine ⟨h.ev.put i hi hm, qbg h.row fun k hk => qcp (fun e => hg (by rw [hk, e])) m 0 u, qbg h.row2 fun k hk => qcp (fun e => hg2 (by rw [hk, e])) m 0 u, fun p hp => ?_, fun p hp => ?_, h.ne⟩
  · rcases List.mem_or_eq_of_mem_set hp with hp | rfl
    · exact h.ap p hp
    · exact hg
  · rcases List.mem_or_eq_of_mem_set hp with hp | rfl
    · exact h.ap2 p hp
    · exact hg2
theorem Hw.ofcall (h : Gw w L e z v n cs F H u) (hb : Below u.heap.size u u') (hr : u'.ownsRow u.heap.size e2 z2 v2 n2 cs2) : Hw w L e z v n cs e2 z2 v2 n2 cs2 F H u' := by
  have hk : ∀ k, v2.ownBlock = some k → u.heap.size ≤ k ∧ k < u'.heap.size := fun k hk => qaq hr hk
  have h' := h.below hb
  have key : ∀ B V, Ext B ((v.ownBlock.toList ++ v2.ownBlock.toList) ++ L.map (·.1)) u' V → Ext B (v.ownBlock.toList ++ L.map (·.1)) u V := fun B V hV =>
    ⟨Nat.le_trans hb.size hV.size, fun b k1 k2 k3 => (hV.block b k1 (Nat.lt_of_lt_of_le k2 hb.size) fun hm => by
      simp only [List.mem_append, not_or] at hm k3
      rcases hm with (hm | hm) | hm
      · exact k3.1 hm
      · have he : v2.ownBlock = some b := by simpa using hm
        have := (hk b he).1
        omega
      · exact k3.2 hm).trans (hb.block b k2)⟩
  refine ⟨⟨h'.ev.mv, fun k hm => ?_, fun V hV => h.ev.fs V (key 0 V hV), fun V hV => h.ev.hs V (key _ V hV)⟩, h'.row, row_mono hr h.bl.size, h'.ap, fun p hp he => ?_, fun k h1 h2 => ?_⟩
  · rcases List.mem_append.1 hm with hm | hm
    · exact h'.ev.kb k hm
    · exact (hk k (by simpa using hm)).2
  · have h1 := (hk p.1 he).1
    have h2 := (h.ev.mv.all p hp).2.lt
    omega
  · have q1 := (qaq h.row h1).2
    have q2 := (hk k h2).1
    omega
theorem Hw.isSlice (h : Hw w L e z v n cs e2 z2 v2 n2 cs2 F H u) : ∃ a k c, v = .slice a k c := by
  rcases h.row.2 with ⟨rfl, _⟩ | ⟨g, cap, cur, rfl, _⟩
  · exact ⟨_, _, _, rfl⟩
  · exact ⟨_, _, _, rfl⟩
theorem Hw.done (h : Hw w L e z v n cs e2 z2 v2 n2 cs2 F H u) : Ev w L [] F (fun V => V.ownsRow w.heap.size e z v n cs ∧ V.ownsRow w.heap.size e2 z2 v2 n2 cs2 ∧ H V) u := by
  refine ⟨h.ev.mv, (fun _ hk => by cases hk), fun V hV => h.ev.fs V (hV.mono (Nat.le_refl _) fun b hb => List.mem_append.2 (.inr (by simpa using hb))), fun V hV => ⟨?_, ?_, h.ev.hs V (hV.mono (Nat.le_refl _) fun b hb => List.mem_append.2 (.inr (by simpa using hb)))⟩⟩
  · exact qbg h.row fun k hk => hV.block k (qaq h.row hk).1 (qaq h.row hk).2 fun hm => by
      obtain ⟨p, hp, he⟩ := List.mem_map.1 (by simpa using hm : k ∈ L.map (·.1))
      exact h.ap p hp (he ▸ hk)
  · exact qbg h.row2 fun k hk => hV.block k (qaq h.row2 hk).1 (qaq h.row2 hk).2 fun hm => by
      obtain ⟨p, hp, he⟩ := List.mem_map.1 (by simpa using hm : k ∈ L.map (·.1))
      exact h.ap2 p hp (he ▸ hk)
theorem Hw.grown (G : Hw w L e z v n cs e2 z2 v2 n2 cs2 F H u) {v' : Value} {n' : Nat} {cs' : List Value} (h3 : u'.ownsRow w.heap.size e z v' n' cs') (h4 : u.grownBy u' v.ownBlock) (hw : v'.ownBlock = v.ownBlock ∨ v'.ownBlock = some u.heap.size) : Hw w L e z v' n' cs' e2 z2 v2 n2 cs2 F H u' := by
  have hbase : w.heap.size ≤ u.heap.size := G.bl.size
  have hb : Below w.heap.size u u' := below_grown h4 (fun k hk => (qaq G.row hk).1) hbase
  have hap : ∀ p ∈ L, v'.ownBlock ≠ some p.1 := fun p hp he => by
    rcases hw with hw | hw
    · exact G.ap p hp (hw ▸ he)
    · rw [hw] at he
      have h6 := (G.ev.mv.all p hp).2.lt
      injection he with he
      omega
  have hne : ∀ k, v'.ownBlock = some k → v2.ownBlock ≠ some k := fun k h1 h2 => by
    rcases hw with hw | hw
    · exact G.ne k (hw ▸ h1) h2
    · rw [hw] at h1
      have h6 := (qaq G.row2 h2).2
      injection h1 with h1
      omega
  have key : ∀ B V, Ext B ((v'.ownBlock.toList ++ v2.ownBlock.toList) ++ L.map (·.1)) u' V → Ext B ((v.ownBlock.toList ++ v2.ownBlock.toList) ++ L.map (·.1)) u V := fun B V hV =>
    ⟨Nat.le_trans h4.size hV.size, fun b k1 k2 k3 => by
      simp only [List.mem_append, not_or] at k3
      have n1 : v.ownBlock ≠ some b := fun he => k3.1.1 (by simp [he])
      have n2 : b ∉ (v'.ownBlock.toList ++ v2.ownBlock.toList) ++ L.map (·.1) := fun hm => by
        simp only [List.mem_append] at hm
        rcases hm with (hm | hm) | hm
        · have he : v'.ownBlock = some b := by simpa using hm
          rcases hw with hw | hw
          · exact n1 (hw ▸ he)
          · rw [hw] at he
            injection he with he
            omega
        · exact k3.1.2 hm
        · exact k3.2 hm
      exact (hV.block b k1 (Nat.lt_of_lt_of_le k2 h4.size) n2).trans (h4.block b k2 fun he => n1 he.symm)⟩
  have hmv : Mv w L u' := ⟨G.bl.trans hb, G.ev.mv.nd, fun p hp => ⟨(G.ev.mv.all p hp).1, (G.ev.mv.all p hp).2.same h4.size (h4.block _ (G.ev.mv.all p hp).2.lt fun he => G.ap p hp he.symm)⟩⟩
  have hr2 : u'.ownsRow w.heap.size e2 z2 v2 n2 cs2 := qbg G.row2 fun k hk => h4.block k (qaq G.row2 hk).2 fun he => G.ne k he.symm hk
  exact ⟨⟨hmv, fun k hk => by
    rcases List.mem_append.1 hk with hk | hk
    · exact (qaq h3 (by simpa using hk)).2
    · exact (qaq hr2 (by simpa using hk)).2, fun V hV => G.ev.fs V (key 0 V hV), fun V hV => G.ev.hs V (key _ V hV)⟩, h3, hr2, hap, G.ap2, hne⟩
theorem run_growH {o : Oper} {ρ : Operand → Value} {s x : Operand} {t : TypeId} {bw : Nat} {zv : Value} (ho : o.op = .call { callee := .builtin .append, args := #[s, x], argTypes := #[t, t] })
    (ht : Try.prog.underlying t = some (.slice e)) (hi : (Try.prog.info? e).map (fun i => (i.size, i.bytes, i.zero)) = some (z, bw, some zv)) (hzs : zv.cells.size = z) (hz : 0 < z)
    (hs : ρ s = v) {g f c : Nat} {m : List Value} (hx : ρ x = .slice (some ⟨g, f, none⟩) 1 c) (hr : u.rangeAt g f m) (hl : m.length = z) (h1 : One m)
    (hn : n < 100000) (hbw : bw ≤ 1000000) (G : Hw w L e z v n cs e2 z2 v2 n2 cs2 F H u) : ∃ v' u', (execOp ρ o).run Try.prog u = .ok (.value v') u' ∧ Hw w L e z v' (n + 1) (cs ++ m) e2 z2 v2 n2 cs2 F H u' := by
  obtain ⟨inf, q1, q2⟩ := Option.map_eq_some_iff.1 hi
  obtain ⟨e1, e2', e3⟩ : inf.size = z ∧ inf.bytes = bw ∧ inf.zero = some zv := by simpa using q2
  have hc : ∀ j w', m[j]? = some w' → u.cell? ((⟨g, f, none⟩ : Addr).add j) = some w' := fun j w' hw => by rw [Addr.add_mid]; exact hr j w' hw
  have hby : (n + 1) * bw ≤ 140737488355328 := Nat.le_trans (Nat.mul_le_mul (show n + 1 ≤ 100000 by omega) hbw) (by omega)
  have hbase : w.heap.size ≤ u.heap.size := G.bl.size
  obtain ⟨v', w', hrun, h3, h4, _⟩ := run_append_own (P := Try.prog) u w.heap.size t o.type e inf zv z bw ht q1 e3 e1 e2' hzs hz v n cs G.row ⟨g, f, none⟩ 1 c m (by rw [hl, Nat.one_mul]) hc h1 (by unfold maxLen; omega) hby hbase
  have hw := append_where (P := Try.prog) w.heap.size t o.type e inf zv z bw ht q1 e3 e1 e2' hzs hz v n cs G.row ⟨g, f, none⟩ 1 c m (by rw [hl, Nat.one_mul]) hc h1 (by unfold maxLen; omega) hby (by omega) hrun
  refine ⟨v', w', ?_, G.grown h3 h4 hw⟩
  unfold execOp
  simp [ho, resolve, invoke, builtin, hs, hx, hrun, Result.andThen]
end
theorem wpAnyD_some {ops : Array Oper} {Q : Exit → Act → World → Prop} {S : World → Prop} {a : Act} {u : World} {o : Oper} {fuel : Nat} {listed : Array Bool} {R : Value → World → Prop} (i : Nat) {d : Tmp} (hr : Region.ready .any ops listed = [i]) (hoo : ops[i]? = some o) (hd : o.dst = some d) (hw : Region.wanted o (yielded ops a.tmps) = true) (hl' : (listed.setIfInBounds i true).getD i false = true)
    (hrun : ∃ v' u', (execOp a.eval o).run Try.prog u = .ok (.value v') u' ∧ R v' u')
    (h : ∀ v' u', R v' u' → qbu Try.prog ops Q (Till i S) fuel (listed.setIfInBounds i true) (a.put (some d) v') u') : qbu Try.prog ops Q (Till i S) (fuel + 1) listed a u := by
  simp only [← hd] at h
  obtain ⟨v', w', hrun, h1⟩ := hrun
  refine ⟨fun e => (by rw [hr] at e; cases e), fun j hj => ?_⟩
  rw [hr] at hj
  obtain rfl : j = i := by simpa using hj
  simp only [wpOp, hoo, hw, if_true]
  refine .inl ?_
  unfold Oper.wp
  rw [hrun]
  exact ⟨.inl hl', h v' w' h1⟩
end Go.Proofs.Ytcgbgmbnagmohaa
