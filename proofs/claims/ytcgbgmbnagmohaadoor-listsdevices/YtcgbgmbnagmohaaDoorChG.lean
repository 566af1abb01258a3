import Derived.Test.YtcgbgmbnagmohaaDoorPw2
namespace Go.Proofs.YtcgbgmbnagmohaaDoor
open Go.RowKit
set_option maxRecDepth 20000
section
variable {w u u' : World} {L : List (Nat × List Value)} {e : TypeId} {z n : Nat} {v : Value} {cs : List Value} {F H F0 H0 : World → Prop}
theorem run_growC {o : Oper} {ρ : Operand → Value} {s x : Operand} {t : TypeId} {bw : Nat} {zv : Value} (ho : o.op = .call { callee := .builtin .append, args := #[s, x], argTypes := #[t, t] })
  (ht : Tryd.prog.underlying t = some (.slice e)) (hi : (Tryd.prog.info? e).map (fun i => (i.size, i.bytes, i.zero)) = some (z, bw, some zv)) (hzs : zv.cells.size = z) (hz : 0 < z)
  (hs : ρ s = v) {g f c : Nat} {m : List Value} (hx : ρ x = .slice (some ⟨g, f, none⟩) 1 c) (hr : u.rangeAt g f m) (hl : m.length = z) (h1 : One m)
  (hn : n < 100000) (hbw : bw ≤ 1000000) (G : Gw w L e z v n cs F H u)
  : ∃ v' u', (execOp ρ o).run Tryd.prog u = .ok (.value v') u' ∧ Gw w L e z v' (n + 1) (cs ++ m) F H u' := by
 obtain ⟨inf, q1, q2⟩ := Option.map_eq_some_iff.1 hi
 obtain ⟨e1, e2, e3⟩ : inf.size = z ∧ inf.bytes = bw ∧ inf.zero = some zv := by simpa using q2
 have hc : ∀ j w', m[j]? = some w' → u.cell? ((⟨g, f, none⟩ : Addr).add j) = some w' := fun j w' hw => by rw [Addr.add_mid]; exact hr j w' hw
 have hby : (n + 1) * bw ≤ 140737488355328 := Nat.le_trans (Nat.mul_le_mul (show n + 1 ≤ 100000 by omega) hbw) (by omega)
 have hbase : w.heap.size ≤ u.heap.size := G.bl.size
 obtain ⟨v', w', hrun, h3, h4, _⟩ := run_append_own (P := Tryd.prog) u w.heap.size t o.type e inf zv z bw ht q1 e3 e1 e2 hzs hz v n cs G.row ⟨g, f, none⟩ 1 c m (by rw [hl, Nat.one_mul]) hc h1 (by unfold maxLen; omega) hby hbase
 have hw := append_where (P := Tryd.prog) w.heap.size t o.type e inf zv z bw ht q1 e3 e1 e2 hzs hz v n cs G.row ⟨g, f, none⟩ 1 c m (by rw [hl, Nat.one_mul]) hc h1 (by unfold maxLen; omega) hby (by omega) hrun
 have hb : Below w.heap.size u w' := below_grown h4 (fun k hk => (qa4 G.row hk).1) hbase
 have hap : ∀ p ∈ L, v'.ownBlock ≠ some p.1 := fun p hp he => by
  rcases hw with hw | hw
  ·exact G.ap p hp (hw ▸ he)
  ·rw [hw] at he
   have h6 := (G.ev.mv.all p hp).2.lt
   injection he with he
   omega
 have key : ∀ B V, Ext B (v'.ownBlock.toList ++ L.map (·.1)) w' V → Ext B (v.ownBlock.toList ++ L.map (·.1)) u V := fun B V hV =>
  ⟨Nat.le_trans h4.size hV.size, fun b k1 k2 k3 => by
   have n1 : v.ownBlock ≠ some b := fun he => k3 (List.mem_append.2 (.inl (by simp [he])))
   have n2 : b ∉ v'.ownBlock.toList ++ L.map (·.1) := fun hm => by
    rcases List.mem_append.1 hm with hm | hm
    ·have he : v'.ownBlock = some b := by simpa using hm
     rcases hw with hw | hw
     ·exact n1 (hw ▸ he)
     ·rw [hw] at he
      injection he with he
      omega
    ·exact k3 (List.mem_append.2 (.inr hm))
   exact (hV.block b k1 (Nat.lt_of_lt_of_le k2 h4.size) n2).trans (h4.block b k2 fun he => n1 he.symm)⟩
 have hmv : Mv w L w' := ⟨G.bl.trans hb, G.ev.mv.nd, fun p hp => ⟨(G.ev.mv.all p hp).1, (G.ev.mv.all p hp).2.same h4.size (h4.block _ (G.ev.mv.all p hp).2.lt fun he => G.ap p hp he.symm)⟩⟩
 have hG : Gw w L e z v' (n + 1) (cs ++ m) F H w' := ⟨⟨hmv, fun k hk => (qa4 h3 (by simpa using hk)).2, fun V hV => G.ev.fs V (key 0 V hV), fun V hV => G.ev.hs V (key _ V hV)⟩, h3, hap⟩
 refine ⟨v', w', ?_, hG⟩
 unfold execOp
 simp [ho, resolve, invoke, builtin, hs, hx, hrun, Result.andThen]
theorem wpAnyD_growC {ops : Array Oper} {Q : Exit → Act → World → Prop} {S : World → Prop} {a : Act} {o : Oper} {fuel : Nat} {listed : Array Bool} {s x : Operand} {t : TypeId} {bw : Nat} {zv : Value} (i : Nat) {d : Tmp} (hr : Region.ready .any ops listed = [i]) (hoo : ops[i]? = some o) (hd : o.dst = some d) (hw : Region.wanted o (yielded ops a.tmps) = true) (hl' : (listed.setIfInBounds i true).getD i false = true)
  (ho : o.op = .call { callee := .builtin .append, args := #[s, x], argTypes := #[t, t] })
  (ht : Tryd.prog.underlying t = some (.slice e)) (hi : (Tryd.prog.info? e).map (fun i => (i.size, i.bytes, i.zero)) = some (z, bw, some zv)) (hzs : zv.cells.size = z) (hz : 0 < z)
  (hs : a.eval s = v) {g f c : Nat} {m : List Value} (hx : a.eval x = .slice (some ⟨g, f, none⟩) 1 c) (hrr : u.rangeAt g f m) (hl : m.length = z) (h1 : One m)
  (hn : n < 100000) (hbw : bw ≤ 1000000) (G : Gw w L e z v n cs F H u)
  (h : ∀ v' u', Gw w L e z v' (n + 1) (cs ++ m) F H u' → qb5 Tryd.prog ops Q (Till i S) fuel (listed.setIfInBounds i true) (a.put (some d) v') u') : qb5 Tryd.prog ops Q (Till i S) (fuel + 1) listed a u := by
 simp only [← hd] at h
 obtain ⟨v', w', hrun, h1⟩ := run_growC ho ht hi hzs hz hs hx hrr hl h1 hn hbw G
 refine ⟨fun e => (by rw [hr] at e; cases e), fun j hj => ?_⟩
 rw [hr] at hj
 obtain rfl : j = i := by simpa using hj
 simp only [wpOp, hoo, hw, if_true]
 refine .inl ?_
 unfold Oper.wp
 rw [hrun]
 exact ⟨.inl hl', h v' w' h1⟩
end
section
variable {P : Program} {ops : Array Oper} {Q : Exit → Act → World → Prop} {S : World → Prop} {D : Nat}
theorem wpAnyD_callC {fuel : Nat} {listed : Array Bool} {a : Act} {w : World} {o : Oper} {f : FuncId} {args : Array Value} {R : Value → World → Prop} (i : Nat) {d : Tmp} (hr : Region.ready .any ops listed = [i]) (ho : ops[i]? = some o) (hd : o.dst = some d) (hw : Region.wanted o (yielded ops a.tmps) = true) (hrun : (execOp a.eval o).run P w = .ok (.enter f args) w)
  (hc : Calls P f args w fun e w' => ∃ v, e = .returned v ∧ R v w') (hS : ∀ v w', R v w' → S w')
  (hn : ∀ v w', R v w' → qb5 P ops Q (Till D S) fuel (listed.setIfInBounds i true) (a.put (some d) v) w') : qb5 P ops Q (Till D S) (fuel + 1) listed a w := by
 simp only [← hd] at hn
 refine ⟨fun e => (by rw [hr] at e; cases e), fun j hj => ?_⟩
 rw [hr] at hj
 obtain rfl : j = i := by simpa using hj
 simp only [wpOp, ho, hw, if_true]
 refine .inl ?_
 unfold Oper.wp
 rw [hrun]
 simp only [Oper.upon]
 refine hc.mono fun e w' ⟨v, he, hb⟩ => ?_
 subst he
 exact ⟨.inr (hS v w' hb), hn v w' hb⟩
end
end Go.Proofs.YtcgbgmbnagmohaaDoor
