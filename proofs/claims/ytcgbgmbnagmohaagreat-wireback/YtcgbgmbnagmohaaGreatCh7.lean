import Derived.Test.YtcgbgmbnagmohaaGreatGw
import Derived.Test.YtcgbgmbnagmohaaGreatChG
import Derived.Test.YtcgbgmbnagmohaaGreatLy
import Derived.Test.YtcgbgmbnagmohaaGreatCh5
import Derived.Test.YtcgbgmbnagmohaaGreatSlA
namespace Go.Proofs.YtcgbgmbnagmohaaGreat
open Go.RowKit
set_option maxRecDepth 20000
attribute [local irreducible] wpList
end Go.Proofs.YtcgbgmbnagmohaaGreat
namespace Go.Proofs.YtcgbgmbnagmohaaGreat
open Go.RowKit
set_option maxRecDepth 20000
attribute [local irreducible] wpList
structure Hw (w : World) (L : List (Nat × List Value)) (e : TypeId) (z : Nat) (v : Value) (n : Nat) (cs : List Value) (e2 : TypeId) (z2 : Nat) (v2 : Value) (n2 : Nat) (cs2 : List Value) (F H : World → Prop) (u : World) : Prop where
  ev : Ev w L (v.ownBlock.toList ++ v2.ownBlock.toList) F H u
  row : u.ownsRow w.heap.size e z v n cs
  row2 : u.ownsRow w.heap.size e2 z2 v2 n2 cs2
  ap : ∀ p ∈ L, v.ownBlock ≠ some p.1
  ap2 : ∀ p ∈ L, v2.ownBlock ≠ some p.1
  ne : ∀ k, v.ownBlock = some k → v2.ownBlock ≠ some k
section
variable {w u u' : World} {L : List (Nat × List Value)} {e e2 : TypeId} {z z2 n n2 : Nat} {v v2 : Value} {cs cs2 : List Value} {F H F0 H0 : World → Prop}
theorem Hw.swap (h : Hw w L e z v n cs e2 z2 v2 n2 cs2 F H u) : Hw w L e2 z2 v2 n2 cs2 e z v n cs F H u :=
  ⟨⟨h.ev.mv, fun k hk => h.ev.kb k (by rw [List.mem_append] at hk ⊢; exact hk.symm), fun V hV => h.ev.fs V (hV.mono (Nat.le_refl _) fun b hb => by simp only [List.mem_append] at hb ⊢; rcases hb with (hb | hb) | hb; exact .inl (.inr hb); exact .inl (.inl hb); exact .inr hb),
    fun V hV => h.ev.hs V (hV.mono (Nat.le_refl _) fun b hb => by simp only [List.mem_append] at hb ⊢; rcases hb with (hb | hb) | hb; exact .inl (.inr hb); exact .inl (.inl hb); exact .inr hb)⟩, h.row2, h.row, h.ap2, h.ap, fun k h1 h2 => h.ne k h2 h1⟩
theorem Hw.start (h : Ev w L [] F H u) (e : TypeId) (z : Nat) (e2 : TypeId) (z2 : Nat) : Hw w L e z (.slice none 0 0) 0 [] e2 z2 (.slice none 0 0) 0 [] F H u :=
  ⟨h, ⟨by simp, .inl ⟨rfl, rfl⟩⟩, ⟨by simp, .inl ⟨rfl, rfl⟩⟩, (fun _ _ h => by cases h), (fun _ _ h => by cases h), (fun _ h => by cases h)⟩
theorem Hw.bl (h : Hw w L e z v n cs e2 z2 v2 n2 cs2 F H u) : Below w.heap.size w u := h.ev.bl
theorem Hw.get (h : Hw w L e z v n cs e2 z2 v2 n2 cs2 F H u) {i g : Nat} {l : List Value} (hi : L[i]? = some (g, l)) : Arr g l u := h.ev.get hi
theorem Hw.below (h : Hw w L e z v n cs e2 z2 v2 n2 cs2 F H u) (hb : Below u.heap.size u u') : Hw w L e z v n cs e2 z2 v2 n2 cs2 F H u' :=
  ⟨h.ev.below hb, qbs h.row fun k hk => hb.block k (qax h.row hk).2, qbs h.row2 fun k hk => hb.block k (qax h.row2 hk).2, h.ap, h.ap2, h.ne⟩
theorem Hw.call (h : Hw w L e z v n cs e2 z2 v2 n2 cs2 F H u) (hb : Below u.heap.size u u') (h0 : Fro u.heap.size H0 u') : Hw w L e z v n cs e2 z2 v2 n2 cs2 F (fun V => H0 V ∧ H V) u' :=
  ⟨h.ev.call hb h0, qbs h.row fun k hk => hb.block k (qax h.row hk).2, qbs h.row2 fun k hk => hb.block k (qax h.row2 hk).2, h.ap, h.ap2, h.ne⟩
theorem Hw.know (h : Hw w L e z v n cs e2 z2 v2 n2 cs2 F H u) (hk : ∀ V, H V → H0 V) : Hw w L e z v n cs e2 z2 v2 n2 cs2 F H0 u := ⟨h.ev.knowH hk, h.row, h.row2, h.ap, h.ap2, h.ne⟩
theorem Hw.set (h : Hw w L e z v n cs e2 z2 v2 n2 cs2 F H u) (i : Nat) {g : Nat} {l : List Value} (hi : L[i]? = some (g, l)) {j : Nat} (hj : j < l.length) (x : Value) : Hw w (L.set i (g, l.set j x)) e z v n cs e2 z2 v2 n2 cs2 F H (u.setCell ⟨g, j, none⟩ x) := by
  have hg := h.ap (g, l) (List.mem_of_getElem? hi)
  have hg2 := h.ap2 (g, l) (List.mem_of_getElem? hi)
  refine ⟨h.ev.set i hi hj x, qbs h.row fun k hk => setCell_far (fun e => hg (by rw [hk, e])) j x u, qbs h.row2 fun k hk => setCell_far (fun e => hg2 (by rw [hk, e])) j x u, fun p hp => ?_, fun p hp => ?_, h.ne⟩
  · rcases List.mem_or_eq_of_mem_set hp with hp | rfl
    · exact h.ap p hp
    · exact hg
  · rcases List.mem_or_eq_of_mem_set hp with hp | rfl
    · exact h.ap2 p hp
    · exact hg2
theorem Hw.new (h : Hw w L e z v n cs e2 z2 v2 n2 cs2 F H u) (l : List Value) (t : TypeId) : Hw w ((u.heap.size, l) :: L) e z v n cs e2 z2 v2 n2 cs2 F H (u.alloc (.cells l.toArray t)) := by
  have hb : Below u.heap.size u (u.alloc (.cells l.toArray t)) := (Below.refl _ _).alloc (Nat.le_refl _) _
  refine ⟨h.ev.new l t, qbs h.row fun k hk => hb.block k (qax h.row hk).2, qbs h.row2 fun k hk => hb.block k (qax h.row2 hk).2, fun p hp he => ?_, fun p hp he => ?_, h.ne⟩
  · rcases List.mem_cons.1 hp with rfl | hp
    · have := (qax h.row he).2
      simp only at this; omega
    · exact h.ap p hp he
  · rcases List.mem_cons.1 hp with rfl | hp
    · have := (qax h.row2 he).2
      simp only at this; omega
    · exact h.ap2 p hp he
theorem Hw.put (h : Hw w L e z v n cs e2 z2 v2 n2 cs2 F H u) (i : Nat) {g : Nat} {l : List Value} (hi : L[i]? = some (g, l)) {m : List Value} (hm : m.length = l.length) : Hw w (L.set i (g, m)) e z v n cs e2 z2 v2 n2 cs2 F H (u.setCells g 0 m) := by
  have hg := h.ap (g, l) (List.mem_of_getElem? hi)
  have hg2 := h.ap2 (g, l) (List.mem_of_getElem? hi)
  refine ⟨h.ev.put i hi hm, qbs h.row fun k hk => qda (fun e => hg (by rw [hk, e])) m 0 u, qbs h.row2 fun k hk => qda (fun e => hg2 (by rw [hk, e])) m 0 u, fun p hp => ?_, fun p hp => ?_, h.ne⟩
  · rcases List.mem_or_eq_of_mem_set hp with hp | rfl
    · exact h.ap p hp
    · exact hg
  · rcases List.mem_or_eq_of_mem_set hp with hp | rfl
    · exact h.ap2 p hp
    · exact hg2
theorem Hw.isSlice (h : Hw w L e z v n cs e2 z2 v2 n2 cs2 F H u) : ∃ a k c, v = .slice a k c := by
  rcases h.row.2 with ⟨rfl, _⟩ | ⟨g, cap, cur, rfl, _⟩
  · exact ⟨_, _, _, rfl⟩
  · exact ⟨_, _, _, rfl⟩
theorem Hw.done (h : Hw w L e z v n cs e2 z2 v2 n2 cs2 F H u) : Ev w L [] F (fun V => V.ownsRow w.heap.size e z v n cs ∧ V.ownsRow w.heap.size e2 z2 v2 n2 cs2 ∧ H V) u := by
  refine ⟨h.ev.mv, (fun _ hk => by cases hk), fun V hV => h.ev.fs V (hV.mono (Nat.le_refl _) fun b hb => List.mem_append.2 (.inr (by simpa using hb))), fun V hV => ⟨?_, ?_, h.ev.hs V (hV.mono (Nat.le_refl _) fun b hb => List.mem_append.2 (.inr (by simpa using hb)))⟩⟩
  · exact qbs h.row fun k hk => hV.block k (qax h.row hk).1 (qax h.row hk).2 fun hm => by
      obtain ⟨p, hp, he⟩ := List.mem_map.1 (by simpa using hm : k ∈ L.map (·.1))
      exact h.ap p hp (he ▸ hk)
  · exact qbs h.row2 fun k hk => hV.block k (qax h.row2 hk).1 (qax h.row2 hk).2 fun hm => by
      obtain ⟨p, hp, he⟩ := List.mem_map.1 (by simpa using hm : k ∈ L.map (·.1))
      exact h.ap2 p hp (he ▸ hk)
theorem Hw.grown (G : Hw w L e z v n cs e2 z2 v2 n2 cs2 F H u) {v' : Value} {n' : Nat} {cs' : List Value} (h3 : u'.ownsRow w.heap.size e z v' n' cs') (h4 : u.grownBy u' v.ownBlock) (hw : v'.ownBlock = v.ownBlock ∨ v'.ownBlock = some u.heap.size) : Hw w L e z v' n' cs' e2 z2 v2 n2 cs2 F H u' := by
  have hbase : w.heap.size ≤ u.heap.size := G.bl.size
  have hb : Below w.heap.size u u' := below_grown h4 (fun k hk => (qax G.row hk).1) hbase
  have hap : ∀ p ∈ L, v'.ownBlock ≠ some p.1 := fun p hp he => by
    rcases hw with hw | hw
    · exact G.ap p hp (hw ▸ he)
    · rw [hw] at he
      have h6 := (G.ev.mv.all p hp).2.lt
      injection he with he
      omega
  have hne : ∀ k, v'.ownBlock = some k → v2.ownBlock ≠ some k := fun k h1 h2 => by
    rcases hw with hw | hw
    · exact G.ne k (hw ▸ h1) h2
    · rw [hw] at h1
      have h6 := (qax G.row2 h2).2
      injection h1 with h1
      omega
  have key : ∀ B V, Ext B ((v'.ownBlock.toList ++ v2.ownBlock.toList) ++ L.map (·.1)) u' V → Ext B ((v.ownBlock.toList ++ v2.ownBlock.toList) ++ L.map (·.1)) u V := fun B V hV =>
    ⟨Nat.le_trans h4.size hV.size, fun b k1 k2 k3 => by
      simp only [List.mem_append, not_or] at k3
      have n1 : v.ownBlock ≠ some b := fun he => k3.1.1 (by simp [he])
      have n2 : b ∉ (v'.ownBlock.toList ++ v2.ownBlock.toList) ++ L.map (·.1) := fun hm => by
        simp only [List.mem_append] at hm
        rcases hm with (hm | hm) | hm
        · have he : v'.ownBlock = some b := by simpa using hm
          rcases hw with hw | hw
          · exact n1 (hw ▸ he)
          · rw [hw] at he
            injection he with he
            omega
        · exact k3.1.2 hm
        · exact k3.2 hm
      exact (hV.block b k1 (Nat.lt_of_lt_of_le k2 h4.size) n2).trans (h4.block b k2 fun he => n1 he.symm)⟩
  have hmv : Mv w L u' := ⟨G.bl.trans hb, G.ev.mv.nd, fun p hp => ⟨(G.ev.mv.all p hp).1, (G.ev.mv.all p hp).2.same h4.size (h4.block _ (G.ev.mv.all p hp).2.lt fun he => G.ap p hp he.symm)⟩⟩
  have hr2 : u'.ownsRow w.heap.size e2 z2 v2 n2 cs2 := qbs G.row2 fun k hk => h4.block k (qax G.row2 hk).2 fun he => G.ne k he.symm hk
  exact ⟨⟨hmv, fun k hk => by
    rcases List.mem_append.1 hk with hk | hk
    · exact (qax h3 (by simpa using hk)).2
    · exact (qax hr2 (by simpa using hk)).2, fun V hV => G.ev.fs V (key 0 V hV), fun V hV => G.ev.hs V (key _ V hV)⟩, h3, hr2, hap, G.ap2, hne⟩
theorem run_growH {o : Oper} {ρ : Operand → Value} {s x : Operand} {t : TypeId} {bw : Nat} {zv : Value} (ho : o.op = .call { callee := .builtin .append, args := #[s, x], argTypes := #[t, t] })
    (ht : Tryz.prog.underlying t = some (.slice e)) (hi : (Tryz.prog.info? e).map (fun i => (i.size, i.bytes, i.zero)) = some (z, bw, some zv)) (hzs : zv.cells.size = z) (hz : 0 < z)
    (hs : ρ s = v) {g f c : Nat} {m : List Value} (hx : ρ x = .slice (some ⟨g, f, none⟩) 1 c) (hr : u.rangeAt g f m) (hl : m.length = z) (h1 : One m)
    (hn : n < 100000) (hbw : bw ≤ 1000000) (G : Hw w L e z v n cs e2 z2 v2 n2 cs2 F H u) : ∃ v' u', (execOp ρ o).run Tryz.prog u = .ok (.value v') u' ∧ Hw w L e z v' (n + 1) (cs ++ m) e2 z2 v2 n2 cs2 F H u' := by
  obtain ⟨inf, q1, q2⟩ := Option.map_eq_some_iff.1 hi
  obtain ⟨e1, e2', e3⟩ : inf.size = z ∧ inf.bytes = bw ∧ inf.zero = some zv := by simpa using q2
  have hc : ∀ j w', m[j]? = some w' → u.cell? ((⟨g, f, none⟩ : Addr).add j) = some w' := fun j w' hw => by rw [Addr.add_mid]; exact hr j w' hw
  have hby : (n + 1) * bw ≤ 140737488355328 := Nat.le_trans (Nat.mul_le_mul (show n + 1 ≤ 100000 by omega) hbw) (by omega)
  have hbase : w.heap.size ≤ u.heap.size := G.bl.size
  obtain ⟨v', w', hrun, h3, h4, _⟩ := run_append_own (P := Tryz.prog) u w.heap.size t o.type e inf zv z bw ht q1 e3 e1 e2' hzs hz v n cs G.row ⟨g, f, none⟩ 1 c m (by rw [hl, Nat.one_mul]) hc h1 (by unfold maxLen; omega) hby hbase
  have hw := append_where (P := Tryz.prog) w.heap.size t o.type e inf zv z bw ht q1 e3 e1 e2' hzs hz v n cs G.row ⟨g, f, none⟩ 1 c m (by rw [hl, Nat.one_mul]) hc h1 (by unfold maxLen; omega) hby (by omega) hrun
  refine ⟨v', w', ?_, G.grown h3 h4 hw⟩
  unfold execOp
  simp [ho, resolve, invoke, builtin, hs, hx, hrun, Result.andThen]
end
theorem wpAnyD_some {ops : Array Oper} {Q : Exit → Act → World → Prop} {S : World → Prop} {a : Act} {u : World} {o : Oper} {fuel : Nat} {listed : Array Bool} {R : Value → World → Prop} (i : Nat) {d : Tmp} (hr : Region.ready .any ops listed = [i]) (hoo : ops[i]? = some o) (hd : o.dst = some d) (hw : Region.wanted o (yielded ops a.tmps) = true) (hl' : (listed.setIfInBounds i true).getD i false = true)
    (hrun : ∃ v' u', (execOp a.eval o).run Tryz.prog u = .ok (.value v') u' ∧ R v' u')
    (h : ∀ v' u', R v' u' → qb7 Tryz.prog ops Q (Till i S) fuel (listed.setIfInBounds i true) (a.put (some d) v') u') : qb7 Tryz.prog ops Q (Till i S) (fuel + 1) listed a u := by
  simp only [← hd] at h
  obtain ⟨v', w', hrun, h1⟩ := hrun
  refine ⟨fun e => (by rw [hr] at e; cases e), fun j hj => ?_⟩
  rw [hr] at hj
  obtain rfl : j = i := by simpa using hj
  simp only [wpOp, hoo, hw, if_true]
  refine .inl ?_
  unfold Oper.wp
  rw [hrun]
  exact ⟨.inl hl', h v' w' h1⟩
end Go.Proofs.YtcgbgmbnagmohaaGreat
namespace Go.Proofs.YtcgbgmbnagmohaaGreat
open Go.RowKit
set_option maxRecDepth 20000
attribute [local irreducible] wpList
set_option maxRecDepth 20000 in
theorem acR_ch {x0 : Value} (c0 : x0.cells = #[x0]) {x1 : Value} (c1 : x1.cells = #[x1]) {x2 : Value} (c2 : x2.cells = #[x2]) {x3 : Value} (c3 : x3.cells = #[x3]) {x4 : List Value} (h4 : x4.length = 99) : Tryz.prog.built 60 [(0, x0), (1, x1), (2, x2), (3, x3), (4, .agg x4.toArray)] = some (acR x0 x1 x2 x3 x4 (.slice none 0 0) (.slice none 0 0)).toArray := by
  have q0 : (Tryz.prog.info? 60).map (·.zero) = some (some (.agg ([.int .i64 0] ++ [.string ⟨#[]⟩] ++ [.int .i64 0] ++ [.int .i64 0] ++ (List.replicate 2 (.int .i64 0) ++ List.replicate 32 (.int .u8 0) ++ List.replicate 1 (.slice none 0 0) ++ List.replicate 64 (.int .u8 0)) ++ [.slice none 0 0] ++ [.slice none 0 0] : List Value).toArray)) := by kernel_rfl
  obtain ⟨it, q1, q2⟩ := Option.map_eq_some_iff.1 q0
  have h := qbz (places := [(0, 1), (1, 1), (2, 1), (3, 1), (4, 99), (103, 1), (104, 1)]) q1 Tryz.underlying60 q2 (by kernel_rfl) [.part 0 x0 [.int .i64 0], .part 1 x1 [.string ⟨#[]⟩], .part 2 x2 [.int .i64 0], .part 3 x3 [.int .i64 0], .part 4 (.agg x4.toArray) (List.replicate 2 (.int .i64 0) ++ List.replicate 32 (.int .u8 0) ++ List.replicate 1 (.slice none 0 0) ++ List.replicate 64 (.int .u8 0)), .gap [.slice none 0 0], .gap [.slice none 0 0]] (by kernel_rfl) (by simp [Seg.Ok, qbl, c0, c1, c2, c3, h4])
  rw [show Seg.told _ = [(0, x0), (1, x1), (2, x2), (3, x3), (4, .agg x4.toArray)] from rfl] at h
  rw [h]
  simp [Seg.out, acR, qbl, c0, c1, c2, c3]
set_option maxRecDepth 20000 in
theorem slR_ch {x0 : Value} (c0 : x0.cells = #[x0]) {x1 : List Value} (h1 : x1.length = 33) {x3 : Value} (c3 : x3.cells = #[x3]) {x4 : Value} (c4 : x4.cells = #[x4]) {x5 : Value} (c5 : x5.cells = #[x5]) : Tryz.prog.built 107 [(0, x0), (1, .agg x1.toArray), (3, x3), (4, x4), (5, x5)] = some (slR x0 x1 (List.replicate 64 (.int .u8 0)) x3 x4 x5).toArray := by
  have q0 : (Tryz.prog.info? 107).map (·.zero) = some (some (.agg ([.int .i64 0] ++ (List.replicate 1 (.int .i64 0) ++ List.replicate 32 (.int .u8 0)) ++ (List.replicate 64 (.int .u8 0)) ++ [.slice none 0 0] ++ [.int .i64 0] ++ [.slice none 0 0] : List Value).toArray)) := by kernel_rfl
  obtain ⟨it, q1, q2⟩ := Option.map_eq_some_iff.1 q0
  have h := qbz (places := [(0, 1), (1, 33), (34, 64), (98, 1), (99, 1), (100, 1)]) q1 Tryz.underlying107 q2 (by kernel_rfl) [.part 0 x0 [.int .i64 0], .part 1 (.agg x1.toArray) [.int .i64 0, .int .u8 0, .int .u8 0, .int .u8 0, .int .u8 0, .int .u8 0, .int .u8 0, .int .u8 0, .int .u8 0, .int .u8 0, .int .u8 0, .int .u8 0, .int .u8 0, .int .u8 0, .int .u8 0, .int .u8 0, .int .u8 0, .int .u8 0, .int .u8 0, .int .u8 0, .int .u8 0, .int .u8 0, .int .u8 0, .int .u8 0, .int .u8 0, .int .u8 0, .int .u8 0, .int .u8 0, .int .u8 0, .int .u8 0, .int .u8 0, .int .u8 0, .int .u8 0], .gap (List.replicate 64 (.int .u8 0)), .part 3 x3 [.slice none 0 0], .part 4 x4 [.int .i64 0], .part 5 x5 [.slice none 0 0]] (by kernel_rfl) (by simp [Seg.Ok, qbl, c0, h1, c3, c4, c5])
  rw [show Seg.told _ = [(0, x0), (1, .agg x1.toArray), (3, x3), (4, x4), (5, x5)] from rfl] at h
  rw [h]
  simp [Seg.out, slR, qbl, c0, c3, c4, c5]
set_option maxRecDepth 20000 in
theorem pkR_ch {x0 : Value} (c0 : x0.cells = #[x0]) : Tryz.prog.built 42 [(0, x0)] = some (pkR x0 (List.replicate 32 (.int .u8 0))).toArray := by
  have q0 : (Tryz.prog.info? 42).map (·.zero) = some (some (.agg ([.int .i64 0] ++ (List.replicate 32 (.int .u8 0)) : List Value).toArray)) := by kernel_rfl
  obtain ⟨it, q1, q2⟩ := Option.map_eq_some_iff.1 q0
  have h := qbz (places := [(0, 1), (1, 32)]) q1 Tryz.underlying42 q2 (by kernel_rfl) [.part 0 x0 [.int .i64 0], .gap (List.replicate 32 (.int .u8 0))] (by kernel_rfl) (by simp [Seg.Ok, c0])
  rw [show Seg.told _ = [(0, x0)] from rfl] at h
  rw [h]
  simp [Seg.out, pkR, c0]
theorem slR_soleB {α : Type} {z g : Nat} {At : α → List Value → World → Prop} {x : α} {cs : List Value} {u : World} (hA : Arr g cs u) (hz : cs.length = z) {B : Nat} (hB : B ≤ g) (hR : Fro B (At x cs) u) : Fro B (SlR z At [x] (some ⟨g, 0, none⟩) 1) u := fun V hV =>
  ⟨Nat.le_refl _, [cs], rfl, (fun y hy => by rw [List.mem_singleton.1 hy]; exact hz), (fun i m c h1 h2 => by
    cases i with
    | zero => simp only [List.getElem?_cons_zero, Option.some.injEq] at h1 h2; subst h1 h2; exact hR V hV
    | succ i => simp at h1), fun _ => ⟨g, 0, rfl, Nat.lt_of_lt_of_le hA.lt hV.size, by simpa using (hA.same hV.size (hV.block g hB hA.lt (by simp))).range⟩⟩
theorem one_zr (n : Nat) : One (List.replicate n (.int .u8 0)) := fun v hv => by rw [List.eq_of_mem_replicate hv]; rfl
theorem one_z32 : One (List.replicate 32 (.int .u8 0)) := one_zr 32
theorem one_z64 : One (List.replicate 64 (.int .u8 0)) := one_zr 64
theorem map_zr (n : Nat) : (List.replicate n (0#8)).map b8 = List.replicate n (.int .u8 0) := by rw [List.map_replicate]; rfl
def chSl (c : List (BitVec 8)) (i : Nat) : MSlot := ⟨chN c (5 + i), ⟨chN c (6 + i), List.replicate 32 0⟩, List.replicate 64 0, chPs c (7 + i) (chN c (7 + i) % 4), chN c (8 + i), [chE c (9 + i)]⟩
def chSs (c : List (BitVec 8)) (n : Nat) : List MSlot := (List.range n).map (chSl c)
theorem chSs_len (c : List (BitVec 8)) (n : Nat) : (chSs c n).length = n := by simp [chSs]
theorem chSs_succ (c : List (BitVec 8)) (n : Nat) : chSs c (n + 1) = chSs c n ++ [chSl c n] := by simp [chSs, List.range_succ]
def chTs (c : List (BitVec 8)) (n : Nat) : List (List (BitVec 8)) := (List.range n).map (chK c)
theorem chTs_len (c : List (BitVec 8)) (n : Nat) : (chTs c n).length = n := by simp [chTs]
theorem chTs_succ (c : List (BitVec 8)) (n : Nat) : chTs c (n + 1) = chTs c n ++ [chK c n] := by simp [chTs, List.range_succ]
def chAc (c : List (BitVec 8)) : MAc := ⟨chN c 0, [49#8, 50#8], ((chN c 1 % 3 : Nat) : Int), chN c 2, chL c, chSs c (chN c 4 % 4), chTs c (chN c 4 % 4)⟩
def evS (v : Value) (c : List (BitVec 8)) (m : MEv) (cs : List Value) (V : World) : Prop := Sl v c V → evAt m cs V
def slS (v : Value) (c : List (BitVec 8)) (m : MSlot) (cs : List Value) (V : World) : Prop := Sl v c V → slAt m cs V
theorem enters_ca10 : Enters 15 := qan Tryz.func15 (by kernel_rfl) rfl
set_option maxHeartbeats 16000000 in
theorem chAc_any (ao : Option Addr) (c : List (BitVec 8)) (cc : Nat) (w : World) (hc : Sl (.slice ao c.length cc) c w) : Calls Tryz.prog 15 #[.slice ao c.length cc] w fun r w' => ∃ v', r = .returned v' ∧ ((∃ X : List Value, v' = .agg X.toArray ∧ X.length = 105 ∧ One X ∧ Fro 0 (acAt (chAc c) X) w') ∧ Below w.heap.size w w') := by
  have CN := chKC c w ao cc hc
  have CK := chKK c w ao cc hc
  have CL : Hid (∀ u, Since w u → Calls Tryz.prog 7 #[.slice ao c.length cc] u fun r w' => ∃ v', r = .returned v' ∧ ((∃ X : List Value, v' = .agg X.toArray ∧ X.length = 99 ∧ One X ∧ Fro u.heap.size (lsAt (chL c) X) w') ∧ Below u.heap.size u w')) := Lib.hid fun u hu => chL_any ao c cc u (hc.below hu)
  have CP : Hid (∀ (u : World) (k : Nat), Since w u → k ≤ 100000 → Calls Tryz.prog 48 #[.slice ao c.length cc, .int .i64 (k : Int)] u fun r w' => ∃ v', r = .returned v' ∧ ((∃ a' c', v' = .slice a' (chPs c k (chN c k % 4)).length c' ∧ Fro u.heap.size (SlR 33 pkAt (chPs c k (chN c k % 4)) a' c') w') ∧ Below u.heap.size u w')) := Lib.hid fun u k hu hk => chPs_any ao c cc k u (hc.below hu) hk
  have CE : Hid (∀ (u : World) (k : Nat), Since w u → k ≤ 100000 → Calls Tryz.prog 9 #[.slice ao c.length cc, .int .i64 (k : Int)] u fun r w' => ∃ v', r = .returned v' ∧ ((∃ X : List Value, v' = .agg X.toArray ∧ X.length = 72 ∧ One X ∧ ∀ V, Sl (.slice ao c.length cc) c V → evAt (chE c k) X V) ∧ Below u.heap.size u w')) := Lib.hid fun u k hu hk => chE_anyC ao c cc k u (hc.below hu) hk
  have EC : Hid (chAc c = ⟨chN c 0, [49#8, 50#8], ((chN c 1 % 3 : Nat) : Int), chN c 2, chL c, chSs c (chN c 4 % 4), chTs c (chN c 4 % 4)⟩) := Lib.hid rfl
  have hN : chN c 4 % 4 ≤ 3 := by omega
  have E := Lib.hid (Ev.start (w := w) (F := fun V => Sl (.slice ao c.length cc) c V) fun V hV => hc.ext hV)
  clear hc
  generalize chAc c = mm at *
  generalize chL c = LL at *
  generalize c.length = m at *
  have EB : Hid (∀ X : List Value, X.length = 99 → Tryz.prog.built 60 [(0, .int .i64 (chN c 0 : Int)), (1, .string ⟨#[49, 50]⟩), (2, .int .i64 ((chN c 1 % 3 : Nat) : Int)), (3, .int .i64 (chN c 2 : Int)), (4, .agg X.toArray)] = some (acR (.int .i64 (chN c 0 : Int)) (.string ⟨#[49, 50]⟩) (.int .i64 ((chN c 1 % 3 : Nat) : Int)) (.int .i64 (chN c 2 : Int)) (X) (.slice none 0 0) (.slice none 0 0)).toArray) := Lib.hid fun X hX => acR_ch rfl rfl rfl rfl hX
  go_enter Tryz.func15, Tryz.ntmps15
  go_upto_region 0 with fail; refine wp_region_lit ?_
  refine qaa (qa3 (vs := acR ((.int .i64 0)) ((.string ⟨#[]⟩)) ((.int .i64 0)) ((.int .i64 0)) (lsR ((.int .i64 0)) ((.int .i64 0)) (z8 32) ((.slice none 0 0)) (z8 64)) ((.slice none 0 0)) ((.slice none 0 0))) rfl (by kernel_rfl)) rfl ?_; (try simp only [Act.put, lyy])
  replace E := Lib.hid (E.out.new (acR ((.int .i64 0)) ((.string ⟨#[]⟩)) ((.int .i64 0)) ((.int .i64 0)) (lsR ((.int .i64 0)) ((.int .i64 0)) (z8 32) ((.slice none 0 0)) (z8 64)) ((.slice none 0 0)) ((.slice none 0 0))) 60)
  generalize w.alloc (.cells (acR ((.int .i64 0)) ((.string ⟨#[]⟩)) ((.int .i64 0)) ((.int .i64 0)) (lsR ((.int .i64 0)) ((.int .i64 0)) (z8 32) ((.slice none 0 0)) (z8 64)) ((.slice none 0 0)) ((.slice none 0 0))).toArray 60) = a1 at *
  generalize w.heap.size = g2 at *
  refine qab ?_
  go_upto_region 1 with fail; refine wp_region_lit ?_
  refine qaa (qad (v := .slice ao m cc) rfl rfl) rfl ?_; (try simp only [Act.put, lyy])
  refine qav (qaf qau rfl rfl rfl rfl) rfl (CN.out _ 0 E.out.bl) (fun a3 hb => ?_); (try simp only [Act.put, lyy])
  replace E := Lib.hid (E.out.below hb)
  clear hb
  refine qaa (qad (v := .slice ao m cc) rfl rfl) rfl ?_; (try simp only [Act.put, lyy])
  refine qav (qaf qau rfl rfl rfl rfl) rfl (CN.out _ 1 E.out.bl) (fun a4 hb => ?_); (try simp only [Act.put, lyy])
  replace E := Lib.hid (E.out.below hb)
  clear hb
  refine qaa (qb9 (a := chN c 1) (b := 3) rfl rfl rfl (by omega)) rfl ?_; (try simp only [Act.put, lyy])
  refine qaa (qad (v := .slice ao m cc) rfl rfl) rfl ?_; (try simp only [Act.put, lyy])
  refine qav (qaf qau rfl rfl rfl rfl) rfl (CN.out _ 2 E.out.bl) (fun a5 hb => ?_); (try simp only [Act.put, lyy])
  replace E := Lib.hid (E.out.below hb)
  clear hb
  refine qaa (qad (v := .slice ao m cc) rfl rfl) rfl ?_; (try simp only [Act.put, lyy])
  refine qag (qaq qcs rfl rfl rfl) rfl (CL.out _ E.out.bl) (fun v7 a6 hR => ?_); (try simp only [Act.put, lyy])
  obtain ⟨⟨X, rfl, lX, oX, fX⟩, hb7⟩ := hR
  replace E := Lib.hid (E.out.call hb7 fX)
  clear fX hb7
  refine qaa (qa7 (ps := [(0, .int .i64 (chN c 0 : Int)), (1, .string ⟨#[49, 50]⟩), (2, .int .i64 ((chN c 1 % 3 : Nat) : Int)), (3, .int .i64 (chN c 2 : Int)), (4, .agg X.toArray)]) rfl rfl (EB.out X lX)) rfl ?_; (try simp only [Act.put, lyy])
  refine qaa (qa3 (vs := acR ((.int .i64 0)) ((.string ⟨#[]⟩)) ((.int .i64 0)) ((.int .i64 0)) (lsR ((.int .i64 0)) ((.int .i64 0)) (z8 32) ((.slice none 0 0)) (z8 64)) ((.slice none 0 0)) ((.slice none 0 0))) rfl (by kernel_rfl)) rfl ?_; (try simp only [Act.put, lyy])
  replace E := Lib.hid (E.out.new (acR ((.int .i64 0)) ((.string ⟨#[]⟩)) ((.int .i64 0)) ((.int .i64 0)) (lsR ((.int .i64 0)) ((.int .i64 0)) (z8 32) ((.slice none 0 0)) (z8 64)) ((.slice none 0 0)) ((.slice none 0 0))) 60)
  generalize a6.alloc (.cells (acR ((.int .i64 0)) ((.string ⟨#[]⟩)) ((.int .i64 0)) ((.int .i64 0)) (lsR ((.int .i64 0)) ((.int .i64 0)) (z8 32) ((.slice none 0 0)) (z8 64)) ((.slice none 0 0)) ((.slice none 0 0))).toArray 60) = a8 at *
  generalize a6.heap.size = g9 at *
  refine qal (qa0 (vs := acR (.int .i64 (chN c 0 : Int)) (.string ⟨#[49, 50]⟩) (.int .i64 ((chN c 1 % 3 : Nat) : Int)) (.int .i64 (chN c 2 : Int)) (X) (.slice none 0 0) (.slice none 0 0)) rfl (szR (qbq lX) (by kernel_rfl)) rfl rfl (One.all (acR_one rfl rfl rfl rfl oX rfl rfl)) ((E.out.get (i := 0) rfl).thereM (by have q1 : (acR (.int .i64 (chN c 0 : Int)) (.string ⟨#[49, 50]⟩) (.int .i64 ((chN c 1 % 3 : Nat) : Int)) (.int .i64 (chN c 2 : Int)) (X) (.slice none 0 0) (.slice none 0 0)).length = 105 := (qbq lX); have q2 : (acR ((.int .i64 0)) ((.string ⟨#[]⟩)) ((.int .i64 0)) ((.int .i64 0)) (lsR ((.int .i64 0)) ((.int .i64 0)) (z8 32) ((.slice none 0 0)) (z8 64)) ((.slice none 0 0)) ((.slice none 0 0))).length = 105 := (qbq (qas (qac 32) (qac 64))); omega))) rfl rfl ?_
  replace E := Lib.hid (E.out.put 0 rfl (m := acR (.int .i64 (chN c 0 : Int)) (.string ⟨#[49, 50]⟩) (.int .i64 ((chN c 1 % 3 : Nat) : Int)) (.int .i64 (chN c 2 : Int)) (X) (.slice none 0 0) (.slice none 0 0)) ((show (acR (.int .i64 (chN c 0 : Int)) (.string ⟨#[49, 50]⟩) (.int .i64 ((chN c 1 % 3 : Nat) : Int)) (.int .i64 (chN c 2 : Int)) (X) (.slice none 0 0) (.slice none 0 0)).length = 105 from (qbq lX)).trans (show (acR ((.int .i64 0)) ((.string ⟨#[]⟩)) ((.int .i64 0)) ((.int .i64 0)) (lsR ((.int .i64 0)) ((.int .i64 0)) (z8 32) ((.slice none 0 0)) (z8 64)) ((.slice none 0 0)) ((.slice none 0 0))).length = 105 from (qbq (qas (qac 32) (qac 64)))).symm))
  generalize a8.setCells g9 0 (acR (.int .i64 (chN c 0 : Int)) (.string ⟨#[49, 50]⟩) (.int .i64 ((chN c 1 % 3 : Nat) : Int)) (.int .i64 (chN c 2 : Int)) (X) (.slice none 0 0) (.slice none 0 0)) = a10 at *
  replace E := Lib.hid (show Ev _ [(g9, acR (.int .i64 (chN c 0 : Int)) (.string ⟨#[49, 50]⟩) (.int .i64 ((chN c 1 % 3 : Nat) : Int)) (.int .i64 (chN c 2 : Int)) (X) (.slice none 0 0) (.slice none 0 0)), (g2, acR ((.int .i64 0)) ((.string ⟨#[]⟩)) ((.int .i64 0)) ((.int .i64 0)) (lsR ((.int .i64 0)) ((.int .i64 0)) (z8 32) ((.slice none 0 0)) (z8 64)) ((.slice none 0 0)) ((.slice none 0 0)))] _ _ _ a10 from E.out)
  refine qab ?_
  go_upto_region 2 with fail; refine wp_region_lit ?_
  refine qaa (qak (v := .int .i64 0) rfl rfl) rfl ?_; (try simp only [Act.put, lyy])
  refine qab ?_
  replace E := Lib.hid ((Hw.start E.out 107 101 27 32).know (H0 := fun V => LR (slS (.slice ao m cc) c) [] [] V ∧ lsAt LL X V) fun V h => ⟨LR.nil V, h.1⟩)
  go_wp2_with fail
  go_loopw [4] (fun s4 u => ∃ (j : Nat) (l : List MSlot) (css : List (List Value)) (va : Option Addr) (vn vc : Nat) (ta : Option Addr) (tn tc : Nat), s4 = .int .i64 (j : Int) ∧ l = chSs c j ∧ j = l.length ∧ j ≤ chN c 4 % 4 ∧ (∀ p ∈ css, p.length = 101) ∧ Hw w [(g9, acR (.int .i64 (chN c 0 : Int)) (.string ⟨#[49, 50]⟩) (.int .i64 ((chN c 1 % 3 : Nat) : Int)) (.int .i64 (chN c 2 : Int)) (X) (.slice va vn vc) (.slice ta tn tc)), (g2, acR ((.int .i64 0)) ((.string ⟨#[]⟩)) ((.int .i64 0)) ((.int .i64 0)) (lsR ((.int .i64 0)) ((.int .i64 0)) (z8 32) ((.slice none 0 0)) (z8 64)) ((.slice none 0 0)) ((.slice none 0 0)))] 107 101 (.slice va vn vc) j css.flatten 27 32 (.slice ta tn tc) j ((chTs c j).map fun k => k.map b8).flatten (fun V => Sl (.slice ao m cc) c V) (fun V => LR (slS (.slice ao m cc) c) l css V ∧ lsAt LL X V) u) (fun s4 _ => (((chN c 4 % 4 : Nat) : Int) - intOf s4).toNat)
  case atStart => exact ⟨0, [], [], none, 0, 0, none, 0, 0, rfl, rfl, rfl, by omega, (fun _ h => by cases h), E.out⟩
  case round =>
    obtain ⟨j, l, css, va, vn, vc, ta, tn, tc, rfl, hl, hjl, hj, hq, hJ⟩ := hrel
    replace E := Lib.hid hJ
    have HK := Lib.hid hq
    clear hJ hq
    by_cases hjn : j = chN c 4 % 4
    · have hjn2 : chN c 4 % 4 ≤ j := by omega
      go_upto_region 3 with fail; refine wp_region_lit ?_
      refine qaa (qad (v := .int .i64 (j : Int)) rfl rfl) rfl ?_; (try simp only [Act.put, lyy])
      refine qaa (qad (v := .slice ao m cc) rfl rfl) rfl ?_; (try simp only [Act.put, lyy])
      refine qav (qaf qau rfl rfl rfl rfl) rfl (CN.out _ 4 E.out.bl) (fun a11 hb => ?_); (try simp only [Act.put, lyy])
      replace E := Lib.hid (E.out.below hb)
      clear hb
      refine qaa (qb9 (a := chN c 4) (b := 4) rfl rfl rfl (by omega)) rfl ?_; (try simp only [Act.put, lyy])
      refine qaa (qay (c := false) rfl rfl rfl (decide_eq_false (by omega))) rfl ?_; (try simp only [Act.put, lyy])
      refine qab ?_
      have E1 := Lib.hid E.out.done
      clear E
      have E := E1
      clear E1
      go_upto_region 7 with fail; refine wp_region_lit ?_
      refine qaa (qat (vs := acR (.int .i64 (chN c 0 : Int)) (.string ⟨#[49, 50]⟩) (.int .i64 ((chN c 1 % 3 : Nat) : Int)) (.int .i64 (chN c 2 : Int)) (X) (.slice va vn vc) (.slice ta tn tc)) rfl Tryz.underlying60 rfl (szR (qbq lX) (by kernel_rfl)) rfl (E.out.get (i := 0) rfl).range) rfl ?_; (try simp only [Act.put, lyy])
      refine qal (qa0 (vs := acR (.int .i64 (chN c 0 : Int)) (.string ⟨#[49, 50]⟩) (.int .i64 ((chN c 1 % 3 : Nat) : Int)) (.int .i64 (chN c 2 : Int)) (X) (.slice va vn vc) (.slice ta tn tc)) rfl (szR (qbq lX) (by kernel_rfl)) rfl rfl (One.all (acR_one rfl rfl rfl rfl oX rfl rfl)) ((E.out.get (i := 1) rfl).thereM (by have q1 : (acR (.int .i64 (chN c 0 : Int)) (.string ⟨#[49, 50]⟩) (.int .i64 ((chN c 1 % 3 : Nat) : Int)) (.int .i64 (chN c 2 : Int)) (X) (.slice va vn vc) (.slice ta tn tc)).length = 105 := (qbq lX); have q2 : (acR ((.int .i64 0)) ((.string ⟨#[]⟩)) ((.int .i64 0)) ((.int .i64 0)) (lsR ((.int .i64 0)) ((.int .i64 0)) (z8 32) ((.slice none 0 0)) (z8 64)) ((.slice none 0 0)) ((.slice none 0 0))).length = 105 := (qbq (qas (qac 32) (qac 64))); omega))) rfl rfl ?_
      replace E := Lib.hid (E.out.put 1 rfl (m := acR (.int .i64 (chN c 0 : Int)) (.string ⟨#[49, 50]⟩) (.int .i64 ((chN c 1 % 3 : Nat) : Int)) (.int .i64 (chN c 2 : Int)) (X) (.slice va vn vc) (.slice ta tn tc)) ((show (acR (.int .i64 (chN c 0 : Int)) (.string ⟨#[49, 50]⟩) (.int .i64 ((chN c 1 % 3 : Nat) : Int)) (.int .i64 (chN c 2 : Int)) (X) (.slice va vn vc) (.slice ta tn tc)).length = 105 from (qbq lX)).trans (show (acR ((.int .i64 0)) ((.string ⟨#[]⟩)) ((.int .i64 0)) ((.int .i64 0)) (lsR ((.int .i64 0)) ((.int .i64 0)) (z8 32) ((.slice none 0 0)) (z8 64)) ((.slice none 0 0)) ((.slice none 0 0))).length = 105 from (qbq (qas (qac 32) (qac 64)))).symm))
      generalize a11.setCells g2 0 (acR (.int .i64 (chN c 0 : Int)) (.string ⟨#[49, 50]⟩) (.int .i64 ((chN c 1 % 3 : Nat) : Int)) (.int .i64 (chN c 2 : Int)) (X) (.slice va vn vc) (.slice ta tn tc)) = a12 at *
      replace E := Lib.hid (show Ev _ [(g9, acR (.int .i64 (chN c 0 : Int)) (.string ⟨#[49, 50]⟩) (.int .i64 ((chN c 1 % 3 : Nat) : Int)) (.int .i64 (chN c 2 : Int)) (X) (.slice va vn vc) (.slice ta tn tc)), (g2, acR (.int .i64 (chN c 0 : Int)) (.string ⟨#[49, 50]⟩) (.int .i64 ((chN c 1 % 3 : Nat) : Int)) (.int .i64 (chN c 2 : Int)) (X) (.slice va vn vc) (.slice ta tn tc))] _ _ _ a12 from E.out)
      refine qab ?_
      have HF : Hid (Fro w.heap.size (fun V => ∃ a' c', (.slice va vn vc : Value) = .slice a' l.length c' ∧ SlR 101 (slS (.slice ao m cc) c) l a' c' V) a12) := Lib.hid fun V hV => qc5 (E.out.tell V hV).1 hjl (E.out.tell V hV).2.2.1.1 HK.out (E.out.tell V hV).2.2.1.2
      have HT : Hid (Fro w.heap.size (fun V => ∃ a' c', (.slice ta tn tc : Value) = .slice a' (chTs c j).length c' ∧ SlR 32 tkAt (chTs c j) a' c' V) a12) := Lib.hid fun V hV => qc5 (css := (chTs c j).map fun k => k.map b8) (E.out.tell V hV).2.1 (chTs_len c j).symm (by rw [List.length_map]) (fun x hx => by obtain ⟨k, hk, rfl⟩ := List.mem_map.1 hx; obtain ⟨i, _, rfl⟩ := List.mem_map.1 hk; rw [List.length_map]; exact qap c i) fun i k cs q1 q2 => by rw [List.getElem?_map, q1] at q2; exact (Option.some.inj q2).symm
      obtain ⟨a2, c2, hv6, -⟩ := HF.out.now
      simp only [Value.slice.injEq] at hv6
      obtain ⟨-, hvn, -⟩ := hv6
      have HF2 : Hid (Fro w.heap.size (SlR 101 (slS (.slice ao m cc) c) l va vc) a12) := Lib.hid fun V hV => by
        obtain ⟨a2, c2, h1, h2⟩ := HF.out V hV
        simp only [Value.slice.injEq] at h1
        obtain ⟨rfl, _, rfl⟩ := h1
        exact h2
      obtain ⟨a2, c2, hv6, -⟩ := HT.out.now
      simp only [Value.slice.injEq] at hv6
      obtain ⟨-, htn, -⟩ := hv6
      have HT2 : Hid (Fro w.heap.size (SlR 32 tkAt (chTs c j) ta tc) a12) := Lib.hid fun V hV => by
        obtain ⟨a2, c2, h1, h2⟩ := HT.out V hV
        simp only [Value.slice.injEq] at h1
        obtain ⟨rfl, _, rfl⟩ := h1
        exact h2
      have hL : chSs c (chN c 4 % 4) = l := by rw [← hjn]; exact hl.symm
      have hmm := EC.out
      rw [hL, ← hjn] at hmm
      subst hmm
      have hj9 := Lib.hid hjn
      clear hjn
      go_wp2_with fail
      refine bodyPost_ret (v := .agg (acR (.int .i64 (chN c 0 : Int)) (.string ⟨#[49, 50]⟩) (.int .i64 ((chN c 1 % 3 : Nat) : Int)) (.int .i64 (chN c 2 : Int)) (X) (.slice va vn vc) (.slice ta tn tc)).toArray) (qbj Tryz.results15 rfl Tryz.underlying60 rfl (szR (qbq lX) (by kernel_rfl)) (E.out.get (i := 1) rfl).range) rfl ⟨_, rfl, ⟨_, rfl, (qbq lX), (acR_one rfl rfl rfl rfl oX rfl rfl), fun V hV => ?_⟩, E.out.bl⟩
      have hV2 := hV.mono (Nat.zero_le w.heap.size) fun _ h => h
      have hT := (E.out.tell V hV2).2.2.2
      have hc0 := E.out.fs V (hV.mono (Nat.le_refl _) fun _ h => by cases h)
      refine ⟨X, va, vc, ta, tc, ?_, hT, (HF2.out V hV2).to fun m cs h => h hc0, HT2.out V hV2⟩
      rw [hvn, htn]
      rfl
    · go_upto_region 3 with fail; refine wp_region_lit ?_
      refine qaa (qad (v := .int .i64 (j : Int)) rfl rfl) rfl ?_; (try simp only [Act.put, lyy])
      refine qaa (qad (v := .slice ao m cc) rfl rfl) rfl ?_; (try simp only [Act.put, lyy])
      refine qav (qaf qau rfl rfl rfl rfl) rfl (CN.out _ 4 E.out.bl) (fun a11 hb => ?_); (try simp only [Act.put, lyy])
      replace E := Lib.hid (E.out.below hb)
      clear hb
      refine qaa (qb9 (a := chN c 4) (b := 4) rfl rfl rfl (by omega)) rfl ?_; (try simp only [Act.put, lyy])
      refine qaa (qay (c := true) rfl rfl rfl (decide_eq_true (by omega))) rfl ?_; (try simp only [Act.put, lyy])
      refine qab ?_
      obtain ⟨ON, hON⟩ : ∃ ON, ON = chPs c (7 + j) (chN c (7 + j) % 4) := ⟨_, rfl⟩
      have CPJ := Lib.hid (CP.out · (7 + j))
      rw [← hON] at CPJ
      go_upto_region 5 with fail
      refine wp_region_noPanic ?_; refine qbd (S := Till 26 (fun V => Below a11.heap.size a11 V)) (by kernel_rfl) (.inr (Below.refl _ _).drew) (fun _ => ?_); have hS : Below a11.heap.size a11 a11.drew := (Below.refl _ _).drew
      have E0 := E
      replace E := Lib.hid (E.out.below hS)
      generalize a11.drew = a12 at *
      refine qao 0 rfl rfl (by kernel_rfl) (by kernel_rfl) (by kernel_rfl) (by kernel_rfl) (by kernel_rfl) (fun _ _ _ h => h) rfl (fun V hV => qai (s := 0) (k := 103) rfl Tryz.underlying60 rfl (by kernel_rfl) rfl rfl) hS ?_; (try simp only [Act.put, lyy])
      refine qao 1 rfl rfl (by kernel_rfl) (by kernel_rfl) (by kernel_rfl) (by kernel_rfl) (by kernel_rfl) (fun _ _ _ h => h) rfl (fun V hV => qam rfl Tryz.underlying57 rfl rfl (((E0.out.below hV).get (i := 0) rfl).c 103 _ (qc1 lX))) hS ?_; (try simp only [Act.put, lyy])
      refine qao 2 rfl rfl (by kernel_rfl) (by kernel_rfl) (by kernel_rfl) (by kernel_rfl) (by kernel_rfl) (fun _ _ _ h => h) rfl (fun V hV => qad (v := .slice ao m cc) rfl rfl) hS ?_; (try simp only [Act.put, lyy])
      refine qao 3 rfl rfl (by kernel_rfl) (by kernel_rfl) (by kernel_rfl) (by kernel_rfl) (by kernel_rfl) (fun _ _ _ h => h) rfl (fun V hV => qad (v := .int .i64 (j : Int)) rfl rfl) hS ?_; (try simp only [Act.put, lyy])
      refine qao 4 rfl rfl (by kernel_rfl) (by kernel_rfl) (by kernel_rfl) (by kernel_rfl) (by kernel_rfl) (fun _ _ _ h => h) rfl (fun V hV => qa6 (a := 5) (b := j) rfl rfl rfl (by omega)) hS ?_; (try simp only [Act.put, lyy])
      refine qao 6 rfl rfl (by kernel_rfl) (by kernel_rfl) (by kernel_rfl) (by kernel_rfl) (by kernel_rfl) (fun _ _ _ h => h) rfl (fun V hV => qad (v := .slice ao m cc) rfl rfl) hS ?_; (try simp only [Act.put, lyy])
      refine qao 7 rfl rfl (by kernel_rfl) (by kernel_rfl) (by kernel_rfl) (by kernel_rfl) (by kernel_rfl) (fun _ _ _ h => h) rfl (fun V hV => qad (v := .int .i64 (j : Int)) rfl rfl) hS ?_; (try simp only [Act.put, lyy])
      refine qao 8 rfl rfl (by kernel_rfl) (by kernel_rfl) (by kernel_rfl) (by kernel_rfl) (by kernel_rfl) (fun _ _ _ h => h) rfl (fun V hV => qa6 (a := 6) (b := j) rfl rfl rfl (by omega)) hS ?_; (try simp only [Act.put, lyy])
      refine qao 11 rfl rfl (by kernel_rfl) (by kernel_rfl) (by kernel_rfl) (by kernel_rfl) (by kernel_rfl) (fun _ _ _ h => h) rfl (fun V hV => qad (v := .slice ao m cc) rfl rfl) hS ?_; (try simp only [Act.put, lyy])
      refine qao 12 rfl rfl (by kernel_rfl) (by kernel_rfl) (by kernel_rfl) (by kernel_rfl) (by kernel_rfl) (fun _ _ _ h => h) rfl (fun V hV => qad (v := .int .i64 (j : Int)) rfl rfl) hS ?_; (try simp only [Act.put, lyy])
      refine qao 13 rfl rfl (by kernel_rfl) (by kernel_rfl) (by kernel_rfl) (by kernel_rfl) (by kernel_rfl) (fun _ _ _ h => h) rfl (fun V hV => qa6 (a := 7) (b := j) rfl rfl rfl (by omega)) hS ?_; (try simp only [Act.put, lyy])
      refine qao 15 rfl rfl (by kernel_rfl) (by kernel_rfl) (by kernel_rfl) (by kernel_rfl) (by kernel_rfl) (fun _ _ _ h => h) rfl (fun V hV => qad (v := .slice ao m cc) rfl rfl) hS ?_; (try simp only [Act.put, lyy])
      refine qao 16 rfl rfl (by kernel_rfl) (by kernel_rfl) (by kernel_rfl) (by kernel_rfl) (by kernel_rfl) (fun _ _ _ h => h) rfl (fun V hV => qad (v := .int .i64 (j : Int)) rfl rfl) hS ?_; (try simp only [Act.put, lyy])
      refine qao 17 rfl rfl (by kernel_rfl) (by kernel_rfl) (by kernel_rfl) (by kernel_rfl) (by kernel_rfl) (fun _ _ _ h => h) rfl (fun V hV => qa6 (a := 8) (b := j) rfl rfl rfl (by omega)) hS ?_; (try simp only [Act.put, lyy])
      refine qao 19 rfl rfl (by kernel_rfl) (by kernel_rfl) (by kernel_rfl) (by kernel_rfl) (by kernel_rfl) (fun _ _ _ h => h) rfl (fun V hV => qad (v := .slice ao m cc) rfl rfl) hS ?_; (try simp only [Act.put, lyy])
      refine qao 20 rfl rfl (by kernel_rfl) (by kernel_rfl) (by kernel_rfl) (by kernel_rfl) (by kernel_rfl) (fun _ _ _ h => h) rfl (fun V hV => qad (v := .int .i64 (j : Int)) rfl rfl) hS ?_; (try simp only [Act.put, lyy])
      refine qao 21 rfl rfl (by kernel_rfl) (by kernel_rfl) (by kernel_rfl) (by kernel_rfl) (by kernel_rfl) (fun _ _ _ h => h) rfl (fun V hV => qa6 (a := 9) (b := j) rfl rfl rfl (by omega)) hS ?_; (try simp only [Act.put, lyy])
      refine qb4 5 (by kernel_rfl) rfl rfl rfl (qaf qau rfl rfl rfl rfl) (qbc (CN.out _ ((5 + j : Nat)) E.out.bl)) (fun v w h => hS.trans (h.2.mono hS.size)) (fun v13 a14 hR => ?_); (try simp only [Act.put, lyy])
      obtain ⟨rfl, hb9⟩ := hR
      replace hS := hS.trans (hb9.mono hS.size)
      replace E := Lib.hid (E.out.below hb9)
      clear hb9
      refine qb4 9 (by kernel_rfl) rfl rfl rfl (qaf qau rfl rfl rfl rfl) (qbc (CN.out _ ((6 + j : Nat)) E.out.bl)) (fun v w h => hS.trans (h.2.mono hS.size)) (fun v15 a16 hR => ?_); (try simp only [Act.put, lyy])
      obtain ⟨rfl, hb9⟩ := hR
      replace hS := hS.trans (hb9.mono hS.size)
      replace E := Lib.hid (E.out.below hb9)
      clear hb9
      refine qao 10 rfl rfl (by kernel_rfl) (by kernel_rfl) (by kernel_rfl) (by kernel_rfl) (by kernel_rfl) (fun _ _ _ h => h) rfl (fun V hV => qa7 (ps := [(0, .int .i64 (chN c (6 + j) : Int))]) rfl rfl (pkR_ch rfl)) hS ?_; (try simp only [Act.put, lyy])
      refine qb4 14 (by kernel_rfl) rfl rfl rfl (qaf enters_cp10 rfl rfl rfl rfl) (CPJ.out _ E.out.bl (by omega)) (fun v w h => hS.trans ((h.2).mono hS.size)) (fun v17 a18 hR => ?_); (try simp only [Act.put, lyy])
      obtain ⟨⟨pa, pc, rfl, hF⟩, hb9⟩ := hR
      replace hS := hS.trans (hb9.mono hS.size)
      replace E := Lib.hid (E.out.call hb9 hF)
      clear hF hb9
      refine qb4 18 (by kernel_rfl) rfl rfl rfl (qaf qau rfl rfl rfl rfl) (qbc (CN.out _ ((8 + j : Nat)) E.out.bl)) (fun v w h => hS.trans (h.2.mono hS.size)) (fun v19 a20 hR => ?_); (try simp only [Act.put, lyy])
      obtain ⟨rfl, hb9⟩ := hR
      replace hS := hS.trans (hb9.mono hS.size)
      replace E := Lib.hid (E.out.below hb9)
      clear hb9
      refine qb4 22 (by kernel_rfl) rfl rfl rfl (qaf enters_cv10 rfl rfl rfl rfl) (CE.out _ (9 + j) E.out.bl (by omega)) (fun v w h => hS.trans ((h.2).mono hS.size)) (fun v21 a22 hR => ?_); (try simp only [Act.put, lyy])
      obtain ⟨⟨Y, rfl, lY, oY, fY⟩, hb9⟩ := hR
      replace hS := hS.trans (hb9.mono hS.size)
      replace E := Lib.hid (E.out.below hb9)
      clear hb9
      refine qbm 23 (by kernel_rfl) rfl rfl rfl (qcg (m := Y) (z := 72) (zv := .agg (List.replicate 2 (.int .i64 0) ++ List.replicate 1 (.bool false) ++ List.replicate 32 (.int .u8 0) ++ List.replicate 2 (.int .i64 0) ++ List.replicate 32 (.int .u8 0) ++ List.replicate 2 (.int .i64 0) ++ List.replicate 1 (.slice none 0 0) : List Value).toArray) rfl Tryz.underlying52 (by kernel_rfl) rfl lY (by omega) (by omega)) (.inr (hS.alloc hS.size _)) ?_; (try simp only [Act.put, lyy])
      replace hS := hS.alloc hS.size (.cells Y.toArray 38)
      have A3 : Hid (Fro a22.heap.size (SlR 72 (evS (.slice ao m cc) c) [chE c (9 + j)] (some ⟨a22.heap.size, 0, none⟩) 1) (a22.alloc (.cells Y.toArray 38))) := Lib.hid (slR_soleB (Arr.new a22 Y 38) lY (Nat.le_refl _) fun V _ hs => fY V hs)
      replace E := Lib.hid (E.out.call ((Below.refl a22.heap.size a22).alloc (Nat.le_refl _) (.cells Y.toArray 38)) A3.out)
      clear A3
      generalize a22.alloc (.cells Y.toArray 38) = be at *
      generalize a22.heap.size = ge at *
      refine qao 24 rfl rfl (by kernel_rfl) (by kernel_rfl) (by kernel_rfl) (by kernel_rfl) (by kernel_rfl) (fun _ _ _ h => h) rfl (fun V hV => qa7 (ps := [(0, .int .i64 (chN c (5 + j) : Int)), (1, .agg (pkR (.int .i64 (chN c (6 + j) : Int)) ((List.replicate 32 (.int .u8 0) : List Value))).toArray), (3, .slice pa ON.length pc), (4, .int .i64 (chN c (8 + j) : Int)), (5, .slice (some ⟨ge, 0, none⟩) 1 1)]) rfl rfl (slR_ch rfl (qar List.length_replicate) rfl rfl rfl)) hS ?_; (try simp only [Act.put, lyy])
      have hml : (slR (.int .i64 (chN c (5 + j) : Int)) (pkR (.int .i64 (chN c (6 + j) : Int)) ((List.replicate 32 (.int .u8 0) : List Value))) ((List.replicate 64 (.int .u8 0) : List Value)) (.slice pa ON.length pc) (.int .i64 (chN c (8 + j) : Int)) (.slice (some ⟨ge, 0, none⟩) 1 1)).length = 101 := (slR_len (qar List.length_replicate) List.length_replicate)
      have hmo : One (slR (.int .i64 (chN c (5 + j) : Int)) (pkR (.int .i64 (chN c (6 + j) : Int)) ((List.replicate 32 (.int .u8 0) : List Value))) ((List.replicate 64 (.int .u8 0) : List Value)) (.slice pa ON.length pc) (.int .i64 (chN c (8 + j) : Int)) (.slice (some ⟨ge, 0, none⟩) 1 1)) := (slR_one rfl (qb8 rfl one_z32) one_z64 rfl rfl rfl)
      refine qbm 25 (by kernel_rfl) rfl rfl rfl (qcg (m := slR (.int .i64 (chN c (5 + j) : Int)) (pkR (.int .i64 (chN c (6 + j) : Int)) ((List.replicate 32 (.int .u8 0) : List Value))) ((List.replicate 64 (.int .u8 0) : List Value)) (.slice pa ON.length pc) (.int .i64 (chN c (8 + j) : Int)) (.slice (some ⟨ge, 0, none⟩) 1 1)) (z := 101) (zv := .agg (List.replicate 2 (.int .i64 0) ++ List.replicate 96 (.int .u8 0) ++ List.replicate 1 (.slice none 0 0) ++ List.replicate 1 (.int .i64 0) ++ List.replicate 1 (.slice none 0 0) : List Value).toArray) rfl Tryz.underlying57 (by kernel_rfl) rfl hml (by omega) (by omega)) (.inr (hS.alloc hS.size _)) ?_; (try simp only [Act.put, lyy])
      have A2 := Lib.hid (Arr.new be (slR (.int .i64 (chN c (5 + j) : Int)) (pkR (.int .i64 (chN c (6 + j) : Int)) ((List.replicate 32 (.int .u8 0) : List Value))) ((List.replicate 64 (.int .u8 0) : List Value)) (.slice pa ON.length pc) (.int .i64 (chN c (8 + j) : Int)) (.slice (some ⟨ge, 0, none⟩) 1 1)) 107)
      replace E := Lib.hid (E.out.below ((Below.refl be.heap.size be).alloc (Nat.le_refl _) (.cells (slR (.int .i64 (chN c (5 + j) : Int)) (pkR (.int .i64 (chN c (6 + j) : Int)) ((List.replicate 32 (.int .u8 0) : List Value))) ((List.replicate 64 (.int .u8 0) : List Value)) (.slice pa ON.length pc) (.int .i64 (chN c (8 + j) : Int)) (.slice (some ⟨ge, 0, none⟩) 1 1)).toArray 107)))
      generalize be.alloc (.cells (slR (.int .i64 (chN c (5 + j) : Int)) (pkR (.int .i64 (chN c (6 + j) : Int)) ((List.replicate 32 (.int .u8 0) : List Value))) ((List.replicate 64 (.int .u8 0) : List Value)) (.slice pa ON.length pc) (.int .i64 (chN c (8 + j) : Int)) (.slice (some ⟨ge, 0, none⟩) 1 1)).toArray 107) = b1 at *
      generalize be.heap.size = g0 at *
      refine wpAnyD_some 26 (by kernel_rfl) rfl rfl rfl rfl (run_growH (t := 57) (bw := 168) (zv := .agg (List.replicate 2 (.int .i64 0) ++ List.replicate 96 (.int .u8 0) ++ List.replicate 1 (.slice none 0 0) ++ List.replicate 1 (.int .i64 0) ++ List.replicate 1 (.slice none 0 0) : List Value).toArray) (z := 101) rfl Tryz.underlying57 (by kernel_rfl) rfl (by omega) rfl rfl A2.out.range hml hmo (by omega) (by omega) E.out) (fun v7 b2 hG => ?_); (try simp only [Act.put, lyy])
      obtain ⟨ya, yn, yc, rfl⟩ := hG.isSlice
      replace E := Lib.hid hG
      clear hG A2 E0 hS
      refine qbm 27 (by kernel_rfl) rfl rfl rfl (qai (s := 0) (k := 103) rfl Tryz.underlying60 rfl (by kernel_rfl) rfl rfl) (.inl rfl) ?_; (try simp only [Act.put, lyy])
      refine qb1 28 (by kernel_rfl) rfl rfl rfl (qb5 (v := .slice ya yn yc) rfl (by kernel_rfl) rfl rfl rfl rfl ((E.out.get (i := 0) rfl).c _ _ (qc1 lX)) ((E.out.get (i := 0) rfl).f _)) (.inl rfl) ?_
      replace E := Lib.hid (E.out.set 0 rfl (j := 0 + 103) (by have q2 : (acR (.int .i64 (chN c 0 : Int)) (.string ⟨#[49, 50]⟩) (.int .i64 ((chN c 1 % 3 : Nat) : Int)) (.int .i64 (chN c 2 : Int)) (X) (.slice va vn vc) (.slice ta tn tc)).length = 105 := (qbq lX); omega) (.slice ya yn yc))
      simp only [List.set_cons_zero] at E
      rw [show (0 + 103 : Nat) = 103 from rfl, acR_setSlots lX] at E
      generalize b2.setCell ⟨g9, 0 + 103, none⟩ (.slice ya yn yc) = b3 at *
      refine qba (by kernel_rfl) ?_ _; refine NoPanic.normal ?_
      have E9 := Lib.hid (E.out.know (H0 := fun V => LR (slS (.slice ao m cc) c) (l ++ [chSl c j]) (css ++ [slR (.int .i64 (chN c (5 + j) : Int)) (pkR (.int .i64 (chN c (6 + j) : Int)) ((List.replicate 32 (.int .u8 0) : List Value))) ((List.replicate 64 (.int .u8 0) : List Value)) (.slice pa ON.length pc) (.int .i64 (chN c (8 + j) : Int)) (.slice (some ⟨ge, 0, none⟩) 1 1)]) V ∧ lsAt LL X V) fun V h => ⟨h.2.2.1.snoc (fun hs => ⟨pa, pc, some ⟨ge, 0, none⟩, 1, (by rw [pkC_row]; show _ = slR _ (pkR _ ((List.replicate 32 (0#8)).map b8)) ((List.replicate 64 (0#8)).map b8) _ _ _; rw [map_zr, map_zr, hON]; rfl), (by show SlR 33 pkAt (chPs c (7 + j) _) pa pc V; rw [← hON]; exact h.2.1), h.1.to fun m cs q => q hs⟩), h.2.2.2⟩)
      clear E
      have E := E9
      clear E9
      have hml5 := hml
      clear hml hmo
      obtain ⟨za, zn, zc, hz1, hz2, hz3⟩ : ∃ za zn zc, za = ya ∧ zn = yn ∧ zc = yc := ⟨_, _, _, rfl, rfl, rfl⟩
      subst hz1 hz2 hz3
      generalize b3 = bq at *
      skip
      clear hON CPJ
      go_upto_region 6 with fail
      refine wp_region_noPanic ?_; refine qbd (S := Till 6 (fun V => Below bq.heap.size bq V)) (by kernel_rfl) (.inr (Below.refl _ _).drew) (fun _ => ?_); have hS : Below bq.heap.size bq bq.drew := (Below.refl _ _).drew
      have E0 := E
      replace E := Lib.hid (E.out.below hS)
      generalize bq.drew = a53 at *
      refine qao 0 rfl rfl (by kernel_rfl) (by kernel_rfl) (by kernel_rfl) (by kernel_rfl) (by kernel_rfl) (fun _ _ _ h => h) rfl (fun V hV => qai (s := 0) (k := 104) rfl Tryz.underlying60 rfl (by kernel_rfl) rfl rfl) hS ?_; (try simp only [Act.put, lyy])
      refine qao 1 rfl rfl (by kernel_rfl) (by kernel_rfl) (by kernel_rfl) (by kernel_rfl) (by kernel_rfl) (fun _ _ _ h => h) rfl (fun V hV => qam rfl Tryz.underlying58 rfl rfl (((E0.out.below hV).get (i := 0) rfl).c 104 _ (qcn lX))) hS ?_; (try simp only [Act.put, lyy])
      refine qao 2 rfl rfl (by kernel_rfl) (by kernel_rfl) (by kernel_rfl) (by kernel_rfl) (by kernel_rfl) (fun _ _ _ h => h) rfl (fun V hV => qad (v := .slice ao m cc) rfl rfl) hS ?_; (try simp only [Act.put, lyy])
      refine qao 3 rfl rfl (by kernel_rfl) (by kernel_rfl) (by kernel_rfl) (by kernel_rfl) (by kernel_rfl) (fun _ _ _ h => h) rfl (fun V hV => qad (v := .int .i64 (j : Int)) rfl rfl) hS ?_; (try simp only [Act.put, lyy])
      refine qb4 4 (by kernel_rfl) rfl rfl rfl (qaf qbx rfl rfl rfl rfl) (qbc (CK.out _ j E.out.bl)) (fun v w h => hS.trans (h.2.mono hS.size)) (fun v54 a55 hR => ?_); (try simp only [Act.put, lyy])
      obtain ⟨rfl, hb9⟩ := hR
      replace hS := hS.trans (hb9.mono hS.size)
      replace E := Lib.hid (E.out.below hb9)
      clear hb9
      have hml : ((chK c j).map b8).length = 32 := (by rw [List.length_map]; exact qap _ _)
      have hmo : One ((chK c j).map b8) := (One.b8 _)
      refine qbm 5 (by kernel_rfl) rfl rfl rfl (qcg (m := (chK c j).map b8) (z := 32) (zv := .agg (List.replicate 32 (.int .u8 0) : List Value).toArray) rfl Tryz.underlying58 (by kernel_rfl) rfl hml (by omega) (by omega)) (.inr (hS.alloc hS.size _)) ?_; (try simp only [Act.put, lyy])
      have A2 := Lib.hid (Arr.new a55 ((chK c j).map b8) 27)
      replace E := Lib.hid (E.out.below ((Below.refl a55.heap.size a55).alloc (Nat.le_refl _) (.cells ((chK c j).map b8).toArray 27)))
      generalize a55.alloc (.cells ((chK c j).map b8).toArray 27) = b1 at *
      generalize a55.heap.size = g0 at *
      refine wpAnyD_some 6 (by kernel_rfl) rfl rfl rfl rfl (run_growH (t := 58) (bw := 32) (zv := .agg (List.replicate 32 (.int .u8 0) : List Value).toArray) (z := 32) rfl Tryz.underlying58 (by kernel_rfl) rfl (by omega) rfl rfl A2.out.range hml hmo (by omega) (by omega) E.out.swap) (fun v7 b2 hG => ?_); (try simp only [Act.put, lyy])
      obtain ⟨ya, yn, yc, rfl⟩ := hG.isSlice
      replace E := Lib.hid hG.swap
      clear hG A2 E0 hS
      refine qbm 7 (by kernel_rfl) rfl rfl rfl (qai (s := 0) (k := 104) rfl Tryz.underlying60 rfl (by kernel_rfl) rfl rfl) (.inl rfl) ?_; (try simp only [Act.put, lyy])
      refine qb1 8 (by kernel_rfl) rfl rfl rfl (qb5 (v := .slice ya yn yc) rfl (by kernel_rfl) rfl rfl rfl rfl ((E.out.get (i := 0) rfl).c _ _ (qcn lX)) ((E.out.get (i := 0) rfl).f _)) (.inl rfl) ?_
      replace E := Lib.hid (E.out.set 0 rfl (j := 0 + 104) (by have q2 : (acR (.int .i64 (chN c 0 : Int)) (.string ⟨#[49, 50]⟩) (.int .i64 ((chN c 1 % 3 : Nat) : Int)) (.int .i64 (chN c 2 : Int)) (X) (.slice za zn zc) (.slice ta tn tc)).length = 105 := (qbq lX); omega) (.slice ya yn yc))
      simp only [List.set_cons_zero] at E
      rw [show (0 + 104 : Nat) = 104 from rfl, acR_setTokens lX] at E
      generalize b2.setCell ⟨g9, 0 + 104, none⟩ (.slice ya yn yc) = b3 at *
      refine qba (by kernel_rfl) ?_ _; refine NoPanic.normal ?_
      go_upto_region 4 with fail; refine wp_region_lit ?_
      refine qaa (qad (v := .int .i64 (j : Int)) rfl rfl) rfl ?_; (try simp only [Act.put, lyy])
      refine qaa (qa6 (a := j) (b := 1) rfl rfl rfl (by omega)) rfl ?_; (try simp only [Act.put, lyy])
      refine qaa (qak (v := .int .i64 ((j + 1 : Nat) : Int)) rfl rfl) rfl ?_; (try simp only [Act.put, lyy])
      refine qab ?_
      go_wp2_with fail
      exact ⟨⟨j + 1, l ++ [chSl c j], css ++ [slR (.int .i64 (chN c (5 + j) : Int)) (pkR (.int .i64 (chN c (6 + j) : Int)) ((List.replicate 32 (.int .u8 0) : List Value))) ((List.replicate 64 (.int .u8 0) : List Value)) (.slice pa ON.length pc) (.int .i64 (chN c (8 + j) : Int)) (.slice (some ⟨ge, 0, none⟩) 1 1)], za, zn, zc, ya, yn, yc, rfl, by rw [chSs_succ, hl], by rw [List.length_append, ← hjl]; rfl, by omega, (fun p hp => by rcases List.mem_append.1 hp with hp | hp; exact HK.out p hp; obtain rfl := List.mem_singleton.1 hp; exact hml5), by rw [List.flatten_append, chTs_succ, List.map_append, List.flatten_append]; simpa using E.out⟩, by simp [intOf]; omega⟩
end Go.Proofs.YtcgbgmbnagmohaaGreat
