import Derived.Test.YtcgbgmbnagmohaaDoorWrD
import Derived.Lib.AppendStr
import Derived.Test.YtcgbgmbnagmohaaDoorLy
namespace Go.Proofs.YtcgbgmbnagmohaaDoor
open Go.RowKit
set_option maxRecDepth 20000
attribute [local irreducible] wpList
structure MRq.Ok (m : MRq) : Prop where
 kind0 : 0 ≤ m.kind
 kind1 : m.kind < 256
 pin : m.pin.length ≤ 100000
 next : m.next.length ≤ 100000
 name : m.name.length ≤ 100000
 ls : m.ls.Ok
 token : m.token.length = 32
 signed : m.signed.key.length = 32
 sig : m.sig.length = 64
 ones : ∀ p ∈ m.ones, p.key.length = 32
 many : m.ones.length ≤ 60000
 items : ∀ p ∈ m.items, p.2.Ok
 much : m.items.length ≤ 60000
end Go.Proofs.YtcgbgmbnagmohaaDoor
namespace Go.Proofs.YtcgbgmbnagmohaaDoor
open Go.RowKit
set_option maxRecDepth 20000
attribute [local irreducible] wpList
section
variable {w u u' : World} {L : List (Nat × List Value)} {e : TypeId} {z n : Nat} {v : Value} {cs : List Value} {F H : World → Prop}
theorem Gw.grown (G : Gw w L e z v n cs F H u) {v' : Value} {n' : Nat} {cs' : List Value} (h3 : u'.ownsRow w.heap.size e z v' n' cs') (h4 : u.grownBy u' v.ownBlock) (hw : v'.ownBlock = v.ownBlock ∨ v'.ownBlock = some u.heap.size) : Gw w L e z v' n' cs' F H u' := by
 have hbase : w.heap.size ≤ u.heap.size := G.bl.size
 have hb : Below w.heap.size u u' := below_grown h4 (fun k hk => (qa4 G.row hk).1) hbase
 have hap : ∀ p ∈ L, v'.ownBlock ≠ some p.1 := fun p hp he => by
  rcases hw with hw | hw
  ·exact G.ap p hp (hw ▸ he)
  ·rw [hw] at he
   have h6 := (G.ev.mv.all p hp).2.lt
   injection he with he
   omega
 have key : ∀ B V, Ext B (v'.ownBlock.toList ++ L.map (·.1)) u' V → Ext B (v.ownBlock.toList ++ L.map (·.1)) u V := fun B V hV =>
  ⟨Nat.le_trans h4.size hV.size, fun b k1 k2 k3 => by
   have n1 : v.ownBlock ≠ some b := fun he => k3 (List.mem_append.2 (.inl (by simp [he])))
   have n2 : b ∉ v'.ownBlock.toList ++ L.map (·.1) := fun hm => by
    rcases List.mem_append.1 hm with hm | hm
    ·have he : v'.ownBlock = some b := by simpa using hm
     rcases hw with hw | hw
     ·exact n1 (hw ▸ he)
     ·rw [hw] at he
      injection he with he
      omega
    ·exact k3 (List.mem_append.2 (.inr hm))
   exact (hV.block b k1 (Nat.lt_of_lt_of_le k2 h4.size) n2).trans (h4.block b k2 fun he => n1 he.symm)⟩
 have hmv : Mv w L u' := ⟨G.bl.trans hb, G.ev.mv.nd, fun p hp => ⟨(G.ev.mv.all p hp).1, (G.ev.mv.all p hp).2.same h4.size (h4.block _ (G.ev.mv.all p hp).2.lt fun he => G.ap p hp he.symm)⟩⟩
 exact ⟨⟨hmv, fun k hk => (qa4 h3 (by simpa using hk)).2, fun V hV => G.ev.fs V (key 0 V hV), fun V hV => G.ev.hs V (key _ V hV)⟩, h3, hap⟩
end
section
variable {P : Program} {w : World}
end
section
variable {w u : World} {L : List (Nat × List Value)} {v : Value} {l m : List (BitVec 8)} {F H : World → Prop} {ops : Array Oper} {Q : Exit → Act → World → Prop} {rest : List Oper} {o : Oper} {a : Act} {s x : Operand}
theorem run_growB (ho : o.op = .call { callee := .builtin .append, args := #[s, x], argTypes := #[22, 22] }) (hs : a.eval s = v) {vx : Value} (hx : a.eval x = vx) (hv : Sl vx m u) (hn : l.length + m.length ≤ 100000000000) (G : Gw w L 5 1 v l.length (l.map b8) F H u) :
  ∃ v' u', (execOp a.eval o).run Tryd.prog u = .ok (.value v') u' ∧ Gw w L 5 1 v' (l ++ m).length ((l ++ m).map b8) F H u' := by
 by_cases he : m = []
 ·subst he
  obtain ⟨ao, c, rfl, _, _⟩ := hv
  have hr := run_app0 (ao := ao) (c := c) (ty := o.type) G.row
  refine ⟨v, u, ?_, by rw [List.append_nil]; exact G⟩
  unfold execOp
  simp [ho, resolve, invoke, builtin, hs, hx, hr, Result.andThen]
 ·obtain ⟨g, f, c, rfl, _, hr⟩ := hv.adr (List.length_pos_iff.2 he)
  have hi : (Tryd.prog.info? 5).map (fun i => (i.size, i.bytes, i.zero)) = some (1, 1, some (.int .u8 0)) := by kernel_rfl
  obtain ⟨inf, h1, h2⟩ := Option.map_eq_some_iff.1 hi
  obtain ⟨e1, e2, e3⟩ : inf.size = 1 ∧ inf.bytes = 1 ∧ inf.zero = some (.int .u8 0) := by simpa using h2
  have hc : ∀ j q, (m.map b8)[j]? = some q → u.cell? ((⟨g, f, none⟩ : Addr).add j) = some q := fun j q hq => by rw [Addr.add_mid]; exact hr j q hq
  have h8 : ∀ q ∈ m.map b8, q.oneCell' = true := fun q hq => by rw [List.mem_map] at hq; obtain ⟨x, _, rfl⟩ := hq; rfl
  have hp := List.length_pos_iff.2 he
  obtain ⟨v', w', hrun, h3, h4, _⟩ := run_append_own (P := Tryd.prog) u w.heap.size 22 o.type 5 inf (.int .u8 0) 1 1 Tryd.underlying22 h1 e3 e1 e2 rfl (by omega) v l.length (l.map b8) G.row ⟨g, f, none⟩ m.length c (m.map b8) (by simp) hc h8
   (by unfold maxLen; omega) (by omega) G.bl.size
  have hw := append_where (P := Tryd.prog) w.heap.size 22 o.type 5 inf (.int .u8 0) 1 1 Tryd.underlying22 h1 e3 e1 e2 rfl (by omega) v l.length (l.map b8) G.row ⟨g, f, none⟩ m.length c (m.map b8) (by simp) hc h8 (by unfold maxLen; omega) (by omega) hp hrun
  refine ⟨v', w', ?_, G.grown (by rw [List.map_append, List.length_append]; exact h3) h4 hw⟩
  unfold execOp
  simp [ho, resolve, invoke, builtin, hs, hx, hrun, Result.andThen]
theorem wpList_growB (hg : o.guard = none) (ho : o.op = .call { callee := .builtin .append, args := #[s, x], argTypes := #[22, 22] }) (hs : a.eval s = v) {vx : Value} (hx : a.eval x = vx) (hv : Sl vx m u) (hn : l.length + m.length ≤ 100000000000) (G : Gw w L 5 1 v l.length (l.map b8) F H u)
  (h : ∀ v' u', Gw w L 5 1 v' (l ++ m).length ((l ++ m).map b8) F H u' → wpList Tryd.prog ops Q rest (a.put o.dst v') u') : wpList Tryd.prog ops Q (o :: rest) a u := by
 obtain ⟨v', u', h1, h2⟩ := run_growB ho hs hx hv hn G
 exact qaa h1 hg (h v' u' h2)
end
structure Ww (w : World) (p : Nat) (L : List (Nat × List Value)) (l : List (BitVec 8)) (u : World) : Prop where
 ex : ∃ v, Gw w (L ++ [(p, [v])]) 5 1 v l.length (l.map b8) (fun _ => True) (fun _ => True) u
section
variable {w u : World} {p : Nat} {L : List (Nat × List Value)} {l : List (BitVec 8)}
theorem at_last {α : Type} (L : List α) (x : α) : (L ++ [x])[L.length]? = some x := by simp
theorem set_last {α : Type} (L : List α) (x y : α) : (L ++ [x]).set L.length y = L ++ [y] := by simp
theorem Ww.bl (h : Ww w p L l u) : Below w.heap.size w u := h.ex.elim fun _ G => G.bl
theorem Ww.get (h : Ww w p L l u) {i g : Nat} {m : List Value} (hi : L[i]? = some (g, m)) : Arr g m u :=
 h.ex.elim fun _ G => G.get (i := i) (by rw [List.getElem?_append_left (List.getElem?_eq_some_iff.1 hi).1]; exact hi)
theorem Ww.new (h : Ww w p L l u) (m : List Value) (t : TypeId) : Ww w p ((u.heap.size, m) :: L) l (u.alloc (.cells m.toArray t)) :=
 ⟨h.ex.elim fun v G => ⟨v, G.new m t⟩⟩
theorem Ww.put (h : Ww w p L l u) (i : Nat) {g : Nat} {m m' : List Value} (hi : L[i]? = some (g, m)) (hm : m'.length = m.length) : Ww w p (L.set i (g, m')) l (u.setCells g 0 m') :=
 ⟨h.ex.elim fun v G => ⟨v, by
  have hlt := (List.getElem?_eq_some_iff.1 hi).1
  have h2 := G.put i (by rw [List.getElem?_append_left hlt]; exact hi) hm
  rwa [List.set_append_left _ _ hlt] at h2⟩⟩
theorem Ww.drop {x : Nat × List Value} (h : Ww w p (x :: L) l u) : Ww w p L l u :=
 ⟨h.ex.elim fun v G => ⟨v, Gw.drop G⟩⟩
theorem Ww.cast {l' : List (BitVec 8)} (h : Ww w p L l u) (e : l = l') : Ww w p L l' u := e ▸ h
theorem Gw.stored {v v' : Value} (G : Gw w (L ++ [(p, [v])]) 5 1 v' l.length (l.map b8) (fun _ => True) (fun _ => True) u) : Ww w p L l (u.setCell ⟨p, 0, none⟩ v') :=
 ⟨⟨v', by
  have h := G.set (i := L.length) (at_last L (p, [v])) (j := 0) (by show 0 < 1; omega) v'
  rwa [set_last] at h⟩⟩
end
theorem Gw.isSlice {w u : World} {L : List (Nat × List Value)} {e : TypeId} {z n : Nat} {v : Value} {cs : List Value} {F H : World → Prop} (G : Gw w L e z v n cs F H u) : ∃ a k c, v = .slice a k c := by
 rcases G.row.2 with ⟨rfl, _⟩ | ⟨g, cap, cur, rfl, _⟩
 ·exact ⟨_, _, _, rfl⟩
 ·exact ⟨_, _, _, rfl⟩
theorem sl_one (u : World) (x : BitVec 8) : Sl (.slice (some ⟨u.heap.size, 0, none⟩) 1 1) [x] (u.alloc (.cells #[b8 x] 5)) :=
 (S5.sl (r := u) (v := .slice (some ⟨u.heap.size, 0, none⟩) 1 1) ⟨(Below.refl _ _).alloc (Nat.le_refl _) _, rfl, .inr ⟨u.heap.size, 1, #[b8 x], rfl, Nat.le_refl _, Array.getElem?_push_size, Nat.le_refl _, by unfold maxLen; omega, rfl, rfl⟩⟩)
theorem or128 (m : Nat) : BitVec.ofNat 8 m ||| 128#8 = BitVec.ofNat 8 (m % 128 + 128) := by
 have key : ∀ k : Fin 256, BitVec.ofNat 8 k.val ||| 128#8 = BitVec.ofNat 8 (k.val % 128 + 128) := by decide +kernel
 have h := key ⟨m % 256, Nat.mod_lt _ (by omega)⟩
 have e1 : BitVec.ofNat 8 m = BitVec.ofNat 8 (m % 256) := by
  apply BitVec.eq_of_toNat_eq
  simp
 have e2 : m % 256 % 128 = m % 128 := by omega
 simp only [e2] at h
 rw [e1]
 exact h
theorem run_callv {w : World} {ρ : Operand → Value} {o : Oper} {f : FuncId} {y : Operand} {xs : Array Operand} {ts : Array TypeId} (hE : Enters f) (ho : o.op = .call { callee := .value y, args := xs, argTypes := ts }) (hf : ρ y = .func (.func f) #[] #[]) : (execOp ρ o).run Tryd.prog w = .ok (.enter f (xs.map ρ)) w := by
 obtain ⟨dst, op, type, pos, after, guard⟩ := o
 subst ho
 have := hE (xs.map ρ) w
 go_simp
theorem run_callv2 {w : World} {ρ : Operand → Value} {o : Oper} {f : FuncId} {y x x' : Operand} {a a' : Value} {ts : Array TypeId} (hE : Enters f) (ho : o.op = .call { callee := .value y, args := #[x, x'], argTypes := ts }) (hf : ρ y = .func (.func f) #[] #[]) (hx : ρ x = a) (hx' : ρ x' = a') : (execOp ρ o).run Tryd.prog w = .ok (.enter f #[a, a']) w := by
 rw [run_callv hE ho hf]
 have e : (#[x, x'] : Array Operand).map ρ = #[a, a'] := by simp [hx, hx']
 rw [e]
end Go.Proofs.YtcgbgmbnagmohaaDoor
namespace Go.Proofs.YtcgbgmbnagmohaaDoor
open Go.RowKit
set_option maxRecDepth 20000
attribute [local irreducible] wpList
theorem enters_wnum : Enters 65 := qaq Tryd.func65 (by kernel_rfl) rfl
set_option maxHeartbeats 4000000 in
theorem wnum_any (w : World) (p : Nat) (L : List (Nat × List Value)) (l : List (BitVec 8)) (n : Int) (u : World) (hb : l.length + (viB n).length ≤ 100000000000) (H : Ww w p L l u) : Calls Tryd.prog 65 #[.pointer (some ⟨p, 0, none⟩), .int .i64 n] u fun e u' => ∃ v', e = .returned v' ∧ Ww w p L (l ++ (viB n)) u' := by
 have EC : Hid (min (max n 0) 1099511627776 = ((clN n : Nat) : Int)) := Lib.hid (by unfold clN; omega)
 have EV : Hid (viB n = viF 5 (clN n)) := Lib.hid rfl
 have N0 := Lib.hid (NuI.start (clN_le n))
 have hvl := viB_len n
 have HB := Lib.hid hb
 have E := Lib.hid H
 clear hb H
 generalize viB n = out at *
 generalize clN n = c at *
 go_enter Tryd.func65, Tryd.ntmps65
 go_upto_region 0 with fail; refine wp_region_lit ?_
 refine qaa (qae (v := .int .i64 n) rfl rfl) rfl ?_; (try simp only [Act.put, lyy])
 refine qaa (run_maxI _ rfl rfl rfl) rfl ?_; (try simp only [Act.put, lyy])
 refine qaa (run_minI _ rfl rfl rfl) rfl ?_; (try simp only [Act.put, lyy])
 rw [EC.out]
 refine qaa (qaf (v := .int .i64 (c : Int)) rfl rfl) rfl ?_; (try simp only [Act.put, lyy])
 refine qab ?_
 go_wp2_with fail
 go_loopw [1] (fun s1 u => ∃ (m : Nat) (pre : List (BitVec 8)), s1 = .int .i64 (m : Int) ∧ NuI c pre m ∧ Ww w p L (l ++ pre) u) (fun s1 _ => (intOf s1).toNat)
 case atStart => exact ⟨c, [], rfl, N0.out, by rw [List.append_nil]; exact E.out⟩
 case round =>
  obtain ⟨m, pre, rfl, hN, hJ⟩ := hrel
  replace E := Lib.hid hJ
  have HN := Lib.hid hN
  have hpl := hN.len
  have hml := hN.le
  have HL : Hid (l.length + pre.length + 1 ≤ 100000000000) := Lib.hid (by have h1 := HB.out; have h2 := congrArg List.length EV.out; obtain ⟨k, h3, -, -⟩ := hN.ex; rw [h3, List.length_append] at h2; have h4 := viF_pos k m; omega)
  clear hJ hN
  by_cases hlt : 127 < m
  ·have NX := Lib.hid (HN.out.step hlt)
   have EO := or128 m
   go_upto_region 1 with fail; refine wp_region_lit ?_
   refine qaa (qae (v := .int .i64 (m : Int)) rfl rfl) rfl ?_; (try simp only [Act.put, lyy])
   refine qaa (run_geqI (c := true) rfl rfl rfl (decide_eq_true (by omega))) rfl ?_; (try simp only [Act.put, lyy])
   refine qab ?_
   go_upto_region 3 with fail; refine wp_region_lit ?_
   obtain ⟨v, G⟩ := E.out.ex
   have GG := Lib.hid G
   clear G
   refine qaa (qae (v := .pointer (some ⟨p, 0, none⟩)) rfl rfl) rfl ?_; (try simp only [Act.put, lyy])
   refine qaa (qae (v := .pointer (some ⟨p, 0, none⟩)) rfl rfl) rfl ?_; (try simp only [Act.put, lyy])
   refine qaa (run_nck rfl rfl) rfl ?_; (try simp only [Act.put, lyy])
   refine qaa (qan (s := 0) (k := 0) rfl Tryd.underlying104 rfl (by kernel_rfl) rfl rfl) rfl ?_; (try simp only [Act.put, lyy])
   refine qaa (qav (v := v) rfl Tryd.underlying22 rfl rfl ((GG.out.get (i := L.length) (at_last _ _)).c 0 _ rfl)) rfl ?_; (try simp only [Act.put, lyy])
   clear E
   refine qaa (qae (v := .int .i64 (m : Int)) rfl rfl) rfl ?_; (try simp only [Act.put, lyy])
   refine qaa (run_cvi_8 (n := m) rfl rfl) rfl ?_; (try simp only [Act.put, lyy])
   refine qaa (qdj (b := 128#8) rfl rfl rfl) rfl ?_; (try simp only [Act.put, lyy])
   rw [EO]
   generalize BitVec.ofNat 8 (m % 128 + 128) = x at *
   refine qaa (run_bsl (cells := #[b8 x]) (z := .int .u8 0) rfl Tryd.underlying22 (by kernel_rfl) (by omega) (by omega) (by kernel_rfl)) rfl ?_; (try simp only [Act.put, lyy])
   have HX := Lib.hid (sl_one wr x)
   replace GG := Lib.hid (GG.out.below ((Below.refl wr.heap.size wr).alloc (Nat.le_refl _) (.cells #[b8 x] 5)))
   generalize wr.alloc (.cells #[b8 x] 5) = o5 at *
   generalize wr.heap.size = g5 at *
   refine wpList_growB rfl rfl rfl rfl HX.out (by rw [List.length_append]; exact HL.out) GG.out (fun v5 y5 hG => ?_); (try simp only [Act.put, lyy])
   replace GG := Lib.hid hG
   clear hG HX
   obtain ⟨xa, xn, xc, rfl⟩ := GG.out.isSlice
   refine qaa (run_nck rfl rfl) rfl ?_; (try simp only [Act.put, lyy])
   refine qaa (qan (s := 0) (k := 0) rfl Tryd.underlying104 rfl (by kernel_rfl) rfl rfl) rfl ?_; (try simp only [Act.put, lyy])
   refine qag (run_stc (v := .slice xa xn xc) rfl (by kernel_rfl) rfl rfl rfl rfl ((GG.out.get (i := L.length) (at_last _ _)).c 0 _ rfl) ((GG.out.get (i := L.length) (at_last _ _)).f 0)) rfl rfl ?_
   have E := Lib.hid (Gw.stored GG.out)
   clear GG
   generalize y5.setCell ⟨p, 0, none⟩ (.slice xa xn xc) = z5 at *
   refine qab ?_
   replace E := Lib.hid (E.out.cast (List.append_assoc _ _ _))
   go_upto_region 2 with fail; refine wp_region_lit ?_
   refine qaa (qae (v := .int .i64 (m : Int)) rfl rfl) rfl ?_; (try simp only [Act.put, lyy])
   refine qaa (run_shri (n := m) (k := 7) rfl rfl rfl (by omega)) rfl ?_; (try simp only [Act.put, lyy])
   refine qaa (qaf (v := .int .i64 ((m / 128 : Nat) : Int)) rfl rfl) rfl ?_; (try simp only [Act.put, lyy])
   refine qab ?_
   go_wp2_with fail
   exact ⟨⟨m / 128, pre ++ [x], rfl, NX.out, E.out⟩, by simp [intOf]; omega⟩
  ·have EO := Lib.hid (HN.out.done (by omega))
   go_upto_region 1 with fail; refine wp_region_lit ?_
   refine qaa (qae (v := .int .i64 (m : Int)) rfl rfl) rfl ?_; (try simp only [Act.put, lyy])
   refine qaa (run_geqI (c := false) rfl rfl rfl (decide_eq_false (by omega))) rfl ?_; (try simp only [Act.put, lyy])
   refine qab ?_
   go_upto_region 4 with fail; refine wp_region_lit ?_
   obtain ⟨v, G⟩ := E.out.ex
   have GG := Lib.hid G
   clear G
   refine qaa (qae (v := .pointer (some ⟨p, 0, none⟩)) rfl rfl) rfl ?_; (try simp only [Act.put, lyy])
   refine qaa (qae (v := .pointer (some ⟨p, 0, none⟩)) rfl rfl) rfl ?_; (try simp only [Act.put, lyy])
   refine qaa (run_nck rfl rfl) rfl ?_; (try simp only [Act.put, lyy])
   refine qaa (qan (s := 0) (k := 0) rfl Tryd.underlying104 rfl (by kernel_rfl) rfl rfl) rfl ?_; (try simp only [Act.put, lyy])
   refine qaa (qav (v := v) rfl Tryd.underlying22 rfl rfl ((GG.out.get (i := L.length) (at_last _ _)).c 0 _ rfl)) rfl ?_; (try simp only [Act.put, lyy])
   clear E
   refine qaa (qae (v := .int .i64 (m : Int)) rfl rfl) rfl ?_; (try simp only [Act.put, lyy])
   refine qaa (run_cvi_8 (n := m) rfl rfl) rfl ?_; (try simp only [Act.put, lyy])
   generalize BitVec.ofNat 8 m = x at *
   refine qaa (run_bsl (cells := #[b8 x]) (z := .int .u8 0) rfl Tryd.underlying22 (by kernel_rfl) (by omega) (by omega) (by kernel_rfl)) rfl ?_; (try simp only [Act.put, lyy])
   have HX := Lib.hid (sl_one wr x)
   replace GG := Lib.hid (GG.out.below ((Below.refl wr.heap.size wr).alloc (Nat.le_refl _) (.cells #[b8 x] 5)))
   generalize wr.alloc (.cells #[b8 x] 5) = o5 at *
   generalize wr.heap.size = g5 at *
   refine wpList_growB rfl rfl rfl rfl HX.out (by rw [List.length_append]; exact HL.out) GG.out (fun v5 y5 hG => ?_); (try simp only [Act.put, lyy])
   replace GG := Lib.hid hG
   clear hG HX
   obtain ⟨xa, xn, xc, rfl⟩ := GG.out.isSlice
   refine qaa (run_nck rfl rfl) rfl ?_; (try simp only [Act.put, lyy])
   refine qaa (qan (s := 0) (k := 0) rfl Tryd.underlying104 rfl (by kernel_rfl) rfl rfl) rfl ?_; (try simp only [Act.put, lyy])
   refine qag (run_stc (v := .slice xa xn xc) rfl (by kernel_rfl) rfl rfl rfl rfl ((GG.out.get (i := L.length) (at_last _ _)).c 0 _ rfl) ((GG.out.get (i := L.length) (at_last _ _)).f 0)) rfl rfl ?_
   have E := Lib.hid (Gw.stored GG.out)
   clear GG
   generalize y5.setCell ⟨p, 0, none⟩ (.slice xa xn xc) = z5 at *
   refine qab ?_
   replace E := Lib.hid (E.out.cast (show l ++ pre ++ [x] = l ++ out by rw [EV.out, EO.out, List.append_assoc]))
   go_wp2_with fail
   exact bodyPost_end (results_none Tryd.results65 _ _ _) rfl ⟨_, rfl, E.out⟩
end Go.Proofs.YtcgbgmbnagmohaaDoor
namespace Go.Proofs.YtcgbgmbnagmohaaDoor
open Go.RowKit
set_option maxRecDepth 20000
attribute [local irreducible] wpList
theorem z8_len' (n : Nat) : (z8 n).length = n := by simp [z8]
def alF {α : Type} (enc : α → List (BitVec 8)) (ms : List α) (i : Nat) : List (BitVec 8) := viB (ms.length : Int) ++ (ms.take i).flatMap enc
def alB {α : Type} (enc : α → List (BitVec 8)) (ms : List α) : List (BitVec 8) := viB (ms.length : Int) ++ ms.flatMap enc
theorem alF_zero {α : Type} (enc : α → List (BitVec 8)) (ms : List α) : viB (ms.length : Int) = alF enc ms 0 := by simp [alF]
theorem alF_all {α : Type} (enc : α → List (BitVec 8)) (ms : List α) : alF enc ms ms.length = alB enc ms := by simp [alF, alB]
theorem alF_succ {α : Type} {enc : α → List (BitVec 8)} {ms : List α} {i : Nat} (h : i < ms.length) : alF enc ms (i + 1) = alF enc ms i ++ enc ms[i] := by
 unfold alF
 rw [List.take_succ_eq_append_getElem h, List.flatMap_append]
 simp
theorem alF_head {α : Type} (enc : α → List (BitVec 8)) (ms : List α) : (viB (ms.length : Int)).length ≤ (alB enc ms).length := by unfold alB; rw [List.length_append]; omega
theorem alF_le {α : Type} (enc : α → List (BitVec 8)) (ms : List α) {i : Nat} (h : i < ms.length) : (alF enc ms i).length + (enc ms[i]).length ≤ (alB enc ms).length := by
 have e : ms = ms.take i ++ ms[i] :: ms.drop (i + 1) := by simp
 have h2 : (ms.flatMap enc).length = ((ms.take i).flatMap enc).length + ((enc ms[i]).length + ((ms.drop (i + 1)).flatMap enc).length) := by
  conv => lhs; rw [e, List.flatMap_append, List.flatMap_cons, List.length_append, List.length_append]
 unfold alF alB
 rw [List.length_append, List.length_append, h2]
 omega
theorem at_last2 {α : Type} (y : α) (L : List α) (x : α) : (y :: L ++ [x])[L.length + 1]? = some x := by simp
theorem sl_arr {u : World} {g n : Nat} (K : List (BitVec 8)) (hK : K.length = n) (hn : 0 < n) (h : Arr g (K.map b8) u) : Sl (.slice (some ⟨g, 0, none⟩) n n) K u := by
 subst hK
 exact ⟨_, _, rfl, Nat.le_refl _, fun _ => ⟨g, 0, rfl, h.lt, h.range⟩⟩
section
variable {w u : World} {ops : Array Oper} {Q : Exit → Act → World → Prop} {o : Oper} {a : Act} {S : World → Prop} {L : List (Nat × List Value)} {v : Value} {l m : List (BitVec 8)} {F H : World → Prop}
theorem wpAnyD_growB {fuel : Nat} {listed : Array Bool} {s x : Operand} (i : Nat) {d : Tmp} (hr : Region.ready .any ops listed = [i]) (hoo : ops[i]? = some o) (hd : o.dst = some d) (hw : Region.wanted o (yielded ops a.tmps) = true) (hl : (listed.setIfInBounds i true).getD i false = true)
  (ho : o.op = .call { callee := .builtin .append, args := #[s, x], argTypes := #[22, 22] }) (hs : a.eval s = v) {vx : Value} (hx : a.eval x = vx) (hv : Sl vx m u) (hn : l.length + m.length ≤ 100000000000) (G : Gw w L 5 1 v l.length (l.map b8) F H u)
  (h : ∀ v' u', Gw w L 5 1 v' (l ++ m).length ((l ++ m).map b8) F H u' → qb5 Tryd.prog ops Q (Till i S) fuel (listed.setIfInBounds i true) (a.put (some d) v') u') : qb5 Tryd.prog ops Q (Till i S) (fuel + 1) listed a u := by
 simp only [← hd] at h
 obtain ⟨v', w', hrun, h1⟩ := run_growB ho hs hx hv hn G
 refine ⟨fun e => (by rw [hr] at e; cases e), fun j hj => ?_⟩
 rw [hr] at hj
 obtain rfl : j = i := by simpa using hj
 simp only [wpOp, hoo, hw, if_true]
 refine .inl ?_
 unfold Oper.wp
 rw [hrun]
 exact ⟨.inl hl, h v' w' h1⟩
end
theorem enters_wkey : Enters 66 := qaq Tryd.func66 (by kernel_rfl) rfl
set_option maxHeartbeats 4000000 in
theorem wkey_any (w : World) (p : Nat) (L : List (Nat × List Value)) (l : List (BitVec 8)) (K : List (BitVec 8)) (u : World) (hK : K.length = 32) (hb : l.length + K.length ≤ 100000000000) (H : Ww w p L l u) : Calls Tryd.prog 66 #[.pointer (some ⟨p, 0, none⟩), .agg (K.map b8).toArray] u fun e u' => ∃ v', e = .returned v' ∧ Ww w p L (l ++ K) u' := by
 have E := Lib.hid H
 have HB := Lib.hid hb
 clear hb H
 go_enter Tryd.func66, Tryd.ntmps66
 go_upto_region 0 with fail; refine wp_region_lit ?_
 refine qaa (qau (vs := K.map b8) rfl rfl) rfl ?_; (try simp only [Act.put, lyy])
 replace E := Lib.hid (E.out.new (K.map b8) 24)
 generalize u.alloc (.cells (K.map b8).toArray 24) = a1 at *
 generalize u.heap.size = g1 at *
 refine qab ?_
 go_upto_region 1 with fail
 obtain ⟨v, G⟩ := E.out.ex
 have GG := Lib.hid G
 have EE := E
 clear G E
 refine wp_region_noPanic ?_; refine qay (S := Till 6 (fun V => Below a1.heap.size a1 V)) (by kernel_rfl) (.inr (Below.refl _ _).drew) (fun _ => ?_); have hS : Below a1.heap.size a1 a1.drew := (Below.refl _ _).drew
 refine wpAnyD_free 0 rfl rfl (by kernel_rfl) (by kernel_rfl) (by kernel_rfl) (by kernel_rfl) (fun _ _ _ h => h) rfl (fun V => qae (v := .pointer (some ⟨p, 0, none⟩)) rfl rfl) hS ?_; (try simp only [Act.put, lyy])
 refine qak 1 rfl rfl (by kernel_rfl) (by kernel_rfl) (by kernel_rfl) (by kernel_rfl) (by kernel_rfl) (fun _ _ _ h => h) rfl (fun V hV => qae (v := .pointer (some ⟨p, 0, none⟩)) rfl rfl) hS ?_; (try simp only [Act.put, lyy])
 refine qak 2 rfl rfl (by kernel_rfl) (by kernel_rfl) (by kernel_rfl) (by kernel_rfl) (by kernel_rfl) (fun _ _ _ h => h) rfl (fun V hV => run_nck rfl rfl) hS ?_; (try simp only [Act.put, lyy])
 refine qak 3 rfl rfl (by kernel_rfl) (by kernel_rfl) (by kernel_rfl) (by kernel_rfl) (by kernel_rfl) (fun _ _ _ h => h) rfl (fun V hV => qan (s := 0) (k := 0) rfl Tryd.underlying104 rfl (by kernel_rfl) rfl rfl) hS ?_; (try simp only [Act.put, lyy])
 refine qak 4 rfl rfl (by kernel_rfl) (by kernel_rfl) (by kernel_rfl) (by kernel_rfl) (by kernel_rfl) (fun _ _ _ h => h) rfl (fun V hV => qav rfl Tryd.underlying22 rfl rfl (((GG.out.below hV).get (i := L.length + 1) (at_last2 _ _ _)).c 0 _ rfl)) hS ?_; (try simp only [Act.put, lyy])
 refine qak 5 rfl rfl (by kernel_rfl) (by kernel_rfl) (by kernel_rfl) (by kernel_rfl) (by kernel_rfl) (fun _ _ _ h => h) rfl (fun V hV => run_slA rfl Tryd.underlying24 (by kernel_rfl) rfl) hS ?_; (try simp only [Act.put, lyy])
 have HS := Lib.hid (sl_arr K hK (by omega) ((EE.out.get (i := 0) rfl)))
 replace GG := Lib.hid (GG.out.below hS)
 have HS2 := Lib.hid (HS.out.below hS)
 generalize a1.drew = a2 at *
 clear HS EE
 refine wpAnyD_growB 6 (by kernel_rfl) rfl rfl rfl rfl rfl rfl rfl HS2.out HB.out GG.out (fun v5 y5 hG => ?_); (try simp only [Act.put, lyy])
 replace GG := Lib.hid hG
 clear hG HS2
 obtain ⟨xa, xn, xc, rfl⟩ := GG.out.isSlice
 refine qcj 7 (by kernel_rfl) rfl rfl rfl (run_nck rfl rfl) (.inl rfl) ?_; (try simp only [Act.put, lyy])
 refine qcj 8 (by kernel_rfl) rfl rfl rfl (qan (s := 0) (k := 0) rfl Tryd.underlying104 rfl (by kernel_rfl) rfl rfl) (.inl rfl) ?_; (try simp only [Act.put, lyy])
 refine qbo 9 (by kernel_rfl) rfl rfl rfl (run_stc (v := .slice xa xn xc) rfl (by kernel_rfl) rfl rfl rfl rfl ((GG.out.get (i := L.length + 1) (at_last2 _ _ _)).c 0 _ rfl) ((GG.out.get (i := L.length + 1) (at_last2 _ _ _)).f 0)) (.inl rfl) ?_
 have E2 := Lib.hid (Ww.drop (Gw.stored (L := (g1, K.map b8) :: L) GG.out))
 generalize y5.setCell ⟨p, 0, none⟩ (.slice xa xn xc) = z5 at *
 refine qa2 (by kernel_rfl) ?_ _; refine NoPanic.normal ?_
 go_wp2_with fail
 exact bodyPost_end (results_none Tryd.results66 _ _ _) rfl ⟨⟨_, rfl⟩, E2.out⟩
theorem enters_wsig : Enters 69 := qaq Tryd.func69 (by kernel_rfl) rfl
set_option maxHeartbeats 4000000 in
theorem wsig_any (w : World) (p : Nat) (L : List (Nat × List Value)) (l : List (BitVec 8)) (K : List (BitVec 8)) (u : World) (hK : K.length = 64) (hb : l.length + K.length ≤ 100000000000) (H : Ww w p L l u) : Calls Tryd.prog 69 #[.pointer (some ⟨p, 0, none⟩), .agg (K.map b8).toArray] u fun e u' => ∃ v', e = .returned v' ∧ Ww w p L (l ++ K) u' := by
 have E := Lib.hid H
 have HB := Lib.hid hb
 clear hb H
 go_enter Tryd.func69, Tryd.ntmps69
 go_upto_region 0 with fail; refine wp_region_lit ?_
 refine qaa (qau (vs := K.map b8) rfl rfl) rfl ?_; (try simp only [Act.put, lyy])
 replace E := Lib.hid (E.out.new (K.map b8) 27)
 generalize u.alloc (.cells (K.map b8).toArray 27) = a1 at *
 generalize u.heap.size = g1 at *
 refine qab ?_
 go_upto_region 1 with fail
 obtain ⟨v, G⟩ := E.out.ex
 have GG := Lib.hid G
 have EE := E
 clear G E
 refine wp_region_noPanic ?_; refine qay (S := Till 6 (fun V => Below a1.heap.size a1 V)) (by kernel_rfl) (.inr (Below.refl _ _).drew) (fun _ => ?_); have hS : Below a1.heap.size a1 a1.drew := (Below.refl _ _).drew
 refine wpAnyD_free 0 rfl rfl (by kernel_rfl) (by kernel_rfl) (by kernel_rfl) (by kernel_rfl) (fun _ _ _ h => h) rfl (fun V => qae (v := .pointer (some ⟨p, 0, none⟩)) rfl rfl) hS ?_; (try simp only [Act.put, lyy])
 refine qak 1 rfl rfl (by kernel_rfl) (by kernel_rfl) (by kernel_rfl) (by kernel_rfl) (by kernel_rfl) (fun _ _ _ h => h) rfl (fun V hV => qae (v := .pointer (some ⟨p, 0, none⟩)) rfl rfl) hS ?_; (try simp only [Act.put, lyy])
 refine qak 2 rfl rfl (by kernel_rfl) (by kernel_rfl) (by kernel_rfl) (by kernel_rfl) (by kernel_rfl) (fun _ _ _ h => h) rfl (fun V hV => run_nck rfl rfl) hS ?_; (try simp only [Act.put, lyy])
 refine qak 3 rfl rfl (by kernel_rfl) (by kernel_rfl) (by kernel_rfl) (by kernel_rfl) (by kernel_rfl) (fun _ _ _ h => h) rfl (fun V hV => qan (s := 0) (k := 0) rfl Tryd.underlying104 rfl (by kernel_rfl) rfl rfl) hS ?_; (try simp only [Act.put, lyy])
 refine qak 4 rfl rfl (by kernel_rfl) (by kernel_rfl) (by kernel_rfl) (by kernel_rfl) (by kernel_rfl) (fun _ _ _ h => h) rfl (fun V hV => qav rfl Tryd.underlying22 rfl rfl (((GG.out.below hV).get (i := L.length + 1) (at_last2 _ _ _)).c 0 _ rfl)) hS ?_; (try simp only [Act.put, lyy])
 refine qak 5 rfl rfl (by kernel_rfl) (by kernel_rfl) (by kernel_rfl) (by kernel_rfl) (by kernel_rfl) (fun _ _ _ h => h) rfl (fun V hV => run_slA rfl Tryd.underlying27 (by kernel_rfl) rfl) hS ?_; (try simp only [Act.put, lyy])
 have HS := Lib.hid (sl_arr K hK (by omega) ((EE.out.get (i := 0) rfl)))
 replace GG := Lib.hid (GG.out.below hS)
 have HS2 := Lib.hid (HS.out.below hS)
 generalize a1.drew = a2 at *
 clear HS EE
 refine wpAnyD_growB 6 (by kernel_rfl) rfl rfl rfl rfl rfl rfl rfl HS2.out HB.out GG.out (fun v5 y5 hG => ?_); (try simp only [Act.put, lyy])
 replace GG := Lib.hid hG
 clear hG HS2
 obtain ⟨xa, xn, xc, rfl⟩ := GG.out.isSlice
 refine qcj 7 (by kernel_rfl) rfl rfl rfl (run_nck rfl rfl) (.inl rfl) ?_; (try simp only [Act.put, lyy])
 refine qcj 8 (by kernel_rfl) rfl rfl rfl (qan (s := 0) (k := 0) rfl Tryd.underlying104 rfl (by kernel_rfl) rfl rfl) (.inl rfl) ?_; (try simp only [Act.put, lyy])
 refine qbo 9 (by kernel_rfl) rfl rfl rfl (run_stc (v := .slice xa xn xc) rfl (by kernel_rfl) rfl rfl rfl rfl ((GG.out.get (i := L.length + 1) (at_last2 _ _ _)).c 0 _ rfl) ((GG.out.get (i := L.length + 1) (at_last2 _ _ _)).f 0)) (.inl rfl) ?_
 have E2 := Lib.hid (Ww.drop (Gw.stored (L := (g1, K.map b8) :: L) GG.out))
 generalize y5.setCell ⟨p, 0, none⟩ (.slice xa xn xc) = z5 at *
 refine qa2 (by kernel_rfl) ?_ _; refine NoPanic.normal ?_
 go_wp2_with fail
 exact bodyPost_end (results_none Tryd.results69 _ _ _) rfl ⟨⟨_, rfl⟩, E2.out⟩
theorem enters_went : Enters 68 := qaq Tryd.func68 (by kernel_rfl) rfl
set_option maxHeartbeats 4000000 in
theorem went_any (w : World) (p : Nat) (L : List (Nat × List Value)) (l : List (BitVec 8)) (m : MPk) (u : World) (hm : m.key.length = 32) (hb : l.length + (pkB m).length ≤ 100000000000) (H : Ww w p L l u) : Calls Tryd.prog 68 #[.pointer (some ⟨p, 0, none⟩), .agg (pkC m).toArray] u fun e u' => ∃ v', e = .returned v' ∧ Ww w p L (l ++ (pkB m)) u' := by
 rw [pkC_en]
 have EB : Hid (l ++ viB m.id ++ m.key = l ++ (pkB m)) := Lib.hid (by unfold pkB; simp only [List.append_assoc])
 have HB : Hid ((l ++ viB m.id ++ m.key).length ≤ 100000000000) := Lib.hid (by rw [EB.out, List.length_append]; exact hb)
 have E := Lib.hid H
 clear hb H
 go_enter Tryd.func68, Tryd.ntmps68
 go_upto_region 0 with fail; refine wp_region_lit ?_
 refine qaa (qau (vs := enR (.int .i64 m.id) (m.key.map b8)) rfl rfl) rfl ?_; (try simp only [Act.put, lyy])
 replace E := Lib.hid (E.out.new (enR (.int .i64 m.id) (m.key.map b8)) 34)
 generalize u.alloc (.cells (enR (.int .i64 m.id) (m.key.map b8)).toArray 34) = a1 at *
 generalize u.heap.size = g2 at *
 refine qab ?_
 go_upto_region 1 with fail; refine wp_region_lit ?_
 refine qaa (qae (v := .pointer (some ⟨p, 0, none⟩)) rfl rfl) rfl ?_; (try simp only [Act.put, lyy])
 refine qaa (qan (s := 0) (k := 0) rfl Tryd.underlying34 rfl (by kernel_rfl) rfl rfl) rfl ?_; (try simp only [Act.put, lyy])
 refine qaa (qav rfl Tryd.underlying3 rfl rfl ((E.out.get (i := 0) rfl).c 0 _ (enR_ID ))) rfl ?_; (try simp only [Act.put, lyy])
 refine qbj (qao enters_wnum rfl rfl rfl rfl) rfl (wnum_any w p _ _ (m.id) _ (by have h := HB.out; simp only [List.length_append] at h ⊢; omega) E.out) (fun v4 a3 hR => ?_); (try simp only [Act.put, lyy])
 replace E := Lib.hid hR
 clear hR
 refine qab ?_
 go_upto_region 2 with fail; refine wp_region_lit ?_
 refine qaa (qae (v := .pointer (some ⟨p, 0, none⟩)) rfl rfl) rfl ?_; (try simp only [Act.put, lyy])
 refine qaa (qan (s := 31) (k := 1) rfl Tryd.underlying34 rfl (by kernel_rfl) rfl rfl) rfl ?_; (try simp only [Act.put, lyy])
 refine qaa (qaj (vs := m.key.map b8) rfl Tryd.underlying24 rfl (szR (by rw [List.length_map, hm]) (by kernel_rfl)) rfl ((E.out.get (i := 0) rfl).seg (enR_Key (by rw [List.length_map, hm])))) rfl ?_; (try simp only [Act.put, lyy])
 refine qbj (qao enters_wkey rfl rfl rfl rfl) rfl (wkey_any w p _ _ m.key _ hm (by have h := HB.out; simp only [List.length_append] at h ⊢; omega) E.out) (fun v6 a5 hR => ?_); (try simp only [Act.put, lyy])
 replace E := Lib.hid hR
 clear hR
 refine qab ?_
 have E2 := Lib.hid (E.out.drop.cast EB.out)
 go_wp2_with fail
 exact bodyPost_end (results_none Tryd.results68 _ _ _) rfl ⟨_, rfl, E2.out⟩
theorem enters_walE : Enters 67 := qaq Tryd.func67 (by kernel_rfl) rfl
set_option maxHeartbeats 4000000 in
theorem walE_any (w : World) (p : Nat) (L : List (Nat × List Value)) (l : List (BitVec 8)) (ms : List MPk) (a : Option Addr) (c : Nat) (u : World) (hn : ms.length ≤ 100000000000) (hp : ∀ p ∈ ms, p.key.length = 32) (hX : Fro 0 (SlR 33 pkAt ms a c) w) (hb : l.length + (alB pkB ms).length ≤ 100000000000) (H : Ww w p L l u) : Calls Tryd.prog 67 #[.pointer (some ⟨p, 0, none⟩), .slice a ms.length c, .func (.func 68) #[] #[]] u fun e u' => ∃ v', e = .returned v' ∧ Ww w p L (l ++ (alB pkB ms)) u' := by
 have HE : Hid (∀ i, i < ms.length → ∃ g f cs x, a = some ⟨g, f, none⟩ ∧ alF pkB ms (i + 1) = alF pkB ms i ++ x ∧ (cs : List Value).length = 33 ∧ One cs ∧ (∀ u, Below w.heap.size w u → u.rangeAt g (f + i * 33) cs) ∧ (∀ (u : World) (L : List (Nat × List Value)) (y : List (BitVec 8)), y = l ++ alF pkB ms i → Ww w p L y u → Calls Tryd.prog 68 #[.pointer (some ⟨p, 0, none⟩), .agg cs.toArray] u fun e u' => ∃ v', e = .returned v' ∧ Ww w p L (y ++ x) u')) := Lib.hid fun i hi => by
  obtain ⟨g, f, cs, h1, h2, h3, h4, h5⟩ := slR_get hX hi
  have hk := hp _ (List.getElem_mem hi)
  have hle := alF_le pkB ms hi
  have e : cs = pkC ms[i] := h5.now
  have hone : One cs := by rw [e]; exact qc2 hk
  exact ⟨g, f, cs, pkB ms[i], h1, alF_succ hi, h3, hone, fun u hu => qb9 h4 h2 hu, fun u L y hy H => by rw [e]; exact went_any w p L y ms[i] u hk (by rw [hy, List.length_append]; omega) H⟩
 have E0 : Hid (viB (ms.length : Int) = alF pkB ms 0) := Lib.hid (alF_zero _ _)
 have EO : Hid (alF pkB ms ms.length = alB pkB ms) := Lib.hid (alF_all _ _)
 have HB : Hid (l.length + (viB (ms.length : Int)).length ≤ 100000000000) := Lib.hid (by have h := alF_head pkB ms; omega)
 have E := Lib.hid H
 clear hb H hX hp
 obtain ⟨Gf, hGf⟩ : ∃ Gf, Gf = alF pkB ms := ⟨_, rfl⟩
 rw [← hGf] at HE E0 EO
 clear hGf
 generalize alB pkB ms = out at *
 generalize ms.length = n at *
 go_enter Tryd.func67, Tryd.ntmps67
 go_upto_region 0 with fail; refine wp_region_lit ?_
 refine qaa (qae (v := .pointer (some ⟨p, 0, none⟩)) rfl rfl) rfl ?_; (try simp only [Act.put, lyy])
 refine qaa (qae (v := .slice a n c) rfl rfl) rfl ?_; (try simp only [Act.put, lyy])
 refine qaa (qbe rfl Tryd.underlying25 rfl) rfl ?_; (try simp only [Act.put, lyy])
 refine qbj (qao enters_wnum rfl rfl rfl rfl) rfl (wnum_any w p L l (n : Int) u HB.out E.out) (fun v1 a1 hR => ?_); (try simp only [Act.put, lyy])
 replace E := Lib.hid hR
 clear hR
 rw [E0.out] at E
 refine qab ?_
 go_upto_region 1 with fail; refine wp_region_lit ?_
 refine qaa (qae (v := .slice a n c) rfl rfl) rfl ?_; (try simp only [Act.put, lyy])
 refine qaa (qbe rfl Tryd.underlying25 rfl) rfl ?_; (try simp only [Act.put, lyy])
 refine qaa (qae (v := .int .i64 0) rfl rfl) rfl ?_; (try simp only [Act.put, lyy])
 refine qab ?_
 go_wp2_with fail
 go_loopw [14] (fun s14 u => ∃ i : Nat, i ≤ n ∧ s14 = .int .i64 (i : Int) ∧ Ww w p L (l ++ Gf i) u) (fun s14 _ => ((n : Int) - intOf s14).toNat)
 case atStart => exact ⟨0, by omega, rfl, E.out⟩
 case round =>
  obtain ⟨i, hi, rfl, hJ⟩ := hrel
  replace E := Lib.hid hJ
  clear hJ
  by_cases hik : i = n
  ·subst hik
   replace E := Lib.hid (E.out.cast (show _ = l ++ out by rw [EO.out]))
   go_upto_region 2 with fail; refine wp_region_lit ?_
   refine qaa (qbr (c := false) rfl rfl rfl (decide_eq_false (by omega))) rfl ?_; (try simp only [Act.put, lyy])
   refine qab ?_
   go_wp2_with fail
   exact bodyPost_end (results_none Tryd.results67 _ _ _) rfl ⟨_, rfl, E.out⟩
  ·obtain ⟨g, f, cs, x, rfl, hx, hz, hone, hr, hc⟩ := HE.out i (by omega)
   have HX := Lib.hid hx
   have HR1 := Lib.hid hr
   have HC1 := Lib.hid hc
   have HO1 := Lib.hid hone
   clear hx hr hc hone
   go_upto_region 2 with fail; refine wp_region_lit ?_
   refine qaa (qbr (c := true) rfl rfl rfl (decide_eq_true (by omega))) rfl ?_; (try simp only [Act.put, lyy])
   refine qab ?_
   go_upto_region 3 with fail; refine wp_region_lit ?_
   refine qaa (qcl (z := 33) (i := i) rfl Tryd.underlying25 (by kernel_rfl) rfl rfl (by omega)) rfl ?_; (try simp only [Act.put, lyy])
   refine qaa (qaj (vs := cs) rfl Tryd.underlying34 rfl (szR hz (by kernel_rfl)) rfl (HR1.out _ E.out.bl)) rfl ?_; (try simp only [Act.put, lyy])
   refine qaa (qat (vs := enR ((.int .i64 0)) (z8 32)) rfl (by kernel_rfl)) rfl ?_; (try simp only [Act.put, lyy])
   replace E := Lib.hid (E.out.new (enR ((.int .i64 0)) (z8 32)) 34)
   generalize wr.alloc (.cells (enR ((.int .i64 0)) (z8 32)).toArray 34) = a1 at *
   generalize wr.heap.size = g1 at *
   refine qag (qar (vs := cs) rfl (szR hz (by kernel_rfl)) rfl rfl (One.all HO1.out) ((E.out.get (i := 0) rfl).thereM (by have q2 : (enR ((.int .i64 0)) (z8 32)).length = 33 := (qbn (z8_len' 32)); omega))) rfl rfl ?_
   replace E := Lib.hid (E.out.put 0 rfl (m' := cs) (hz.trans (show (enR ((.int .i64 0)) (z8 32)).length = 33 from (qbn (z8_len' 32))).symm))
   replace E := Lib.hid (show Ww w p ((g1, cs) :: L) _ _ from E.out)
   generalize a1.setCells g1 0 cs = a2 at *
   refine qab ?_
   go_upto_region 4 with fail; refine wp_region_lit ?_
   refine qaa (qae (v := .func (.func 68) #[] #[]) rfl rfl) rfl ?_; (try simp only [Act.put, lyy])
   refine qaa (qae (v := .pointer (some ⟨p, 0, none⟩)) rfl rfl) rfl ?_; (try simp only [Act.put, lyy])
   refine qaa (qaj (vs := cs) rfl Tryd.underlying34 rfl (szR hz (by kernel_rfl)) rfl (E.out.get (i := 0) rfl).range) rfl ?_; (try simp only [Act.put, lyy])
   refine qbj (run_callv2 enters_went rfl rfl rfl rfl) rfl (HC1.out _ _ _ rfl E.out) (fun v3 a3 hR => ?_); (try simp only [Act.put, lyy])
   replace E := Lib.hid (hR.drop.cast (show _ = l ++ Gf (i + 1) by rw [HX.out, List.append_assoc]))
   clear hR
   refine qab ?_
   go_upto_region 5 with fail; refine wp_region_lit ?_
   refine qaa (qb1 (a := i) (b := 1) rfl rfl rfl (by omega)) rfl ?_; (try simp only [Act.put, lyy])
   refine qaa (qae (v := .int .i64 ((i + 1 : Nat) : Int)) rfl rfl) rfl ?_; (try simp only [Act.put, lyy])
   refine qab ?_
   go_wp2_with fail
   exact ⟨⟨i + 1, by omega, rfl, E.out⟩, by simp [intOf]; omega⟩
end Go.Proofs.YtcgbgmbnagmohaaDoor
