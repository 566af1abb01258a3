import Derived.Test.YtcgbgmbnagmohaaDoorWrD
import Derived.Lib.AppendStr
import Derived.Test.YtcgbgmbnagmohaaDoorLy
import Derived.Test.YtcgbgmbnagmohaaDoorLi0
import Derived.Test.YtcgbgmbnagmohaaDoorBsl
import Derived.Test.YtcgbgmbnagmohaaDoorSgW3
import Derived.Deep.CutBlock
import Derived.Test.YtcgbgmbnagmohaaDoorSgCon
namespace Go.Proofs.YtcgbgmbnagmohaaDoor
open Go.RowKit
set_option maxRecDepth 20000
attribute [local irreducible] wpList
structure MRq.Ok (m : MRq) : Prop where
  kind0 : 0 ≤ m.kind
  kind1 : m.kind < 256
  pin : m.pin.length ≤ 100000
  next : m.next.length ≤ 100000
  name : m.name.length ≤ 100000
  ls : m.ls.Ok
  token : m.token.length = 32
  signed : m.signed.key.length = 32
  sig : m.sig.length = 64
  ones : ∀ p ∈ m.ones, p.key.length = 32
  many : m.ones.length ≤ 60000
  items : ∀ p ∈ m.items, p.2.Ok
  much : m.items.length ≤ 60000
end Go.Proofs.YtcgbgmbnagmohaaDoor
namespace Go.Proofs.YtcgbgmbnagmohaaDoor
open Go.RowKit
set_option maxRecDepth 20000
attribute [local irreducible] wpList
section
variable {w u u' : World} {L : List (Nat × List Value)} {e : TypeId} {z n : Nat} {v : Value} {cs : List Value} {F H : World → Prop}
theorem Gw.grown (G : Gw w L e z v n cs F H u) {v' : Value} {n' : Nat} {cs' : List Value} (h3 : u'.ownsRow w.heap.size e z v' n' cs') (h4 : u.grownBy u' v.ownBlock) (hw : v'.ownBlock = v.ownBlock ∨ v'.ownBlock = some u.heap.size) : Gw w L e z v' n' cs' F H u' := by
  have hbase : w.heap.size ≤ u.heap.size := G.bl.size
  have hb : Below w.heap.size u u' := below_grown h4 (fun k hk => (qbn G.row hk).1) hbase
  have hap : ∀ p ∈ L, v'.ownBlock ≠ some p.1 := fun p hp he => by
    rcases hw with hw | hw
    · exact G.ap p hp (hw ▸ he)
    · rw [hw] at he
      have h6 := (G.ev.mv.all p hp).2.lt
      injection he with he
      omega
  have key : ∀ B V, Ext B (v'.ownBlock.toList ++ L.map (·.1)) u' V → Ext B (v.ownBlock.toList ++ L.map (·.1)) u V := fun B V hV =>
    ⟨Nat.le_trans h4.size hV.size, fun b k1 k2 k3 => by
      have n1 : v.ownBlock ≠ some b := fun he => k3 (List.mem_append.2 (.inl (by simp [he])))
      have n2 : b ∉ v'.ownBlock.toList ++ L.map (·.1) := fun hm => by
        rcases List.mem_append.1 hm with hm | hm
        · have he : v'.ownBlock = some b := by simpa using hm
          rcases hw with hw | hw
          · exact n1 (hw ▸ he)
          · rw [hw] at he
            injection he with he
            omega
        · exact k3 (List.mem_append.2 (.inr hm))
      exact (hV.block b k1 (Nat.lt_of_lt_of_le k2 h4.size) n2).trans (h4.block b k2 fun he => n1 he.symm)⟩
  have hmv : Mv w L u' := ⟨G.bl.trans hb, G.ev.mv.nd, fun p hp => ⟨(G.ev.mv.all p hp).1, (G.ev.mv.all p hp).2.same h4.size (h4.block _ (G.ev.mv.all p hp).2.lt fun he => G.ap p hp he.symm)⟩⟩
  exact ⟨⟨hmv, fun k hk => (qbn h3 (by simpa using hk)).2, fun V hV => G.ev.fs V (key 0 V hV), fun V hV => G.ev.hs V (key _ V hV)⟩, h3, hap⟩
end
section
variable {P : Program} {w : World}
end
section
variable {w u : World} {L : List (Nat × List Value)} {v : Value} {l m : List (BitVec 8)} {F H : World → Prop} {ops : Array Oper} {Q : Exit → Act → World → Prop} {rest : List Oper} {o : Oper} {a : Act} {s x : Operand}
theorem run_growB (ho : o.op = .call { callee := .builtin .append, args := #[s, x], argTypes := #[22, 22] }) (hs : a.eval s = v) {vx : Value} (hx : a.eval x = vx) (hv : Sl vx m u) (hn : l.length + m.length ≤ 100000000000) (G : Gw w L 5 1 v l.length (l.map b8) F H u) :
    ∃ v' u', (execOp a.eval o).run Tryd.prog u = .ok (.value v') u' ∧ Gw w L 5 1 v' (l ++ m).length ((l ++ m).map b8) F H u' := by
  by_cases he : m = []
  · subst he
    obtain ⟨ao, c, rfl, _, _⟩ := hv
    have hr := run_app0 (ao := ao) (c := c) (ty := o.type) G.row
    refine ⟨v, u, ?_, by rw [List.append_nil]; exact G⟩
    unfold execOp
    simp [ho, resolve, invoke, builtin, hs, hx, hr, Result.andThen]
  · obtain ⟨g, f, c, rfl, _, hr⟩ := hv.adr (List.length_pos_iff.2 he)
    have hi : (Tryd.prog.info? 5).map (fun i => (i.size, i.bytes, i.zero)) = some (1, 1, some (.int .u8 0)) := by kernel_rfl
    obtain ⟨inf, h1, h2⟩ := Option.map_eq_some_iff.1 hi
    obtain ⟨e1, e2, e3⟩ : inf.size = 1 ∧ inf.bytes = 1 ∧ inf.zero = some (.int .u8 0) := by simpa using h2
    have hc : ∀ j q, (m.map b8)[j]? = some q → u.cell? ((⟨g, f, none⟩ : Addr).add j) = some q := fun j q hq => by rw [Addr.add_mid]; exact hr j q hq
    have h8 : ∀ q ∈ m.map b8, q.oneCell' = true := fun q hq => by rw [List.mem_map] at hq; obtain ⟨x, _, rfl⟩ := hq; rfl
    have hp := List.length_pos_iff.2 he
    obtain ⟨v', w', hrun, h3, h4, _⟩ := run_append_own (P := Tryd.prog) u w.heap.size 22 o.type 5 inf (.int .u8 0) 1 1 Tryd.underlying22 h1 e3 e1 e2 rfl (by omega) v l.length (l.map b8) G.row ⟨g, f, none⟩ m.length c (m.map b8) (by simp) hc h8
      (by unfold maxLen; omega) (by omega) G.bl.size
    have hw := append_where (P := Tryd.prog) w.heap.size 22 o.type 5 inf (.int .u8 0) 1 1 Tryd.underlying22 h1 e3 e1 e2 rfl (by omega) v l.length (l.map b8) G.row ⟨g, f, none⟩ m.length c (m.map b8) (by simp) hc h8 (by unfold maxLen; omega) (by omega) hp hrun
    refine ⟨v', w', ?_, G.grown (by rw [List.map_append, List.length_append]; exact h3) h4 hw⟩
    unfold execOp
    simp [ho, resolve, invoke, builtin, hs, hx, hrun, Result.andThen]
theorem wpList_growB (hg : o.guard = none) (ho : o.op = .call { callee := .builtin .append, args := #[s, x], argTypes := #[22, 22] }) (hs : a.eval s = v) {vx : Value} (hx : a.eval x = vx) (hv : Sl vx m u) (hn : l.length + m.length ≤ 100000000000) (G : Gw w L 5 1 v l.length (l.map b8) F H u)
    (h : ∀ v' u', Gw w L 5 1 v' (l ++ m).length ((l ++ m).map b8) F H u' → wpList Tryd.prog ops Q rest (a.put o.dst v') u') : wpList Tryd.prog ops Q (o :: rest) a u := by
  obtain ⟨v', u', h1, h2⟩ := run_growB ho hs hx hv hn G
  exact qaa h1 hg (h v' u' h2)
end
structure Ww (w : World) (p : Nat) (L : List (Nat × List Value)) (l : List (BitVec 8)) (u : World) : Prop where
  ex : ∃ v, Gw w (L ++ [(p, [v])]) 5 1 v l.length (l.map b8) (fun _ => True) (fun _ => True) u
section
variable {w u : World} {p : Nat} {L : List (Nat × List Value)} {l : List (BitVec 8)}
theorem at_last {α : Type} (L : List α) (x : α) : (L ++ [x])[L.length]? = some x := by simp
theorem set_last {α : Type} (L : List α) (x y : α) : (L ++ [x]).set L.length y = L ++ [y] := by simp
theorem Ww.bl (h : Ww w p L l u) : Below w.heap.size w u := h.ex.elim fun _ G => G.bl
theorem Ww.get (h : Ww w p L l u) {i g : Nat} {m : List Value} (hi : L[i]? = some (g, m)) : Arr g m u :=
  h.ex.elim fun _ G => G.get (i := i) (by rw [List.getElem?_append_left (List.getElem?_eq_some_iff.1 hi).1]; exact hi)
theorem Ww.new (h : Ww w p L l u) (m : List Value) (t : TypeId) : Ww w p ((u.heap.size, m) :: L) l (u.alloc (.cells m.toArray t)) :=
  ⟨h.ex.elim fun v G => ⟨v, G.new m t⟩⟩
theorem Ww.put (h : Ww w p L l u) (i : Nat) {g : Nat} {m m' : List Value} (hi : L[i]? = some (g, m)) (hm : m'.length = m.length) : Ww w p (L.set i (g, m')) l (u.setCells g 0 m') :=
  ⟨h.ex.elim fun v G => ⟨v, by
    have hlt := (List.getElem?_eq_some_iff.1 hi).1
    have h2 := G.put i (by rw [List.getElem?_append_left hlt]; exact hi) hm
    rwa [List.set_append_left _ _ hlt] at h2⟩⟩
theorem Ww.drop {x : Nat × List Value} (h : Ww w p (x :: L) l u) : Ww w p L l u :=
  ⟨h.ex.elim fun v G => ⟨v, Gw.drop G⟩⟩
theorem Ww.cast {l' : List (BitVec 8)} (h : Ww w p L l u) (e : l = l') : Ww w p L l' u := e ▸ h
theorem Gw.stored {v v' : Value} (G : Gw w (L ++ [(p, [v])]) 5 1 v' l.length (l.map b8) (fun _ => True) (fun _ => True) u) : Ww w p L l (u.setCell ⟨p, 0, none⟩ v') :=
  ⟨⟨v', by
    have h := G.set (i := L.length) (at_last L (p, [v])) (j := 0) (by show 0 < 1; omega) v'
    rwa [set_last] at h⟩⟩
end
theorem Gw.isSlice {w u : World} {L : List (Nat × List Value)} {e : TypeId} {z n : Nat} {v : Value} {cs : List Value} {F H : World → Prop} (G : Gw w L e z v n cs F H u) : ∃ a k c, v = .slice a k c := by
  rcases G.row.2 with ⟨rfl, _⟩ | ⟨g, cap, cur, rfl, _⟩
  · exact ⟨_, _, _, rfl⟩
  · exact ⟨_, _, _, rfl⟩
theorem sl_one (u : World) (x : BitVec 8) : Sl (.slice (some ⟨u.heap.size, 0, none⟩) 1 1) [x] (u.alloc (.cells #[b8 x] 5)) :=
  (S5.sl (r := u) (v := .slice (some ⟨u.heap.size, 0, none⟩) 1 1) ⟨(Below.refl _ _).alloc (Nat.le_refl _) _, rfl, .inr ⟨u.heap.size, 1, #[b8 x], rfl, Nat.le_refl _, Array.getElem?_push_size, Nat.le_refl _, by unfold maxLen; omega, rfl, rfl⟩⟩)
theorem or128 (m : Nat) : BitVec.ofNat 8 m ||| 128#8 = BitVec.ofNat 8 (m % 128 + 128) := by
  have key : ∀ k : Fin 256, BitVec.ofNat 8 k.val ||| 128#8 = BitVec.ofNat 8 (k.val % 128 + 128) := by decide +kernel
  have h := key ⟨m % 256, Nat.mod_lt _ (by omega)⟩
  have e1 : BitVec.ofNat 8 m = BitVec.ofNat 8 (m % 256) := by
    apply BitVec.eq_of_toNat_eq
    simp
  have e2 : m % 256 % 128 = m % 128 := by omega
  simp only [e2] at h
  rw [e1]
  exact h
theorem run_callv {w : World} {ρ : Operand → Value} {o : Oper} {f : FuncId} {y : Operand} {xs : Array Operand} {ts : Array TypeId} (hE : Enters f) (ho : o.op = .call { callee := .value y, args := xs, argTypes := ts }) (hf : ρ y = .func (.func f) #[] #[]) : (execOp ρ o).run Tryd.prog w = .ok (.enter f (xs.map ρ)) w := by
  obtain ⟨dst, op, type, pos, after, guard⟩ := o
  subst ho
  have := hE (xs.map ρ) w
  go_simp
theorem run_callv2 {w : World} {ρ : Operand → Value} {o : Oper} {f : FuncId} {y x x' : Operand} {a a' : Value} {ts : Array TypeId} (hE : Enters f) (ho : o.op = .call { callee := .value y, args := #[x, x'], argTypes := ts }) (hf : ρ y = .func (.func f) #[] #[]) (hx : ρ x = a) (hx' : ρ x' = a') : (execOp ρ o).run Tryd.prog w = .ok (.enter f #[a, a']) w := by
  rw [run_callv hE ho hf]
  have e : (#[x, x'] : Array Operand).map ρ = #[a, a'] := by simp [hx, hx']
  rw [e]
end Go.Proofs.YtcgbgmbnagmohaaDoor
namespace Go.Proofs.YtcgbgmbnagmohaaDoor
open Go.RowKit
set_option maxRecDepth 20000
attribute [local irreducible] wpList
theorem enters_wnum : Enters 65 := qan Tryd.func65 (by kernel_rfl) rfl
set_option maxHeartbeats 4000000 in
theorem wnum_any (w : World) (p : Nat) (L : List (Nat × List Value)) (l : List (BitVec 8)) (n : Int) (u : World) (hb : l.length + (viB n).length ≤ 100000000000) (H : Ww w p L l u) : Calls Tryd.prog 65 #[.pointer (some ⟨p, 0, none⟩), .int .i64 n] u fun e u' => ∃ v', e = .returned v' ∧ Ww w p L (l ++ (viB n)) u' := by
  have EC : Hid (min (max n 0) 1099511627776 = ((clN n : Nat) : Int)) := Lib.hid (by unfold clN; omega)
  have EV : Hid (viB n = viF 5 (clN n)) := Lib.hid rfl
  have N0 := Lib.hid (NuI.start (clN_le n))
  have hvl := viB_len n
  have HB := Lib.hid hb
  have E := Lib.hid H
  clear hb H
  generalize viB n = out at *
  generalize clN n = c at *
  go_enter Tryd.func65, Tryd.ntmps65
  go_upto_region 0 with fail; refine wp_region_lit ?_
  refine qaa (qae (v := .int .i64 n) rfl rfl) rfl ?_; (try simp only [Act.put, lyy])
  refine qaa (run_maxI _ rfl rfl rfl) rfl ?_; (try simp only [Act.put, lyy])
  refine qaa (run_minI _ rfl rfl rfl) rfl ?_; (try simp only [Act.put, lyy])
  rw [EC.out]
  refine qaa (qaf (v := .int .i64 (c : Int)) rfl rfl) rfl ?_; (try simp only [Act.put, lyy])
  refine qab ?_
  go_wp2_with fail
  go_loopw [1] (fun s1 u => ∃ (m : Nat) (pre : List (BitVec 8)), s1 = .int .i64 (m : Int) ∧ NuI c pre m ∧ Ww w p L (l ++ pre) u) (fun s1 _ => (intOf s1).toNat)
  case atStart => exact ⟨c, [], rfl, N0.out, by rw [List.append_nil]; exact E.out⟩
  case round =>
    obtain ⟨m, pre, rfl, hN, hJ⟩ := hrel
    replace E := Lib.hid hJ
    have HN := Lib.hid hN
    have hpl := hN.len
    have hml := hN.le
    have HL : Hid (l.length + pre.length + 1 ≤ 100000000000) := Lib.hid (by have h1 := HB.out; have h2 := congrArg List.length EV.out; obtain ⟨k, h3, -, -⟩ := hN.ex; rw [h3, List.length_append] at h2; have h4 := viF_pos k m; omega)
    clear hJ hN
    by_cases hlt : 127 < m
    · have NX := Lib.hid (HN.out.step hlt)
      have EO := or128 m
      go_upto_region 1 with fail; refine wp_region_lit ?_
      refine qaa (qae (v := .int .i64 (m : Int)) rfl rfl) rfl ?_; (try simp only [Act.put, lyy])
      refine qaa (run_geqI (c := true) rfl rfl rfl (decide_eq_true (by omega))) rfl ?_; (try simp only [Act.put, lyy])
      refine qab ?_
      go_upto_region 3 with fail; refine wp_region_lit ?_
      obtain ⟨v, G⟩ := E.out.ex
      have GG := Lib.hid G
      clear G
      refine qaa (qae (v := .pointer (some ⟨p, 0, none⟩)) rfl rfl) rfl ?_; (try simp only [Act.put, lyy])
      refine qaa (qae (v := .pointer (some ⟨p, 0, none⟩)) rfl rfl) rfl ?_; (try simp only [Act.put, lyy])
      refine qaa (run_nck rfl rfl) rfl ?_; (try simp only [Act.put, lyy])
      refine qaa (qar (s := 0) (k := 0) rfl Tryd.underlying104 rfl (by kernel_rfl) rfl rfl) rfl ?_; (try simp only [Act.put, lyy])
      refine qaa (qa9 (v := v) rfl Tryd.underlying22 rfl rfl ((GG.out.get (i := L.length) (at_last _ _)).c 0 _ rfl)) rfl ?_; (try simp only [Act.put, lyy])
      clear E
      refine qaa (qae (v := .int .i64 (m : Int)) rfl rfl) rfl ?_; (try simp only [Act.put, lyy])
      refine qaa (run_cvi_8 (n := m) rfl rfl) rfl ?_; (try simp only [Act.put, lyy])
      refine qaa (qc6 (b := 128#8) rfl rfl rfl) rfl ?_; (try simp only [Act.put, lyy])
      rw [EO]
      generalize BitVec.ofNat 8 (m % 128 + 128) = x at *
      refine qaa (run_bsl (cells := #[b8 x]) (z := .int .u8 0) rfl Tryd.underlying22 (by kernel_rfl) (by omega) (by omega) (by kernel_rfl)) rfl ?_; (try simp only [Act.put, lyy])
      have HX := Lib.hid (sl_one wr x)
      replace GG := Lib.hid (GG.out.below ((Below.refl wr.heap.size wr).alloc (Nat.le_refl _) (.cells #[b8 x] 5)))
      generalize wr.alloc (.cells #[b8 x] 5) = o5 at *
      generalize wr.heap.size = g5 at *
      refine wpList_growB rfl rfl rfl rfl HX.out (by rw [List.length_append]; exact HL.out) GG.out (fun v5 y5 hG => ?_); (try simp only [Act.put, lyy])
      replace GG := Lib.hid hG
      clear hG HX
      obtain ⟨xa, xn, xc, rfl⟩ := GG.out.isSlice
      refine qaa (run_nck rfl rfl) rfl ?_; (try simp only [Act.put, lyy])
      refine qaa (qar (s := 0) (k := 0) rfl Tryd.underlying104 rfl (by kernel_rfl) rfl rfl) rfl ?_; (try simp only [Act.put, lyy])
      refine qag (run_stc (v := .slice xa xn xc) rfl (by kernel_rfl) rfl rfl rfl rfl ((GG.out.get (i := L.length) (at_last _ _)).c 0 _ rfl) ((GG.out.get (i := L.length) (at_last _ _)).f 0)) rfl rfl ?_
      have E := Lib.hid (Gw.stored GG.out)
      clear GG
      generalize y5.setCell ⟨p, 0, none⟩ (.slice xa xn xc) = z5 at *
      refine qab ?_
      replace E := Lib.hid (E.out.cast (List.append_assoc _ _ _))
      go_upto_region 2 with fail; refine wp_region_lit ?_
      refine qaa (qae (v := .int .i64 (m : Int)) rfl rfl) rfl ?_; (try simp only [Act.put, lyy])
      refine qaa (run_shri (n := m) (k := 7) rfl rfl rfl (by omega)) rfl ?_; (try simp only [Act.put, lyy])
      refine qaa (qaf (v := .int .i64 ((m / 128 : Nat) : Int)) rfl rfl) rfl ?_; (try simp only [Act.put, lyy])
      refine qab ?_
      go_wp2_with fail
      exact ⟨⟨m / 128, pre ++ [x], rfl, NX.out, E.out⟩, by simp [intOf]; omega⟩
    · have EO := Lib.hid (HN.out.done (by omega))
      go_upto_region 1 with fail; refine wp_region_lit ?_
      refine qaa (qae (v := .int .i64 (m : Int)) rfl rfl) rfl ?_; (try simp only [Act.put, lyy])
      refine qaa (run_geqI (c := false) rfl rfl rfl (decide_eq_false (by omega))) rfl ?_; (try simp only [Act.put, lyy])
      refine qab ?_
      go_upto_region 4 with fail; refine wp_region_lit ?_
      obtain ⟨v, G⟩ := E.out.ex
      have GG := Lib.hid G
      clear G
      refine qaa (qae (v := .pointer (some ⟨p, 0, none⟩)) rfl rfl) rfl ?_; (try simp only [Act.put, lyy])
      refine qaa (qae (v := .pointer (some ⟨p, 0, none⟩)) rfl rfl) rfl ?_; (try simp only [Act.put, lyy])
      refine qaa (run_nck rfl rfl) rfl ?_; (try simp only [Act.put, lyy])
      refine qaa (qar (s := 0) (k := 0) rfl Tryd.underlying104 rfl (by kernel_rfl) rfl rfl) rfl ?_; (try simp only [Act.put, lyy])
      refine qaa (qa9 (v := v) rfl Tryd.underlying22 rfl rfl ((GG.out.get (i := L.length) (at_last _ _)).c 0 _ rfl)) rfl ?_; (try simp only [Act.put, lyy])
      clear E
      refine qaa (qae (v := .int .i64 (m : Int)) rfl rfl) rfl ?_; (try simp only [Act.put, lyy])
      refine qaa (run_cvi_8 (n := m) rfl rfl) rfl ?_; (try simp only [Act.put, lyy])
      generalize BitVec.ofNat 8 m = x at *
      refine qaa (run_bsl (cells := #[b8 x]) (z := .int .u8 0) rfl Tryd.underlying22 (by kernel_rfl) (by omega) (by omega) (by kernel_rfl)) rfl ?_; (try simp only [Act.put, lyy])
      have HX := Lib.hid (sl_one wr x)
      replace GG := Lib.hid (GG.out.below ((Below.refl wr.heap.size wr).alloc (Nat.le_refl _) (.cells #[b8 x] 5)))
      generalize wr.alloc (.cells #[b8 x] 5) = o5 at *
      generalize wr.heap.size = g5 at *
      refine wpList_growB rfl rfl rfl rfl HX.out (by rw [List.length_append]; exact HL.out) GG.out (fun v5 y5 hG => ?_); (try simp only [Act.put, lyy])
      replace GG := Lib.hid hG
      clear hG HX
      obtain ⟨xa, xn, xc, rfl⟩ := GG.out.isSlice
      refine qaa (run_nck rfl rfl) rfl ?_; (try simp only [Act.put, lyy])
      refine qaa (qar (s := 0) (k := 0) rfl Tryd.underlying104 rfl (by kernel_rfl) rfl rfl) rfl ?_; (try simp only [Act.put, lyy])
      refine qag (run_stc (v := .slice xa xn xc) rfl (by kernel_rfl) rfl rfl rfl rfl ((GG.out.get (i := L.length) (at_last _ _)).c 0 _ rfl) ((GG.out.get (i := L.length) (at_last _ _)).f 0)) rfl rfl ?_
      have E := Lib.hid (Gw.stored GG.out)
      clear GG
      generalize y5.setCell ⟨p, 0, none⟩ (.slice xa xn xc) = z5 at *
      refine qab ?_
      replace E := Lib.hid (E.out.cast (show l ++ pre ++ [x] = l ++ out by rw [EV.out, EO.out, List.append_assoc]))
      go_wp2_with fail
      exact bodyPost_end (results_none Tryd.results65 _ _ _) rfl ⟨_, rfl, E.out⟩
end Go.Proofs.YtcgbgmbnagmohaaDoor
namespace Go.Proofs.YtcgbgmbnagmohaaDoor
open Go.RowKit
set_option maxRecDepth 20000
attribute [local irreducible] wpList
theorem z8_len' (n : Nat) : (z8 n).length = n := by simp [z8]
def alF {α : Type} (enc : α → List (BitVec 8)) (ms : List α) (i : Nat) : List (BitVec 8) := viB (ms.length : Int) ++ (ms.take i).flatMap enc
def alB {α : Type} (enc : α → List (BitVec 8)) (ms : List α) : List (BitVec 8) := viB (ms.length : Int) ++ ms.flatMap enc
theorem alF_zero {α : Type} (enc : α → List (BitVec 8)) (ms : List α) : viB (ms.length : Int) = alF enc ms 0 := by simp [alF]
theorem alF_all {α : Type} (enc : α → List (BitVec 8)) (ms : List α) : alF enc ms ms.length = alB enc ms := by simp [alF, alB]
theorem alF_succ {α : Type} {enc : α → List (BitVec 8)} {ms : List α} {i : Nat} (h : i < ms.length) : alF enc ms (i + 1) = alF enc ms i ++ enc ms[i] := by
  unfold alF
  rw [List.take_succ_eq_append_getElem h, List.flatMap_append]
  simp
theorem alF_head {α : Type} (enc : α → List (BitVec 8)) (ms : List α) : (viB (ms.length : Int)).length ≤ (alB enc ms).length := by unfold alB; rw [List.length_append]; omega
theorem alF_le {α : Type} (enc : α → List (BitVec 8)) (ms : List α) {i : Nat} (h : i < ms.length) : (alF enc ms i).length + (enc ms[i]).length ≤ (alB enc ms).length := by
  have e : ms = ms.take i ++ ms[i] :: ms.drop (i + 1) := by simp
  have h2 : (ms.flatMap enc).length = ((ms.take i).flatMap enc).length + ((enc ms[i]).length + ((ms.drop (i + 1)).flatMap enc).length) := by
    conv => lhs; rw [e, List.flatMap_append, List.flatMap_cons, List.length_append, List.length_append]
  unfold alF alB
  rw [List.length_append, List.length_append, h2]
  omega
theorem at_last2 {α : Type} (y : α) (L : List α) (x : α) : (y :: L ++ [x])[L.length + 1]? = some x := by simp
theorem sl_arr {u : World} {g n : Nat} (K : List (BitVec 8)) (hK : K.length = n) (hn : 0 < n) (h : Arr g (K.map b8) u) : Sl (.slice (some ⟨g, 0, none⟩) n n) K u := by
  subst hK
  exact ⟨_, _, rfl, Nat.le_refl _, fun _ => ⟨g, 0, rfl, h.lt, h.range⟩⟩
section
variable {w u : World} {ops : Array Oper} {Q : Exit → Act → World → Prop} {o : Oper} {a : Act} {S : World → Prop} {L : List (Nat × List Value)} {v : Value} {l m : List (BitVec 8)} {F H : World → Prop}
theorem wpAnyD_growB {fuel : Nat} {listed : Array Bool} {s x : Operand} (i : Nat) {d : Tmp} (hr : Region.ready .any ops listed = [i]) (hoo : ops[i]? = some o) (hd : o.dst = some d) (hw : Region.wanted o (yielded ops a.tmps) = true) (hl : (listed.setIfInBounds i true).getD i false = true)
    (ho : o.op = .call { callee := .builtin .append, args := #[s, x], argTypes := #[22, 22] }) (hs : a.eval s = v) {vx : Value} (hx : a.eval x = vx) (hv : Sl vx m u) (hn : l.length + m.length ≤ 100000000000) (G : Gw w L 5 1 v l.length (l.map b8) F H u)
    (h : ∀ v' u', Gw w L 5 1 v' (l ++ m).length ((l ++ m).map b8) F H u' → qb1 Tryd.prog ops Q (Till i S) fuel (listed.setIfInBounds i true) (a.put (some d) v') u') : qb1 Tryd.prog ops Q (Till i S) (fuel + 1) listed a u := by
  simp only [← hd] at h
  obtain ⟨v', w', hrun, h1⟩ := run_growB ho hs hx hv hn G
  refine ⟨fun e => (by rw [hr] at e; cases e), fun j hj => ?_⟩
  rw [hr] at hj
  obtain rfl : j = i := by simpa using hj
  simp only [wpOp, hoo, hw, if_true]
  refine .inl ?_
  unfold Oper.wp
  rw [hrun]
  exact ⟨.inl hl, h v' w' h1⟩
end
theorem enters_wkey : Enters 66 := qan Tryd.func66 (by kernel_rfl) rfl
set_option maxHeartbeats 4000000 in
theorem wkey_any (w : World) (p : Nat) (L : List (Nat × List Value)) (l : List (BitVec 8)) (K : List (BitVec 8)) (u : World) (hK : K.length = 32) (hb : l.length + K.length ≤ 100000000000) (H : Ww w p L l u) : Calls Tryd.prog 66 #[.pointer (some ⟨p, 0, none⟩), .agg (K.map b8).toArray] u fun e u' => ∃ v', e = .returned v' ∧ Ww w p L (l ++ K) u' := by
  have E := Lib.hid H
  have HB := Lib.hid hb
  clear hb H
  go_enter Tryd.func66, Tryd.ntmps66
  go_upto_region 0 with fail; refine wp_region_lit ?_
  refine qaa (qay (vs := K.map b8) rfl rfl) rfl ?_; (try simp only [Act.put, lyy])
  replace E := Lib.hid (E.out.new (K.map b8) 24)
  generalize u.alloc (.cells (K.map b8).toArray 24) = a1 at *
  generalize u.heap.size = g1 at *
  refine qab ?_
  go_upto_region 1 with fail
  obtain ⟨v, G⟩ := E.out.ex
  have GG := Lib.hid G
  have EE := E
  clear G E
  refine wp_region_noPanic ?_; refine qa0 (S := Till 6 (fun V => Below a1.heap.size a1 V)) (by kernel_rfl) (.inr (Below.refl _ _).drew) (fun _ => ?_); have hS : Below a1.heap.size a1 a1.drew := (Below.refl _ _).drew
  refine wpAnyD_free 0 rfl rfl (by kernel_rfl) (by kernel_rfl) (by kernel_rfl) (by kernel_rfl) (fun _ _ _ h => h) rfl (fun V => qae (v := .pointer (some ⟨p, 0, none⟩)) rfl rfl) hS ?_; (try simp only [Act.put, lyy])
  refine qaj 1 rfl rfl (by kernel_rfl) (by kernel_rfl) (by kernel_rfl) (by kernel_rfl) (by kernel_rfl) (fun _ _ _ h => h) rfl (fun V hV => qae (v := .pointer (some ⟨p, 0, none⟩)) rfl rfl) hS ?_; (try simp only [Act.put, lyy])
  refine qaj 2 rfl rfl (by kernel_rfl) (by kernel_rfl) (by kernel_rfl) (by kernel_rfl) (by kernel_rfl) (fun _ _ _ h => h) rfl (fun V hV => run_nck rfl rfl) hS ?_; (try simp only [Act.put, lyy])
  refine qaj 3 rfl rfl (by kernel_rfl) (by kernel_rfl) (by kernel_rfl) (by kernel_rfl) (by kernel_rfl) (fun _ _ _ h => h) rfl (fun V hV => qar (s := 0) (k := 0) rfl Tryd.underlying104 rfl (by kernel_rfl) rfl rfl) hS ?_; (try simp only [Act.put, lyy])
  refine qaj 4 rfl rfl (by kernel_rfl) (by kernel_rfl) (by kernel_rfl) (by kernel_rfl) (by kernel_rfl) (fun _ _ _ h => h) rfl (fun V hV => qa9 rfl Tryd.underlying22 rfl rfl (((GG.out.below hV).get (i := L.length + 1) (at_last2 _ _ _)).c 0 _ rfl)) hS ?_; (try simp only [Act.put, lyy])
  refine qaj 5 rfl rfl (by kernel_rfl) (by kernel_rfl) (by kernel_rfl) (by kernel_rfl) (by kernel_rfl) (fun _ _ _ h => h) rfl (fun V hV => run_slA rfl Tryd.underlying24 (by kernel_rfl) rfl) hS ?_; (try simp only [Act.put, lyy])
  have HS := Lib.hid (sl_arr K hK (by omega) ((EE.out.get (i := 0) rfl)))
  replace GG := Lib.hid (GG.out.below hS)
  have HS2 := Lib.hid (HS.out.below hS)
  generalize a1.drew = a2 at *
  clear HS EE
  refine wpAnyD_growB 6 (by kernel_rfl) rfl rfl rfl rfl rfl rfl rfl HS2.out HB.out GG.out (fun v5 y5 hG => ?_); (try simp only [Act.put, lyy])
  replace GG := Lib.hid hG
  clear hG HS2
  obtain ⟨xa, xn, xc, rfl⟩ := GG.out.isSlice
  refine qcj 7 (by kernel_rfl) rfl rfl rfl (run_nck rfl rfl) (.inl rfl) ?_; (try simp only [Act.put, lyy])
  refine qcj 8 (by kernel_rfl) rfl rfl rfl (qar (s := 0) (k := 0) rfl Tryd.underlying104 rfl (by kernel_rfl) rfl rfl) (.inl rfl) ?_; (try simp only [Act.put, lyy])
  refine qbm 9 (by kernel_rfl) rfl rfl rfl (run_stc (v := .slice xa xn xc) rfl (by kernel_rfl) rfl rfl rfl rfl ((GG.out.get (i := L.length + 1) (at_last2 _ _ _)).c 0 _ rfl) ((GG.out.get (i := L.length + 1) (at_last2 _ _ _)).f 0)) (.inl rfl) ?_
  have E2 := Lib.hid (Ww.drop (Gw.stored (L := (g1, K.map b8) :: L) GG.out))
  generalize y5.setCell ⟨p, 0, none⟩ (.slice xa xn xc) = z5 at *
  refine qa2 (by kernel_rfl) ?_ _; refine NoPanic.normal ?_
  go_wp2_with fail
  exact bodyPost_end (results_none Tryd.results66 _ _ _) rfl ⟨⟨_, rfl⟩, E2.out⟩
theorem enters_wsig : Enters 69 := qan Tryd.func69 (by kernel_rfl) rfl
set_option maxHeartbeats 4000000 in
theorem wsig_any (w : World) (p : Nat) (L : List (Nat × List Value)) (l : List (BitVec 8)) (K : List (BitVec 8)) (u : World) (hK : K.length = 64) (hb : l.length + K.length ≤ 100000000000) (H : Ww w p L l u) : Calls Tryd.prog 69 #[.pointer (some ⟨p, 0, none⟩), .agg (K.map b8).toArray] u fun e u' => ∃ v', e = .returned v' ∧ Ww w p L (l ++ K) u' := by
  have E := Lib.hid H
  have HB := Lib.hid hb
  clear hb H
  go_enter Tryd.func69, Tryd.ntmps69
  go_upto_region 0 with fail; refine wp_region_lit ?_
  refine qaa (qay (vs := K.map b8) rfl rfl) rfl ?_; (try simp only [Act.put, lyy])
  replace E := Lib.hid (E.out.new (K.map b8) 27)
  generalize u.alloc (.cells (K.map b8).toArray 27) = a1 at *
  generalize u.heap.size = g1 at *
  refine qab ?_
  go_upto_region 1 with fail
  obtain ⟨v, G⟩ := E.out.ex
  have GG := Lib.hid G
  have EE := E
  clear G E
  refine wp_region_noPanic ?_; refine qa0 (S := Till 6 (fun V => Below a1.heap.size a1 V)) (by kernel_rfl) (.inr (Below.refl _ _).drew) (fun _ => ?_); have hS : Below a1.heap.size a1 a1.drew := (Below.refl _ _).drew
  refine wpAnyD_free 0 rfl rfl (by kernel_rfl) (by kernel_rfl) (by kernel_rfl) (by kernel_rfl) (fun _ _ _ h => h) rfl (fun V => qae (v := .pointer (some ⟨p, 0, none⟩)) rfl rfl) hS ?_; (try simp only [Act.put, lyy])
  refine qaj 1 rfl rfl (by kernel_rfl) (by kernel_rfl) (by kernel_rfl) (by kernel_rfl) (by kernel_rfl) (fun _ _ _ h => h) rfl (fun V hV => qae (v := .pointer (some ⟨p, 0, none⟩)) rfl rfl) hS ?_; (try simp only [Act.put, lyy])
  refine qaj 2 rfl rfl (by kernel_rfl) (by kernel_rfl) (by kernel_rfl) (by kernel_rfl) (by kernel_rfl) (fun _ _ _ h => h) rfl (fun V hV => run_nck rfl rfl) hS ?_; (try simp only [Act.put, lyy])
  refine qaj 3 rfl rfl (by kernel_rfl) (by kernel_rfl) (by kernel_rfl) (by kernel_rfl) (by kernel_rfl) (fun _ _ _ h => h) rfl (fun V hV => qar (s := 0) (k := 0) rfl Tryd.underlying104 rfl (by kernel_rfl) rfl rfl) hS ?_; (try simp only [Act.put, lyy])
  refine qaj 4 rfl rfl (by kernel_rfl) (by kernel_rfl) (by kernel_rfl) (by kernel_rfl) (by kernel_rfl) (fun _ _ _ h => h) rfl (fun V hV => qa9 rfl Tryd.underlying22 rfl rfl (((GG.out.below hV).get (i := L.length + 1) (at_last2 _ _ _)).c 0 _ rfl)) hS ?_; (try simp only [Act.put, lyy])
  refine qaj 5 rfl rfl (by kernel_rfl) (by kernel_rfl) (by kernel_rfl) (by kernel_rfl) (by kernel_rfl) (fun _ _ _ h => h) rfl (fun V hV => run_slA rfl Tryd.underlying27 (by kernel_rfl) rfl) hS ?_; (try simp only [Act.put, lyy])
  have HS := Lib.hid (sl_arr K hK (by omega) ((EE.out.get (i := 0) rfl)))
  replace GG := Lib.hid (GG.out.below hS)
  have HS2 := Lib.hid (HS.out.below hS)
  generalize a1.drew = a2 at *
  clear HS EE
  refine wpAnyD_growB 6 (by kernel_rfl) rfl rfl rfl rfl rfl rfl rfl HS2.out HB.out GG.out (fun v5 y5 hG => ?_); (try simp only [Act.put, lyy])
  replace GG := Lib.hid hG
  clear hG HS2
  obtain ⟨xa, xn, xc, rfl⟩ := GG.out.isSlice
  refine qcj 7 (by kernel_rfl) rfl rfl rfl (run_nck rfl rfl) (.inl rfl) ?_; (try simp only [Act.put, lyy])
  refine qcj 8 (by kernel_rfl) rfl rfl rfl (qar (s := 0) (k := 0) rfl Tryd.underlying104 rfl (by kernel_rfl) rfl rfl) (.inl rfl) ?_; (try simp only [Act.put, lyy])
  refine qbm 9 (by kernel_rfl) rfl rfl rfl (run_stc (v := .slice xa xn xc) rfl (by kernel_rfl) rfl rfl rfl rfl ((GG.out.get (i := L.length + 1) (at_last2 _ _ _)).c 0 _ rfl) ((GG.out.get (i := L.length + 1) (at_last2 _ _ _)).f 0)) (.inl rfl) ?_
  have E2 := Lib.hid (Ww.drop (Gw.stored (L := (g1, K.map b8) :: L) GG.out))
  generalize y5.setCell ⟨p, 0, none⟩ (.slice xa xn xc) = z5 at *
  refine qa2 (by kernel_rfl) ?_ _; refine NoPanic.normal ?_
  go_wp2_with fail
  exact bodyPost_end (results_none Tryd.results69 _ _ _) rfl ⟨⟨_, rfl⟩, E2.out⟩
theorem enters_went : Enters 68 := qan Tryd.func68 (by kernel_rfl) rfl
set_option maxHeartbeats 4000000 in
theorem went_any (w : World) (p : Nat) (L : List (Nat × List Value)) (l : List (BitVec 8)) (m : MPk) (u : World) (hm : m.key.length = 32) (hb : l.length + (pkB m).length ≤ 100000000000) (H : Ww w p L l u) : Calls Tryd.prog 68 #[.pointer (some ⟨p, 0, none⟩), .agg (pkC m).toArray] u fun e u' => ∃ v', e = .returned v' ∧ Ww w p L (l ++ (pkB m)) u' := by
  rw [pkC_en]
  have EB : Hid (l ++ viB m.id ++ m.key = l ++ (pkB m)) := Lib.hid (by unfold pkB; simp only [List.append_assoc])
  have HB : Hid ((l ++ viB m.id ++ m.key).length ≤ 100000000000) := Lib.hid (by rw [EB.out, List.length_append]; exact hb)
  have E := Lib.hid H
  clear hb H
  go_enter Tryd.func68, Tryd.ntmps68
  go_upto_region 0 with fail; refine wp_region_lit ?_
  refine qaa (qay (vs := enR (.int .i64 m.id) (m.key.map b8)) rfl rfl) rfl ?_; (try simp only [Act.put, lyy])
  replace E := Lib.hid (E.out.new (enR (.int .i64 m.id) (m.key.map b8)) 34)
  generalize u.alloc (.cells (enR (.int .i64 m.id) (m.key.map b8)).toArray 34) = a1 at *
  generalize u.heap.size = g2 at *
  refine qab ?_
  go_upto_region 1 with fail; refine wp_region_lit ?_
  refine qaa (qae (v := .pointer (some ⟨p, 0, none⟩)) rfl rfl) rfl ?_; (try simp only [Act.put, lyy])
  refine qaa (qar (s := 0) (k := 0) rfl Tryd.underlying34 rfl (by kernel_rfl) rfl rfl) rfl ?_; (try simp only [Act.put, lyy])
  refine qaa (qa9 rfl Tryd.underlying3 rfl rfl ((E.out.get (i := 0) rfl).c 0 _ (enR_ID ))) rfl ?_; (try simp only [Act.put, lyy])
  refine qbd (qal enters_wnum rfl rfl rfl rfl) rfl (wnum_any w p _ _ (m.id) _ (by have h := HB.out; simp only [List.length_append] at h ⊢; omega) E.out) (fun v4 a3 hR => ?_); (try simp only [Act.put, lyy])
  replace E := Lib.hid hR
  clear hR
  refine qab ?_
  go_upto_region 2 with fail; refine wp_region_lit ?_
  refine qaa (qae (v := .pointer (some ⟨p, 0, none⟩)) rfl rfl) rfl ?_; (try simp only [Act.put, lyy])
  refine qaa (qar (s := 31) (k := 1) rfl Tryd.underlying34 rfl (by kernel_rfl) rfl rfl) rfl ?_; (try simp only [Act.put, lyy])
  refine qaa (qai (vs := m.key.map b8) rfl Tryd.underlying24 rfl (szR (by rw [List.length_map, hm]) (by kernel_rfl)) rfl ((E.out.get (i := 0) rfl).seg (enR_Key (by rw [List.length_map, hm])))) rfl ?_; (try simp only [Act.put, lyy])
  refine qbd (qal enters_wkey rfl rfl rfl rfl) rfl (wkey_any w p _ _ m.key _ hm (by have h := HB.out; simp only [List.length_append] at h ⊢; omega) E.out) (fun v6 a5 hR => ?_); (try simp only [Act.put, lyy])
  replace E := Lib.hid hR
  clear hR
  refine qab ?_
  have E2 := Lib.hid (E.out.drop.cast EB.out)
  go_wp2_with fail
  exact bodyPost_end (results_none Tryd.results68 _ _ _) rfl ⟨_, rfl, E2.out⟩
theorem enters_walE : Enters 67 := qan Tryd.func67 (by kernel_rfl) rfl
set_option maxHeartbeats 4000000 in
theorem walE_any (w : World) (p : Nat) (L : List (Nat × List Value)) (l : List (BitVec 8)) (ms : List MPk) (a : Option Addr) (c : Nat) (u : World) (hn : ms.length ≤ 100000000000) (hp : ∀ p ∈ ms, p.key.length = 32) (hX : Fro 0 (SlR 33 pkAt ms a c) w) (hb : l.length + (alB pkB ms).length ≤ 100000000000) (H : Ww w p L l u) : Calls Tryd.prog 67 #[.pointer (some ⟨p, 0, none⟩), .slice a ms.length c, .func (.func 68) #[] #[]] u fun e u' => ∃ v', e = .returned v' ∧ Ww w p L (l ++ (alB pkB ms)) u' := by
  have HE : Hid (∀ i, i < ms.length → ∃ g f cs x, a = some ⟨g, f, none⟩ ∧ alF pkB ms (i + 1) = alF pkB ms i ++ x ∧ (cs : List Value).length = 33 ∧ One cs ∧ (∀ u, Below w.heap.size w u → u.rangeAt g (f + i * 33) cs) ∧ (∀ (u : World) (L : List (Nat × List Value)) (y : List (BitVec 8)), y = l ++ alF pkB ms i → Ww w p L y u → Calls Tryd.prog 68 #[.pointer (some ⟨p, 0, none⟩), .agg cs.toArray] u fun e u' => ∃ v', e = .returned v' ∧ Ww w p L (y ++ x) u')) := Lib.hid fun i hi => by
    obtain ⟨g, f, cs, h1, h2, h3, h4, h5⟩ := slR_get hX hi
    have hk := hp _ (List.getElem_mem hi)
    have hle := alF_le pkB ms hi
    have e : cs = pkC ms[i] := h5.now
    have hone : One cs := by rw [e]; exact pkC_one hk
    exact ⟨g, f, cs, pkB ms[i], h1, alF_succ hi, h3, hone, fun u hu => qb2 h4 h2 hu, fun u L y hy H => by rw [e]; exact went_any w p L y ms[i] u hk (by rw [hy, List.length_append]; omega) H⟩
  have E0 : Hid (viB (ms.length : Int) = alF pkB ms 0) := Lib.hid (alF_zero _ _)
  have EO : Hid (alF pkB ms ms.length = alB pkB ms) := Lib.hid (alF_all _ _)
  have HB : Hid (l.length + (viB (ms.length : Int)).length ≤ 100000000000) := Lib.hid (by have h := alF_head pkB ms; omega)
  have E := Lib.hid H
  clear hb H hX hp
  obtain ⟨Gf, hGf⟩ : ∃ Gf, Gf = alF pkB ms := ⟨_, rfl⟩
  rw [← hGf] at HE E0 EO
  clear hGf
  generalize alB pkB ms = out at *
  generalize ms.length = n at *
  go_enter Tryd.func67, Tryd.ntmps67
  go_upto_region 0 with fail; refine wp_region_lit ?_
  refine qaa (qae (v := .pointer (some ⟨p, 0, none⟩)) rfl rfl) rfl ?_; (try simp only [Act.put, lyy])
  refine qaa (qae (v := .slice a n c) rfl rfl) rfl ?_; (try simp only [Act.put, lyy])
  refine qaa (qbg rfl Tryd.underlying25 rfl) rfl ?_; (try simp only [Act.put, lyy])
  refine qbd (qal enters_wnum rfl rfl rfl rfl) rfl (wnum_any w p L l (n : Int) u HB.out E.out) (fun v1 a1 hR => ?_); (try simp only [Act.put, lyy])
  replace E := Lib.hid hR
  clear hR
  rw [E0.out] at E
  refine qab ?_
  go_upto_region 1 with fail; refine wp_region_lit ?_
  refine qaa (qae (v := .slice a n c) rfl rfl) rfl ?_; (try simp only [Act.put, lyy])
  refine qaa (qbg rfl Tryd.underlying25 rfl) rfl ?_; (try simp only [Act.put, lyy])
  refine qaa (qae (v := .int .i64 0) rfl rfl) rfl ?_; (try simp only [Act.put, lyy])
  refine qab ?_
  go_wp2_with fail
  go_loopw [14] (fun s14 u => ∃ i : Nat, i ≤ n ∧ s14 = .int .i64 (i : Int) ∧ Ww w p L (l ++ Gf i) u) (fun s14 _ => ((n : Int) - intOf s14).toNat)
  case atStart => exact ⟨0, by omega, rfl, E.out⟩
  case round =>
    obtain ⟨i, hi, rfl, hJ⟩ := hrel
    replace E := Lib.hid hJ
    clear hJ
    by_cases hik : i = n
    · subst hik
      replace E := Lib.hid (E.out.cast (show _ = l ++ out by rw [EO.out]))
      go_upto_region 2 with fail; refine wp_region_lit ?_
      refine qaa (qbo (c := false) rfl rfl rfl (decide_eq_false (by omega))) rfl ?_; (try simp only [Act.put, lyy])
      refine qab ?_
      go_wp2_with fail
      exact bodyPost_end (results_none Tryd.results67 _ _ _) rfl ⟨_, rfl, E.out⟩
    · obtain ⟨g, f, cs, x, rfl, hx, hz, hone, hr, hc⟩ := HE.out i (by omega)
      have HX := Lib.hid hx
      have HR1 := Lib.hid hr
      have HC1 := Lib.hid hc
      have HO1 := Lib.hid hone
      clear hx hr hc hone
      go_upto_region 2 with fail; refine wp_region_lit ?_
      refine qaa (qbo (c := true) rfl rfl rfl (decide_eq_true (by omega))) rfl ?_; (try simp only [Act.put, lyy])
      refine qab ?_
      go_upto_region 3 with fail; refine wp_region_lit ?_
      refine qaa (qdg (z := 33) (i := i) rfl Tryd.underlying25 (by kernel_rfl) rfl rfl (by omega)) rfl ?_; (try simp only [Act.put, lyy])
      refine qaa (qai (vs := cs) rfl Tryd.underlying34 rfl (szR hz (by kernel_rfl)) rfl (HR1.out _ E.out.bl)) rfl ?_; (try simp only [Act.put, lyy])
      refine qaa (qas (vs := enR ((.int .i64 0)) (z8 32)) rfl (by kernel_rfl)) rfl ?_; (try simp only [Act.put, lyy])
      replace E := Lib.hid (E.out.new (enR ((.int .i64 0)) (z8 32)) 34)
      generalize wr.alloc (.cells (enR ((.int .i64 0)) (z8 32)).toArray 34) = a1 at *
      generalize wr.heap.size = g1 at *
      refine qag (qap (vs := cs) rfl (szR hz (by kernel_rfl)) rfl rfl (One.all HO1.out) ((E.out.get (i := 0) rfl).thereM (by have q2 : (enR ((.int .i64 0)) (z8 32)).length = 33 := (qbk (z8_len' 32)); omega))) rfl rfl ?_
      replace E := Lib.hid (E.out.put 0 rfl (m' := cs) (hz.trans (show (enR ((.int .i64 0)) (z8 32)).length = 33 from (qbk (z8_len' 32))).symm))
      replace E := Lib.hid (show Ww w p ((g1, cs) :: L) _ _ from E.out)
      generalize a1.setCells g1 0 cs = a2 at *
      refine qab ?_
      go_upto_region 4 with fail; refine wp_region_lit ?_
      refine qaa (qae (v := .func (.func 68) #[] #[]) rfl rfl) rfl ?_; (try simp only [Act.put, lyy])
      refine qaa (qae (v := .pointer (some ⟨p, 0, none⟩)) rfl rfl) rfl ?_; (try simp only [Act.put, lyy])
      refine qaa (qai (vs := cs) rfl Tryd.underlying34 rfl (szR hz (by kernel_rfl)) rfl (E.out.get (i := 0) rfl).range) rfl ?_; (try simp only [Act.put, lyy])
      refine qbd (run_callv2 enters_went rfl rfl rfl rfl) rfl (HC1.out _ _ _ rfl E.out) (fun v3 a3 hR => ?_); (try simp only [Act.put, lyy])
      replace E := Lib.hid (hR.drop.cast (show _ = l ++ Gf (i + 1) by rw [HX.out, List.append_assoc]))
      clear hR
      refine qab ?_
      go_upto_region 5 with fail; refine wp_region_lit ?_
      refine qaa (qb9 (a := i) (b := 1) rfl rfl rfl (by omega)) rfl ?_; (try simp only [Act.put, lyy])
      refine qaa (qae (v := .int .i64 ((i + 1 : Nat) : Int)) rfl rfl) rfl ?_; (try simp only [Act.put, lyy])
      refine qab ?_
      go_wp2_with fail
      exact ⟨⟨i + 1, by omega, rfl, E.out⟩, by simp [intOf]; omega⟩
end Go.Proofs.YtcgbgmbnagmohaaDoor
namespace Go.Proofs.YtcgbgmbnagmohaaDoor
open Go.RowKit
set_option maxRecDepth 20000
attribute [local irreducible] wpList
theorem lsB_al (m : MLs) : lsB m = viB m.acc ++ viB m.ver ++ m.ident ++ alB pkB m.devs ++ m.sig := by simp [lsB, lsF, alB, List.append_assoc]
theorem enters_wlst : Enters 44 := qan Tryd.func44 (by kernel_rfl) rfl
set_option maxHeartbeats 4000000 in
theorem wlst_any (w : World) (p : Nat) (L : List (Nat × List Value)) (l : List (BitVec 8)) (m : MLs) (X : List Value) (u : World) (hm : m.Ok) (hX : Fro 0 (lsAt m X) w) (hb : l.length + (lsB m).length ≤ 100000000000) (H : Ww w p L l u) : Calls Tryd.prog 44 #[.pointer (some ⟨p, 0, none⟩), .agg (X).toArray] u fun e u' => ∃ v', e = .returned v' ∧ Ww w p L (l ++ (lsB m)) u' := by
  obtain ⟨a0, c0, rfl, HF⟩ := lsAt_fix hm hX
  clear hX
  obtain ⟨k1, k2, k3, k4⟩ := hm
  have HF2 := Lib.hid HF
  have K3 := Lib.hid k3
  clear HF k3
  have EB : Hid (l ++ viB m.acc ++ viB m.ver ++ m.ident ++ alB pkB m.devs ++ m.sig = l ++ (lsB m)) := Lib.hid (by rw [lsB_al]; simp only [List.append_assoc])
  have HB : Hid ((l ++ viB m.acc ++ viB m.ver ++ m.ident ++ alB pkB m.devs ++ m.sig).length ≤ 100000000000) := Lib.hid (by rw [EB.out, List.length_append]; exact hb)
  have E := Lib.hid H
  clear hb H
  go_enter Tryd.func44, Tryd.ntmps44
  go_upto_region 0 with fail; refine wp_region_lit ?_
  refine qaa (qay (vs := lsR (.int .i64 m.acc) (.int .i64 m.ver) (m.ident.map b8) (.slice a0 m.devs.length c0) (m.sig.map b8)) rfl rfl) rfl ?_; (try simp only [Act.put, lyy])
  replace E := Lib.hid (E.out.new (lsR (.int .i64 m.acc) (.int .i64 m.ver) (m.ident.map b8) (.slice a0 m.devs.length c0) (m.sig.map b8)) 29)
  generalize u.alloc (.cells (lsR (.int .i64 m.acc) (.int .i64 m.ver) (m.ident.map b8) (.slice a0 m.devs.length c0) (m.sig.map b8)).toArray 29) = a1 at *
  generalize u.heap.size = g2 at *
  refine qab ?_
  go_upto_region 1 with fail; refine wp_region_lit ?_
  refine qaa (qae (v := .pointer (some ⟨p, 0, none⟩)) rfl rfl) rfl ?_; (try simp only [Act.put, lyy])
  refine qaa (qar (s := 0) (k := 0) rfl Tryd.underlying29 rfl (by kernel_rfl) rfl rfl) rfl ?_; (try simp only [Act.put, lyy])
  refine qaa (qa9 rfl Tryd.underlying3 rfl rfl ((E.out.get (i := 0) rfl).c 0 _ (lsR_Account ))) rfl ?_; (try simp only [Act.put, lyy])
  refine qbd (qal enters_wnum rfl rfl rfl rfl) rfl (wnum_any w p _ _ (m.acc) _ (by have h := HB.out; simp only [List.length_append] at h ⊢; omega) E.out) (fun v4 a3 hR => ?_); (try simp only [Act.put, lyy])
  replace E := Lib.hid hR
  clear hR
  refine qab ?_
  go_upto_region 2 with fail; refine wp_region_lit ?_
  refine qaa (qae (v := .pointer (some ⟨p, 0, none⟩)) rfl rfl) rfl ?_; (try simp only [Act.put, lyy])
  refine qaa (qar (s := 0) (k := 1) rfl Tryd.underlying29 rfl (by kernel_rfl) rfl rfl) rfl ?_; (try simp only [Act.put, lyy])
  refine qaa (qa9 rfl Tryd.underlying3 rfl rfl ((E.out.get (i := 0) rfl).c 1 _ (lsR_Version ))) rfl ?_; (try simp only [Act.put, lyy])
  refine qbd (qal enters_wnum rfl rfl rfl rfl) rfl (wnum_any w p _ _ (m.ver) _ (by have h := HB.out; simp only [List.length_append] at h ⊢; omega) E.out) (fun v6 a5 hR => ?_); (try simp only [Act.put, lyy])
  replace E := Lib.hid hR
  clear hR
  refine qab ?_
  go_upto_region 3 with fail; refine wp_region_lit ?_
  refine qaa (qae (v := .pointer (some ⟨p, 0, none⟩)) rfl rfl) rfl ?_; (try simp only [Act.put, lyy])
  refine qaa (qar (s := 31) (k := 2) rfl Tryd.underlying29 rfl (by kernel_rfl) rfl rfl) rfl ?_; (try simp only [Act.put, lyy])
  refine qaa (qai (vs := m.ident.map b8) rfl Tryd.underlying24 rfl (szR (by rw [List.length_map, k1]) (by kernel_rfl)) rfl ((E.out.get (i := 0) rfl).seg (lsR_Ident (by rw [List.length_map, k1])))) rfl ?_; (try simp only [Act.put, lyy])
  refine qbd (qal enters_wkey rfl rfl rfl rfl) rfl (wkey_any w p _ _ m.ident _ k1 (by have h := HB.out; simp only [List.length_append] at h ⊢; omega) E.out) (fun v8 a7 hR => ?_); (try simp only [Act.put, lyy])
  replace E := Lib.hid hR
  clear hR
  refine qab ?_
  go_upto_region 4 with fail; refine wp_region_lit ?_
  refine qaa (qae (v := .pointer (some ⟨p, 0, none⟩)) rfl rfl) rfl ?_; (try simp only [Act.put, lyy])
  refine qaa (qar (s := 0) (k := 34) rfl Tryd.underlying29 rfl (by kernel_rfl) rfl rfl) rfl ?_; (try simp only [Act.put, lyy])
  refine qaa (qa9 rfl Tryd.underlying25 rfl rfl ((E.out.get (i := 0) rfl).c 34 _ (qau (by rw [List.length_map, k1])))) rfl ?_; (try simp only [Act.put, lyy])
  refine qbd (run_call3 enters_walE rfl rfl rfl rfl rfl) rfl (walE_any w p _ _ m.devs a0 c0 _ (by omega) K3.out HF2.out (by have h := HB.out; simp only [List.length_append] at h ⊢; omega) E.out) (fun v10 a9 hR => ?_); (try simp only [Act.put, lyy])
  replace E := Lib.hid hR
  clear hR
  refine qab ?_
  go_upto_region 5 with fail; refine wp_region_lit ?_
  refine qaa (qae (v := .pointer (some ⟨p, 0, none⟩)) rfl rfl) rfl ?_; (try simp only [Act.put, lyy])
  refine qaa (qar (s := 63) (k := 35) rfl Tryd.underlying29 rfl (by kernel_rfl) rfl rfl) rfl ?_; (try simp only [Act.put, lyy])
  refine qaa (qai (vs := m.sig.map b8) rfl Tryd.underlying27 rfl (szR (by rw [List.length_map, k2]) (by kernel_rfl)) rfl ((E.out.get (i := 0) rfl).seg (lsR_Sig (by rw [List.length_map, k1]) (by rw [List.length_map, k2])))) rfl ?_; (try simp only [Act.put, lyy])
  refine qbd (qal enters_wsig rfl rfl rfl rfl) rfl (wsig_any w p _ _ m.sig _ k2 (by have h := HB.out; simp only [List.length_append] at h ⊢; omega) E.out) (fun v12 a11 hR => ?_); (try simp only [Act.put, lyy])
  replace E := Lib.hid hR
  clear hR
  refine qab ?_
  have E2 := Lib.hid (E.out.drop.cast EB.out)
  go_wp2_with fail
  exact bodyPost_end (results_none Tryd.results44 _ _ _) rfl ⟨_, rfl, E2.out⟩
end Go.Proofs.YtcgbgmbnagmohaaDoor
namespace Go.Proofs.YtcgbgmbnagmohaaDoor
open Go.RowKit
set_option maxRecDepth 20000
attribute [local irreducible] wpList
theorem Ww.start (w : World) (t : TypeId) : Ww w w.heap.size [] [] (w.alloc (.cells ([.slice none 0 0] : List Value).toArray t)) :=
  ⟨⟨_, (Gw.start (Ev.start (w := w) (F := fun _ => True) fun _ _ => trivial) 5 1).new [.slice none 0 0] t⟩⟩
theorem enters_wrLst : Enters 43 := qan Tryd.func43 (by kernel_rfl) rfl
theorem enters_xLst : Enters 30 := qan Tryd.func30 (by kernel_rfl) rfl
set_option maxHeartbeats 4000000 in
theorem wrLst_any (w : World) (m : MLs) (X : List Value) (hm : m.Ok) (hX : Fro 0 (lsAt m X) w) (hb : (lsB m).length ≤ 100000000000) : Calls Tryd.prog 43 #[.agg X.toArray, .func (.func 44) #[] #[]] w fun e w' => ∃ v', e = .returned v' ∧ S5 w v' (lsB m) w' := by
  have HC : Hid (∀ (w1 : World) (p : Nat) (u : World), Below w.heap.size w w1 → Ww w1 p [] [] u → Calls Tryd.prog 44 #[.pointer (some ⟨p, 0, none⟩), .agg X.toArray] u fun e u' => ∃ v', e = .returned v' ∧ Ww w1 p [] (lsB m) u') := Lib.hid fun w1 p u hw H => (by have h := wlst_any w1 p [] [] m X u hm (hX.below hw) (by simpa using hb) H; rw [List.nil_append] at h; exact h)
  have hln : (X).length = 99 := lsAt_len hm hX.now
  clear hb hX hm
  generalize lsB m = out at *
  have HLN := Lib.hid hln
  clear hln
  go_enter Tryd.func43, Tryd.ntmps43
  go_upto_region 0 with fail; refine wp_region_lit ?_
  refine qaa (qay (vs := X) rfl rfl) rfl ?_; (try simp only [Act.put, lyy])
  have HB : Hid (Below w.heap.size w (w.alloc (.cells X.toArray 29))) := Lib.hid ((Below.refl _ _).alloc (Nat.le_refl _) _)
  have HA := Lib.hid (Arr.new w X 29)
  generalize w.alloc (.cells X.toArray 29) = w1 at *
  generalize hg0 : w.heap.size = g0 at HA ⊢
  clear hg0
  refine qaa (qaf (v := .slice none 0 0) rfl rfl) rfl ?_; (try simp only [Act.put, lyy])
  refine qab ?_
  go_upto_region 1 with fail; refine wp_region_lit ?_
  refine qaa (qas (vs := [.slice none 0 0]) rfl (by kernel_rfl)) rfl ?_; (try simp only [Act.put, lyy])
  have E := Lib.hid (Ww.start w1 104)
  generalize hw1 : w1.alloc (.cells ([.slice none 0 0] : List Value).toArray 104) = a1 at E ⊢
  clear hw1
  generalize hg1 : w1.heap.size = g1 at E ⊢
  clear hg1
  refine qab ?_
  go_upto_region 2 with fail; refine wp_region_lit ?_
  refine qaa (qae (v := .func (.func 44) #[] #[]) rfl rfl) rfl ?_; (try simp only [Act.put, lyy])
  refine qaa (qai (vs := X) rfl Tryd.underlying29 rfl (szR HLN.out (by kernel_rfl)) rfl (HA.out.below E.out.bl).range) rfl ?_; (try simp only [Act.put, lyy])
  refine qbd (run_callv2 enters_wlst rfl rfl rfl rfl) rfl (HC.out _ _ _ HB.out E.out) (fun v1 a2 hR => ?_); (try simp only [Act.put, lyy])
  obtain ⟨v, G⟩ := hR.ex
  have GG := Lib.hid G
  clear hR G E
  obtain ⟨xa, xn, xc, rfl⟩ := GG.out.isSlice
  refine qab ?_
  go_upto_region 3 with fail; refine wp_region_lit ?_
  refine qaa (qar (s := 0) (k := 0) rfl Tryd.underlying104 rfl (by kernel_rfl) rfl rfl) rfl ?_; (try simp only [Act.put, lyy])
  refine qaa (qa9 (v := .slice xa xn xc) rfl Tryd.underlying22 rfl rfl ((GG.out.get (i := 0) rfl).c 0 _ rfl)) rfl ?_; (try simp only [Act.put, lyy])
  refine qaa (qaf (v := .slice xa xn xc) rfl rfl) rfl ?_; (try simp only [Act.put, lyy])
  refine qab ?_
  go_wp2_with fail
  exact bodyPost_ret (results_tmp Tryd.results43 _ _ _) rfl ⟨_, rfl, (show S5 w1 _ out _ from ⟨GG.out.bl, GG.out.row⟩).mono HB.out⟩
set_option maxHeartbeats 4000000 in
theorem xLst_any (w : World) (m : MLs) (X : List Value) (hm : m.Ok) (hX : Fro 0 (lsAt m X) w) (hb : (lsB m).length ≤ 100000000000) : Calls Tryd.prog 30 #[.agg X.toArray] w fun e w' => ∃ v', e = .returned v' ∧ S5 w v' (lsB m) w' := by
  have HC : Hid (∀ w1 : World, Below w.heap.size w w1 → Calls Tryd.prog 43 #[.agg X.toArray, .func (.func 44) #[] #[]] w1 fun e w' => ∃ v', e = .returned v' ∧ S5 w1 v' (lsB m) w') := Lib.hid fun w1 hw => wrLst_any w1 m X hm (hX.below hw) hb
  have hln : (X).length = 99 := lsAt_len hm hX.now
  clear hb hX hm
  generalize lsB m = out at *
  have HLN := Lib.hid hln
  clear hln
  go_enter Tryd.func30, Tryd.ntmps30
  go_upto_region 0 with fail; refine wp_region_lit ?_
  refine qaa (qay (vs := X) rfl rfl) rfl ?_; (try simp only [Act.put, lyy])
  have HB : Hid (Below w.heap.size w (w.alloc (.cells X.toArray 29))) := Lib.hid ((Below.refl _ _).alloc (Nat.le_refl _) _)
  have HA := Lib.hid (Arr.new w X 29)
  generalize w.alloc (.cells X.toArray 29) = w1 at *
  generalize hg0 : w.heap.size = g0 at HA ⊢
  clear hg0
  refine qaa (qaf (v := .slice none 0 0) rfl rfl) rfl ?_; (try simp only [Act.put, lyy])
  refine qab ?_
  go_upto_region 1 with fail; refine wp_region_lit ?_
  refine qaa (qai (vs := X) rfl Tryd.underlying29 rfl (szR HLN.out (by kernel_rfl)) rfl (HA.out).range) rfl ?_; (try simp only [Act.put, lyy])
  refine qbd (qal enters_wrLst rfl rfl rfl rfl) rfl (HC.out _ HB.out) (fun v1 a2 hR => ?_); (try simp only [Act.put, lyy])
  have HR := Lib.hid hR
  clear hR
  obtain ⟨xa, xc, rfl, -, -⟩ := HR.out.sl
  refine qaa (qaf (v := .slice xa out.length xc) rfl rfl) rfl ?_; (try simp only [Act.put, lyy])
  refine qab ?_
  go_wp2_with fail
  exact bodyPost_ret (results_tmp Tryd.results30 _ _ _) rfl ⟨_, rfl, HR.out.mono HB.out⟩
end Go.Proofs.YtcgbgmbnagmohaaDoor
namespace Go.Proofs.YtcgbgmbnagmohaaDoor
open Go.RowKit
set_option maxRecDepth 20000
theorem run_leqI {w : World} {ρ : Operand → Value} {o : Oper} {x y : Operand} {t t' : TypeId} {k : IntKind} {a b : Int} {c : Bool} (ho : o.op = .binOp .leq t x y t') (hx : ρ x = .int k a) (hy : ρ y = .int k b) (h : decide (a ≤ b) = c) : (execOp ρ o).run Tryd.prog w = .ok (.value (.bool c)) w := by
  obtain ⟨dst, op, type, pos, after, guard⟩ := o
  subst ho
  subst h
  go_simp
theorem sl_takeC {ao : Option Addr} {c : List (BitVec 8)} {cc n : Nat} {V : World} (h : Sl (.slice ao c.length cc) c V) (hn : n ≤ c.length) : Sl (.slice ao (c.take n).length cc) (c.take n) V := by
  obtain ⟨ao', c', hv, h1, h2⟩ := h
  simp only [Value.slice.injEq] at hv
  obtain ⟨rfl, -, rfl⟩ := hv
  refine ⟨ao, cc, rfl, by rw [List.length_take]; omega, fun hne => ?_⟩
  obtain ⟨g, f, h3, h4, h5⟩ := h2 (fun h => hne (by rw [h]; exact List.take_nil))
  exact ⟨g, f, h3, h4, by rw [List.map_take]; exact qca h5⟩
def txtL : List (BitVec 8) := [107, 101, 121, 119, 97, 114, 100, 32, 108, 105, 115, 116]
def conB (m : MLs) : List (BitVec 8) := txtL ++ lsF m m.devs.length
theorem lsB_len64 {m : MLs} (h : m.Ok) : (lsB m).length = (lsF m m.devs.length).length + 64 := by
  unfold lsB
  rw [List.length_append, h.sig]
theorem lsB_take {m : MLs} : (lsB m).take (lsF m m.devs.length).length = lsF m m.devs.length := by
  unfold lsB
  exact List.take_left' rfl
theorem lsF_pos {m : MLs} (h : m.Ok) (i : Nat) : 32 ≤ (lsF m i).length := by
  unfold lsF
  simp only [List.length_append]
  have := h.ident
  omega
theorem conB_len {m : MLs} : (conB m).length = 12 + (lsF m m.devs.length).length := by
  unfold conB
  rw [List.length_append]
  rfl
theorem run_appFull {w : World} {ty : TypeId} {g : Nat} {l m : List (BitVec 8)} {vx : Value} (hr : w.rangeAt g 0 (l.map b8)) (hv : Sl vx m w) (hm : 0 < m.length) (hn : l.length + m.length ≤ 100000000000) :
    ∃ v' u', (Builtin.append_ #[22, 22] ty #[.slice (some ⟨g, 0, none⟩) l.length l.length, vx]).run Tryd.prog w = .ok v' u' ∧ S5 w v' (l ++ m) u' := by
  obtain ⟨b, f, c, rfl, _, hr2⟩ := hv.adr hm
  have hi : (Tryd.prog.info? 5).map (fun i => (i.size, i.bytes, i.zero)) = some (1, 1, some (.int .u8 0)) := by kernel_rfl
  obtain ⟨inf, q1, q2⟩ := Option.map_eq_some_iff.1 hi
  obtain ⟨e1, e2, e3⟩ : inf.size = 1 ∧ inf.bytes = 1 ∧ inf.zero = some (.int .u8 0) := by simpa using q2
  have h := run_append_grow (P := Tryd.prog) w 22 ty 5 inf (.int .u8 0) Tryd.underlying22 q1 e3 ⟨g, 0, none⟩ l.length l.length (l.map b8) (by rw [e1]; simp) (fun j v hj => by rw [Addr.add_mid]; exact hr j v hj)
    ⟨b, f, none⟩ m.length c (m.map b8) (by rw [e1]; simp) (fun j v hj => by rw [Addr.add_mid]; exact hr2 j v hj) (by omega) (by omega) (by rw [e2]; exact growslice_fits (by omega) (by omega))
  refine ⟨_, _, h, ⟨(Below.refl _ _).drew.alloc (Nat.le_refl _) _, ?_, .inr ⟨w.heap.size, _, _, by rw [List.length_append], Nat.le_refl _, heap_alloc_new w.drew _, ?_, ?_, ?_, ?_⟩⟩⟩
  · simp
  · rw [List.length_append]; exact grownCap_ge w _ _ _
  · exact grownCap_le_maxLen w _ _ _ (by unfold maxLen; omega)
  · simp only [Array.size_append, List.size_toArray, size_zeroCells, List.length_map]
    have := grownCap_ge w (l.length + m.length) l.length 5
    show l.length + m.length + (grownCap w (l.length + m.length) l.length 5 - (l.length + m.length)) * 1 = grownCap w (l.length + m.length) l.length 5 * 1
    omega
  · simp only [Array.toList_append, List.map_append]
    exact List.take_left' (by simp)
theorem wpList_appFull {w : World} {ops : Array Oper} {Q : Exit → Act → World → Prop} {rest : List Oper} {o : Oper} {a : Act} {s x : Operand} {g : Nat} {l m : List (BitVec 8)} {vx : Value} (hg : o.guard = none) (ho : o.op = .call { callee := .builtin .append, args := #[s, x], argTypes := #[22, 22] })
    (hs : a.eval s = .slice (some ⟨g, 0, none⟩) l.length l.length) (hx : a.eval x = vx) (hr : w.rangeAt g 0 (l.map b8)) (hv : Sl vx m w) (hm : 0 < m.length) (hn : l.length + m.length ≤ 100000000000)
    (h : ∀ v' u', S5 w v' (l ++ m) u' → wpList Tryd.prog ops Q rest (a.put o.dst v') u') : wpList Tryd.prog ops Q (o :: rest) a w := by
  obtain ⟨v', u', h1, h2⟩ := run_appFull (ty := o.type) hr hv hm hn
  refine qaa (v := v') (w' := u') ?_ hg (h v' u' h2)
  unfold execOp
  simp [ho, resolve, invoke, builtin, hs, hx, h1, Result.andThen]
theorem mark_range (w : World) (C : Array Value) (t : TypeId) : (w.alloc (.cells C t (C.size, C.size + 1))).rangeAt w.heap.size 0 C.toList := fun j v hj => by
  rw [Nat.zero_add]
  have h : (w.alloc (.cells C t (C.size, C.size + 1))).heap[w.heap.size]? = some (.cells C t (C.size, C.size + 1)) := heap_alloc_new w _
  rw [cell_of_row _ _ j C t _ h]
  simpa using hj
theorem run_cloneE {w : World} {ty : TypeId} {l : List MPk} {a : Option Addr} {c : Nat} (hs : SlR 33 pkAt l a c w) (hk : ∀ p ∈ l, p.key.length = 32) (hn : l.length ≤ 60000) :
    ∃ v' u' css, (Builtin.append_ #[25, 25] ty #[.slice none 0 0, .slice a l.length c]).run Tryd.prog w = .ok v' u' ∧ u'.ownsRow w.heap.size 34 33 v' l.length css.flatten ∧ css = l.map pkC ∧ Below w.heap.size w u' := by
  have hi : (Tryd.prog.info? 34).map (fun i => (i.size, i.zero.map (·.cells.size), i.bytes)) = some (33, some 33, 40) := by kernel_rfl
  obtain ⟨inf, q1, q2⟩ := Option.map_eq_some_iff.1 hi
  obtain ⟨e1, e2, e3⟩ : inf.size = 33 ∧ inf.zero.map (·.cells.size) = some 33 ∧ inf.bytes = 40 := by simpa using q2
  obtain ⟨z, e4, e5⟩ := Option.map_eq_some_iff.1 e2
  by_cases he : l = []
  · subst he
    refine ⟨.slice none 0 0, w, [], ?_, ⟨rfl, .inl ⟨rfl, rfl⟩⟩, rfl, Below.refl _ _⟩
    have hl : ∀ b : Addr, (loadCells b 0).run Tryd.prog w = .ok #[] w := fun b => by simpa using run_loadCells_list (P := Tryd.prog) w b [] (by simp)
    cases a <;> simp [Builtin.append_, run_underlying Tryd.underlying25, sizeOf, typeInfo, q1, Builtin.lenOf, Builtin.firstCells, hl]
  · obtain ⟨_, css, h2, h3, h4, h5⟩ := hs
    obtain ⟨g, f, rfl, hg, hr⟩ := h5 he
    have ec : css = l.map pkC := by
      apply List.ext_getElem?
      intro i
      rcases Nat.lt_or_ge i l.length with hi | hi
      · rw [List.getElem?_map, List.getElem?_eq_getElem hi, List.getElem?_eq_getElem (by rw [h2]; exact hi)]
        exact congrArg some (h4 i _ _ (List.getElem?_eq_getElem hi) (List.getElem?_eq_getElem (by rw [h2]; exact hi)))
      · rw [List.getElem?_eq_none (by omega), List.getElem?_eq_none (by rw [List.length_map]; exact hi)]
    obtain ⟨v', w', k1, k2, k3, _⟩ := run_append_own (P := Tryd.prog) w w.heap.size 25 ty 34 inf z 33 40 Tryd.underlying25 q1 e4 e1 e3 e5 (by omega) (.slice none 0 0) 0 [] (World.ownsRow_nil _ _ _ _) ⟨g, f, none⟩ l.length c css.flatten
      (by rw [flat_len h3, h2]) (fun j v hj => by rw [Addr.add_mid]; exact hr j v hj) (fun v hv => by
        obtain ⟨x, hx, hv⟩ := List.mem_flatten.1 hv
        rw [ec] at hx
        obtain ⟨p, hp, rfl⟩ := List.mem_map.1 hx
        exact pkC_one (hk p hp) v hv) (by unfold maxLen; omega) (by omega) (Nat.le_refl _)
    refine ⟨v', w', css, k1, ?_, ec, below_grown k3 (fun k hk => by cases hk) (Nat.le_refl _)⟩
    rwa [Nat.zero_add, List.nil_append] at k2
theorem wpList_cloneE {w : World} {ops : Array Oper} {Q : Exit → Act → World → Prop} {rest : List Oper} {o : Oper} {a : Act} {s x : Operand} {l : List MPk} {ao : Option Addr} {c : Nat} (hg : o.guard = none) (ho : o.op = .call { callee := .builtin .append, args := #[s, x], argTypes := #[25, 25] })
    (hs : a.eval s = .slice none 0 0) (hx : a.eval x = .slice ao l.length c) (hr : SlR 33 pkAt l ao c w) (hk : ∀ p ∈ l, p.key.length = 32) (hn : l.length ≤ 60000)
    (h : ∀ a' c' u', Fro w.heap.size (SlR 33 pkAt l a' c') u' → Below w.heap.size w u' → wpList Tryd.prog ops Q rest (a.put o.dst (.slice a' l.length c')) u') : wpList Tryd.prog ops Q (o :: rest) a w := by
  obtain ⟨v', u', css, h1, h2, h3, h4⟩ := run_cloneE (ty := o.type) hr hk hn
  have key : Fro w.heap.size (fun V => ∃ a' c', v' = .slice a' l.length c' ∧ SlR 33 pkAt l a' c' V) u' := fun V hV =>
    slR_own (ownsRow_at h2 fun k hk => hV.block k (qbn h2 hk).1 (qbn h2 hk).2 (by simp)) rfl (by rw [h3, List.length_map]) (fun x hx => by rw [h3] at hx; obtain ⟨p, hp, rfl⟩ := List.mem_map.1 hx; exact qbq (hk p hp)) fun i m cs q1 q2 => by
      rw [h3, List.getElem?_map, q1] at q2
      exact (Option.some.inj q2).symm
  obtain ⟨a', c', rfl, _⟩ := key.now
  refine qaa (v := .slice a' l.length c') (w' := u') ?_ hg (h a' c' u' (fun V hV => ?_) h4)
  · unfold execOp
    simp [ho, resolve, invoke, builtin, hs, hx, h1, Result.andThen]
  · obtain ⟨a2, c2, q1, q2⟩ := key V hV
    simp only [Value.slice.injEq] at q1
    obtain ⟨rfl, _, rfl⟩ := q1
    exact q2
def wiB (n : Int) : Bool := decide (1 ≤ n) && decide (n ≤ 1099511627776)
def riB : Int → List MPk → Bool
  | _, [] => true
  | h, p :: l => wiB p.id && decide (h < p.id) && riB p.id l
theorem riB_at {l : List MPk} {j : Nat} (hj : j < l.length) (h : Int) : riB h (l.drop j) = (wiB l[j].id && decide (h < l[j].id) && riB l[j].id (l.drop (j + 1))) := by
  rw [List.drop_eq_getElem_cons hj]
  rfl
theorem riB_end (l : List MPk) (h : Int) : riB h (l.drop l.length) = true := by
  rw [List.drop_length]
  rfl
def frB (m : MLs) : Bool := decide (1 ≤ m.devs.length) && decide (m.devs.length ≤ 8) && riB 0 m.devs && wiB m.acc && wiB m.ver
def rightB (m : MLs) : Bool := frB m && verB m.ident (conB m) m.sig
end Go.Proofs.YtcgbgmbnagmohaaDoor
namespace Go.Proofs.YtcgbgmbnagmohaaDoor
open Go.RowKit
set_option maxRecDepth 20000
attribute [local irreducible] wpList
theorem qch : Enters 26 := qan Tryd.func26 (by kernel_rfl) rfl
set_option maxHeartbeats 4000000 in
theorem qc9 (n : Int) (w : World) : Calls Tryd.prog 26 #[.int .i64 n] w fun e w' => e = .returned (.bool (wiB n)) ∧ Below w.heap.size w w' := by
  have E := Lib.hid (Ev.start (w := w) (F := fun _ => True) fun _ _ => trivial)
  by_cases h1 : 1 ≤ n
  · have hW : wiB n = decide (n ≤ 1099511627776) := by unfold wiB; rw [decide_eq_true h1]; rfl
    rw [hW]
    obtain ⟨r, hr⟩ : ∃ r, r = decide (n ≤ 1099511627776) := ⟨_, rfl⟩
    rw [← hr]
    have HR := Lib.hid hr.symm
    clear hr hW
    go_enter Tryd.func26, Tryd.ntmps26
    go_upto_region 0 with fail; refine wp_region_lit ?_
    refine qaa (qaf (v := .bool false) rfl rfl) rfl ?_; (try simp only [Act.put, lyy])
    refine qab ?_
    go_upto_region 1 with fail; refine wp_region_lit ?_
    refine qaa (qae (v := .int .i64 n) rfl rfl) rfl ?_; (try simp only [Act.put, lyy])
    refine qaa (run_geqI (c := true) rfl rfl rfl (decide_eq_true (by omega))) rfl ?_; (try simp only [Act.put, lyy])
    refine qaa (qae (v := .bool true) rfl rfl) rfl ?_; (try simp only [Act.put, lyy])
    refine qak (qae (v := .int .i64 n) rfl rfl) rfl ?_; (try simp only [Act.put, lyy])
    refine qak (run_leqI (c := r) rfl rfl rfl HR.out) rfl ?_; (try simp only [Act.put, lyy])
    refine qaa (qa8 (b := true) (v := .bool r) rfl rfl rfl) rfl ?_; (try simp only [Act.put, lyy])
    refine qaa (qaf (v := .bool r) rfl rfl) rfl ?_; (try simp only [Act.put, lyy])
    refine qab ?_
    go_wp2_with fail
    go_ret
    exact ⟨rfl, E.out.bl⟩
  · have hW : wiB n = false := by unfold wiB; rw [decide_eq_false h1]; rfl
    rw [hW]
    clear hW
    go_enter Tryd.func26, Tryd.ntmps26
    go_upto_region 0 with fail; refine wp_region_lit ?_
    refine qaa (qaf (v := .bool false) rfl rfl) rfl ?_; (try simp only [Act.put, lyy])
    refine qab ?_
    go_upto_region 1 with fail; refine wp_region_lit ?_
    refine qaa (qae (v := .int .i64 n) rfl rfl) rfl ?_; (try simp only [Act.put, lyy])
    refine qaa (run_geqI (c := false) rfl rfl rfl (decide_eq_false (by omega))) rfl ?_; (try simp only [Act.put, lyy])
    refine qaa (qae (v := .bool false) rfl rfl) rfl ?_; (try simp only [Act.put, lyy])
    refine qbl rfl ?_; (try simp only [Act.put, lyy])
    refine qbl rfl ?_; (try simp only [Act.put, lyy])
    refine qaa (qa8 (b := false) (v := .bool false) rfl rfl rfl) rfl ?_; (try simp only [Act.put, lyy])
    refine qaa (qaf (v := .bool false) rfl rfl) rfl ?_; (try simp only [Act.put, lyy])
    refine qab ?_
    go_wp2_with fail
    go_ret
    exact ⟨rfl, E.out.bl⟩
theorem enters_rise : Enters 25 := qan Tryd.func25 (by kernel_rfl) rfl
set_option maxHeartbeats 8000000 in
theorem rise_any (a : Option Addr) (c : Nat) (l : List MPk) (w : World) (hs : Fro 0 (SlR 33 pkAt l a c) w) (hk : ∀ p ∈ l, p.key.length = 32) (hmany : l.length ≤ 60000) : Calls Tryd.prog 25 #[.slice a l.length c] w fun e w' => e = .returned (.bool (riB 0 l)) ∧ Below w.heap.size w w' := by
  have E := Lib.hid (Ev.start (w := w) (F := SlR 33 pkAt l a c) hs)
  have HK := Lib.hid hk
  have HAT : Hid (∀ (j : Nat) (hj : j < l.length) (h : Int), riB h (l.drop j) = (wiB l[j].id && decide (h < l[j].id) && riB l[j].id (l.drop (j + 1)))) := Lib.hid fun j hj h => riB_at hj h
  have HE := Lib.hid (riB_end l)
  have H0 : Hid (riB 0 l = riB 0 (l.drop 0)) := Lib.hid rfl
  clear hs hk
  generalize riB 0 l = r at *
  obtain ⟨m, hm⟩ : ∃ m, m = l.length := ⟨_, rfl⟩
  rw [← hm]
  rw [← hm] at hmany
  have HM := Lib.hid hm
  go_enter Tryd.func25, Tryd.ntmps25
  go_upto_region 0 with fail; refine wp_region_lit ?_
  refine qaa (qaf (v := .bool false) rfl rfl) rfl ?_; (try simp only [Act.put, lyy])
  refine qab ?_
  go_upto_region 1 with fail; refine wp_region_lit ?_
  refine qaa (qaf (v := .int .i64 0) rfl rfl) rfl ?_; (try simp only [Act.put, lyy])
  refine qab ?_
  go_upto_region 2 with fail; refine wp_region_lit ?_
  refine qaa (qae (v := .slice a m c) rfl rfl) rfl ?_; (try simp only [Act.put, lyy])
  refine qaa (qbg rfl Tryd.underlying25 rfl) rfl ?_; (try simp only [Act.put, lyy])
  refine qaa (qae (v := .int .i64 0) rfl rfl) rfl ?_; (try simp only [Act.put, lyy])
  refine qab ?_
  go_wp2_with fail
  go_loopw [3, 5, 8] (fun s3 s5 s8 u => ∃ (j : Nat) (h : Int), s3 = .int .i64 h ∧ s8 = .int .i64 (j : Int) ∧ j ≤ m ∧ Hid (r = riB h (l.drop j)) ∧ Ev w [] [] (SlR 33 pkAt l a c) (fun _ => True) u) (fun _ _ s8 _ => ((m : Int) - intOf s8).toNat)
  case atStart => exact ⟨0, 0, rfl, rfl, Nat.zero_le _, H0, E.out⟩
  case round =>
    obtain ⟨j, h, rfl, rfl, hj, HJ, hE⟩ := hrel
    replace E := Lib.hid hE
    clear hE
    by_cases hjm : j = m
    · go_upto_region 3 with fail; refine wp_region_lit ?_
      refine qaa (qbo (c := false) rfl rfl rfl (decide_eq_false (by omega))) rfl ?_; (try simp only [Act.put, lyy])
      refine qab ?_
      go_upto_region 9 with fail; refine wp_region_lit ?_
      refine qaa (qaf (v := .bool true) rfl rfl) rfl ?_; (try simp only [Act.put, lyy])
      refine qab ?_
      go_wp2_with fail
      go_ret
      exact ⟨by rw [HJ.out, hjm, HM.out, HE.out]; rfl, E.out.bl⟩
    · have hjl : j < l.length := by have := HM.out; omega
      obtain ⟨g, fo, rfl, hg, hr⟩ := pk_at E.out.f hjl
      have hkl := HK.out _ (List.getElem_mem hjl)
      have HX := Lib.hid (HAT.out j hjl h)
      generalize l[j] = q at *
      rw [pkC_en] at hr
      have HR := Lib.hid hr
      clear hr
      go_upto_region 3 with fail; refine wp_region_lit ?_
      refine qaa (qbo (c := true) rfl rfl rfl (decide_eq_true (by omega))) rfl ?_; (try simp only [Act.put, lyy])
      refine qab ?_
      go_upto_region 4 with fail; refine wp_region_lit ?_
      refine qaa (qdg (z := 33) rfl Tryd.underlying25 (by kernel_rfl) rfl rfl (by omega)) rfl ?_; (try simp only [Act.put, lyy])
      refine qaa (qai (vs := enR (.int .i64 q.id) (q.key.map b8)) rfl Tryd.underlying34 rfl (szR (qbk (by rw [List.length_map, hkl])) (by kernel_rfl)) rfl HR.out) rfl ?_; (try simp only [Act.put, lyy])
      refine qaa (qas (vs := enR ((.int .i64 0)) (z8 32)) rfl (by kernel_rfl)) rfl ?_; (try simp only [Act.put, lyy])
      replace E := Lib.hid (E.out.new (enR ((.int .i64 0)) (z8 32)) 34)
      generalize wr.alloc (.cells (enR ((.int .i64 0)) (z8 32)).toArray 34) = a1 at *
      generalize wr.heap.size = g2 at *
      refine qag (qap (vs := enR (.int .i64 q.id) (q.key.map b8)) rfl (szR (qbk (by rw [List.length_map, hkl])) (by kernel_rfl)) rfl rfl (One.all (enR_one rfl (One.b8 _))) ((E.out.get (i := 0) rfl).thereM (by have q1 : (enR (.int .i64 q.id) (q.key.map b8)).length = 33 := (qbk (by rw [List.length_map, hkl])); have q2 : (enR ((.int .i64 0)) (z8 32)).length = 33 := (qbk (qbb 32)); omega))) rfl rfl ?_
      replace E := Lib.hid (E.out.put 0 rfl (m := enR (.int .i64 q.id) (q.key.map b8)) ((show (enR (.int .i64 q.id) (q.key.map b8)).length = 33 from (qbk (by rw [List.length_map, hkl]))).trans (show (enR ((.int .i64 0)) (z8 32)).length = 33 from (qbk (qbb 32))).symm))
      generalize a1.setCells g2 0 (enR (.int .i64 q.id) (q.key.map b8)) = a3 at *
      replace E := Lib.hid (show Ev _ [(g2, enR (.int .i64 q.id) (q.key.map b8))] _ _ _ a3 from E.out)
      refine qab ?_
      clear HR
      cases hw : wiB q.id with
      | false =>
        go_upto_region 5 with fail; refine wp_region_lit ?_
        refine qaa (qar (s := 0) (k := 0) rfl Tryd.underlying34 rfl (by kernel_rfl) rfl rfl) rfl ?_; (try simp only [Act.put, lyy])
        refine qaa (qa9 rfl Tryd.underlying3 rfl rfl ((E.out.get (i := 0) rfl).c 0 _ (enR_ID ))) rfl ?_; (try simp only [Act.put, lyy])
        refine qao (qam qch rfl rfl rfl) rfl ((hw ▸ qc9 q.id _)) (fun a4 hb => ?_); (try simp only [Act.put, lyy])
        replace E := Lib.hid (E.out.below hb)
        clear hb
        refine qaa (run_notF rfl rfl) rfl ?_; (try simp only [Act.put, lyy])
        refine qaa (qae (v := .bool true) rfl rfl) rfl ?_; (try simp only [Act.put, lyy])
        refine qbl rfl ?_; (try simp only [Act.put, lyy])
        refine qbl rfl ?_; (try simp only [Act.put, lyy])
        refine qbl rfl ?_; (try simp only [Act.put, lyy])
        refine qbl rfl ?_; (try simp only [Act.put, lyy])
        refine qaa (qa8 (b := true) (v := .bool true) rfl rfl rfl) rfl ?_; (try simp only [Act.put, lyy])
        refine qab ?_
        go_upto_region 6 with fail; refine wp_region_lit ?_
        refine qaa (qaf (v := .bool false) rfl rfl) rfl ?_; (try simp only [Act.put, lyy])
        refine qab ?_
        go_wp2_with fail
        go_ret
        exact ⟨by rw [HJ.out, HX.out, hw]; rfl, E.out.bl⟩
      | true =>
        by_cases hlt : h < q.id
        · go_upto_region 5 with fail; refine wp_region_lit ?_
          refine qaa (qar (s := 0) (k := 0) rfl Tryd.underlying34 rfl (by kernel_rfl) rfl rfl) rfl ?_; (try simp only [Act.put, lyy])
          refine qaa (qa9 rfl Tryd.underlying3 rfl rfl ((E.out.get (i := 0) rfl).c 0 _ (enR_ID ))) rfl ?_; (try simp only [Act.put, lyy])
          refine qao (qam qch rfl rfl rfl) rfl ((hw ▸ qc9 q.id _)) (fun a4 hb => ?_); (try simp only [Act.put, lyy])
          replace E := Lib.hid (E.out.below hb)
          clear hb
          refine qaa (qdf rfl rfl) rfl ?_; (try simp only [Act.put, lyy])
          refine qaa (qae (v := .bool false) rfl rfl) rfl ?_; (try simp only [Act.put, lyy])
          refine qak (qar (s := 0) (k := 0) rfl Tryd.underlying34 rfl (by kernel_rfl) rfl rfl) rfl ?_; (try simp only [Act.put, lyy])
          refine qak (qa9 rfl Tryd.underlying3 rfl rfl ((E.out.get (i := 0) rfl).c 0 _ (enR_ID ))) rfl ?_; (try simp only [Act.put, lyy])
          refine qak (qae (v := .int .i64 h) rfl rfl) rfl ?_; (try simp only [Act.put, lyy])
          refine qak (run_leqI (c := false) rfl rfl rfl (decide_eq_false (by omega))) rfl ?_; (try simp only [Act.put, lyy])
          refine qaa (qa8 (b := false) (v := .bool false) rfl rfl rfl) rfl ?_; (try simp only [Act.put, lyy])
          refine qab ?_
          go_upto_region 7 with fail; refine wp_region_lit ?_
          refine qaa (qar (s := 0) (k := 0) rfl Tryd.underlying34 rfl (by kernel_rfl) rfl rfl) rfl ?_; (try simp only [Act.put, lyy])
          refine qaa (qa9 rfl Tryd.underlying3 rfl rfl ((E.out.get (i := 0) rfl).c 0 _ (enR_ID ))) rfl ?_; (try simp only [Act.put, lyy])
          refine qaa (qaf (v := .int .i64 q.id) rfl rfl) rfl ?_; (try simp only [Act.put, lyy])
          refine qab ?_
          go_upto_region 8 with fail; refine wp_region_lit ?_
          refine qaa (qb9 (a := j) (b := 1) rfl rfl rfl (by omega)) rfl ?_; (try simp only [Act.put, lyy])
          refine qaa (qae (v := .int .i64 ((j + 1 : Nat) : Int)) rfl rfl) rfl ?_; (try simp only [Act.put, lyy])
          refine qab ?_
          replace E := Lib.hid E.out.drop
          have NX : Hid (r = riB q.id (l.drop (j + 1))) := Lib.hid (by rw [HJ.out, HX.out, hw, decide_eq_true hlt]; rfl)
          go_wp2_with fail
          exact ⟨⟨j + 1, q.id, rfl, rfl, by omega, NX, E.out⟩, by simp [intOf]; omega⟩
        · go_upto_region 5 with fail; refine wp_region_lit ?_
          refine qaa (qar (s := 0) (k := 0) rfl Tryd.underlying34 rfl (by kernel_rfl) rfl rfl) rfl ?_; (try simp only [Act.put, lyy])
          refine qaa (qa9 rfl Tryd.underlying3 rfl rfl ((E.out.get (i := 0) rfl).c 0 _ (enR_ID ))) rfl ?_; (try simp only [Act.put, lyy])
          refine qao (qam qch rfl rfl rfl) rfl ((hw ▸ qc9 q.id _)) (fun a4 hb => ?_); (try simp only [Act.put, lyy])
          replace E := Lib.hid (E.out.below hb)
          clear hb
          refine qaa (qdf rfl rfl) rfl ?_; (try simp only [Act.put, lyy])
          refine qaa (qae (v := .bool false) rfl rfl) rfl ?_; (try simp only [Act.put, lyy])
          refine qak (qar (s := 0) (k := 0) rfl Tryd.underlying34 rfl (by kernel_rfl) rfl rfl) rfl ?_; (try simp only [Act.put, lyy])
          refine qak (qa9 rfl Tryd.underlying3 rfl rfl ((E.out.get (i := 0) rfl).c 0 _ (enR_ID ))) rfl ?_; (try simp only [Act.put, lyy])
          refine qak (qae (v := .int .i64 h) rfl rfl) rfl ?_; (try simp only [Act.put, lyy])
          refine qak (run_leqI (c := true) rfl rfl rfl (decide_eq_true (by omega))) rfl ?_; (try simp only [Act.put, lyy])
          refine qaa (qa8 (b := false) (v := .bool true) rfl rfl rfl) rfl ?_; (try simp only [Act.put, lyy])
          refine qab ?_
          go_upto_region 6 with fail; refine wp_region_lit ?_
          refine qaa (qaf (v := .bool false) rfl rfl) rfl ?_; (try simp only [Act.put, lyy])
          refine qab ?_
          go_wp2_with fail
          go_ret
          exact ⟨by rw [HJ.out, HX.out, hw, decide_eq_false (by omega : ¬ h < q.id)]; rfl, E.out.bl⟩
theorem enters_clone : Enters 22 := qan Tryd.func22 (by kernel_rfl) rfl
set_option maxHeartbeats 8000000 in
theorem clone_any (m : MLs) (X : List Value) (w : World) (hm : m.Ok) (hX : Fro 0 (lsAt m X) w) : Calls Tryd.prog 22 #[.agg X.toArray] w fun e w' => ∃ v', e = .returned v' ∧ ((∃ a c, v' = .agg (lsR (.int .i64 m.acc) (.int .i64 m.ver) (m.ident.map b8) (.slice a m.devs.length c) (m.sig.map b8)).toArray ∧ Fro w.heap.size (SlR 33 pkAt m.devs a c) w') ∧ Below w.heap.size w w') := by
  obtain ⟨a0, c0, rfl, HF⟩ := lsAt_fix hm hX
  have k1 := hm.ident
  have k2 := hm.sig
  have HDV := Lib.hid hm.devs
  have hmany := hm.many
  have E := Lib.hid (Ev.start (w := w) (F := SlR 33 pkAt m.devs a0 c0) HF)
  clear hX HF hm
  go_enter Tryd.func22, Tryd.ntmps22
  go_upto_region 0 with fail; refine wp_region_lit ?_
  refine qaa (qay (vs := lsR (.int .i64 m.acc) (.int .i64 m.ver) (m.ident.map b8) (.slice a0 m.devs.length c0) (m.sig.map b8)) rfl rfl) rfl ?_; (try simp only [Act.put, lyy])
  replace E := Lib.hid (E.out.new (lsR (.int .i64 m.acc) (.int .i64 m.ver) (m.ident.map b8) (.slice a0 m.devs.length c0) (m.sig.map b8)) 29)
  generalize w.alloc (.cells (lsR (.int .i64 m.acc) (.int .i64 m.ver) (m.ident.map b8) (.slice a0 m.devs.length c0) (m.sig.map b8)).toArray 29) = a1 at *
  generalize w.heap.size = g2 at *
  refine qaa (qas (vs := lsR ((.int .i64 0)) ((.int .i64 0)) (z8 32) ((.slice none 0 0)) (z8 64)) rfl (by kernel_rfl)) rfl ?_; (try simp only [Act.put, lyy])
  replace E := Lib.hid (E.out.new (lsR ((.int .i64 0)) ((.int .i64 0)) (z8 32) ((.slice none 0 0)) (z8 64)) 29)
  generalize a1.alloc (.cells (lsR ((.int .i64 0)) ((.int .i64 0)) (z8 32) ((.slice none 0 0)) (z8 64)).toArray 29) = a3 at *
  generalize a1.heap.size = g4 at *
  refine qab ?_
  go_upto_region 1 with fail; refine wp_region_lit ?_
  refine qaa (qar (s := 0) (k := 34) rfl Tryd.underlying29 rfl (by kernel_rfl) rfl rfl) rfl ?_; (try simp only [Act.put, lyy])
  refine qaa (qa9 rfl Tryd.underlying25 rfl rfl ((E.out.get (i := 1) rfl).c 34 _ (qau (by rw [List.length_map, k1])))) rfl ?_; (try simp only [Act.put, lyy])
  refine wpList_cloneE rfl rfl rfl rfl E.out.f HDV.out hmany (fun av cv b1 hF hb => ?_); (try simp only [Act.put, lyy])
  replace E := Lib.hid (E.out.call hb hF)
  clear hF hb
  refine qaa (qar (s := 0) (k := 34) rfl Tryd.underlying29 rfl (by kernel_rfl) rfl rfl) rfl ?_; (try simp only [Act.put, lyy])
  refine qag (run_stc (v := .slice av m.devs.length cv) rfl (by kernel_rfl) rfl rfl rfl rfl ((E.out.get (i := 1) rfl).c 34 _ (qau (by rw [List.length_map, k1]))) ((E.out.get (i := 1) rfl).f _)) rfl rfl ?_
  replace E := Lib.hid (E.out.set 1 rfl (j := 34) (by have q2 : (lsR (.int .i64 m.acc) (.int .i64 m.ver) (m.ident.map b8) (.slice a0 m.devs.length c0) (m.sig.map b8)).length = 99 := (qa7 (by rw [List.length_map, k1]) (by rw [List.length_map, k2])); omega) (.slice av m.devs.length cv))
  rw [show (lsR (.int .i64 m.acc) (.int .i64 m.ver) (m.ident.map b8) (.slice a0 m.devs.length c0) (m.sig.map b8)).set 34 (.slice av m.devs.length cv) = lsR (.int .i64 m.acc) (.int .i64 m.ver) (m.ident.map b8) (.slice av m.devs.length cv) (m.sig.map b8) from (lsR_setDevices (by rw [List.length_map, k1]) _)] at E
  generalize b1.setCell ⟨g2, 34, none⟩ (.slice av m.devs.length cv) = a5 at *
  replace E := Lib.hid (show Ev _ [(g4, lsR ((.int .i64 0)) ((.int .i64 0)) (z8 32) ((.slice none 0 0)) (z8 64)), (g2, lsR (.int .i64 m.acc) (.int .i64 m.ver) (m.ident.map b8) (.slice av m.devs.length cv) (m.sig.map b8))] _ _ _ a5 from E.out)
  refine qab ?_
  go_upto_region 2 with fail; refine wp_region_lit ?_
  refine qaa (qai (vs := lsR (.int .i64 m.acc) (.int .i64 m.ver) (m.ident.map b8) (.slice av m.devs.length cv) (m.sig.map b8)) rfl Tryd.underlying29 rfl (szR (qa7 (by rw [List.length_map, k1]) (by rw [List.length_map, k2])) (by kernel_rfl)) rfl (E.out.get (i := 1) rfl).range) rfl ?_; (try simp only [Act.put, lyy])
  refine qag (qap (vs := lsR (.int .i64 m.acc) (.int .i64 m.ver) (m.ident.map b8) (.slice av m.devs.length cv) (m.sig.map b8)) rfl (szR (qa7 (by rw [List.length_map, k1]) (by rw [List.length_map, k2])) (by kernel_rfl)) rfl rfl (One.all (lsR_one rfl rfl (One.b8 _) rfl (One.b8 _))) ((E.out.get (i := 0) rfl).thereM (by have q1 : (lsR (.int .i64 m.acc) (.int .i64 m.ver) (m.ident.map b8) (.slice av m.devs.length cv) (m.sig.map b8)).length = 99 := (qa7 (by rw [List.length_map, k1]) (by rw [List.length_map, k2])); have q2 : (lsR ((.int .i64 0)) ((.int .i64 0)) (z8 32) ((.slice none 0 0)) (z8 64)).length = 99 := (qa7 (qbb 32) (qbb 64)); omega))) rfl rfl ?_
  replace E := Lib.hid (E.out.put 0 rfl (m := lsR (.int .i64 m.acc) (.int .i64 m.ver) (m.ident.map b8) (.slice av m.devs.length cv) (m.sig.map b8)) ((show (lsR (.int .i64 m.acc) (.int .i64 m.ver) (m.ident.map b8) (.slice av m.devs.length cv) (m.sig.map b8)).length = 99 from (qa7 (by rw [List.length_map, k1]) (by rw [List.length_map, k2]))).trans (show (lsR ((.int .i64 0)) ((.int .i64 0)) (z8 32) ((.slice none 0 0)) (z8 64)).length = 99 from (qa7 (qbb 32) (qbb 64))).symm))
  generalize a5.setCells g4 0 (lsR (.int .i64 m.acc) (.int .i64 m.ver) (m.ident.map b8) (.slice av m.devs.length cv) (m.sig.map b8)) = a6 at *
  replace E := Lib.hid (show Ev _ [(g4, lsR (.int .i64 m.acc) (.int .i64 m.ver) (m.ident.map b8) (.slice av m.devs.length cv) (m.sig.map b8)), (g2, lsR (.int .i64 m.acc) (.int .i64 m.ver) (m.ident.map b8) (.slice av m.devs.length cv) (m.sig.map b8))] _ _ _ a6 from E.out)
  refine qab ?_
  go_wp2_with fail
  refine bodyPost_ret (v := .agg (lsR (.int .i64 m.acc) (.int .i64 m.ver) (m.ident.map b8) (.slice av m.devs.length cv) (m.sig.map b8)).toArray) (qa1 Tryd.results22 rfl Tryd.underlying29 rfl (szR (qa7 (by rw [List.length_map, k1]) (by rw [List.length_map, k2])) (by kernel_rfl)) (E.out.get (i := 0) rfl).range) rfl ⟨_, rfl, ⟨av, cv, rfl, fun V hV => (E.out.tell V hV).1⟩, E.out.bl⟩
theorem enters_cont : Enters 18 := qan Tryd.func18 (by kernel_rfl) rfl
set_option maxHeartbeats 8000000 in
theorem cont_any (m : MLs) (X : List Value) (w : World) (hm : m.Ok) (hX : Fro 0 (lsAt m X) w) : Calls Tryd.prog 18 #[.agg X.toArray] w fun e w' => ∃ v', e = .returned v' ∧ S5 w v' (conB m) w' := by
  have hl := lsF_len hm m.devs.length (Nat.le_refl _)
  have hmany := hm.many
  have hp := lsF_pos hm m.devs.length
  have e64 := lsB_len64 hm
  have CL : Hid (∀ u, Since w u → Calls Tryd.prog 30 #[.agg X.toArray] u fun e w' => ∃ v', e = .returned v' ∧ S5 u v' (lsB m) w') := Lib.hid fun u hu => xLst_any u m X hm (hX.below hu) (by omega)
  have lX := lsAt_len hm hX.now
  have oX := lsAt_one hX.now
  have ET : Hid (conB m = txtL ++ lsF m m.devs.length) := Lib.hid rfl
  have EK : Hid ((lsB m).take (lsF m m.devs.length).length = lsF m m.devs.length) := Lib.hid lsB_take
  clear hX hm
  have E := Lib.hid (Ev.start (w := w) (F := fun _ => True) fun _ _ => trivial)
  generalize conB m = out at *
  generalize lsB m = L at *
  generalize lsF m m.devs.length = K at *
  obtain ⟨n, hn⟩ : ∃ n, n = L.length := ⟨_, rfl⟩
  have HN := Lib.hid hn
  have HL : Hid (n = K.length + 64) := Lib.hid (by rw [hn, e64])
  have hK1 : K.length ≤ 10000000 := by omega
  clear hn e64 hl hmany
  obtain ⟨k, hk⟩ : ∃ k, k = K.length := ⟨_, rfl⟩
  have HKL := Lib.hid hk
  clear hk
  go_enter Tryd.func18, Tryd.ntmps18
  go_upto_region 0 with fail; refine wp_region_lit ?_
  refine qaa (qay (vs := X) rfl rfl) rfl ?_; (try simp only [Act.put, lyy])
  replace E := Lib.hid (E.out.new (X) 29)
  generalize w.alloc (.cells (X).toArray 29) = a1 at *
  generalize w.heap.size = g2 at *
  refine qaa (qaf (v := .slice none 0 0) rfl rfl) rfl ?_; (try simp only [Act.put, lyy])
  refine qab ?_
  go_upto_region 1 with fail; refine wp_region_lit ?_
  refine qaa (qai (vs := X) rfl Tryd.underlying29 rfl (szR lX (by kernel_rfl)) rfl (E.out.get (i := 0) rfl).range) rfl ?_; (try simp only [Act.put, lyy])
  refine qbd (qam enters_xLst rfl rfl rfl) rfl (CL.out _ E.out.bl) (fun v4 a3 hR => ?_); (try simp only [Act.put, lyy])
  have hb7 := hR.bl
  have hs9 := hR.sl
  obtain ⟨xa, xc, rfl, -, -⟩ := id hs9
  replace E := Lib.hid (E.out.call hb7 (fro_sl hR.O))
  clear hR hb7 hs9
  rw [← HN.out] at E ⊢
  refine qaa (qaf (v := .slice xa n xc) rfl rfl) rfl ?_; (try simp only [Act.put, lyy])
  refine qab ?_
  go_upto_region 2 with fail; refine wp_region_lit ?_
  skip
  refine qaa (run_bsl (cells := (txtL.map b8).toArray) (z := .int .u8 0) rfl Tryd.underlying22 (by kernel_rfl) (by omega) (by omega) (by kernel_rfl)) rfl ?_; (try simp only [Act.put, lyy])
  refine qaa (run_cvb rfl rfl) rfl ?_; (try simp only [Act.put, lyy])
  replace E := Lib.hid (E.out.below ((Below.refl a3.heap.size a3).alloc (Nat.le_refl _) (.cells (txtL.map b8).toArray 5 ((txtL.map b8).toArray.size, (txtL.map b8).toArray.size + 1))))
  have HT := Lib.hid (mark_range a3 (txtL.map b8).toArray 5)
  generalize a3.alloc (.cells (txtL.map b8).toArray 5 ((txtL.map b8).toArray.size, (txtL.map b8).toArray.size + 1)) = b1 at *
  generalize a3.heap.size = gt at *
  refine qaa (qae (v := .slice xa n xc) rfl rfl) rfl ?_; (try simp only [Act.put, lyy])
  refine qaa (qae (v := .slice xa n xc) rfl rfl) rfl ?_; (try simp only [Act.put, lyy])
  refine qaa (qbg rfl Tryd.underlying22 rfl) rfl ?_; (try simp only [Act.put, lyy])
  refine qaa (run_subN (a := n) (b := 64) rfl rfl rfl (by have := HL.out; omega) (by have := HL.out; omega)) rfl ?_; (try simp only [Act.put, lyy])
  have hnk : n - 64 = k := by have := HL.out; have := HKL.out; omega
  rw [hnk]
  have HS : Hid (Sl (.slice xa k xc) K b1) := Lib.hid (by have h0 := E.out.h.1; rw [HN.out] at h0; have h := sl_takeC (n := K.length) h0 (by have := HL.out; have := HN.out; omega); rw [EK.out] at h; rwa [HKL.out])
  refine qaa (run_slo rfl Tryd.underlying22 (by kernel_rfl) rfl rfl (by obtain ⟨_, _, h1, h2, _⟩ := HS.out; simp only [Value.slice.injEq] at h1; have := HKL.out; omega)) rfl ?_; (try simp only [Act.put, lyy])
  refine wpList_appFull (g := gt) (l := txtL) (m := K) rfl rfl rfl rfl HT.out HS.out (by omega) (by show 12 + K.length ≤ _; omega) (fun vq b2 hR => ?_); (try simp only [Act.put, lyy])
  have HR : Hid (S5 w vq out b2) := Lib.hid (by rw [ET.out]; exact hR.mono E.out.bl)
  clear hR
  refine qaa (qaf (v := vq) rfl rfl) rfl ?_; (try simp only [Act.put, lyy])
  refine qab ?_
  go_wp2_with fail
  exact bodyPost_ret (results_tmp Tryd.results18 _ _ _) rfl ⟨_, rfl, HR.out⟩
end Go.Proofs.YtcgbgmbnagmohaaDoor
namespace Go.Proofs.YtcgbgmbnagmohaaDoor
open Go.RowKit
set_option maxRecDepth 20000
section
variable {w u u' : World} {L : List (Nat × List Value)} {e : TypeId} {z n : Nat} {v : Value} {cs : List Value} {F H F0 H0 : World → Prop}
theorem run_growC {o : Oper} {ρ : Operand → Value} {s x : Operand} {t : TypeId} {bw : Nat} {zv : Value} (ho : o.op = .call { callee := .builtin .append, args := #[s, x], argTypes := #[t, t] })
    (ht : Tryd.prog.underlying t = some (.slice e)) (hi : (Tryd.prog.info? e).map (fun i => (i.size, i.bytes, i.zero)) = some (z, bw, some zv)) (hzs : zv.cells.size = z) (hz : 0 < z)
    (hs : ρ s = v) {g f c : Nat} {m : List Value} (hx : ρ x = .slice (some ⟨g, f, none⟩) 1 c) (hr : u.rangeAt g f m) (hl : m.length = z) (h1 : One m)
    (hn : n < 100000) (hbw : bw ≤ 1000000) (G : Gw w L e z v n cs F H u)
    : ∃ v' u', (execOp ρ o).run Tryd.prog u = .ok (.value v') u' ∧ Gw w L e z v' (n + 1) (cs ++ m) F H u' := by
  obtain ⟨inf, q1, q2⟩ := Option.map_eq_some_iff.1 hi
  obtain ⟨e1, e2, e3⟩ : inf.size = z ∧ inf.bytes = bw ∧ inf.zero = some zv := by simpa using q2
  have hc : ∀ j w', m[j]? = some w' → u.cell? ((⟨g, f, none⟩ : Addr).add j) = some w' := fun j w' hw => by rw [Addr.add_mid]; exact hr j w' hw
  have hby : (n + 1) * bw ≤ 140737488355328 := Nat.le_trans (Nat.mul_le_mul (show n + 1 ≤ 100000 by omega) hbw) (by omega)
  have hbase : w.heap.size ≤ u.heap.size := G.bl.size
  obtain ⟨v', w', hrun, h3, h4, _⟩ := run_append_own (P := Tryd.prog) u w.heap.size t o.type e inf zv z bw ht q1 e3 e1 e2 hzs hz v n cs G.row ⟨g, f, none⟩ 1 c m (by rw [hl, Nat.one_mul]) hc h1 (by unfold maxLen; omega) hby hbase
  have hw := append_where (P := Tryd.prog) w.heap.size t o.type e inf zv z bw ht q1 e3 e1 e2 hzs hz v n cs G.row ⟨g, f, none⟩ 1 c m (by rw [hl, Nat.one_mul]) hc h1 (by unfold maxLen; omega) hby (by omega) hrun
  have hb : Below w.heap.size u w' := below_grown h4 (fun k hk => (qbn G.row hk).1) hbase
  have hap : ∀ p ∈ L, v'.ownBlock ≠ some p.1 := fun p hp he => by
    rcases hw with hw | hw
    · exact G.ap p hp (hw ▸ he)
    · rw [hw] at he
      have h6 := (G.ev.mv.all p hp).2.lt
      injection he with he
      omega
  have key : ∀ B V, Ext B (v'.ownBlock.toList ++ L.map (·.1)) w' V → Ext B (v.ownBlock.toList ++ L.map (·.1)) u V := fun B V hV =>
    ⟨Nat.le_trans h4.size hV.size, fun b k1 k2 k3 => by
      have n1 : v.ownBlock ≠ some b := fun he => k3 (List.mem_append.2 (.inl (by simp [he])))
      have n2 : b ∉ v'.ownBlock.toList ++ L.map (·.1) := fun hm => by
        rcases List.mem_append.1 hm with hm | hm
        · have he : v'.ownBlock = some b := by simpa using hm
          rcases hw with hw | hw
          · exact n1 (hw ▸ he)
          · rw [hw] at he
            injection he with he
            omega
        · exact k3 (List.mem_append.2 (.inr hm))
      exact (hV.block b k1 (Nat.lt_of_lt_of_le k2 h4.size) n2).trans (h4.block b k2 fun he => n1 he.symm)⟩
  have hmv : Mv w L w' := ⟨G.bl.trans hb, G.ev.mv.nd, fun p hp => ⟨(G.ev.mv.all p hp).1, (G.ev.mv.all p hp).2.same h4.size (h4.block _ (G.ev.mv.all p hp).2.lt fun he => G.ap p hp he.symm)⟩⟩
  have hG : Gw w L e z v' (n + 1) (cs ++ m) F H w' := ⟨⟨hmv, fun k hk => (qbn h3 (by simpa using hk)).2, fun V hV => G.ev.fs V (key 0 V hV), fun V hV => G.ev.hs V (key _ V hV)⟩, h3, hap⟩
  refine ⟨v', w', ?_, hG⟩
  unfold execOp
  simp [ho, resolve, invoke, builtin, hs, hx, hrun, Result.andThen]
theorem wpAnyD_growC {ops : Array Oper} {Q : Exit → Act → World → Prop} {S : World → Prop} {a : Act} {o : Oper} {fuel : Nat} {listed : Array Bool} {s x : Operand} {t : TypeId} {bw : Nat} {zv : Value} (i : Nat) {d : Tmp} (hr : Region.ready .any ops listed = [i]) (hoo : ops[i]? = some o) (hd : o.dst = some d) (hw : Region.wanted o (yielded ops a.tmps) = true) (hl' : (listed.setIfInBounds i true).getD i false = true)
    (ho : o.op = .call { callee := .builtin .append, args := #[s, x], argTypes := #[t, t] })
    (ht : Tryd.prog.underlying t = some (.slice e)) (hi : (Tryd.prog.info? e).map (fun i => (i.size, i.bytes, i.zero)) = some (z, bw, some zv)) (hzs : zv.cells.size = z) (hz : 0 < z)
    (hs : a.eval s = v) {g f c : Nat} {m : List Value} (hx : a.eval x = .slice (some ⟨g, f, none⟩) 1 c) (hrr : u.rangeAt g f m) (hl : m.length = z) (h1 : One m)
    (hn : n < 100000) (hbw : bw ≤ 1000000) (G : Gw w L e z v n cs F H u)
    (h : ∀ v' u', Gw w L e z v' (n + 1) (cs ++ m) F H u' → qb1 Tryd.prog ops Q (Till i S) fuel (listed.setIfInBounds i true) (a.put (some d) v') u') : qb1 Tryd.prog ops Q (Till i S) (fuel + 1) listed a u := by
  simp only [← hd] at h
  obtain ⟨v', w', hrun, h1⟩ := run_growC ho ht hi hzs hz hs hx hrr hl h1 hn hbw G
  refine ⟨fun e => (by rw [hr] at e; cases e), fun j hj => ?_⟩
  rw [hr] at hj
  obtain rfl : j = i := by simpa using hj
  simp only [wpOp, hoo, hw, if_true]
  refine .inl ?_
  unfold Oper.wp
  rw [hrun]
  exact ⟨.inl hl', h v' w' h1⟩
end
section
variable {P : Program} {ops : Array Oper} {Q : Exit → Act → World → Prop} {S : World → Prop} {D : Nat}
theorem wpAnyD_callC {fuel : Nat} {listed : Array Bool} {a : Act} {w : World} {o : Oper} {f : FuncId} {args : Array Value} {R : Value → World → Prop} (i : Nat) {d : Tmp} (hr : Region.ready .any ops listed = [i]) (ho : ops[i]? = some o) (hd : o.dst = some d) (hw : Region.wanted o (yielded ops a.tmps) = true) (hrun : (execOp a.eval o).run P w = .ok (.enter f args) w)
    (hc : Calls P f args w fun e w' => ∃ v, e = .returned v ∧ R v w') (hS : ∀ v w', R v w' → S w')
    (hn : ∀ v w', R v w' → qb1 P ops Q (Till D S) fuel (listed.setIfInBounds i true) (a.put (some d) v) w') : qb1 P ops Q (Till D S) (fuel + 1) listed a w := by
  simp only [← hd] at hn
  refine ⟨fun e => (by rw [hr] at e; cases e), fun j hj => ?_⟩
  rw [hr] at hj
  obtain rfl : j = i := by simpa using hj
  simp only [wpOp, ho, hw, if_true]
  refine .inl ?_
  unfold Oper.wp
  rw [hrun]
  simp only [Oper.upon]
  refine hc.mono fun e w' ⟨v, he, hb⟩ => ?_
  subst he
  exact ⟨.inr (hS v w' hb), hn v w' hb⟩
end
end Go.Proofs.YtcgbgmbnagmohaaDoor
namespace Go.Proofs.YtcgbgmbnagmohaaDoor
open Go.RowKit
set_option maxRecDepth 20000
attribute [local irreducible] wpList
def snM (k : List (BitVec 8)) (m : MLs) : MLs := ⟨m.acc, m.ver, pubB k, m.devs, sigB k (conB ⟨m.acc, m.ver, pubB k, m.devs, m.sig⟩)⟩
theorem snM_ok {k : List (BitVec 8)} {m : MLs} (h : m.Ok) : (snM k m).Ok := ⟨pubB_len k, sigB_len k _, h.devs, h.many⟩
theorem mdM_ok {k : List (BitVec 8)} {m : MLs} (h : m.Ok) : MLs.Ok ⟨m.acc, m.ver, pubB k, m.devs, m.sig⟩ := ⟨pubB_len k, h.sig, h.devs, h.many⟩
theorem enters_lsign : Enters 11 := qan Tryd.func11 (by kernel_rfl) rfl
set_option maxHeartbeats 8000000 in
theorem lsign_any (HP : PubC) (HS : SigC) (k : List (BitVec 8)) (m : MLs) (X : List Value) (w : World) (hk : k.length = 32) (hm : m.Ok) (hX : Fro 0 (lsAt m X) w) (hc : (conB m).length ≤ 300) (hW : W9 w) : Calls Tryd.prog 11 #[.agg (k.map b8).toArray, .agg X.toArray] w fun e w' => ∃ v', e = .returned v' ∧ ((∃ a c, v' = .agg (lsR (.int .i64 m.acc) (.int .i64 m.ver) ((snM k m).ident.map b8) (.slice a m.devs.length c) ((snM k m).sig.map b8)).toArray ∧ Fro w.heap.size (SlR 33 pkAt m.devs a c) w') ∧ Below w.heap.size w w') := by
  have HW := Lib.hid hW
  have CC : Hid (∀ u, Since w u → Calls Tryd.prog 22 #[.agg X.toArray] u fun e w' => ∃ v', e = .returned v' ∧ ((∃ a c, v' = .agg (lsR (.int .i64 m.acc) (.int .i64 m.ver) (m.ident.map b8) (.slice a m.devs.length c) (m.sig.map b8)).toArray ∧ Fro u.heap.size (SlR 33 pkAt m.devs a c) w') ∧ Below u.heap.size u w')) := Lib.hid fun u hu => clone_any m X u hm (hX.below hu)
  have lX := lsAt_len hm hX.now
  have oX := lsAt_one hX.now
  have k1 := hm.ident
  have k2 := hm.sig
  have lP := pubB_len k
  have CP : Hid (∀ u : World, Since w u → Calls Tryd.prog 23 #[.agg (k.map b8).toArray] u fun e w' => e = .returned (.agg ((pubB k).map b8).toArray) ∧ Below u.heap.size u w') := Lib.hid fun u hu => HP k u hk (hW.below hu)
  have hc2 : (conB ⟨m.acc, m.ver, pubB k, m.devs, m.sig⟩).length ≤ 300 := by
    rw [conB_len] at hc ⊢
    have e : (lsF ⟨m.acc, m.ver, pubB k, m.devs, m.sig⟩ m.devs.length).length = (lsF m m.devs.length).length := by
      unfold lsF
      simp only [List.length_append, lP, k1]
    show 12 + (lsF ⟨m.acc, m.ver, pubB k, m.devs, m.sig⟩ m.devs.length).length ≤ 300
    omega
  have CO : Hid (∀ (u : World) (a : Option Addr) (c : Nat), Fro 0 (SlR 33 pkAt m.devs a c) u → Calls Tryd.prog 18 #[.agg (lsR (.int .i64 m.acc) (.int .i64 m.ver) ((pubB k).map b8) (.slice a m.devs.length c) (m.sig.map b8)).toArray] u fun e w' => ∃ v', e = .returned v' ∧ S5 u v' (conB ⟨m.acc, m.ver, pubB k, m.devs, m.sig⟩) w') := Lib.hid fun u a c h => cont_any ⟨m.acc, m.ver, pubB k, m.devs, m.sig⟩ _ u (mdM_ok hm) fun V hV => ⟨a, c, rfl, h V hV⟩
  have CS : Hid (∀ (u : World) (vb : Value), Since w u → Sl vb (conB ⟨m.acc, m.ver, pubB k, m.devs, m.sig⟩) u → Calls Tryd.prog 24 #[.agg (k.map b8).toArray, vb] u fun e w' => e = .returned (.agg ((snM k m).sig.map b8).toArray) ∧ Below u.heap.size u w') := Lib.hid fun u vb hu hv => HS k vb _ u hk hv hc2 (hW.below hu)
  have lS : (snM k m).sig.length = 64 := sigB_len k _
  have hI : (snM k m).ident = pubB k := rfl
  rw [hI]
  clear hX hm hW hc hc2 hI
  generalize conB ⟨m.acc, m.ver, pubB k, m.devs, m.sig⟩ = B at *
  generalize (snM k m).sig = G at *
  generalize pubB k = PU at *
  have E := Lib.hid (Ev.start (w := w) (F := fun _ => True) fun _ _ => trivial)
  go_enter Tryd.func11, Tryd.ntmps11
  go_upto_region 0 with fail; refine wp_region_lit ?_
  refine qaa (qay (vs := k.map b8) rfl rfl) rfl ?_; (try simp only [Act.put, lyy])
  replace E := Lib.hid (E.out.new (k.map b8) 24)
  generalize w.alloc (.cells (k.map b8).toArray 24) = a1 at *
  generalize w.heap.size = g2 at *
  refine qaa (qay (vs := X) rfl rfl) rfl ?_; (try simp only [Act.put, lyy])
  replace E := Lib.hid (E.out.new (X) 29)
  generalize a1.alloc (.cells (X).toArray 29) = a3 at *
  generalize a1.heap.size = g4 at *
  refine qaa (qas (vs := lsR ((.int .i64 0)) ((.int .i64 0)) (z8 32) ((.slice none 0 0)) (z8 64)) rfl (by kernel_rfl)) rfl ?_; (try simp only [Act.put, lyy])
  replace E := Lib.hid (E.out.new (lsR ((.int .i64 0)) ((.int .i64 0)) (z8 32) ((.slice none 0 0)) (z8 64)) 29)
  generalize a3.alloc (.cells (lsR ((.int .i64 0)) ((.int .i64 0)) (z8 32) ((.slice none 0 0)) (z8 64)).toArray 29) = a5 at *
  generalize a3.heap.size = g6 at *
  refine qab ?_
  go_upto_region 1 with fail; refine wp_region_lit ?_
  refine qaa (qai (vs := X) rfl Tryd.underlying29 rfl (szR lX (by kernel_rfl)) rfl (E.out.get (i := 1) rfl).range) rfl ?_; (try simp only [Act.put, lyy])
  refine qbd (qam enters_clone rfl rfl rfl) rfl (CC.out _ E.out.bl) (fun v8 a7 hR => ?_); (try simp only [Act.put, lyy])
  obtain ⟨⟨av, cv, rfl, hF⟩, hb7⟩ := hR
  replace E := Lib.hid (E.out.call hb7 hF)
  clear hF hb7
  refine qaa (qas (vs := lsR ((.int .i64 0)) ((.int .i64 0)) (z8 32) ((.slice none 0 0)) (z8 64)) rfl (by kernel_rfl)) rfl ?_; (try simp only [Act.put, lyy])
  replace E := Lib.hid (E.out.new (lsR ((.int .i64 0)) ((.int .i64 0)) (z8 32) ((.slice none 0 0)) (z8 64)) 29)
  generalize a7.alloc (.cells (lsR ((.int .i64 0)) ((.int .i64 0)) (z8 32) ((.slice none 0 0)) (z8 64)).toArray 29) = a9 at *
  generalize a7.heap.size = g10 at *
  refine qag (qap (vs := lsR (.int .i64 m.acc) (.int .i64 m.ver) (m.ident.map b8) (.slice av m.devs.length cv) (m.sig.map b8)) rfl (szR (qa7 (by rw [List.length_map, k1]) (by rw [List.length_map, k2])) (by kernel_rfl)) rfl rfl (One.all (lsR_one rfl rfl (One.b8 _) rfl (One.b8 _))) ((E.out.get (i := 0) rfl).thereM (by have q1 : (lsR (.int .i64 m.acc) (.int .i64 m.ver) (m.ident.map b8) (.slice av m.devs.length cv) (m.sig.map b8)).length = 99 := (qa7 (by rw [List.length_map, k1]) (by rw [List.length_map, k2])); have q2 : (lsR ((.int .i64 0)) ((.int .i64 0)) (z8 32) ((.slice none 0 0)) (z8 64)).length = 99 := (qa7 (qbb 32) (qbb 64)); omega))) rfl rfl ?_
  replace E := Lib.hid (E.out.put 0 rfl (m := lsR (.int .i64 m.acc) (.int .i64 m.ver) (m.ident.map b8) (.slice av m.devs.length cv) (m.sig.map b8)) ((show (lsR (.int .i64 m.acc) (.int .i64 m.ver) (m.ident.map b8) (.slice av m.devs.length cv) (m.sig.map b8)).length = 99 from (qa7 (by rw [List.length_map, k1]) (by rw [List.length_map, k2]))).trans (show (lsR ((.int .i64 0)) ((.int .i64 0)) (z8 32) ((.slice none 0 0)) (z8 64)).length = 99 from (qa7 (qbb 32) (qbb 64))).symm))
  generalize a9.setCells g10 0 (lsR (.int .i64 m.acc) (.int .i64 m.ver) (m.ident.map b8) (.slice av m.devs.length cv) (m.sig.map b8)) = a11 at *
  replace E := Lib.hid (show Ev _ [(g10, lsR (.int .i64 m.acc) (.int .i64 m.ver) (m.ident.map b8) (.slice av m.devs.length cv) (m.sig.map b8)), (g6, lsR ((.int .i64 0)) ((.int .i64 0)) (z8 32) ((.slice none 0 0)) (z8 64)), (g4, X), (g2, k.map b8)] _ _ _ a11 from E.out)
  refine qab ?_
  go_upto_region 2 with fail; refine wp_region_lit ?_
  refine qaa (qai (vs := k.map b8) rfl Tryd.underlying24 rfl (szR (by rw [List.length_map, hk]) (by kernel_rfl)) rfl (E.out.get (i := 3) rfl).range) rfl ?_; (try simp only [Act.put, lyy])
  refine qao (qam enters_spublic rfl rfl rfl) rfl (CP.out _ E.out.bl) (fun a12 hb => ?_); (try simp only [Act.put, lyy])
  replace E := Lib.hid (E.out.below hb)
  clear hb
  refine qaa (qar (s := 31) (k := 2) rfl Tryd.underlying29 rfl (by kernel_rfl) rfl rfl) rfl ?_; (try simp only [Act.put, lyy])
  refine qag (qap (vs := PU.map b8) rfl (szR (by rw [List.length_map, lP]) (by kernel_rfl)) rfl rfl (One.all (One.b8 _)) ((E.out.get (i := 0) rfl).thereM (by have q1 : (PU.map b8).length = 32 := (by rw [List.length_map, lP]); have q2 : (lsR (.int .i64 m.acc) (.int .i64 m.ver) (m.ident.map b8) (.slice av m.devs.length cv) (m.sig.map b8)).length = 99 := (qa7 (by rw [List.length_map, k1]) (by rw [List.length_map, k2])); omega))) rfl rfl ?_
  replace E := Lib.hid (E.out.mid 0 rfl (f := 2) (m := PU.map b8) (by have q1 : (PU.map b8).length = 32 := (by rw [List.length_map, lP]); have q2 : (lsR (.int .i64 m.acc) (.int .i64 m.ver) (m.ident.map b8) (.slice av m.devs.length cv) (m.sig.map b8)).length = 99 := (qa7 (by rw [List.length_map, k1]) (by rw [List.length_map, k2])); omega))
  rw [show (lsR (.int .i64 m.acc) (.int .i64 m.ver) (m.ident.map b8) (.slice av m.devs.length cv) (m.sig.map b8)).take 2 ++ (PU.map b8 ++ (lsR (.int .i64 m.acc) (.int .i64 m.ver) (m.ident.map b8) (.slice av m.devs.length cv) (m.sig.map b8)).drop (2 + (PU.map b8).length)) = lsR (.int .i64 m.acc) (.int .i64 m.ver) (PU.map b8) (.slice av m.devs.length cv) (m.sig.map b8) from (lsR_setIdent (by rw [List.length_map, k1]) (by rw [List.length_map, lP]))] at E
  generalize a12.setCells g10 2 (PU.map b8) = a13 at *
  replace E := Lib.hid (show Ev _ [(g10, lsR (.int .i64 m.acc) (.int .i64 m.ver) (PU.map b8) (.slice av m.devs.length cv) (m.sig.map b8)), (g6, lsR ((.int .i64 0)) ((.int .i64 0)) (z8 32) ((.slice none 0 0)) (z8 64)), (g4, X), (g2, k.map b8)] _ _ _ a13 from E.out)
  refine qab ?_
  go_upto_region 3 with fail
  refine wp_region_noPanic ?_; refine qa0 (S := Till 5 (fun V => Below a13.heap.size a13 V)) (by kernel_rfl) (.inr (Below.refl _ _).drew) (fun _ => ?_); have hS : Below a13.heap.size a13 a13.drew := (Below.refl _ _).drew
  have E0 := E
  replace E := Lib.hid (E.out.below hS)
  generalize a13.drew = b0 at *
  refine qaj 0 rfl rfl (by kernel_rfl) (by kernel_rfl) (by kernel_rfl) (by kernel_rfl) (by kernel_rfl) (fun _ _ _ h => h) rfl (fun V hV => qai (vs := k.map b8) rfl Tryd.underlying24 rfl (szR (by rw [List.length_map, hk]) (by kernel_rfl)) rfl ((E0.out.below hV).get (i := 3) rfl).range) hS ?_; (try simp only [Act.put, lyy])
  refine qaj 1 rfl rfl (by kernel_rfl) (by kernel_rfl) (by kernel_rfl) (by kernel_rfl) (by kernel_rfl) (fun _ _ _ h => h) rfl (fun V hV => qai (vs := lsR (.int .i64 m.acc) (.int .i64 m.ver) (PU.map b8) (.slice av m.devs.length cv) (m.sig.map b8)) rfl Tryd.underlying29 rfl (szR (qa7 (by rw [List.length_map, lP]) (by rw [List.length_map, k2])) (by kernel_rfl)) rfl ((E0.out.below hV).get (i := 0) rfl).range) hS ?_; (try simp only [Act.put, lyy])
  refine wpAnyD_callC 2 (by kernel_rfl) rfl rfl rfl (qam enters_cont rfl rfl rfl) (CO.out _ av cv (fun V hV => (E.out.tell V (hV.mono (Nat.zero_le _) fun _ h => h)).1)) (fun v w h => hS.trans (h.bl.mono hS.size)) (fun v7 b1 hR => ?_); (try simp only [Act.put, lyy])
  have hb9 := hR.bl
  have hs9 := hR.sl
  replace hS := hS.trans (hb9.mono hS.size)
  replace E := Lib.hid (E.out.below hb9)
  have HSL := Lib.hid hs9
  clear hR hs9 hb9
  refine wpAnyD_callC 3 (by kernel_rfl) rfl rfl rfl (qal enters_ssign rfl rfl rfl rfl) (qbj (CS.out _ v7 E.out.bl HSL.out)) (fun v w h => hS.trans (h.2.mono hS.size)) (fun v8 b2 hR => ?_); (try simp only [Act.put, lyy])
  obtain ⟨rfl, hb9⟩ := hR
  replace hS := hS.trans (hb9.mono hS.size)
  replace E := Lib.hid (E.out.below hb9)
  clear hb9 HSL
  refine qaj 4 rfl rfl (by kernel_rfl) (by kernel_rfl) (by kernel_rfl) (by kernel_rfl) (by kernel_rfl) (fun _ _ _ h => h) rfl (fun V hV => qar (s := 63) (k := 35) rfl Tryd.underlying29 rfl (by kernel_rfl) rfl rfl) hS ?_; (try simp only [Act.put, lyy])
  refine qbm 5 (by kernel_rfl) rfl rfl rfl (qap (vs := G.map b8) rfl (szR (by rw [List.length_map, lS]) (by kernel_rfl)) rfl rfl (One.all (One.b8 _)) ((E.out.get (i := 0) rfl).thereM (by have q1 : (G.map b8).length = 64 := (by rw [List.length_map, lS]); have q2 : (lsR (.int .i64 m.acc) (.int .i64 m.ver) (PU.map b8) (.slice av m.devs.length cv) (m.sig.map b8)).length = 99 := (qa7 (by rw [List.length_map, lP]) (by rw [List.length_map, k2])); omega))) (.inl rfl) ?_
  replace E := Lib.hid (E.out.mid 0 rfl (f := 35) (m := G.map b8) (by have q1 : (G.map b8).length = 64 := (by rw [List.length_map, lS]); have q2 : (lsR (.int .i64 m.acc) (.int .i64 m.ver) (PU.map b8) (.slice av m.devs.length cv) (m.sig.map b8)).length = 99 := (qa7 (by rw [List.length_map, lP]) (by rw [List.length_map, k2])); omega))
  rw [show (lsR (.int .i64 m.acc) (.int .i64 m.ver) (PU.map b8) (.slice av m.devs.length cv) (m.sig.map b8)).take 35 ++ (G.map b8 ++ (lsR (.int .i64 m.acc) (.int .i64 m.ver) (PU.map b8) (.slice av m.devs.length cv) (m.sig.map b8)).drop (35 + (G.map b8).length)) = lsR (.int .i64 m.acc) (.int .i64 m.ver) (PU.map b8) (.slice av m.devs.length cv) (G.map b8) from (lsR_setSig (by rw [List.length_map, lP]) (by rw [List.length_map, k2]) (by rw [List.length_map, lS]))] at E
  generalize b2.setCells g10 35 (G.map b8) = b3 at *
  refine qa2 (by kernel_rfl) ?_ _; refine NoPanic.normal ?_
  replace E := Lib.hid (show Ev _ [(g10, lsR (.int .i64 m.acc) (.int .i64 m.ver) (PU.map b8) (.slice av m.devs.length cv) (G.map b8)), (g6, lsR ((.int .i64 0)) ((.int .i64 0)) (z8 32) ((.slice none 0 0)) (z8 64)), (g4, X), (g2, k.map b8)] _ _ _ b3 from E.out)
  go_upto_region 4 with fail; refine wp_region_lit ?_
  refine qaa (qai (vs := lsR (.int .i64 m.acc) (.int .i64 m.ver) (PU.map b8) (.slice av m.devs.length cv) (G.map b8)) rfl Tryd.underlying29 rfl (szR (qa7 (by rw [List.length_map, lP]) (by rw [List.length_map, lS])) (by kernel_rfl)) rfl (E.out.get (i := 0) rfl).range) rfl ?_; (try simp only [Act.put, lyy])
  refine qag (qap (vs := lsR (.int .i64 m.acc) (.int .i64 m.ver) (PU.map b8) (.slice av m.devs.length cv) (G.map b8)) rfl (szR (qa7 (by rw [List.length_map, lP]) (by rw [List.length_map, lS])) (by kernel_rfl)) rfl rfl (One.all (lsR_one rfl rfl (One.b8 _) rfl (One.b8 _))) ((E.out.get (i := 1) rfl).thereM (by have q1 : (lsR (.int .i64 m.acc) (.int .i64 m.ver) (PU.map b8) (.slice av m.devs.length cv) (G.map b8)).length = 99 := (qa7 (by rw [List.length_map, lP]) (by rw [List.length_map, lS])); have q2 : (lsR ((.int .i64 0)) ((.int .i64 0)) (z8 32) ((.slice none 0 0)) (z8 64)).length = 99 := (qa7 (qbb 32) (qbb 64)); omega))) rfl rfl ?_
  replace E := Lib.hid (E.out.put 1 rfl (m := lsR (.int .i64 m.acc) (.int .i64 m.ver) (PU.map b8) (.slice av m.devs.length cv) (G.map b8)) ((show (lsR (.int .i64 m.acc) (.int .i64 m.ver) (PU.map b8) (.slice av m.devs.length cv) (G.map b8)).length = 99 from (qa7 (by rw [List.length_map, lP]) (by rw [List.length_map, lS]))).trans (show (lsR ((.int .i64 0)) ((.int .i64 0)) (z8 32) ((.slice none 0 0)) (z8 64)).length = 99 from (qa7 (qbb 32) (qbb 64))).symm))
  generalize b3.setCells g6 0 (lsR (.int .i64 m.acc) (.int .i64 m.ver) (PU.map b8) (.slice av m.devs.length cv) (G.map b8)) = a14 at *
  replace E := Lib.hid (show Ev _ [(g10, lsR (.int .i64 m.acc) (.int .i64 m.ver) (PU.map b8) (.slice av m.devs.length cv) (G.map b8)), (g6, lsR (.int .i64 m.acc) (.int .i64 m.ver) (PU.map b8) (.slice av m.devs.length cv) (G.map b8)), (g4, X), (g2, k.map b8)] _ _ _ a14 from E.out)
  refine qab ?_
  go_wp2_with fail
  refine bodyPost_ret (v := .agg (lsR (.int .i64 m.acc) (.int .i64 m.ver) (PU.map b8) (.slice av m.devs.length cv) (G.map b8)).toArray) (qa1 Tryd.results11 rfl Tryd.underlying29 rfl (szR (qa7 (by rw [List.length_map, lP]) (by rw [List.length_map, lS])) (by kernel_rfl)) (E.out.get (i := 1) rfl).range) rfl ⟨_, rfl, ⟨av, cv, rfl, fun V hV => (E.out.tell V hV).1⟩, E.out.bl⟩
theorem enters_right : Enters 13 := qan Tryd.func13 (by kernel_rfl) rfl
set_option maxHeartbeats 16000000 in
theorem right_any (HV : VerC) (m : MLs) (X : List Value) (w : World) (hm : m.Ok) (hX : Fro 0 (lsAt m X) w) (hc : (conB m).length ≤ 300) (hW : W9 w) : Calls Tryd.prog 13 #[.agg X.toArray] w fun e w' => e = .returned (.bool (rightB m)) ∧ Below w.heap.size w w' := by
  have HW := Lib.hid hW
  have CO : Hid (∀ u, Since w u → Calls Tryd.prog 18 #[.agg X.toArray] u fun e w' => ∃ v', e = .returned v' ∧ S5 u v' (conB m) w') := Lib.hid fun u hu => cont_any m X u hm (hX.below hu)
  have CV : Hid (∀ (u : World) (vb : Value), Since w u → Sl vb (conB m) u → Calls Tryd.prog 27 #[.agg (m.ident.map b8).toArray, vb, .agg (m.sig.map b8).toArray] u fun e w' => e = .returned (.bool (verB m.ident (conB m) m.sig)) ∧ Below u.heap.size u w') := Lib.hid fun u vb hu hv => HV m.ident vb _ m.sig u hm.ident hm.sig hv hc (hW.below hu)
  obtain ⟨a0, c0, rfl, HF⟩ := lsAt_fix hm hX
  have k1 := hm.ident
  have k2 := hm.sig
  have hmany := hm.many
  have CR : Hid (∀ u, Fro 0 (SlR 33 pkAt m.devs a0 c0) u → Calls Tryd.prog 25 #[.slice a0 m.devs.length c0] u fun e w' => e = .returned (.bool (riB 0 m.devs)) ∧ Below u.heap.size u w') := Lib.hid fun u h => rise_any a0 c0 m.devs u h hm.devs hm.many
  have E := Lib.hid (Ev.start (w := w) (F := SlR 33 pkAt m.devs a0 c0) HF)
  have HRt : Hid (rightB m = (decide (1 ≤ m.devs.length) && decide (m.devs.length ≤ 8) && riB 0 m.devs && wiB m.acc && wiB m.ver && verB m.ident (conB m) m.sig)) := Lib.hid rfl
  clear hX hm hW hc HF
  generalize rightB m = R9 at *
  generalize verB m.ident (conB m) m.sig = vr at *
  generalize conB m = B at *
  generalize hn : m.devs.length = n at *
  have HNN := Lib.hid hn
  clear hn
  by_cases h1 : n < 1
  · go_enter Tryd.func13, Tryd.ntmps13
    go_upto_region 0 with fail; refine wp_region_lit ?_
    refine qaa (qay (vs := lsR (.int .i64 m.acc) (.int .i64 m.ver) (m.ident.map b8) (.slice a0 n c0) (m.sig.map b8)) rfl rfl) rfl ?_; (try simp only [Act.put, lyy])
    replace E := Lib.hid (E.out.new (lsR (.int .i64 m.acc) (.int .i64 m.ver) (m.ident.map b8) (.slice a0 n c0) (m.sig.map b8)) 29)
    generalize w.alloc (.cells (lsR (.int .i64 m.acc) (.int .i64 m.ver) (m.ident.map b8) (.slice a0 n c0) (m.sig.map b8)).toArray 29) = a1 at *
    generalize w.heap.size = g2 at *
    refine qaa (qaf (v := .bool false) rfl rfl) rfl ?_; (try simp only [Act.put, lyy])
    refine qab ?_
    go_upto_region 1 with fail; refine wp_region_lit ?_
    refine qaa (qar (s := 0) (k := 34) rfl Tryd.underlying29 rfl (by kernel_rfl) rfl rfl) rfl ?_; (try simp only [Act.put, lyy])
    refine qaa (qa9 rfl Tryd.underlying25 rfl rfl ((E.out.get (i := 0) rfl).c 34 _ (qau (by rw [List.length_map, k1])))) rfl ?_; (try simp only [Act.put, lyy])
    refine qaa (qbg rfl Tryd.underlying25 rfl) rfl ?_; (try simp only [Act.put, lyy])
    refine qaa (qaf (v := .int .i64 ((n : Nat) : Int)) rfl rfl) rfl ?_; (try simp only [Act.put, lyy])
    refine qab ?_
    go_upto_region 2 with fail; refine wp_region_lit ?_
    refine qaa (qae (v := .int .i64 ((n : Nat) : Int)) rfl rfl) rfl ?_; (try simp only [Act.put, lyy])
    refine qaa (qbo (c := true) rfl rfl rfl (decide_eq_true (by omega))) rfl ?_; (try simp only [Act.put, lyy])
    refine qaa (qae (v := .bool true) rfl rfl) rfl ?_; (try simp only [Act.put, lyy])
    refine qbl rfl ?_; (try simp only [Act.put, lyy])
    refine qbl rfl ?_; (try simp only [Act.put, lyy])
    refine qaa (qa8 (b := true) (v := .bool true) rfl rfl rfl) rfl ?_; (try simp only [Act.put, lyy])
    refine qaa (qae (v := .bool true) rfl rfl) rfl ?_; (try simp only [Act.put, lyy])
    refine qbl rfl ?_; (try simp only [Act.put, lyy])
    refine qbl rfl ?_; (try simp only [Act.put, lyy])
    refine qbl rfl ?_; (try simp only [Act.put, lyy])
    refine qbl rfl ?_; (try simp only [Act.put, lyy])
    refine qaa (qa8 (b := true) (v := .bool true) rfl rfl rfl) rfl ?_; (try simp only [Act.put, lyy])
    refine qab ?_
    go_upto_region 3 with fail; refine wp_region_lit ?_
    refine qaa (qaf (v := .bool false) rfl rfl) rfl ?_; (try simp only [Act.put, lyy])
    refine qab ?_
    go_wp2_with fail
    go_ret
    exact ⟨by rw [HRt.out]; rw [decide_eq_false (by omega : ¬ 1 ≤ n)]; rfl, E.out.bl⟩
  by_cases h2 : 8 < n
  · go_enter Tryd.func13, Tryd.ntmps13
    go_upto_region 0 with fail; refine wp_region_lit ?_
    refine qaa (qay (vs := lsR (.int .i64 m.acc) (.int .i64 m.ver) (m.ident.map b8) (.slice a0 n c0) (m.sig.map b8)) rfl rfl) rfl ?_; (try simp only [Act.put, lyy])
    replace E := Lib.hid (E.out.new (lsR (.int .i64 m.acc) (.int .i64 m.ver) (m.ident.map b8) (.slice a0 n c0) (m.sig.map b8)) 29)
    generalize w.alloc (.cells (lsR (.int .i64 m.acc) (.int .i64 m.ver) (m.ident.map b8) (.slice a0 n c0) (m.sig.map b8)).toArray 29) = a1 at *
    generalize w.heap.size = g2 at *
    refine qaa (qaf (v := .bool false) rfl rfl) rfl ?_; (try simp only [Act.put, lyy])
    refine qab ?_
    go_upto_region 1 with fail; refine wp_region_lit ?_
    refine qaa (qar (s := 0) (k := 34) rfl Tryd.underlying29 rfl (by kernel_rfl) rfl rfl) rfl ?_; (try simp only [Act.put, lyy])
    refine qaa (qa9 rfl Tryd.underlying25 rfl rfl ((E.out.get (i := 0) rfl).c 34 _ (qau (by rw [List.length_map, k1])))) rfl ?_; (try simp only [Act.put, lyy])
    refine qaa (qbg rfl Tryd.underlying25 rfl) rfl ?_; (try simp only [Act.put, lyy])
    refine qaa (qaf (v := .int .i64 ((n : Nat) : Int)) rfl rfl) rfl ?_; (try simp only [Act.put, lyy])
    refine qab ?_
    go_upto_region 2 with fail; refine wp_region_lit ?_
    refine qaa (qae (v := .int .i64 ((n : Nat) : Int)) rfl rfl) rfl ?_; (try simp only [Act.put, lyy])
    refine qaa (qbo (c := false) rfl rfl rfl (decide_eq_false (by omega))) rfl ?_; (try simp only [Act.put, lyy])
    refine qaa (qae (v := .bool false) rfl rfl) rfl ?_; (try simp only [Act.put, lyy])
    refine qak (qae (v := .int .i64 ((n : Nat) : Int)) rfl rfl) rfl ?_; (try simp only [Act.put, lyy])
    refine qak (run_gtrb (c := true) rfl rfl rfl (decide_eq_true (by omega))) rfl ?_; (try simp only [Act.put, lyy])
    refine qaa (qa8 (b := false) (v := .bool true) rfl rfl rfl) rfl ?_; (try simp only [Act.put, lyy])
    refine qaa (qae (v := .bool true) rfl rfl) rfl ?_; (try simp only [Act.put, lyy])
    refine qbl rfl ?_; (try simp only [Act.put, lyy])
    refine qbl rfl ?_; (try simp only [Act.put, lyy])
    refine qbl rfl ?_; (try simp only [Act.put, lyy])
    refine qbl rfl ?_; (try simp only [Act.put, lyy])
    refine qaa (qa8 (b := true) (v := .bool true) rfl rfl rfl) rfl ?_; (try simp only [Act.put, lyy])
    refine qab ?_
    go_upto_region 3 with fail; refine wp_region_lit ?_
    refine qaa (qaf (v := .bool false) rfl rfl) rfl ?_; (try simp only [Act.put, lyy])
    refine qab ?_
    go_wp2_with fail
    go_ret
    exact ⟨by rw [HRt.out]; rw [decide_eq_false (by omega : ¬ n ≤ 8), Bool.and_false]; rfl, E.out.bl⟩
  have hn1 : decide (1 ≤ n) = true := decide_eq_true (by omega)
  have hn2 : decide (n ≤ 8) = true := decide_eq_true (by omega)
  cases hr : riB 0 m.devs with
  | false =>
    go_enter Tryd.func13, Tryd.ntmps13
    go_upto_region 0 with fail; refine wp_region_lit ?_
    refine qaa (qay (vs := lsR (.int .i64 m.acc) (.int .i64 m.ver) (m.ident.map b8) (.slice a0 n c0) (m.sig.map b8)) rfl rfl) rfl ?_; (try simp only [Act.put, lyy])
    replace E := Lib.hid (E.out.new (lsR (.int .i64 m.acc) (.int .i64 m.ver) (m.ident.map b8) (.slice a0 n c0) (m.sig.map b8)) 29)
    generalize w.alloc (.cells (lsR (.int .i64 m.acc) (.int .i64 m.ver) (m.ident.map b8) (.slice a0 n c0) (m.sig.map b8)).toArray 29) = a1 at *
    generalize w.heap.size = g2 at *
    refine qaa (qaf (v := .bool false) rfl rfl) rfl ?_; (try simp only [Act.put, lyy])
    refine qab ?_
    go_upto_region 1 with fail; refine wp_region_lit ?_
    refine qaa (qar (s := 0) (k := 34) rfl Tryd.underlying29 rfl (by kernel_rfl) rfl rfl) rfl ?_; (try simp only [Act.put, lyy])
    refine qaa (qa9 rfl Tryd.underlying25 rfl rfl ((E.out.get (i := 0) rfl).c 34 _ (qau (by rw [List.length_map, k1])))) rfl ?_; (try simp only [Act.put, lyy])
    refine qaa (qbg rfl Tryd.underlying25 rfl) rfl ?_; (try simp only [Act.put, lyy])
    refine qaa (qaf (v := .int .i64 ((n : Nat) : Int)) rfl rfl) rfl ?_; (try simp only [Act.put, lyy])
    refine qab ?_
    go_upto_region 2 with fail; refine wp_region_lit ?_
    refine qaa (qae (v := .int .i64 ((n : Nat) : Int)) rfl rfl) rfl ?_; (try simp only [Act.put, lyy])
    refine qaa (qbo (c := false) rfl rfl rfl (decide_eq_false (by omega))) rfl ?_; (try simp only [Act.put, lyy])
    refine qaa (qae (v := .bool false) rfl rfl) rfl ?_; (try simp only [Act.put, lyy])
    refine qak (qae (v := .int .i64 ((n : Nat) : Int)) rfl rfl) rfl ?_; (try simp only [Act.put, lyy])
    refine qak (run_gtrb (c := false) rfl rfl rfl (decide_eq_false (by omega))) rfl ?_; (try simp only [Act.put, lyy])
    refine qaa (qa8 (b := false) (v := .bool false) rfl rfl rfl) rfl ?_; (try simp only [Act.put, lyy])
    refine qaa (qae (v := .bool false) rfl rfl) rfl ?_; (try simp only [Act.put, lyy])
    refine qak (qar (s := 0) (k := 34) rfl Tryd.underlying29 rfl (by kernel_rfl) rfl rfl) rfl ?_; (try simp only [Act.put, lyy])
    refine qak (qa9 rfl Tryd.underlying25 rfl rfl ((E.out.get (i := 0) rfl).c 34 _ (qau (by rw [List.length_map, k1])))) rfl ?_; (try simp only [Act.put, lyy])
    refine qcm (qam enters_rise rfl rfl rfl) rfl ((hr ▸ CR.out _ E.out.froF)) (fun a3 hb => ?_); (try simp only [Act.put, lyy])
    replace E := Lib.hid (E.out.below hb)
    clear hb
    refine qak (run_notF rfl rfl) rfl ?_; (try simp only [Act.put, lyy])
    refine qaa (qa8 (b := false) (v := .bool true) rfl rfl rfl) rfl ?_; (try simp only [Act.put, lyy])
    refine qab ?_
    go_upto_region 3 with fail; refine wp_region_lit ?_
    refine qaa (qaf (v := .bool false) rfl rfl) rfl ?_; (try simp only [Act.put, lyy])
    refine qab ?_
    go_wp2_with fail
    go_ret
    exact ⟨by rw [HRt.out]; rw [hr, hn1, hn2]; rfl, E.out.bl⟩
  | true =>
    cases hwa : wiB m.acc with
    | false =>
      go_enter Tryd.func13, Tryd.ntmps13
      go_upto_region 0 with fail; refine wp_region_lit ?_
      refine qaa (qay (vs := lsR (.int .i64 m.acc) (.int .i64 m.ver) (m.ident.map b8) (.slice a0 n c0) (m.sig.map b8)) rfl rfl) rfl ?_; (try simp only [Act.put, lyy])
      replace E := Lib.hid (E.out.new (lsR (.int .i64 m.acc) (.int .i64 m.ver) (m.ident.map b8) (.slice a0 n c0) (m.sig.map b8)) 29)
      generalize w.alloc (.cells (lsR (.int .i64 m.acc) (.int .i64 m.ver) (m.ident.map b8) (.slice a0 n c0) (m.sig.map b8)).toArray 29) = a1 at *
      generalize w.heap.size = g2 at *
      refine qaa (qaf (v := .bool false) rfl rfl) rfl ?_; (try simp only [Act.put, lyy])
      refine qab ?_
      go_upto_region 1 with fail; refine wp_region_lit ?_
      refine qaa (qar (s := 0) (k := 34) rfl Tryd.underlying29 rfl (by kernel_rfl) rfl rfl) rfl ?_; (try simp only [Act.put, lyy])
      refine qaa (qa9 rfl Tryd.underlying25 rfl rfl ((E.out.get (i := 0) rfl).c 34 _ (qau (by rw [List.length_map, k1])))) rfl ?_; (try simp only [Act.put, lyy])
      refine qaa (qbg rfl Tryd.underlying25 rfl) rfl ?_; (try simp only [Act.put, lyy])
      refine qaa (qaf (v := .int .i64 ((n : Nat) : Int)) rfl rfl) rfl ?_; (try simp only [Act.put, lyy])
      refine qab ?_
      go_upto_region 2 with fail; refine wp_region_lit ?_
      refine qaa (qae (v := .int .i64 ((n : Nat) : Int)) rfl rfl) rfl ?_; (try simp only [Act.put, lyy])
      refine qaa (qbo (c := false) rfl rfl rfl (decide_eq_false (by omega))) rfl ?_; (try simp only [Act.put, lyy])
      refine qaa (qae (v := .bool false) rfl rfl) rfl ?_; (try simp only [Act.put, lyy])
      refine qak (qae (v := .int .i64 ((n : Nat) : Int)) rfl rfl) rfl ?_; (try simp only [Act.put, lyy])
      refine qak (run_gtrb (c := false) rfl rfl rfl (decide_eq_false (by omega))) rfl ?_; (try simp only [Act.put, lyy])
      refine qaa (qa8 (b := false) (v := .bool false) rfl rfl rfl) rfl ?_; (try simp only [Act.put, lyy])
      refine qaa (qae (v := .bool false) rfl rfl) rfl ?_; (try simp only [Act.put, lyy])
      refine qak (qar (s := 0) (k := 34) rfl Tryd.underlying29 rfl (by kernel_rfl) rfl rfl) rfl ?_; (try simp only [Act.put, lyy])
      refine qak (qa9 rfl Tryd.underlying25 rfl rfl ((E.out.get (i := 0) rfl).c 34 _ (qau (by rw [List.length_map, k1])))) rfl ?_; (try simp only [Act.put, lyy])
      refine qcm (qam enters_rise rfl rfl rfl) rfl ((hr ▸ CR.out _ E.out.froF)) (fun a3 hb => ?_); (try simp only [Act.put, lyy])
      replace E := Lib.hid (E.out.below hb)
      clear hb
      refine qak (qdf rfl rfl) rfl ?_; (try simp only [Act.put, lyy])
      refine qaa (qa8 (b := false) (v := .bool false) rfl rfl rfl) rfl ?_; (try simp only [Act.put, lyy])
      refine qab ?_
      go_upto_region 4 with fail
      refine wp_region_noPanic ?_; refine qa0 (S := fun _ V => Below a3.heap.size a3 V) (by kernel_rfl) ((Below.refl _ _).drew) (fun hS => ?_)
      replace E := Lib.hid (E.out.below hS)
      generalize a3.drew = a4 at *
      refine qbf (S' := fun _ V => Below a4.heap.size a4 V) (fun _ V h => hS.trans (h.mono hS.size)) _ _ _ _ ?_
      replace hS := Below.refl a4.heap.size a4
      refine qad 0 rfl rfl (by kernel_rfl) (by kernel_rfl) (by kernel_rfl) (fun _ _ _ h => h) rfl (fun V hV => qar (s := 0) (k := 0) rfl Tryd.underlying29 rfl (by kernel_rfl) rfl rfl) hS ?_; (try simp only [Act.put, lyy])
      refine qad 1 rfl rfl (by kernel_rfl) (by kernel_rfl) (by kernel_rfl) (fun _ _ _ h => h) rfl (fun V hV => qa9 rfl Tryd.underlying3 rfl rfl (((E.out.below hV).get (i := 0) rfl).c 0 _ (lsR_Account ))) hS ?_; (try simp only [Act.put, lyy])
      refine qbe 2 (by kernel_rfl) rfl rfl rfl (qam qch rfl rfl rfl) ((qbj ((hwa ▸ qc9 m.acc _)))) (fun v w h => hS.trans ((h.2).mono hS.size)) (fun v5 a6 hR => ?_); (try simp only [Act.put, lyy])
      obtain ⟨rfl, hb9⟩ := hR
      replace hS := hS.trans (hb9.mono hS.size)
      replace E := Lib.hid (E.out.below hb9)
      clear hb9
      refine qbf (S' := fun _ V => Below a6.heap.size a6 V) (fun _ V h => hS.trans (h.mono hS.size)) _ _ _ _ ?_
      replace hS := Below.refl a6.heap.size a6
      refine qad 3 rfl rfl (by kernel_rfl) (by kernel_rfl) (by kernel_rfl) (fun _ _ _ h => h) rfl (fun V hV => qae (v := .bool false) rfl rfl) hS ?_; (try simp only [Act.put, lyy])
      refine qaw 4 rfl rfl (by kernel_rfl) (by kernel_rfl) (by kernel_rfl) (fun _ _ _ h => h) rfl hS ?_; (try simp only [Act.put, lyy])
      refine qaw 5 rfl rfl (by kernel_rfl) (by kernel_rfl) (by kernel_rfl) (fun _ _ _ h => h) rfl hS ?_; (try simp only [Act.put, lyy])
      refine qaw 6 rfl rfl (by kernel_rfl) (by kernel_rfl) (by kernel_rfl) (fun _ _ _ h => h) rfl hS ?_; (try simp only [Act.put, lyy])
      refine qad 7 rfl rfl (by kernel_rfl) (by kernel_rfl) (by kernel_rfl) (fun _ _ _ h => h) rfl (fun V hV => qa8 (b := false) (v := .bool false) rfl rfl rfl) hS ?_; (try simp only [Act.put, lyy])
      refine qad 8 rfl rfl (by kernel_rfl) (by kernel_rfl) (by kernel_rfl) (fun _ _ _ h => h) rfl (fun V hV => qae (v := .bool false) rfl rfl) hS ?_; (try simp only [Act.put, lyy])
      refine qaw 9 rfl rfl (by kernel_rfl) (by kernel_rfl) (by kernel_rfl) (fun _ _ _ h => h) rfl hS ?_; (try simp only [Act.put, lyy])
      refine qaw 10 rfl rfl (by kernel_rfl) (by kernel_rfl) (by kernel_rfl) (fun _ _ _ h => h) rfl hS ?_; (try simp only [Act.put, lyy])
      refine qaw 11 rfl rfl (by kernel_rfl) (by kernel_rfl) (by kernel_rfl) (fun _ _ _ h => h) rfl hS ?_; (try simp only [Act.put, lyy])
      refine qaw 12 rfl rfl (by kernel_rfl) (by kernel_rfl) (by kernel_rfl) (fun _ _ _ h => h) rfl hS ?_; (try simp only [Act.put, lyy])
      refine qaw 13 rfl rfl (by kernel_rfl) (by kernel_rfl) (by kernel_rfl) (fun _ _ _ h => h) rfl hS ?_; (try simp only [Act.put, lyy])
      refine qaw 14 rfl rfl (by kernel_rfl) (by kernel_rfl) (by kernel_rfl) (fun _ _ _ h => h) rfl hS ?_; (try simp only [Act.put, lyy])
      refine qaw 15 rfl rfl (by kernel_rfl) (by kernel_rfl) (by kernel_rfl) (fun _ _ _ h => h) rfl hS ?_; (try simp only [Act.put, lyy])
      refine qad 16 rfl rfl (by kernel_rfl) (by kernel_rfl) (by kernel_rfl) (fun _ _ _ h => h) rfl (fun V hV => qa8 (b := false) (v := .bool false) rfl rfl rfl) hS ?_; (try simp only [Act.put, lyy])
      refine qad 17 rfl rfl (by kernel_rfl) (by kernel_rfl) (by kernel_rfl) (fun _ _ _ h => h) rfl (fun V hV => qaf (v := .bool false) rfl rfl) hS ?_; (try simp only [Act.put, lyy])
      refine qa2 (by kernel_rfl) ?_ _; refine NoPanic.normal ?_
      go_wp2_with fail
      go_ret
      exact ⟨by rw [HRt.out, hr, hwa, hn1, hn2]; rfl, E.out.bl⟩
    | true =>
      cases hwv : wiB m.ver with
      | false =>
        go_enter Tryd.func13, Tryd.ntmps13
        go_upto_region 0 with fail; refine wp_region_lit ?_
        refine qaa (qay (vs := lsR (.int .i64 m.acc) (.int .i64 m.ver) (m.ident.map b8) (.slice a0 n c0) (m.sig.map b8)) rfl rfl) rfl ?_; (try simp only [Act.put, lyy])
        replace E := Lib.hid (E.out.new (lsR (.int .i64 m.acc) (.int .i64 m.ver) (m.ident.map b8) (.slice a0 n c0) (m.sig.map b8)) 29)
        generalize w.alloc (.cells (lsR (.int .i64 m.acc) (.int .i64 m.ver) (m.ident.map b8) (.slice a0 n c0) (m.sig.map b8)).toArray 29) = a1 at *
        generalize w.heap.size = g2 at *
        refine qaa (qaf (v := .bool false) rfl rfl) rfl ?_; (try simp only [Act.put, lyy])
        refine qab ?_
        go_upto_region 1 with fail; refine wp_region_lit ?_
        refine qaa (qar (s := 0) (k := 34) rfl Tryd.underlying29 rfl (by kernel_rfl) rfl rfl) rfl ?_; (try simp only [Act.put, lyy])
        refine qaa (qa9 rfl Tryd.underlying25 rfl rfl ((E.out.get (i := 0) rfl).c 34 _ (qau (by rw [List.length_map, k1])))) rfl ?_; (try simp only [Act.put, lyy])
        refine qaa (qbg rfl Tryd.underlying25 rfl) rfl ?_; (try simp only [Act.put, lyy])
        refine qaa (qaf (v := .int .i64 ((n : Nat) : Int)) rfl rfl) rfl ?_; (try simp only [Act.put, lyy])
        refine qab ?_
        go_upto_region 2 with fail; refine wp_region_lit ?_
        refine qaa (qae (v := .int .i64 ((n : Nat) : Int)) rfl rfl) rfl ?_; (try simp only [Act.put, lyy])
        refine qaa (qbo (c := false) rfl rfl rfl (decide_eq_false (by omega))) rfl ?_; (try simp only [Act.put, lyy])
        refine qaa (qae (v := .bool false) rfl rfl) rfl ?_; (try simp only [Act.put, lyy])
        refine qak (qae (v := .int .i64 ((n : Nat) : Int)) rfl rfl) rfl ?_; (try simp only [Act.put, lyy])
        refine qak (run_gtrb (c := false) rfl rfl rfl (decide_eq_false (by omega))) rfl ?_; (try simp only [Act.put, lyy])
        refine qaa (qa8 (b := false) (v := .bool false) rfl rfl rfl) rfl ?_; (try simp only [Act.put, lyy])
        refine qaa (qae (v := .bool false) rfl rfl) rfl ?_; (try simp only [Act.put, lyy])
        refine qak (qar (s := 0) (k := 34) rfl Tryd.underlying29 rfl (by kernel_rfl) rfl rfl) rfl ?_; (try simp only [Act.put, lyy])
        refine qak (qa9 rfl Tryd.underlying25 rfl rfl ((E.out.get (i := 0) rfl).c 34 _ (qau (by rw [List.length_map, k1])))) rfl ?_; (try simp only [Act.put, lyy])
        refine qcm (qam enters_rise rfl rfl rfl) rfl ((hr ▸ CR.out _ E.out.froF)) (fun a3 hb => ?_); (try simp only [Act.put, lyy])
        replace E := Lib.hid (E.out.below hb)
        clear hb
        refine qak (qdf rfl rfl) rfl ?_; (try simp only [Act.put, lyy])
        refine qaa (qa8 (b := false) (v := .bool false) rfl rfl rfl) rfl ?_; (try simp only [Act.put, lyy])
        refine qab ?_
        go_upto_region 4 with fail
        refine wp_region_noPanic ?_; refine qa0 (S := fun _ V => Below a3.heap.size a3 V) (by kernel_rfl) ((Below.refl _ _).drew) (fun hS => ?_)
        replace E := Lib.hid (E.out.below hS)
        generalize a3.drew = a4 at *
        refine qbf (S' := fun _ V => Below a4.heap.size a4 V) (fun _ V h => hS.trans (h.mono hS.size)) _ _ _ _ ?_
        replace hS := Below.refl a4.heap.size a4
        refine qad 0 rfl rfl (by kernel_rfl) (by kernel_rfl) (by kernel_rfl) (fun _ _ _ h => h) rfl (fun V hV => qar (s := 0) (k := 0) rfl Tryd.underlying29 rfl (by kernel_rfl) rfl rfl) hS ?_; (try simp only [Act.put, lyy])
        refine qad 1 rfl rfl (by kernel_rfl) (by kernel_rfl) (by kernel_rfl) (fun _ _ _ h => h) rfl (fun V hV => qa9 rfl Tryd.underlying3 rfl rfl (((E.out.below hV).get (i := 0) rfl).c 0 _ (lsR_Account ))) hS ?_; (try simp only [Act.put, lyy])
        refine qbe 2 (by kernel_rfl) rfl rfl rfl (qam qch rfl rfl rfl) ((qbj ((hwa ▸ qc9 m.acc _)))) (fun v w h => hS.trans ((h.2).mono hS.size)) (fun v5 a6 hR => ?_); (try simp only [Act.put, lyy])
        obtain ⟨rfl, hb9⟩ := hR
        replace hS := hS.trans (hb9.mono hS.size)
        replace E := Lib.hid (E.out.below hb9)
        clear hb9
        refine qbf (S' := fun _ V => Below a6.heap.size a6 V) (fun _ V h => hS.trans (h.mono hS.size)) _ _ _ _ ?_
        replace hS := Below.refl a6.heap.size a6
        refine qad 3 rfl rfl (by kernel_rfl) (by kernel_rfl) (by kernel_rfl) (fun _ _ _ h => h) rfl (fun V hV => qae (v := .bool true) rfl rfl) hS ?_; (try simp only [Act.put, lyy])
        refine qad 4 rfl rfl (by kernel_rfl) (by kernel_rfl) (by kernel_rfl) (fun _ _ _ h => h) rfl (fun V hV => qar (s := 0) (k := 1) rfl Tryd.underlying29 rfl (by kernel_rfl) rfl rfl) hS ?_; (try simp only [Act.put, lyy])
        refine qad 5 rfl rfl (by kernel_rfl) (by kernel_rfl) (by kernel_rfl) (fun _ _ _ h => h) rfl (fun V hV => qa9 rfl Tryd.underlying3 rfl rfl (((E.out.below hV).get (i := 0) rfl).c 1 _ (lsR_Version ))) hS ?_; (try simp only [Act.put, lyy])
        refine qbe 6 (by kernel_rfl) rfl rfl rfl (qam qch rfl rfl rfl) ((qbj ((hwv ▸ qc9 m.ver _)))) (fun v w h => hS.trans ((h.2).mono hS.size)) (fun v7 a8 hR => ?_); (try simp only [Act.put, lyy])
        obtain ⟨rfl, hb9⟩ := hR
        replace hS := hS.trans (hb9.mono hS.size)
        replace E := Lib.hid (E.out.below hb9)
        clear hb9
        refine qbf (S' := fun _ V => Below a8.heap.size a8 V) (fun _ V h => hS.trans (h.mono hS.size)) _ _ _ _ ?_
        replace hS := Below.refl a8.heap.size a8
        refine qad 7 rfl rfl (by kernel_rfl) (by kernel_rfl) (by kernel_rfl) (fun _ _ _ h => h) rfl (fun V hV => qa8 (b := true) (v := .bool false) rfl rfl rfl) hS ?_; (try simp only [Act.put, lyy])
        refine qad 8 rfl rfl (by kernel_rfl) (by kernel_rfl) (by kernel_rfl) (fun _ _ _ h => h) rfl (fun V hV => qae (v := .bool false) rfl rfl) hS ?_; (try simp only [Act.put, lyy])
        refine qaw 9 rfl rfl (by kernel_rfl) (by kernel_rfl) (by kernel_rfl) (fun _ _ _ h => h) rfl hS ?_; (try simp only [Act.put, lyy])
        refine qaw 10 rfl rfl (by kernel_rfl) (by kernel_rfl) (by kernel_rfl) (fun _ _ _ h => h) rfl hS ?_; (try simp only [Act.put, lyy])
        refine qaw 11 rfl rfl (by kernel_rfl) (by kernel_rfl) (by kernel_rfl) (fun _ _ _ h => h) rfl hS ?_; (try simp only [Act.put, lyy])
        refine qaw 12 rfl rfl (by kernel_rfl) (by kernel_rfl) (by kernel_rfl) (fun _ _ _ h => h) rfl hS ?_; (try simp only [Act.put, lyy])
        refine qaw 13 rfl rfl (by kernel_rfl) (by kernel_rfl) (by kernel_rfl) (fun _ _ _ h => h) rfl hS ?_; (try simp only [Act.put, lyy])
        refine qaw 14 rfl rfl (by kernel_rfl) (by kernel_rfl) (by kernel_rfl) (fun _ _ _ h => h) rfl hS ?_; (try simp only [Act.put, lyy])
        refine qaw 15 rfl rfl (by kernel_rfl) (by kernel_rfl) (by kernel_rfl) (fun _ _ _ h => h) rfl hS ?_; (try simp only [Act.put, lyy])
        refine qad 16 rfl rfl (by kernel_rfl) (by kernel_rfl) (by kernel_rfl) (fun _ _ _ h => h) rfl (fun V hV => qa8 (b := false) (v := .bool false) rfl rfl rfl) hS ?_; (try simp only [Act.put, lyy])
        refine qad 17 rfl rfl (by kernel_rfl) (by kernel_rfl) (by kernel_rfl) (fun _ _ _ h => h) rfl (fun V hV => qaf (v := .bool false) rfl rfl) hS ?_; (try simp only [Act.put, lyy])
        refine qa2 (by kernel_rfl) ?_ _; refine NoPanic.normal ?_
        go_wp2_with fail
        go_ret
        exact ⟨by rw [HRt.out, hr, hwa, hwv, hn1, hn2]; rfl, E.out.bl⟩
      | true =>
        go_enter Tryd.func13, Tryd.ntmps13
        go_upto_region 0 with fail; refine wp_region_lit ?_
        refine qaa (qay (vs := lsR (.int .i64 m.acc) (.int .i64 m.ver) (m.ident.map b8) (.slice a0 n c0) (m.sig.map b8)) rfl rfl) rfl ?_; (try simp only [Act.put, lyy])
        replace E := Lib.hid (E.out.new (lsR (.int .i64 m.acc) (.int .i64 m.ver) (m.ident.map b8) (.slice a0 n c0) (m.sig.map b8)) 29)
        generalize w.alloc (.cells (lsR (.int .i64 m.acc) (.int .i64 m.ver) (m.ident.map b8) (.slice a0 n c0) (m.sig.map b8)).toArray 29) = a1 at *
        generalize w.heap.size = g2 at *
        refine qaa (qaf (v := .bool false) rfl rfl) rfl ?_; (try simp only [Act.put, lyy])
        refine qab ?_
        go_upto_region 1 with fail; refine wp_region_lit ?_
        refine qaa (qar (s := 0) (k := 34) rfl Tryd.underlying29 rfl (by kernel_rfl) rfl rfl) rfl ?_; (try simp only [Act.put, lyy])
        refine qaa (qa9 rfl Tryd.underlying25 rfl rfl ((E.out.get (i := 0) rfl).c 34 _ (qau (by rw [List.length_map, k1])))) rfl ?_; (try simp only [Act.put, lyy])
        refine qaa (qbg rfl Tryd.underlying25 rfl) rfl ?_; (try simp only [Act.put, lyy])
        refine qaa (qaf (v := .int .i64 ((n : Nat) : Int)) rfl rfl) rfl ?_; (try simp only [Act.put, lyy])
        refine qab ?_
        go_upto_region 2 with fail; refine wp_region_lit ?_
        refine qaa (qae (v := .int .i64 ((n : Nat) : Int)) rfl rfl) rfl ?_; (try simp only [Act.put, lyy])
        refine qaa (qbo (c := false) rfl rfl rfl (decide_eq_false (by omega))) rfl ?_; (try simp only [Act.put, lyy])
        refine qaa (qae (v := .bool false) rfl rfl) rfl ?_; (try simp only [Act.put, lyy])
        refine qak (qae (v := .int .i64 ((n : Nat) : Int)) rfl rfl) rfl ?_; (try simp only [Act.put, lyy])
        refine qak (run_gtrb (c := false) rfl rfl rfl (decide_eq_false (by omega))) rfl ?_; (try simp only [Act.put, lyy])
        refine qaa (qa8 (b := false) (v := .bool false) rfl rfl rfl) rfl ?_; (try simp only [Act.put, lyy])
        refine qaa (qae (v := .bool false) rfl rfl) rfl ?_; (try simp only [Act.put, lyy])
        refine qak (qar (s := 0) (k := 34) rfl Tryd.underlying29 rfl (by kernel_rfl) rfl rfl) rfl ?_; (try simp only [Act.put, lyy])
        refine qak (qa9 rfl Tryd.underlying25 rfl rfl ((E.out.get (i := 0) rfl).c 34 _ (qau (by rw [List.length_map, k1])))) rfl ?_; (try simp only [Act.put, lyy])
        refine qcm (qam enters_rise rfl rfl rfl) rfl ((hr ▸ CR.out _ E.out.froF)) (fun a3 hb => ?_); (try simp only [Act.put, lyy])
        replace E := Lib.hid (E.out.below hb)
        clear hb
        refine qak (qdf rfl rfl) rfl ?_; (try simp only [Act.put, lyy])
        refine qaa (qa8 (b := false) (v := .bool false) rfl rfl rfl) rfl ?_; (try simp only [Act.put, lyy])
        refine qab ?_
        go_upto_region 4 with fail
        refine wp_region_noPanic ?_; refine qa0 (S := fun _ V => Below a3.heap.size a3 V) (by kernel_rfl) ((Below.refl _ _).drew) (fun hS => ?_)
        replace E := Lib.hid (E.out.below hS)
        generalize a3.drew = a4 at *
        refine qbf (S' := fun _ V => Below a4.heap.size a4 V) (fun _ V h => hS.trans (h.mono hS.size)) _ _ _ _ ?_
        replace hS := Below.refl a4.heap.size a4
        refine qad 0 rfl rfl (by kernel_rfl) (by kernel_rfl) (by kernel_rfl) (fun _ _ _ h => h) rfl (fun V hV => qar (s := 0) (k := 0) rfl Tryd.underlying29 rfl (by kernel_rfl) rfl rfl) hS ?_; (try simp only [Act.put, lyy])
        refine qad 1 rfl rfl (by kernel_rfl) (by kernel_rfl) (by kernel_rfl) (fun _ _ _ h => h) rfl (fun V hV => qa9 rfl Tryd.underlying3 rfl rfl (((E.out.below hV).get (i := 0) rfl).c 0 _ (lsR_Account ))) hS ?_; (try simp only [Act.put, lyy])
        refine qbe 2 (by kernel_rfl) rfl rfl rfl (qam qch rfl rfl rfl) ((qbj ((hwa ▸ qc9 m.acc _)))) (fun v w h => hS.trans ((h.2).mono hS.size)) (fun v5 a6 hR => ?_); (try simp only [Act.put, lyy])
        obtain ⟨rfl, hb9⟩ := hR
        replace hS := hS.trans (hb9.mono hS.size)
        replace E := Lib.hid (E.out.below hb9)
        clear hb9
        refine qbf (S' := fun _ V => Below a6.heap.size a6 V) (fun _ V h => hS.trans (h.mono hS.size)) _ _ _ _ ?_
        replace hS := Below.refl a6.heap.size a6
        refine qad 3 rfl rfl (by kernel_rfl) (by kernel_rfl) (by kernel_rfl) (fun _ _ _ h => h) rfl (fun V hV => qae (v := .bool true) rfl rfl) hS ?_; (try simp only [Act.put, lyy])
        refine qad 4 rfl rfl (by kernel_rfl) (by kernel_rfl) (by kernel_rfl) (fun _ _ _ h => h) rfl (fun V hV => qar (s := 0) (k := 1) rfl Tryd.underlying29 rfl (by kernel_rfl) rfl rfl) hS ?_; (try simp only [Act.put, lyy])
        refine qad 5 rfl rfl (by kernel_rfl) (by kernel_rfl) (by kernel_rfl) (fun _ _ _ h => h) rfl (fun V hV => qa9 rfl Tryd.underlying3 rfl rfl (((E.out.below hV).get (i := 0) rfl).c 1 _ (lsR_Version ))) hS ?_; (try simp only [Act.put, lyy])
        refine qbe 6 (by kernel_rfl) rfl rfl rfl (qam qch rfl rfl rfl) ((qbj ((hwv ▸ qc9 m.ver _)))) (fun v w h => hS.trans ((h.2).mono hS.size)) (fun v7 a8 hR => ?_); (try simp only [Act.put, lyy])
        obtain ⟨rfl, hb9⟩ := hR
        replace hS := hS.trans (hb9.mono hS.size)
        replace E := Lib.hid (E.out.below hb9)
        clear hb9
        refine qbf (S' := fun _ V => Below a8.heap.size a8 V) (fun _ V h => hS.trans (h.mono hS.size)) _ _ _ _ ?_
        replace hS := Below.refl a8.heap.size a8
        refine qad 7 rfl rfl (by kernel_rfl) (by kernel_rfl) (by kernel_rfl) (fun _ _ _ h => h) rfl (fun V hV => qa8 (b := true) (v := .bool true) rfl rfl rfl) hS ?_; (try simp only [Act.put, lyy])
        refine qad 8 rfl rfl (by kernel_rfl) (by kernel_rfl) (by kernel_rfl) (fun _ _ _ h => h) rfl (fun V hV => qae (v := .bool true) rfl rfl) hS ?_; (try simp only [Act.put, lyy])
        refine qad 9 rfl rfl (by kernel_rfl) (by kernel_rfl) (by kernel_rfl) (fun _ _ _ h => h) rfl (fun V hV => qar (s := 31) (k := 2) rfl Tryd.underlying29 rfl (by kernel_rfl) rfl rfl) hS ?_; (try simp only [Act.put, lyy])
        refine qad 10 rfl rfl (by kernel_rfl) (by kernel_rfl) (by kernel_rfl) (fun _ _ _ h => h) rfl (fun V hV => qai (vs := m.ident.map b8) rfl Tryd.underlying24 rfl (szR (by rw [List.length_map, k1]) (by kernel_rfl)) rfl (((E.out.below hV).get (i := 0) rfl).seg (lsR_Ident (by rw [List.length_map, k1])))) hS ?_; (try simp only [Act.put, lyy])
        refine qad 11 rfl rfl (by kernel_rfl) (by kernel_rfl) (by kernel_rfl) (fun _ _ _ h => h) rfl (fun V hV => qai (vs := lsR (.int .i64 m.acc) (.int .i64 m.ver) (m.ident.map b8) (.slice a0 n c0) (m.sig.map b8)) rfl Tryd.underlying29 rfl (szR (qa7 (by rw [List.length_map, k1]) (by rw [List.length_map, k2])) (by kernel_rfl)) rfl ((E.out.below hV).get (i := 0) rfl).range) hS ?_; (try simp only [Act.put, lyy])
        refine qad 13 rfl rfl (by kernel_rfl) (by kernel_rfl) (by kernel_rfl) (fun _ _ _ h => h) rfl (fun V hV => qar (s := 63) (k := 35) rfl Tryd.underlying29 rfl (by kernel_rfl) rfl rfl) hS ?_; (try simp only [Act.put, lyy])
        refine qad 14 rfl rfl (by kernel_rfl) (by kernel_rfl) (by kernel_rfl) (fun _ _ _ h => h) rfl (fun V hV => qai (vs := m.sig.map b8) rfl Tryd.underlying27 rfl (szR (by rw [List.length_map, k2]) (by kernel_rfl)) rfl (((E.out.below hV).get (i := 0) rfl).seg (lsR_Sig (by rw [List.length_map, k1]) (by rw [List.length_map, k2])))) hS ?_; (try simp only [Act.put, lyy])
        refine qbe 12 (by kernel_rfl) rfl rfl rfl (qam enters_cont rfl rfl rfl) ((CO.out _ E.out.bl)) (fun v w h => hS.trans ((h.bl).mono hS.size)) (fun v9 a10 hR => ?_); (try simp only [Act.put, lyy])
        have hb9 := hR.bl
        have hs9 := hR.sl
        replace hS := hS.trans (hb9.mono hS.size)
        replace E := Lib.hid (E.out.below hb9)
        have HSL := Lib.hid hs9
        clear hR hs9 hb9
        refine qbf (S' := fun _ V => Below a10.heap.size a10 V) (fun _ V h => hS.trans (h.mono hS.size)) _ _ _ _ ?_
        replace hS := Below.refl a10.heap.size a10
        refine qbe 15 (by kernel_rfl) rfl rfl rfl (run_call3 enters_sverify rfl rfl rfl rfl rfl) ((qbj (CV.out _ v9 E.out.bl HSL.out))) (fun v w h => hS.trans ((h.2).mono hS.size)) (fun v11 a12 hR => ?_); (try simp only [Act.put, lyy])
        obtain ⟨rfl, hb9⟩ := hR
        replace hS := hS.trans (hb9.mono hS.size)
        replace E := Lib.hid (E.out.below hb9)
        clear hb9
        refine qbf (S' := fun _ V => Below a12.heap.size a12 V) (fun _ V h => hS.trans (h.mono hS.size)) _ _ _ _ ?_
        replace hS := Below.refl a12.heap.size a12
        refine qad 16 rfl rfl (by kernel_rfl) (by kernel_rfl) (by kernel_rfl) (fun _ _ _ h => h) rfl (fun V hV => qa8 (b := true) (v := .bool vr) rfl rfl rfl) hS ?_; (try simp only [Act.put, lyy])
        refine qad 17 rfl rfl (by kernel_rfl) (by kernel_rfl) (by kernel_rfl) (fun _ _ _ h => h) rfl (fun V hV => qaf (v := .bool vr) rfl rfl) hS ?_; (try simp only [Act.put, lyy])
        refine qa2 (by kernel_rfl) ?_ _; refine NoPanic.normal ?_
        go_wp2_with fail
        go_ret
        exact ⟨by rw [HRt.out, hr, hwa, hwv, hn1, hn2]; rfl, E.out.bl⟩
end Go.Proofs.YtcgbgmbnagmohaaDoor
