import Derived.Test.YtcgbgmbnagmohaaGreatWrE
import Derived.Lib.AppendStr
namespace Go.Proofs.YtcgbgmbnagmohaaGreat
open Go.RowKit
set_option maxRecDepth 20000
attribute [local irreducible] wpList
section
variable {w u u' : World} {L : List (Nat × List Value)} {e : TypeId} {z n : Nat} {v : Value} {cs : List Value} {F H : World → Prop}
theorem Gw.grown (G : Gw w L e z v n cs F H u) {v' : Value} {n' : Nat} {cs' : List Value} (h3 : u'.ownsRow w.heap.size e z v' n' cs') (h4 : u.grownBy u' v.ownBlock) (hw : v'.ownBlock = v.ownBlock ∨ v'.ownBlock = some u.heap.size) : Gw w L e z v' n' cs' F H u' := by
  have hbase : w.heap.size ≤ u.heap.size := G.bl.size
  have hb : Below w.heap.size u u' := below_grown h4 (fun k hk => (qax G.row hk).1) hbase
  have hap : ∀ p ∈ L, v'.ownBlock ≠ some p.1 := fun p hp he => by
    rcases hw with hw | hw
    · exact G.ap p hp (hw ▸ he)
    · rw [hw] at he
      have h6 := (G.ev.mv.all p hp).2.lt
      injection he with he
      omega
  have key : ∀ B V, Ext B (v'.ownBlock.toList ++ L.map (·.1)) u' V → Ext B (v.ownBlock.toList ++ L.map (·.1)) u V := fun B V hV =>
    ⟨Nat.le_trans h4.size hV.size, fun b k1 k2 k3 => by
      have n1 : v.ownBlock ≠ some b := fun he => k3 (List.mem_append.2 (.inl (by simp [he])))
      have n2 : b ∉ v'.ownBlock.toList ++ L.map (·.1) := fun hm => by
        rcases List.mem_append.1 hm with hm | hm
        · have he : v'.ownBlock = some b := by simpa using hm
          rcases hw with hw | hw
          · exact n1 (hw ▸ he)
          · rw [hw] at he
            injection he with he
            omega
        · exact k3 (List.mem_append.2 (.inr hm))
      exact (hV.block b k1 (Nat.lt_of_lt_of_le k2 h4.size) n2).trans (h4.block b k2 fun he => n1 he.symm)⟩
  have hmv : Mv w L u' := ⟨G.bl.trans hb, G.ev.mv.nd, fun p hp => ⟨(G.ev.mv.all p hp).1, (G.ev.mv.all p hp).2.same h4.size (h4.block _ (G.ev.mv.all p hp).2.lt fun he => G.ap p hp he.symm)⟩⟩
  exact ⟨⟨hmv, fun k hk => (qax h3 (by simpa using hk)).2, fun V hV => G.ev.fs V (key 0 V hV), fun V hV => G.ev.hs V (key _ V hV)⟩, h3, hap⟩
end
theorem strCells_sbL (s : ByteArray) : Lib.strCells s = (sbL s).map b8 := by
  unfold Lib.strCells sbL
  rw [List.map_map]
  rfl
section
variable {P : Program} {w : World}
theorem append_where_str (base : Nat) (t u ty e : TypeId) (i : TypeInfo) (ht : P.underlying t = some (.slice e)) (hu : P.underlying u = some .string) (hi : P.info? e = some i) (hz : i.zero = some (.int .u8 0))
    (hsize : i.size = 1) (hby : i.bytes = 1)
    (v : Value) (n : Nat) (xs : List Value) (hown : w.ownsRow base e 1 v n xs) (s : ByteArray)
    (h63 : n + s.size ≤ maxLen) (hbytes : n + s.size ≤ 140737488355328) (hm : 0 < s.size) {v' : Value} {w' : World}
    (hr : (Builtin.append_ #[t, u] ty #[v, .string s]).run P w = .ok v' w') : v'.ownBlock = v.ownBlock ∨ v'.ownBlock = some w.heap.size := by
  have hsmall : n + s.size ≤ 9223372036854775807 := by simp only [maxLen] at h63; omega
  have hxl : xs.length = n := by simpa using hown.1
  rcases hown.2 with ⟨rfl, rfl⟩ | ⟨g, cap, cur, rfl, hbg, hg, hnc, hcm, hcs, htake⟩
  · have hr' := run_append_nil_string (P := P) w t u ty e i (.int .u8 0) ht hu hi hz s (by omega) (by omega) (by rw [hby]; omega)
    rw [hr'] at hr
    injection hr with e1 _
    exact .inr (by rw [← e1]; rfl)
  · by_cases hroom : n + s.size ≤ cap
    · have hcs' : cur.size = cap := by simpa using hcs
      have hr' := Lib.run_append_room_string (P := P) w t u ty e i ht hu hi hsize g n cap cur hg s hroom (by omega)
      rw [hr'] at hr
      injection hr with e1 _
      exact .inl (by rw [← e1]; rfl)
    · have holds : ∀ j u, xs[j]? = some u → w.cell? ((⟨g, 0, none⟩ : Addr).add j) = some u := hown.cells (g := g) rfl
      have hr' := Lib.run_append_grow_string (P := P) w t u ty e i (.int .u8 0) ht hu hi hz ⟨g, 0, none⟩ n cap xs (by rw [hsize]; simpa using hxl) holds s (by omega) (by omega) (by rw [hby]; exact growslice_fits (by omega) (by omega))
      rw [hr'] at hr
      injection hr with e1 _
      exact .inr (by rw [← e1]; rfl)
end
section
variable {w u : World} {L : List (Nat × List Value)} {v : Value} {l m : List (BitVec 8)} {F H : World → Prop} {ops : Array Oper} {Q : Exit → Act → World → Prop} {rest : List Oper} {o : Oper} {a : Act} {s x : Operand}
theorem run_growB (ho : o.op = .call { callee := .builtin .append, args := #[s, x], argTypes := #[22, 22] }) (hs : a.eval s = v) {vx : Value} (hx : a.eval x = vx) (hv : Sl vx m u) (hn : l.length + m.length ≤ 100000000000) (G : Gw w L 5 1 v l.length (l.map b8) F H u) :
    ∃ v' u', (execOp a.eval o).run Tryz.prog u = .ok (.value v') u' ∧ Gw w L 5 1 v' (l ++ m).length ((l ++ m).map b8) F H u' := by
  by_cases he : m = []
  · subst he
    obtain ⟨ao, c, rfl, _, _⟩ := hv
    have hr := run_app0 (ao := ao) (c := c) (ty := o.type) G.row
    refine ⟨v, u, ?_, by rw [List.append_nil]; exact G⟩
    unfold execOp
    simp [ho, resolve, invoke, builtin, hs, hx, hr, Result.andThen]
  · obtain ⟨g, f, c, rfl, _, hr⟩ := hv.adr (List.length_pos_iff.2 he)
    have hi : (Tryz.prog.info? 5).map (fun i => (i.size, i.bytes, i.zero)) = some (1, 1, some (.int .u8 0)) := by kernel_rfl
    obtain ⟨inf, h1, h2⟩ := Option.map_eq_some_iff.1 hi
    obtain ⟨e1, e2, e3⟩ : inf.size = 1 ∧ inf.bytes = 1 ∧ inf.zero = some (.int .u8 0) := by simpa using h2
    have hc : ∀ j q, (m.map b8)[j]? = some q → u.cell? ((⟨g, f, none⟩ : Addr).add j) = some q := fun j q hq => by rw [Addr.add_mid]; exact hr j q hq
    have h8 : ∀ q ∈ m.map b8, q.oneCell' = true := fun q hq => by rw [List.mem_map] at hq; obtain ⟨x, _, rfl⟩ := hq; rfl
    have hp := List.length_pos_iff.2 he
    obtain ⟨v', w', hrun, h3, h4, _⟩ := run_append_own (P := Tryz.prog) u w.heap.size 22 o.type 5 inf (.int .u8 0) 1 1 Tryz.underlying22 h1 e3 e1 e2 rfl (by omega) v l.length (l.map b8) G.row ⟨g, f, none⟩ m.length c (m.map b8) (by simp) hc h8
      (by unfold maxLen; omega) (by omega) G.bl.size
    have hw := append_where (P := Tryz.prog) w.heap.size 22 o.type 5 inf (.int .u8 0) 1 1 Tryz.underlying22 h1 e3 e1 e2 rfl (by omega) v l.length (l.map b8) G.row ⟨g, f, none⟩ m.length c (m.map b8) (by simp) hc h8 (by unfold maxLen; omega) (by omega) hp hrun
    refine ⟨v', w', ?_, G.grown (by rw [List.map_append, List.length_append]; exact h3) h4 hw⟩
    unfold execOp
    simp [ho, resolve, invoke, builtin, hs, hx, hrun, Result.andThen]
theorem wpList_growB (hg : o.guard = none) (ho : o.op = .call { callee := .builtin .append, args := #[s, x], argTypes := #[22, 22] }) (hs : a.eval s = v) {vx : Value} (hx : a.eval x = vx) (hv : Sl vx m u) (hn : l.length + m.length ≤ 100000000000) (G : Gw w L 5 1 v l.length (l.map b8) F H u)
    (h : ∀ v' u', Gw w L 5 1 v' (l ++ m).length ((l ++ m).map b8) F H u' → wpList Tryz.prog ops Q rest (a.put o.dst v') u') : wpList Tryz.prog ops Q (o :: rest) a u := by
  obtain ⟨v', u', h1, h2⟩ := run_growB ho hs hx hv hn G
  exact qaa h1 hg (h v' u' h2)
theorem wpList_growT (hg : o.guard = none) (ho : o.op = .call { callee := .builtin .append, args := #[s, x], argTypes := #[22, 9] }) (hs : a.eval s = v) {b : ByteArray} (hx : a.eval x = .string b) (hn : l.length + b.size ≤ 100000000000) (G : Gw w L 5 1 v l.length (l.map b8) F H u)
    (h : ∀ v' u', Gw w L 5 1 v' (l ++ sbL b).length ((l ++ sbL b).map b8) F H u' → wpList Tryz.prog ops Q rest (a.put o.dst v') u') : wpList Tryz.prog ops Q (o :: rest) a u := by
  have hi : (Tryz.prog.info? 5).map (fun i => (i.size, i.bytes, i.zero)) = some (1, 1, some (.int .u8 0)) := by kernel_rfl
  obtain ⟨inf, h1, h2⟩ := Option.map_eq_some_iff.1 hi
  obtain ⟨e1, e2, e3⟩ : inf.size = 1 ∧ inf.bytes = 1 ∧ inf.zero = some (.int .u8 0) := by simpa using h2
  obtain ⟨v', w', hrun, h3, h4, _⟩ := Lib.run_append_own_string (P := Tryz.prog) u w.heap.size 22 9 o.type 5 inf Tryz.underlying22 Tryz.underlying9 h1 e3 e1 e2 v l.length (l.map b8) G.row b (by unfold maxLen; omega) (by omega) G.bl.size
  have hG : Gw w L 5 1 v' (l ++ sbL b).length ((l ++ sbL b).map b8) F H w' := by
    by_cases he : b.size = 0
    · have hb0 : sbL b = [] := List.eq_nil_of_length_eq_zero (by rw [sbL_len]; exact he)
      have h5 : v'.ownBlock = v.ownBlock ∨ v'.ownBlock = some u.heap.size := by
        rcases G.row.2 with ⟨rfl, _⟩ | ⟨g, cap, cur, rfl, hbg, hg', hnc, hcm, hcs, htake⟩
        · have hq := Lib.run_firstCells_string (P := Tryz.prog) u 1 b
          have hlz : l = [] := by
            have h9 := G.row.1
            rcases G.row.2 with ⟨_, h0⟩ | ⟨g, cap, cur, h0, _⟩
            · exact List.eq_nil_of_length_eq_zero h0
            · cases h0
          have e4 : (Builtin.append_ #[22, 9] o.type #[.slice none 0 0, .string b]).run Tryz.prog u = .ok (.slice none 0 0) u := by
            rw [he] at hq
            have hs0 : Lib.strCells b = [] := by rw [strCells_sbL, hb0]; rfl
            rw [hs0] at hq
            simp [Builtin.append_, run_underlying Tryz.underlying22, run_underlying Tryz.underlying9, sizeOf, typeInfo, h1, e1, Builtin.lenOf, he, hq]
          rw [e4] at hrun
          injection hrun with e5 _
          exact .inl (by rw [← e5])
        · have hcs' : cur.size = cap := by simpa using hcs
          have hr' := Lib.run_append_room_string (P := Tryz.prog) u 22 9 o.type 5 inf Tryz.underlying22 Tryz.underlying9 h1 e1 g l.length cap cur hg' b (by omega) (by omega)
          rw [hr'] at hrun
          injection hrun with e5 _
          exact .inl (by rw [← e5]; rfl)
      exact G.grown (by rw [List.map_append, List.length_append, ← strCells_sbL, sbL_len]; exact h3) h4 h5
    · have hw := append_where_str (P := Tryz.prog) w.heap.size 22 9 o.type 5 inf Tryz.underlying22 Tryz.underlying9 h1 e3 e1 e2 v l.length (l.map b8) G.row b (by unfold maxLen; omega) (by omega) (by omega) hrun
      exact G.grown (by rw [List.map_append, List.length_append, ← strCells_sbL, sbL_len]; exact h3) h4 hw
  refine qaa (v := v') (w' := w') ?_ hg (h v' w' hG)
  unfold execOp
  simp [ho, resolve, invoke, builtin, hs, hx, hrun, Result.andThen]
end
structure Ww (w : World) (p : Nat) (L : List (Nat × List Value)) (l : List (BitVec 8)) (u : World) : Prop where
  ex : ∃ v, Gw w (L ++ [(p, [v])]) 5 1 v l.length (l.map b8) (fun _ => True) (fun _ => True) u
section
variable {w u : World} {p : Nat} {L : List (Nat × List Value)} {l : List (BitVec 8)}
theorem qct {α : Type} (L : List α) (x : α) : (L ++ [x])[L.length]? = some x := by simp
theorem set_last {α : Type} (L : List α) (x y : α) : (L ++ [x]).set L.length y = L ++ [y] := by simp
theorem Ww.bl (h : Ww w p L l u) : Below w.heap.size w u := h.ex.elim fun _ G => G.bl
theorem Ww.get (h : Ww w p L l u) {i g : Nat} {m : List Value} (hi : L[i]? = some (g, m)) : Arr g m u :=
  h.ex.elim fun _ G => G.get (i := i) (by rw [List.getElem?_append_left (List.getElem?_eq_some_iff.1 hi).1]; exact hi)
theorem Ww.new (h : Ww w p L l u) (m : List Value) (t : TypeId) : Ww w p ((u.heap.size, m) :: L) l (u.alloc (.cells m.toArray t)) :=
  ⟨h.ex.elim fun v G => ⟨v, G.new m t⟩⟩
theorem Ww.put (h : Ww w p L l u) (i : Nat) {g : Nat} {m m' : List Value} (hi : L[i]? = some (g, m)) (hm : m'.length = m.length) : Ww w p (L.set i (g, m')) l (u.setCells g 0 m') :=
  ⟨h.ex.elim fun v G => ⟨v, by
    have hlt := (List.getElem?_eq_some_iff.1 hi).1
    have h2 := G.put i (by rw [List.getElem?_append_left hlt]; exact hi) hm
    rwa [List.set_append_left _ _ hlt] at h2⟩⟩
theorem Ww.drop {x : Nat × List Value} (h : Ww w p (x :: L) l u) : Ww w p L l u :=
  ⟨h.ex.elim fun v G => ⟨v, Gw.drop G⟩⟩
theorem Ww.cast {l' : List (BitVec 8)} (h : Ww w p L l u) (e : l = l') : Ww w p L l' u := e ▸ h
theorem Gw.stored {v v' : Value} (G : Gw w (L ++ [(p, [v])]) 5 1 v' l.length (l.map b8) (fun _ => True) (fun _ => True) u) : Ww w p L l (u.setCell ⟨p, 0, none⟩ v') :=
  ⟨⟨v', by
    have h := G.set (i := L.length) (qct L (p, [v])) (j := 0) (by show 0 < 1; omega) v'
    rwa [set_last] at h⟩⟩
end
theorem Gw.isSlice {w u : World} {L : List (Nat × List Value)} {e : TypeId} {z n : Nat} {v : Value} {cs : List Value} {F H : World → Prop} (G : Gw w L e z v n cs F H u) : ∃ a k c, v = .slice a k c := by
  rcases G.row.2 with ⟨rfl, _⟩ | ⟨g, cap, cur, rfl, _⟩
  · exact ⟨_, _, _, rfl⟩
  · exact ⟨_, _, _, rfl⟩
theorem sl_one (u : World) (x : BitVec 8) : Sl (.slice (some ⟨u.heap.size, 0, none⟩) 1 1) [x] (u.alloc (.cells #[b8 x] 5)) :=
  (S5.sl (r := u) (v := .slice (some ⟨u.heap.size, 0, none⟩) 1 1) ⟨(Below.refl _ _).alloc (Nat.le_refl _) _, rfl, .inr ⟨u.heap.size, 1, #[b8 x], rfl, Nat.le_refl _, Array.getElem?_push_size, Nat.le_refl _, by unfold maxLen; omega, rfl, rfl⟩⟩)
theorem or128 (m : Nat) : BitVec.ofNat 8 m ||| 128#8 = BitVec.ofNat 8 (m % 128 + 128) := by
  have key : ∀ k : Fin 256, BitVec.ofNat 8 k.val ||| 128#8 = BitVec.ofNat 8 (k.val % 128 + 128) := by decide +kernel
  have h := key ⟨m % 256, Nat.mod_lt _ (by omega)⟩
  have e1 : BitVec.ofNat 8 m = BitVec.ofNat 8 (m % 256) := by
    apply BitVec.eq_of_toNat_eq
    simp
  have e2 : m % 256 % 128 = m % 128 := by omega
  simp only [e2] at h
  rw [e1]
  exact h
theorem run_callv {w : World} {ρ : Operand → Value} {o : Oper} {f : FuncId} {y : Operand} {xs : Array Operand} {ts : Array TypeId} (hE : Enters f) (ho : o.op = .call { callee := .value y, args := xs, argTypes := ts }) (hf : ρ y = .func (.func f) #[] #[]) : (execOp ρ o).run Tryz.prog w = .ok (.enter f (xs.map ρ)) w := by
  obtain ⟨dst, op, type, pos, after, guard⟩ := o
  subst ho
  have := hE (xs.map ρ) w
  go_simp
theorem qcc {w : World} {ρ : Operand → Value} {o : Oper} {f : FuncId} {y x : Operand} {a : Value} {ts : Array TypeId} (hE : Enters f) (ho : o.op = .call { callee := .value y, args := #[x], argTypes := ts }) (hf : ρ y = .func (.func f) #[] #[]) (hx : ρ x = a) : (execOp ρ o).run Tryz.prog w = .ok (.enter f #[a]) w := by
  rw [run_callv hE ho hf]
  have e : (#[x] : Array Operand).map ρ = #[a] := by simp [hx]
  rw [e]
theorem qcb {w : World} {ρ : Operand → Value} {o : Oper} {f : FuncId} {y x x' : Operand} {a a' : Value} {ts : Array TypeId} (hE : Enters f) (ho : o.op = .call { callee := .value y, args := #[x, x'], argTypes := ts }) (hf : ρ y = .func (.func f) #[] #[]) (hx : ρ x = a) (hx' : ρ x' = a') : (execOp ρ o).run Tryz.prog w = .ok (.enter f #[a, a']) w := by
  rw [run_callv hE ho hf]
  have e : (#[x, x'] : Array Operand).map ρ = #[a, a'] := by simp [hx, hx']
  rw [e]
end Go.Proofs.YtcgbgmbnagmohaaGreat
