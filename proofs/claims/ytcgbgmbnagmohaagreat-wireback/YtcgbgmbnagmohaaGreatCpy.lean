import Derived.Test.YtcgbgmbnagmohaaGreatLateG
import Derived.Test.YtcgbgmbnagmohaaGreatApp
import Derived.Test.YtcgbgmbnagmohaaGreatStr
namespace Go.Proofs.YtcgbgmbnagmohaaGreat
open Go.RowKit
set_option maxRecDepth 20000
section
variable {P : Program} {ops : Array Oper} {Q : Exit → Act → World → Prop} {S : World → Prop} {D : Nat}
def Till (D : Nat) (S : World → Prop) (L : Array Bool) (w : World) : Prop := L.getD D false = true ∨ S w
def closedB (ops : Array Oper) (listed : Array Bool) : Bool := decide (listed.size ≤ ops.size) && (List.range ops.size).all fun i => !listed.getD i false || (depsOf ops i).all fun j => listed.getD j false
theorem closed_of {listed : Array Bool} (h : closedB ops listed = true) : Closed ops listed := by
  unfold closedB at h
  rw [Bool.and_eq_true, List.all_eq_true] at h
  intro i hi j hj
  have hlt : i < ops.size := by
    rcases Nat.lt_or_ge i listed.size with h1 | h1
    · exact Nat.lt_of_lt_of_le h1 (of_decide_eq_true h.1)
    · simp [Array.getElem?_eq_none h1] at hi
  have := h.2 i (List.mem_range.2 hlt)
  rw [hi] at this
  simp only [Bool.not_true, Bool.false_or, List.all_eq_true] at this
  exact this j hj
theorem closed_set {listed : Array Bool} {j : Nat} (h : Closed ops listed) (hj : j ∈ Region.ready .any ops listed) : Closed ops (listed.setIfInBounds j true) := by
  intro i hi k hk
  by_cases hjk : j = k
  · subst hjk
    have hjl : j < listed.size := by
      have := (mem_ready.1 hj).1
      rcases Nat.lt_or_ge j listed.size with h1 | h1
      · exact h1
      · simp [Array.getElem?_eq_none h1] at this
    simp [hjl]
  · rw [getD_set_ne false hjk]
    by_cases hij : j = i
    · subst hij
      exact ready_deps hj k hk
    · rw [getD_set_ne false hij] at hi
      exact h i hi k hk
theorem wpAnyL_firstD {i : Nat} {oi : Oper} {v : Value} (hi : ops[i]? = some oi) (hs : Region.noSelect ops = true) (hn : i ∈ needs ops 8 (depsOf ops D)) (hiD : i ≠ D)
    (hQ : ∀ c a w, Q (.panic c) (a.put oi.dst v) w → Q (.panic c) a w) :
    ∀ (fuel : Nat) (listed : Array Bool) (a : Act) (w : World), Closed ops listed →
      (∀ j oj, ops[j]? = some oj → j ≠ i → listed.getD j true = false → (∀ e ∈ oj.after, Region.binds .any e = true → e.on ≠ i) → oi.apart ops oj = true) →
      i ∈ Region.ready .any ops listed → YieldsIf P ops S oi v a → S w → listed.getD D false = false →
      qb7 P ops Q (Till D S) fuel (listed.setIfInBounds i true) (a.put oi.dst v) w → qb7 P ops Q (Till D S) (fuel + 1) listed a w := by
  intro fuel
  have hsel := Region.noSelect_spec hs
  induction fuel with
  | zero =>
    intro listed a w _ _ hr hy hSw hd H
    refine ⟨fun h => (by rw [h] at hr; cases hr), fun j hj => ?_⟩
    by_cases hji : j = i
    · subst hji; exact hy.wpOp hi hSw ⟨.inr hSw, H⟩
    · have := ready_mono hj hji
      rw [H.1] at this
      cases this
  | succ fuel ih =>
    intro listed a w hcl hfree hr hy hSw hd H
    refine ⟨fun h => (by rw [h] at hr; cases hr), fun j hj => ?_⟩
    by_cases hji : j = i
    · subst hji; exact hy.wpOp hi hSw ⟨.inr hSw, H⟩
    · have h1 := H.2 j (ready_mono hj hji)
      obtain ⟨hjun, oj, hoj, hall⟩ := mem_ready.1 hj
      have hiun := (mem_ready.1 hr).1
      have hif : listed.getD i false = false := by
        cases hb : listed.getD i false with
        | false => rfl
        | true => rw [listed_of_true hb] at hiun; cases hiun
      have hnot : ∀ e ∈ oj.after, Region.binds .any e = true → e.on ≠ i := fun e he hb heq => by
        have e1 := hall e he hb
        rw [heq] at e1
        rw [hif] at e1
        cases e1
      have hjD : j ≠ D := fun e => by
        subst e
        have := needs_listed hcl 8 (depsOf ops j) (ready_deps hj) i hn
        rw [hif] at this
        cases this
      have h2 := wpOp_putIf hoj (hfree j oj hoj hji hjun hnot) (fun cs b => hsel i oi cs b hi) (fun cs b => hsel j oj cs b hoj) hQ hy h1
      have hfree' : ∀ k ok, ops[k]? = some ok → k ≠ i → (listed.setIfInBounds j true).getD k true = false →
          (∀ e ∈ ok.after, Region.binds .any e = true → e.on ≠ i) → oi.apart ops ok = true := fun k ok hk hki hun hno => by
        refine hfree k ok hk hki ?_ hno
        by_cases hjk : j = k
        · subst hjk; exact hjun
        · rw [getD_set_ne true hjk] at hun; exact hun
      have hdj : (listed.setIfInBounds j true).getD D false = false := by rw [getD_set_ne false hjD]; exact hd
      refine wpOp_mono (fun a' w' h3 => ?_) h2
      have e := Array.setIfInBounds_comm (xs := listed) true true (Ne.symm hji)
      rw [e] at h3
      have hS' : S w' := by
        rcases h3.2.1 with h4 | h4
        · rw [getD_set_ne false hiD, hdj] at h4; cases h4
        · exact h4
      exact ⟨.inr hS', ih (listed.setIfInBounds j true) a' w' (closed_set hcl hj) hfree' (ready_mono hr (Ne.symm hji)) h3.1 hS' hdj h3.2.2⟩
theorem qao {fuel : Nat} {listed : Array Bool} {a : Act} {w : World} {o : Oper} {v : Value} (i : Nat) {d : Tmp} (hi : ops[i]? = some o) (hd : o.dst = some d) (hs : Region.noSelect ops = true) (hf : Region.free .any ops listed i = true) (hr : (Region.ready .any ops listed).contains i = true)
    (hn : (needs ops 8 (depsOf ops D)).contains i = true) (hD : (i != D && !listed.getD D false && closedB ops listed) = true) (hQ : ∀ c a w, Q (.panic c) (a.put (some d) v) w → Q (.panic c) a w) (hw : Region.wanted o (yielded ops a.tmps) = true) (hrun : ∀ V, S V → (execOp a.eval o).run P V = .ok (.value v) V) (hSw : S w)
    (h : qb7 P ops Q (Till D S) fuel (listed.setIfInBounds i true) (a.put (some d) v) w) : qb7 P ops Q (Till D S) (fuel + 1) listed a w := by
  rw [← hd] at h hQ
  simp only [Bool.and_eq_true, bne_iff_ne, Bool.not_eq_true'] at hD
  exact wpAnyL_firstD hi hs (by simpa using hn) hD.1.1 hQ fuel listed a w (closed_of hD.2) (Region.free_spec hi hf) (by simpa using hr) (Or.inl ⟨hw, hrun⟩) hSw hD.1.2 h
theorem qbm {fuel : Nat} {listed : Array Bool} {a : Act} {w w' : World} {o : Oper} {v : Value} (i : Nat) {d : Tmp} (hr : Region.ready .any ops listed = [i]) (ho : ops[i]? = some o) (hd : o.dst = some d) (hw : Region.wanted o (yielded ops a.tmps) = true) (hrun : (execOp a.eval o).run P w = .ok (.value v) w') (hS : Till D S (listed.setIfInBounds i true) w')
    (hn : qb7 P ops Q (Till D S) fuel (listed.setIfInBounds i true) (a.put (some d) v) w') : qb7 P ops Q (Till D S) (fuel + 1) listed a w := by
  rw [← hd] at hn
  refine ⟨fun e => (by rw [hr] at e; cases e), fun j hj => ?_⟩
  rw [hr] at hj
  obtain rfl : j = i := by simpa using hj
  simp only [wpOp, ho, hw, if_true]
  refine .inl ?_
  unfold Oper.wp
  rw [hrun]
  exact ⟨hS, hn⟩
theorem wpAnyD_free {fuel : Nat} {listed : Array Bool} {a : Act} {w : World} {o : Oper} {v : Value} (i : Nat) {d : Tmp} (hi : ops[i]? = some o) (hd : o.dst = some d) (hs : Region.noSelect ops = true) (hf : Region.free .any ops listed i = true) (hr : (Region.ready .any ops listed).contains i = true)
    (hD : (i != D) = true) (hQ : ∀ c a w, Q (.panic c) (a.put (some d) v) w → Q (.panic c) a w) (hw : Region.wanted o (yielded ops a.tmps) = true) (hrun : ∀ V, (execOp a.eval o).run P V = .ok (.value v) V) (hSw : S w)
    (h : qb7 P ops Q (Till D S) fuel (listed.setIfInBounds i true) (a.put (some d) v) w) : qb7 P ops Q (Till D S) (fuel + 1) listed a w := by
  rw [← hd] at h hQ
  have hne : i ≠ D := by simpa using hD
  exact wpAnyL_first (ds := []) hi hs (by rfl) hQ (fun L w => by unfold Till; rw [getD_set_ne false hne]) fuel listed a w (Region.free_spec hi hf) (by simpa using hr) (Or.inl ⟨hw, fun V _ => hrun V⟩) (.inr hSw) (fun _ h => by cases h) h
end
end Go.Proofs.YtcgbgmbnagmohaaGreat
namespace Go.Proofs.YtcgbgmbnagmohaaGreat
open Go.RowKit
set_option maxRecDepth 20000
section
variable {w : World} {ops : Array Oper} {Q : Exit → Act → World → Prop} {o : Oper} {a : Act} {α : Type} {S : World → Prop}
end
end Go.Proofs.YtcgbgmbnagmohaaGreat
namespace Go.Proofs.YtcgbgmbnagmohaaGreat
open Go.RowKit
set_option maxRecDepth 20000
section
variable {w : World} {ρ : Operand → Value} {o : Oper} {t t' : TypeId} {x y z : Operand}
theorem run_slA {e : TypeId} {n g f : Nat} (ho : o.op = .slice t x none none none) (ht : Tryz.prog.underlying t = some (.array n e)) (hs : (Tryz.prog.info? e).map (·.size) = some 1) (hx : ρ x = .pointer (some ⟨g, f, none⟩)) : (execOp ρ o).run Tryz.prog w = .ok (.value (.slice (some ⟨g, f, none⟩) n n)) w := by
  have el : Tryz.prog.elem t = e := by unfold Program.elem; rw [ht]
  have al : Tryz.prog.arrayLen t = n := by unfold Program.arrayLen; rw [ht]
  have h1 := run_sliceAt_array_all (P := Tryz.prog) w t ⟨g, f, none⟩ (by rw [al, el]; exact ht)
  obtain ⟨inf, hi, h2⟩ := Option.map_eq_some_iff.1 hs
  have hz : (sizeOf e).run Tryz.prog w = .ok 1 w := by simp [sizeOf, typeInfo, go_sem, hi, h2]
  rw [el, hz, al] at h1
  unfold execOp
  simp only [ho, hx, Option.map_none, Sem.run_bind, h1]
  simp [slicedAt, Addr.add_mid]
theorem run_eqstrG {s s' : ByteArray} (ho : o.op = .binOp .eql t x y t') (hx : ρ x = .string s) (hy : ρ y = .string s') : (execOp ρ o).run Tryz.prog w = .ok (.value (.bool (s.toList == s'.toList))) w := by
  obtain ⟨dst, op, type, pos, after, guard⟩ := o
  subst ho
  go_simp
theorem run_neq8 {a b : BitVec 8} {c : Bool} (ho : o.op = .binOp .neq t x y t') (hx : ρ x = b8 a) (hy : ρ y = b8 b) (h : decide (a ≠ b) = c) : (execOp ρ o).run Tryz.prog w = .ok (.value (.bool c)) w := by
  refine qcv (k := .u8) ho hx hy ?_
  rw [← h, Bool.eq_iff_iff]
  simp [← BitVec.toNat_inj]
  omega
end
theorem strOf_data : ∀ (l : List (BitVec 8)) (r : ByteArray), ((l.map fun x => (x.toNat : Int)).foldl (fun r n => r.push (UInt8.ofNat n.toNat)) r).data.toList = r.data.toList ++ l.map fun x => UInt8.ofNat x.toNat
  | [], r => by simp
  | x :: l, r => by
    rw [List.map_cons, List.foldl_cons, strOf_data l]
    simp [ByteArray.push]
theorem strOf_inj {l m : List (BitVec 8)} (h : strOf l = strOf m) : l = m := by
  unfold strOf at h
  have h1 := congrArg (fun b : ByteArray => b.data.toList) h
  simp only [strOf_data] at h1
  have h2 : (l.map fun x : BitVec 8 => UInt8.ofNat x.toNat) = m.map fun x => UInt8.ofNat x.toNat := by simpa using h1
  exact List.map_inj_right (fun x y hxy => by
    have := congrArg UInt8.toNat hxy
    simp only [UInt8.toNat_ofNat'] at this
    exact BitVec.eq_of_toNat_eq (by omega)) |>.1 h2
theorem strOf_beq (l m : List (BitVec 8)) : ((strOf l).toList == (strOf m).toList) = decide (l = m) := by
  rw [Bool.eq_iff_iff, ByteArray.toList_eq, ByteArray.toList_eq]
  simp only [beq_iff_eq, decide_eq_true_eq]
  exact ⟨fun h => strOf_inj (ByteArray.ext (Array.toList_inj.1 h)), fun h => by rw [h]⟩
theorem Sl.adr {v : Value} {l : List (BitVec 8)} {u : World} (h : Sl v l u) (hn : 0 < l.length) : ∃ b f c, v = .slice (some ⟨b, f, none⟩) l.length c ∧ b < u.heap.size ∧ u.rangeAt b f (l.map b8) := by
  obtain ⟨ao, c, rfl, _, h3⟩ := h
  obtain ⟨b, f, rfl, h4, h5⟩ := h3 (by intro e; rw [e] at hn; exact absurd hn (Nat.lt_irrefl _))
  exact ⟨b, f, c, rfl, h4, h5⟩
theorem run_app0 {w : World} {base : Nat} {v : Value} {n : Nat} {xs : List Value} {ao : Option Addr} {c : Nat} {ty : TypeId} (hown : w.ownsRow base 5 1 v n xs) : (Builtin.append_ #[22, 22] ty #[v, .slice ao 0 c]).run Tryz.prog w = .ok v w := by
  have hi : (Tryz.prog.info? 5).map (·.size) = some 1 := by kernel_rfl
  obtain ⟨inf, h1, h2⟩ := Option.map_eq_some_iff.1 hi
  have hl : ∀ b : Addr, (loadCells b 0).run Tryz.prog w = .ok #[] w := fun b => by simpa using run_loadCells_list (P := Tryz.prog) w b [] (by simp)
  rcases hown.2 with ⟨rfl, _⟩ | ⟨g, cap, cur, rfl, _, _, h3, _⟩
  · cases ao <;> simp [Builtin.append_, run_underlying Tryz.underlying22, sizeOf, typeInfo, h1, Builtin.lenOf, Builtin.firstCells, hl]
  · cases ao <;> simp [Builtin.append_, run_underlying Tryz.underlying22, sizeOf, typeInfo, h1, Builtin.lenOf, Builtin.firstCells, hl, h3, storeCells]
theorem wpList_appG {w : World} {ops : Array Oper} {Q : Exit → Act → World → Prop} {rest : List Oper} {o : Oper} {a : Act} {s x : Operand} {base : Nat} {v vx : Value} {n : Nat} {l m : List (BitVec 8)} (hg : o.guard = none) (ho : o.op = .call { callee := .builtin .append, args := #[s, x], argTypes := #[22, 22] }) (hs : a.eval s = v) (hown : w.ownsRow base 5 1 v n (l.map b8)) (hx : a.eval x = vx) (hv : Sl vx m w) (hn : n + m.length ≤ 16777216) (hbase : base ≤ w.heap.size)
    (h : ∀ v' w', w'.ownsRow base 5 1 v' (n + m.length) ((l ++ m).map b8) → Below base w w' → wpList Tryz.prog ops Q rest (a.put o.dst v') w') : wpList Tryz.prog ops Q (o :: rest) a w := by
  by_cases he : m = []
  · subst he
    obtain ⟨ao, c, rfl, _, _⟩ := hv
    refine qaa (v := v) (w' := w) ?_ hg (h v w (by rw [List.append_nil]; exact hown) (Below.refl _ _))
    have hr := run_app0 (ao := ao) (c := c) (ty := o.type) hown
    unfold execOp
    simp [ho, resolve, invoke, builtin, hs, hx, hr, Result.andThen]
  · obtain ⟨b, f, c, rfl, _, hr⟩ := hv.adr (List.length_pos_iff.2 he)
    exact wpList_app (f := b8) (fun _ => rfl) (l := l) (m := m) (bw := 1) (z := .int .u8 0) hg ho Tryz.underlying22 (by kernel_rfl) rfl (by omega) hs hown hx hr hn hbase h
theorem Sl.part {ao : Option Addr} {n c lo hi : Nat} {l : List (BitVec 8)} {u : World} (h : Sl (.slice ao n c) l u) (h1 : lo ≤ hi) (h2 : hi ≤ l.length) : Sl (cutO ao hi c lo) ((l.take hi).drop lo) u := by
  have e : (l.take hi).length = hi := by rw [List.length_take]; omega
  have h3 : Sl (.slice ao (l.take hi).length c) (l.take hi) u := by rw [e]; exact h.front h2
  have h4 := h3.cut (k := lo) (by rw [e]; exact h1)
  rwa [e] at h4
section
variable {P : Program} {ops : Array Oper} {Q : Exit → Act → World → Prop} {S S' : Array Bool → World → Prop}
theorem qbf (h : ∀ L w, S' L w → S L w) : ∀ (fuel : Nat) (listed : Array Bool) (a : Act) (w : World), qb7 P ops Q S' fuel listed a w → qb7 P ops Q S fuel listed a w
  | 0, _, _, _, h1 => h1
  | fuel + 1, _, _, _, h1 => ⟨h1.1, fun i hi => wpOp_mono (fun a' w' h' => ⟨h _ _ h'.1, qbf h fuel _ a' w' h'.2⟩) (h1.2 i hi)⟩
end
end Go.Proofs.YtcgbgmbnagmohaaGreat
