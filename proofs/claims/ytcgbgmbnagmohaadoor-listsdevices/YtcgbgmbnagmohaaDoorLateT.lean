import Derived.Test.YtcgbgmbnagmohaaDoorLateG
namespace Go.Proofs.YtcgbgmbnagmohaaDoor
open Go.RowKit
set_option maxRecDepth 20000
section
variable {P : Program} {ops : Array Oper} {Q : Exit → Act → World → Prop} {S : World → Prop} {D : Nat}
def Till (D : Nat) (S : World → Prop) (L : Array Bool) (w : World) : Prop := L.getD D false = true ∨ S w
def closedB (ops : Array Oper) (listed : Array Bool) : Bool := decide (listed.size ≤ ops.size) && (List.range ops.size).all fun i => !listed.getD i false || (depsOf ops i).all fun j => listed.getD j false
theorem closed_of {listed : Array Bool} (h : closedB ops listed = true) : Closed ops listed := by
 unfold closedB at h
 rw [Bool.and_eq_true, List.all_eq_true] at h
 intro i hi j hj
 have hlt : i < ops.size := by
  rcases Nat.lt_or_ge i listed.size with h1 | h1
  ·exact Nat.lt_of_lt_of_le h1 (of_decide_eq_true h.1)
  ·simp [Array.getElem?_eq_none h1] at hi
 have := h.2 i (List.mem_range.2 hlt)
 rw [hi] at this
 simp only [Bool.not_true, Bool.false_or, List.all_eq_true] at this
 exact this j hj
theorem closed_set {listed : Array Bool} {j : Nat} (h : Closed ops listed) (hj : j ∈ Region.ready .any ops listed) : Closed ops (listed.setIfInBounds j true) := by
 intro i hi k hk
 by_cases hjk : j = k
 ·subst hjk
  have hjl : j < listed.size := by
   have := (mem_ready.1 hj).1
   rcases Nat.lt_or_ge j listed.size with h1 | h1
   ·exact h1
   ·simp [Array.getElem?_eq_none h1] at this
  simp [hjl]
 ·rw [getD_set_ne false hjk]
  by_cases hij : j = i
  ·subst hij
   exact ready_deps hj k hk
  ·rw [getD_set_ne false hij] at hi
   exact h i hi k hk
theorem wpAnyL_firstD {i : Nat} {oi : Oper} {v : Value} (hi : ops[i]? = some oi) (hs : Region.noSelect ops = true) (hn : i ∈ needs ops 8 (depsOf ops D)) (hiD : i ≠ D)
  (hQ : ∀ c a w, Q (.panic c) (a.put oi.dst v) w → Q (.panic c) a w) :
  ∀ (fuel : Nat) (listed : Array Bool) (a : Act) (w : World), Closed ops listed →
   (∀ j oj, ops[j]? = some oj → j ≠ i → listed.getD j true = false → (∀ e ∈ oj.after, Region.binds .any e = true → e.on ≠ i) → oi.apart ops oj = true) →
   i ∈ Region.ready .any ops listed → YieldsIf P ops S oi v a → S w → listed.getD D false = false →
   qb5 P ops Q (Till D S) fuel (listed.setIfInBounds i true) (a.put oi.dst v) w → qb5 P ops Q (Till D S) (fuel + 1) listed a w := by
 intro fuel
 have hsel := Region.noSelect_spec hs
 induction fuel with
 | zero =>
  intro listed a w _ _ hr hy hSw hd H
  refine ⟨fun h => (by rw [h] at hr; cases hr), fun j hj => ?_⟩
  by_cases hji : j = i
  ·subst hji; exact hy.wpOp hi hSw ⟨.inr hSw, H⟩
  ·have := ready_mono hj hji
   rw [H.1] at this
   cases this
 | succ fuel ih =>
  intro listed a w hcl hfree hr hy hSw hd H
  refine ⟨fun h => (by rw [h] at hr; cases hr), fun j hj => ?_⟩
  by_cases hji : j = i
  ·subst hji; exact hy.wpOp hi hSw ⟨.inr hSw, H⟩
  ·have h1 := H.2 j (ready_mono hj hji)
   obtain ⟨hjun, oj, hoj, hall⟩ := mem_ready.1 hj
   have hiun := (mem_ready.1 hr).1
   have hif : listed.getD i false = false := by
    cases hb : listed.getD i false with
    | false => rfl
    | true => rw [listed_of_true hb] at hiun; cases hiun
   have hnot : ∀ e ∈ oj.after, Region.binds .any e = true → e.on ≠ i := fun e he hb heq => by
    have e1 := hall e he hb
    rw [heq] at e1
    rw [hif] at e1
    cases e1
   have hjD : j ≠ D := fun e => by
    subst e
    have := needs_listed hcl 8 (depsOf ops j) (ready_deps hj) i hn
    rw [hif] at this
    cases this
   have h2 := wpOp_putIf hoj (hfree j oj hoj hji hjun hnot) (fun cs b => hsel i oi cs b hi) (fun cs b => hsel j oj cs b hoj) hQ hy h1
   have hfree' : ∀ k ok, ops[k]? = some ok → k ≠ i → (listed.setIfInBounds j true).getD k true = false →
     (∀ e ∈ ok.after, Region.binds .any e = true → e.on ≠ i) → oi.apart ops ok = true := fun k ok hk hki hun hno => by
    refine hfree k ok hk hki ?_ hno
    by_cases hjk : j = k
    ·subst hjk; exact hjun
    ·rw [getD_set_ne true hjk] at hun; exact hun
   have hdj : (listed.setIfInBounds j true).getD D false = false := by rw [getD_set_ne false hjD]; exact hd
   refine wpOp_mono (fun a' w' h3 => ?_) h2
   have e := Array.setIfInBounds_comm (xs := listed) true true (Ne.symm hji)
   rw [e] at h3
   have hS' : S w' := by
    rcases h3.2.1 with h4 | h4
    ·rw [getD_set_ne false hiD, hdj] at h4; cases h4
    ·exact h4
   exact ⟨.inr hS', ih (listed.setIfInBounds j true) a' w' (closed_set hcl hj) hfree' (ready_mono hr (Ne.symm hji)) h3.1 hS' hdj h3.2.2⟩
theorem qak {fuel : Nat} {listed : Array Bool} {a : Act} {w : World} {o : Oper} {v : Value} (i : Nat) {d : Tmp} (hi : ops[i]? = some o) (hd : o.dst = some d) (hs : Region.noSelect ops = true) (hf : Region.free .any ops listed i = true) (hr : (Region.ready .any ops listed).contains i = true)
  (hn : (needs ops 8 (depsOf ops D)).contains i = true) (hD : (i != D && !listed.getD D false && closedB ops listed) = true) (hQ : ∀ c a w, Q (.panic c) (a.put (some d) v) w → Q (.panic c) a w) (hw : Region.wanted o (yielded ops a.tmps) = true) (hrun : ∀ V, S V → (execOp a.eval o).run P V = .ok (.value v) V) (hSw : S w)
  (h : qb5 P ops Q (Till D S) fuel (listed.setIfInBounds i true) (a.put (some d) v) w) : qb5 P ops Q (Till D S) (fuel + 1) listed a w := by
 rw [← hd] at h hQ
 simp only [Bool.and_eq_true, bne_iff_ne, Bool.not_eq_true'] at hD
 exact wpAnyL_firstD hi hs (by simpa using hn) hD.1.1 hQ fuel listed a w (closed_of hD.2) (Region.free_spec hi hf) (by simpa using hr) (Or.inl ⟨hw, hrun⟩) hSw hD.1.2 h
theorem qcj {fuel : Nat} {listed : Array Bool} {a : Act} {w w' : World} {o : Oper} {v : Value} (i : Nat) {d : Tmp} (hr : Region.ready .any ops listed = [i]) (ho : ops[i]? = some o) (hd : o.dst = some d) (hw : Region.wanted o (yielded ops a.tmps) = true) (hrun : (execOp a.eval o).run P w = .ok (.value v) w') (hS : Till D S (listed.setIfInBounds i true) w')
  (hn : qb5 P ops Q (Till D S) fuel (listed.setIfInBounds i true) (a.put (some d) v) w') : qb5 P ops Q (Till D S) (fuel + 1) listed a w := by
 rw [← hd] at hn
 refine ⟨fun e => (by rw [hr] at e; cases e), fun j hj => ?_⟩
 rw [hr] at hj
 obtain rfl : j = i := by simpa using hj
 simp only [wpOp, ho, hw, if_true]
 refine .inl ?_
 unfold Oper.wp
 rw [hrun]
 exact ⟨hS, hn⟩
theorem wpAnyD_call {fuel : Nat} {listed : Array Bool} {a : Act} {w : World} {o : Oper} {f : FuncId} {args : Array Value} {v : Value} (i : Nat) {d : Tmp} (hr : Region.ready .any ops listed = [i]) (ho : ops[i]? = some o) (hd : o.dst = some d) (hw : Region.wanted o (yielded ops a.tmps) = true) (hrun : (execOp a.eval o).run P w = .ok (.enter f args) w)
  (hc : Calls P f args w fun e w' => e = .returned v ∧ Below w.heap.size w w') (hS : ∀ w', Below w.heap.size w w' → S w')
  (hn : ∀ w', Below w.heap.size w w' → qb5 P ops Q (Till D S) fuel (listed.setIfInBounds i true) (a.put (some d) v) w') : qb5 P ops Q (Till D S) (fuel + 1) listed a w := by
 simp only [← hd] at hn
 refine ⟨fun e => (by rw [hr] at e; cases e), fun j hj => ?_⟩
 rw [hr] at hj
 obtain rfl : j = i := by simpa using hj
 simp only [wpOp, ho, hw, if_true]
 refine .inl ?_
 unfold Oper.wp
 rw [hrun]
 simp only [Oper.upon]
 refine hc.mono fun e w' ⟨he, hb⟩ => ?_
 subst he
 exact ⟨.inr (hS w' hb), hn w' hb⟩
theorem wpAnyD_free {fuel : Nat} {listed : Array Bool} {a : Act} {w : World} {o : Oper} {v : Value} (i : Nat) {d : Tmp} (hi : ops[i]? = some o) (hd : o.dst = some d) (hs : Region.noSelect ops = true) (hf : Region.free .any ops listed i = true) (hr : (Region.ready .any ops listed).contains i = true)
  (hD : (i != D) = true) (hQ : ∀ c a w, Q (.panic c) (a.put (some d) v) w → Q (.panic c) a w) (hw : Region.wanted o (yielded ops a.tmps) = true) (hrun : ∀ V, (execOp a.eval o).run P V = .ok (.value v) V) (hSw : S w)
  (h : qb5 P ops Q (Till D S) fuel (listed.setIfInBounds i true) (a.put (some d) v) w) : qb5 P ops Q (Till D S) (fuel + 1) listed a w := by
 rw [← hd] at h hQ
 have hne : i ≠ D := by simpa using hD
 exact wpAnyL_first (ds := []) hi hs (by rfl) hQ (fun L w => by unfold Till; rw [getD_set_ne false hne]) fuel listed a w (Region.free_spec hi hf) (by simpa using hr) (Or.inl ⟨hw, fun V _ => hrun V⟩) (.inr hSw) (fun _ h => by cases h) h
theorem wpAnyD_callD {fuel : Nat} {listed : Array Bool} {a : Act} {w : World} {o : Oper} {f : FuncId} {args : Array Value} {R : Value → World → Prop} (i : Nat) {d : Tmp} (hr : Region.ready .any ops listed = [i]) (ho : ops[i]? = some o) (hd : o.dst = some d) (hw : Region.wanted o (yielded ops a.tmps) = true) (hrun : (execOp a.eval o).run P w = .ok (.enter f args) w)
  (hc : Calls P f args w fun e w' => ∃ v, e = .returned v ∧ R v w') (hl : (listed.setIfInBounds i true).getD D false = true)
  (hn : ∀ v w', R v w' → qb5 P ops Q (Till D S) fuel (listed.setIfInBounds i true) (a.put (some d) v) w') : qb5 P ops Q (Till D S) (fuel + 1) listed a w := by
 simp only [← hd] at hn
 refine ⟨fun e => (by rw [hr] at e; cases e), fun j hj => ?_⟩
 rw [hr] at hj
 obtain rfl : j = i := by simpa using hj
 simp only [wpOp, ho, hw, if_true]
 refine .inl ?_
 unfold Oper.wp
 rw [hrun]
 simp only [Oper.upon]
 refine hc.mono fun e w' ⟨v, he, hb⟩ => ?_
 subst he
 exact ⟨.inl hl, hn v w' hb⟩
end
end Go.Proofs.YtcgbgmbnagmohaaDoor
