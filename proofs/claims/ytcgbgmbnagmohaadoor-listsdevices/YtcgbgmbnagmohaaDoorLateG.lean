import Derived.Test.YtcgbgmbnagmohaaDoorSown2
import Derived.Deep.DeepCutAuto
import Derived.Deep.RegionHeld
import Derived.Deep.RegionHeld3
namespace Go.Proofs.YtcgbgmbnagmohaaDoor
open Go.RowKit
set_option maxRecDepth 20000
section
variable {P : Program} {ops : Array Oper} {Q : Exit → Act → World → Prop} {S : Array Bool → World → Prop}
def qb5 (P : Program) (ops : Array Oper) (Q : Exit → Act → World → Prop) (S : Array Bool → World → Prop) : Nat → Array Bool → Act → World → Prop
 | 0, listed, a, w => Region.ready .any ops listed = [] ∧ Q .normal a w
 | fuel + 1, listed, a, w =>
  (Region.ready .any ops listed = [] → Q .normal a w) ∧
  ∀ i ∈ Region.ready .any ops listed, wpOp P ops Q i (fun a' w' => S (listed.setIfInBounds i true) w' ∧ qb5 P ops Q S fuel (listed.setIfInBounds i true) a' w') a w
theorem wpAny_of_late : ∀ (fuel : Nat) (listed : Array Bool) (a : Act) (w : World), qb5 P ops Q S fuel listed a w → wpAny P .any ops Q fuel listed a w
 | 0, _, _, _, h => h
 | fuel + 1, _, _, _, h => ⟨h.1, fun i hi => wpOp_mono (fun a' w' h' => wpAny_of_late fuel _ a' w' h'.2) (h.2 i hi)⟩
def waitsB (ops : Array Oper) (i : Nat) (ds : List Nat) : Bool := ds.all fun d => match ops[d]? with
 | some o => o.after.any fun e => Region.binds .any e && e.on == i
 | none => false
theorem not_waits {i : Nat} {ds : List Nat} (h : waitsB ops i ds = true) {j : Nat} {oj : Oper} (hj : ops[j]? = some oj) (hno : ∀ e ∈ oj.after, Region.binds .any e = true → e.on ≠ i) : j ∉ ds := fun hm => by
 unfold waitsB at h
 rw [List.all_eq_true] at h
 have := h j hm
 rw [hj] at this
 simp only [Array.any_eq_true, Bool.and_eq_true, beq_iff_eq] at this
 obtain ⟨x, hx, hb, he⟩ := this
 exact hno _ (Array.getElem_mem hx) hb he
theorem wpAnyL_first {i : Nat} {oi : Oper} {v : Value} {ds : List Nat} (hi : ops[i]? = some oi) (hs : Region.noSelect ops = true) (hW : waitsB ops i ds = true)
  (hQ : ∀ c a w, Q (.panic c) (a.put oi.dst v) w → Q (.panic c) a w) (hS : ∀ L w, S (L.setIfInBounds i true) w ↔ S L w) :
  ∀ (fuel : Nat) (listed : Array Bool) (a : Act) (w : World),
   (∀ j oj, ops[j]? = some oj → j ≠ i → listed.getD j true = false → (∀ e ∈ oj.after, Region.binds .any e = true → e.on ≠ i) → oi.apart ops oj = true) →
   i ∈ Region.ready .any ops listed → YieldsIf P ops (fun w => ∃ L : Array Bool, (∀ d ∈ ds, L.getD d false = false) ∧ S L w) oi v a → S listed w → (∀ d ∈ ds, listed.getD d false = false) →
   qb5 P ops Q S fuel (listed.setIfInBounds i true) (a.put oi.dst v) w → qb5 P ops Q S (fuel + 1) listed a w := by
 intro fuel
 have hsel := Region.noSelect_spec hs
 induction fuel with
 | zero =>
  intro listed a w _ hr hy hSw hd H
  refine ⟨fun h => (by rw [h] at hr; cases hr), fun j hj => ?_⟩
  by_cases hji : j = i
  ·subst hji; exact hy.wpOp hi ⟨listed, hd, hSw⟩ ⟨(hS _ _).2 hSw, H⟩
  ·have := ready_mono hj hji
   rw [H.1] at this
   cases this
 | succ fuel ih =>
  intro listed a w hfree hr hy hSw hd H
  refine ⟨fun h => (by rw [h] at hr; cases hr), fun j hj => ?_⟩
  by_cases hji : j = i
  ·subst hji; exact hy.wpOp hi ⟨listed, hd, hSw⟩ ⟨(hS _ _).2 hSw, H⟩
  ·have h1 := H.2 j (ready_mono hj hji)
   obtain ⟨hjun, oj, hoj, hall⟩ := mem_ready.1 hj
   have hnot : ∀ e ∈ oj.after, Region.binds .any e = true → e.on ≠ i := fun e he hb heq => by
    have e1 := hall e he hb
    rw [heq] at e1
    have e2 := (mem_ready.1 hr).1
    rw [listed_of_true e1] at e2
    cases e2
   have h2 := wpOp_putIf hoj (hfree j oj hoj hji hjun hnot) (fun cs b => hsel i oi cs b hi) (fun cs b => hsel j oj cs b hoj) hQ hy h1
   have hfree' : ∀ k ok, ops[k]? = some ok → k ≠ i → (listed.setIfInBounds j true).getD k true = false →
     (∀ e ∈ ok.after, Region.binds .any e = true → e.on ≠ i) → oi.apart ops ok = true := fun k ok hk hki hun hno => by
    refine hfree k ok hk hki ?_ hno
    by_cases hjk : j = k
    ·subst hjk; exact hjun
    ·rw [getD_set_ne true hjk] at hun; exact hun
   refine wpOp_mono (fun a' w' h3 => ?_) h2
   have e := Array.setIfInBounds_comm (xs := listed) true true (Ne.symm hji)
   rw [e] at h3
   have hS' := (hS _ _).1 h3.2.1
   refine ⟨hS', ih (listed.setIfInBounds j true) a' w' hfree' (ready_mono hr (Ne.symm hji)) h3.1 hS' (fun d hdd => ?_) h3.2.2⟩
   have hjd : j ≠ d := fun e => not_waits hW hoj hnot (e ▸ hdd)
   rw [getD_set_ne false hjd]
   exact hd d hdd
theorem qay {id : Nat} {a : Act} {w : World} (hm : P.follows .mixedOrders = true) (hS : S (Array.replicate ops.size false) w.drew)
  (h : S (Array.replicate ops.size false) w.drew → qb5 P ops Q S ops.size (Array.replicate ops.size false) a w.drew) : (Code.region id ops true).wp P Q a w :=
 wp_region_any hm (wpAny_of_late _ _ _ _ (h hS))
theorem qa2 {listed : Array Bool} {a : Act} {w : World} (hr : Region.ready .any ops listed = []) (h : Q .normal a w) : ∀ fuel, qb5 P ops Q S fuel listed a w
 | 0 => ⟨hr, h⟩
 | _ + 1 => ⟨fun _ => h, by rw [hr]; simp⟩
end
section
variable {P : Program} {ops : Array Oper} {Q : Exit → Act → World → Prop} {S : World → Prop} {fuel i : Nat} {listed : Array Bool} {a : Act} {w : World} {o : Oper} {v : Value}
theorem qac (i : Nat) {d : Tmp} (hi : ops[i]? = some o) (hd : o.dst = some d) (hs : Region.noSelect ops = true) (hf : Region.free .any ops listed i = true) (hr : (Region.ready .any ops listed).contains i = true) (hQ : ∀ c a w, Q (.panic c) (a.put (some d) v) w → Q (.panic c) a w)
  (hw : Region.wanted o (yielded ops a.tmps) = true) (hrun : ∀ V, S V → (execOp a.eval o).run P V = .ok (.value v) V) (hSw : S w)
  (h : qb5 P ops Q (fun _ => S) fuel (listed.setIfInBounds i true) (a.put (some d) v) w) : qb5 P ops Q (fun _ => S) (fuel + 1) listed a w := by
 rw [← hd] at h hQ
 exact wpAnyL_first (ds := []) hi hs (by rfl) hQ (fun _ _ => Iff.rfl) fuel listed a w (Region.free_spec hi hf) (by simpa using hr) (Or.inl ⟨hw, fun V ⟨_, _, h2⟩ => hrun V h2⟩) hSw (fun _ h => by cases h) h
theorem qaw (i : Nat) {d : Tmp} (hi : ops[i]? = some o) (hd : o.dst = some d) (hs : Region.noSelect ops = true) (hf : Region.free .any ops listed i = true) (hr : (Region.ready .any ops listed).contains i = true) (hQ : ∀ c a w, Q (.panic c) (a.put (some d) undef) w → Q (.panic c) a w)
  (hw : Region.wanted o (yielded ops a.tmps) = false) (hSw : S w)
  (h : qb5 P ops Q (fun _ => S) fuel (listed.setIfInBounds i true) (a.put (some d) undef) w) : qb5 P ops Q (fun _ => S) (fuel + 1) listed a w := by
 rw [← hd] at h hQ
 exact wpAnyL_first (ds := []) hi hs (by rfl) hQ (fun _ _ => Iff.rfl) fuel listed a w (Region.free_spec hi hf) (by simpa using hr) (Or.inr ⟨hw, rfl⟩) hSw (fun _ h => by cases h) h
theorem wpAnyL_val (i : Nat) {d : Tmp} {w' : World} (hr : Region.ready .any ops listed = [i]) (ho : ops[i]? = some o) (hd : o.dst = some d) (hw : Region.wanted o (yielded ops a.tmps) = true) (hrun : (execOp a.eval o).run P w = .ok (.value v) w') (hS : S w')
  (hn : qb5 P ops Q (fun _ => S) fuel (listed.setIfInBounds i true) (a.put (some d) v) w') : qb5 P ops Q (fun _ => S) (fuel + 1) listed a w := by
 rw [← hd] at hn
 refine ⟨fun e => (by rw [hr] at e; cases e), fun j hj => ?_⟩
 rw [hr] at hj
 obtain rfl : j = i := by simpa using hj
 simp only [wpOp, ho, hw, if_true]
 refine .inl ?_
 unfold Oper.wp
 rw [hrun]
 exact ⟨hS, hn⟩
theorem qbi (i : Nat) {d : Tmp} {f : FuncId} {args : Array Value} {R : Value → World → Prop} (hr : Region.ready .any ops listed = [i]) (ho : ops[i]? = some o) (hd : o.dst = some d) (hw : Region.wanted o (yielded ops a.tmps) = true) (hrun : (execOp a.eval o).run P w = .ok (.enter f args) w)
  (hc : Calls P f args w fun e w' => ∃ v, e = .returned v ∧ R v w') (hS : ∀ v w', R v w' → S w')
  (hn : ∀ v w', R v w' → qb5 P ops Q (fun _ => S) fuel (listed.setIfInBounds i true) (a.put (some d) v) w') : qb5 P ops Q (fun _ => S) (fuel + 1) listed a w := by
 simp only [← hd] at hn
 refine ⟨fun e => (by rw [hr] at e; cases e), fun j hj => ?_⟩
 rw [hr] at hj
 obtain rfl : j = i := by simpa using hj
 simp only [wpOp, ho, hw, if_true]
 refine .inl ?_
 unfold Oper.wp
 rw [hrun]
 simp only [Oper.upon]
 refine hc.mono fun e w' ⟨v, he, hb⟩ => ?_
 subst he
 exact ⟨hS v w' hb, hn v w' hb⟩
end
section
variable {P : Program} {ops : Array Oper} {Q : Exit → Act → World → Prop} {S : Array Bool → World → Prop} {K : Act → World → Prop} {listed : Array Bool} {a : Act} {w : World} {o : Oper}
theorem wpOp_call (i : Nat) {d : Tmp} {f : FuncId} {args : Array Value} {R : Value → World → Prop} (ho : ops[i]? = some o) (hd : o.dst = some d) (hw : Region.wanted o (yielded ops a.tmps) = true) (hrun : (execOp a.eval o).run P w = .ok (.enter f args) w)
  (hc : Calls P f args w fun e w' => ∃ v, e = .returned v ∧ R v w') (h : ∀ v w', R v w' → K (a.put (some d) v) w') : wpOp P ops Q i K a w := by
 simp only [← hd] at h
 simp only [wpOp, ho, hw, if_true]
 refine .inl ?_
 unfold Oper.wp
 rw [hrun]
 simp only [Oper.upon]
 refine hc.mono fun e w' ⟨v, he, hb⟩ => ?_
 subst he
 exact h v w' hb
theorem wpOp_val (i : Nat) {d : Tmp} {v : Value} {w' : World} (ho : ops[i]? = some o) (hd : o.dst = some d) (hw : Region.wanted o (yielded ops a.tmps) = true) (hrun : (execOp a.eval o).run P w = .ok (.value v) w')
  (h : K (a.put (some d) v) w') : wpOp P ops Q i K a w := by
 simp only [← hd] at h
 simp only [wpOp, ho, hw, if_true]
 refine .inl ?_
 unfold Oper.wp
 rw [hrun]
 exact h
theorem qdl {fuel : Nat} (i j : Nat) (hr : Region.ready .any ops listed = [i, j]) (h1 : wpOp P ops Q i (fun a' w' => S (listed.setIfInBounds i true) w' ∧ qb5 P ops Q S fuel (listed.setIfInBounds i true) a' w') a w)
  (h2 : wpOp P ops Q j (fun a' w' => S (listed.setIfInBounds j true) w' ∧ qb5 P ops Q S fuel (listed.setIfInBounds j true) a' w') a w) : qb5 P ops Q S (fuel + 1) listed a w := by
 refine ⟨fun e => (by rw [hr] at e; cases e), fun k hk => ?_⟩
 rw [hr] at hk
 rcases List.mem_cons.1 hk with rfl | hk
 ·exact h1
 ·obtain rfl := List.mem_singleton.1 hk
  exact h2
theorem qbo {fuel : Nat} (i : Nat) {w' : World} (hr : Region.ready .any ops listed = [i]) (ho : ops[i]? = some o) (hd : o.dst = none) (hw : Region.wanted o (yielded ops a.tmps) = true) (hrun : (execOp a.eval o).run P w = .ok .skip w') (hS : S (listed.setIfInBounds i true) w')
  (hn : qb5 P ops Q S fuel (listed.setIfInBounds i true) a w') : qb5 P ops Q S (fuel + 1) listed a w := by
 refine ⟨fun e => (by rw [hr] at e; cases e), fun j hj => ?_⟩
 rw [hr] at hj
 obtain rfl : j = i := by simpa using hj
 simp only [wpOp, ho, hw, if_true]
 refine .inl ?_
 unfold Oper.wp
 rw [hrun]
 simp only [Oper.upon, hd]
 exact ⟨hS, hn⟩
end
end Go.Proofs.YtcgbgmbnagmohaaDoor
