import Derived.Test.YtgioojahadlmhaaRdC
import Derived.Test.YtgioojahadlmhaaPwA
import Derived.WalkSmall
namespace Go.Proofs.Ytgioojahadlmhaa
open Go.RowKit
set_option maxRecDepth 20000
attribute [local irreducible] wpList
structure Kp (p : Nat) (u u' : World) : Prop where
  os : u'.os = u.os
  tape : u'.tape = u.tape
  output : u'.output = u.output
  size : u.heap.size ≤ u'.heap.size
  block : ∀ k, k < u.heap.size → k ≠ p → u'.heap[k]? = u.heap[k]?
theorem Kp.refl (p : Nat) (u : World) : Kp p u u := ⟨rfl, rfl, rfl, Nat.le_refl _, fun _ _ _ => rfl⟩
theorem Kp.trans {p : Nat} {a b c : World} (h : Kp p a b) (k : Kp p b c) : Kp p a c :=
  ⟨k.os.trans h.os, k.tape.trans h.tape, k.output.trans h.output, Nat.le_trans h.size k.size, fun i hi hp => (k.block i (Nat.lt_of_lt_of_le hi h.size) hp).trans (h.block i hi hp)⟩
theorem Kp.fresh {p B : Nat} {w u u' : World} (h : Kp p w u) (hb : Below B u u') (hB : w.heap.size ≤ B) : Kp p w u' :=
  ⟨hb.os.trans h.os, hb.tape.trans h.tape, hb.output.trans h.output, Nat.le_trans h.size hb.size, fun k hk hp => (hb.block k (Nat.lt_of_lt_of_le hk hB)).trans (h.block k hk hp)⟩
theorem Kp.below {p : Nat} {w u u' : World} (hw : w.heap.size ≤ p) (h : Below w.heap.size w u) (k : Kp p u u') : Below w.heap.size w u' :=
  ⟨k.os.trans h.os, k.tape.trans h.tape, k.output.trans h.output, Nat.le_trans h.size k.size, fun i hi => (k.block i (Nat.lt_of_lt_of_le hi h.size) (by omega)).trans (h.block i hi)⟩
theorem Kp.arr {p g : Nat} {l : List Value} {u u' : World} (k : Kp p u u') (h : Arr g l u) (hg : g ≠ p) : Arr g l u' := h.same k.size (k.block g h.lt hg)
theorem Kp.base {p : Nat} {w u u' : World} (hw : p < w.heap.size) (h : Below w.heap.size w u) (k : Kp p u u') : ∃ w', w'.heap.size = w.heap.size ∧ Kp p w w' ∧ Below w'.heap.size w' u' := by
  have hp : p < u'.heap.size := Nat.lt_of_lt_of_le hw (Nat.le_trans h.size k.size)
  refine ⟨{ w with heap := w.heap.setIfInBounds p u'.heap[p] }, by simp, ⟨rfl, rfl, rfl, by simp, fun b hb hne => ?_⟩, ⟨k.os.trans h.os, k.tape.trans h.tape, k.output.trans h.output, by simpa using Nat.le_trans h.size k.size, fun b hb => ?_⟩⟩
  · simp only [Array.getElem?_setIfInBounds, if_neg (Ne.symm hne)]
  · have hb' : b < w.heap.size := by simpa using hb
    by_cases e : b = p
    · subst e
      simp [hb', hp]
    · simp only [Array.getElem?_setIfInBounds, if_neg (Ne.symm e)]
      exact (k.block b (Nat.lt_of_lt_of_le hb' h.size) e).trans (h.block b hb')
section
variable {w u u' : World} {L : List (Nat × List Value)} {K : List Nat} {F H H0 : World → Prop} {p : Nat}
theorem Ev.kept (e : Ev w L K (fun _ => True) H u) (hp : p < w.heap.size) (k : Kp p u u') (h0 : Fro u.heap.size H0 u') : ∃ w', w'.heap.size = w.heap.size ∧ Kp p w w' ∧ Ev w' L K (fun _ => True) (fun V => H0 V ∧ H V) u' := by
  obtain ⟨w', h1, h2, h3⟩ := Kp.base hp e.mv.bl k
  refine ⟨w', h1, h2, ⟨⟨h3, e.mv.nd, fun q hq => ⟨by rw [h1]; exact (e.mv.all q hq).1, k.arr (e.mv.all q hq).2 (by have := (e.mv.all q hq).1; omega)⟩⟩, fun b hb => Nat.lt_of_lt_of_le (e.kb b hb) k.size, fun _ _ => trivial, fun V hV => ⟨?_, ?_⟩⟩⟩
  · exact h0 V ⟨hV.size, fun b b1 b2 _ => hV.block b (by rw [h1]; exact Nat.le_trans e.mv.bl.size b1) b2 fun hm => Nat.lt_irrefl _ (Nat.lt_of_lt_of_le (e.gs hm) b1)⟩
  · rw [h1] at hV
    exact e.hs V ⟨Nat.le_trans k.size hV.size, fun b b1 b2 b3 => (hV.block b b1 (Nat.lt_of_lt_of_le b2 k.size) b3).trans (k.block b b2 (by omega))⟩
theorem Gw.kept {e : TypeId} {z n : Nat} {v : Value} {cs : List Value} (G : Gw w L e z v n cs (fun _ => True) H u) (hp : p < w.heap.size) (k : Kp p u u') (h0 : Fro u.heap.size H0 u') : ∃ w', w'.heap.size = w.heap.size ∧ Kp p w w' ∧ Gw w' L e z v n cs (fun _ => True) (fun V => H0 V ∧ H V) u' := by
  obtain ⟨w', h1, h2, h3⟩ := G.ev.kept hp k h0
  exact ⟨w', h1, h2, h3, by rw [h1]; exact ownsRow_at G.row fun q hq => k.block q (qa2 G.row hq).2 (by have := (qa2 G.row hq).1; omega), G.ap⟩
end
def Kb (B p : Nat) (u V : World) : Prop := u.heap.size ≤ V.heap.size ∧ ∀ k, k < B → k ≠ p → V.heap[k]? = u.heap[k]?
structure RdS (B p : Nat) (b : List (BitVec 8)) (i : Nat) (u : World) : Prop where
  le : i ≤ b.length
  pB : p < B
  Bu : B ≤ u.heap.size
  ex : ∃ al cl, Arr p [.slice al (b.drop i).length cl] u ∧ ∀ V, Kb B p u V → Sl (.slice al (b.drop i).length cl) (b.drop i) V
theorem RdS.step {B p : Nat} {b : List (BitVec 8)} {i : Nat} {u u' : World} (h : RdS B p b i u) (hb : Below B u u') : RdS B p b i u' := by
  obtain ⟨h1, h2, h3, al, cl, h4, h5⟩ := h
  exact ⟨h1, h2, Nat.le_trans h3 hb.size, al, cl, h4.same hb.size (hb.block p h2), fun V hV => h5 V ⟨Nat.le_trans hb.size hV.1, fun k hk hp => (hV.2 k hk hp).trans (hb.block k hk)⟩⟩
theorem RdS.below {B p : Nat} {b : List (BitVec 8)} {i : Nat} {u u' : World} (h : RdS B p b i u) (hb : Below u.heap.size u u') : RdS B p b i u' := h.step (hb.mono h.Bu)
def pan (e : Int) : PanicEntry := { v := if e = 10 then .iface 145 (.agg #[]) else .iface 148 (.agg #[]), recovered := false }
def RPost (B p : Nat) (b : List (BitVec 8)) (u : World) (s : Nat × Int) (T : Value → World → Prop) (e : Ending) (u' : World) : Prop :=
  Kp p u u' ∧ ((s.2 = 0 ∧ RdS B p b s.1 u' ∧ ∃ v, e = .returned v ∧ T v u') ∨ (s.2 ≠ 0 ∧ e = .panicked [pan s.2]))
section
variable {ops : Array Oper} {Q : Exit → Act → World → Prop} {rest : List Oper} {o : Oper} {a : Act} {w : World}
theorem qah {f : FuncId} {args : Array Value} {B p : Nat} {b : List (BitVec 8)} {s : Nat × Int} {T : Value → World → Prop} (hr : (execOp a.eval o).run Try.prog w = .ok (.enter f args) w) (hg : o.guard = none) (hc : Calls Try.prog f args w (RPost B p b w s T))
    (h1 : ∀ v w', s.2 = 0 → Kp p w w' → RdS B p b s.1 w' → T v w' → wpList Try.prog ops Q rest (a.put o.dst v) w') (h2 : ∀ w', s.2 ≠ 0 → Kp p w w' → Q (.panic [pan s.2]) a w') : wpList Try.prog ops Q (o :: rest) a w := by
  have hw : Region.wanted o (yielded ops a.tmps) = true := by unfold Region.wanted; rw [hg]
  simp only [wpList, hw, if_true]
  refine .inl ?_
  unfold Oper.wp
  rw [hr]
  simp only [Oper.upon]
  refine hc.mono fun e w' h => ?_
  obtain ⟨hk, ⟨h3, h4, v, rfl, h5⟩ | ⟨h3, rfl⟩⟩ := h
  · exact h1 v w' h3 hk h4 h5
  · exact h2 w' h3 hk
theorem qbt {x : Operand} {t : TypeId} {v : Value} (hg : o.guard = none) (ho : o.op = .panic x) (hx : a.eval x = .iface t v) (h : Q (.panic [{ v := .iface t v, recovered := false }]) a w) : wpList Try.prog ops Q (o :: rest) a w := by
  have hw : Region.wanted o (yielded ops a.tmps) = true := by unfold Region.wanted; rw [hg]
  simp only [wpList, hw, if_true]
  refine .inl ?_
  unfold Oper.wp execOp
  simp only [ho, hx]
  simp [run_panic_iface, Oper.upon]
  exact h
end
theorem run_mki {w : World} {ρ : Operand → Value} {o : Oper} {x : Operand} {t : TypeId} {v : Value} (ho : o.op = .makeInterface t x) (ht : Try.prog.concrete t = true) (hx : ρ x = v) : (execOp ρ o).run Try.prog w = .ok (.value (.iface t v)) w := by
  unfold execOp
  simp only [ho, hx, Sem.run_bind, run_makeInterface (w := w) t v ht]
  simp [go_sem]
theorem Sl.takeN {al : Option Addr} {cl n : Nat} {l : List (BitVec 8)} {u : World} (h : Sl (.slice al l.length cl) l u) (hn : n ≤ l.length) : Sl (.slice al n cl) (l.take n) u := by
  obtain ⟨a2, c2, h1, h2, h3⟩ := h
  injection h1 with e1 _ e2
  subst e1 e2
  refine ⟨al, cl, by rw [List.length_take, Nat.min_eq_left hn], by rw [List.length_take]; omega, fun h => ?_⟩
  obtain ⟨g, f, h4, h5, h6⟩ := h3 (by intro e; rw [e] at h; exact h (by simp))
  exact ⟨g, f, h4, h5, by rw [List.map_take]; exact qb9 h6⟩
end Go.Proofs.Ytgioojahadlmhaa
