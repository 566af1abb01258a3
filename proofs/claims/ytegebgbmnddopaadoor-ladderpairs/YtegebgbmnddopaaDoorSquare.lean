/- What ladder.square does; blocks in pairs. -/
import Derived.Test.YtegebgbmnddopaaDoorFeOps
namespace Go.Proofs.YtegebgbmnddopaaDoor
open Go.RowKit

set_option maxHeartbeats 400000 in
theorem square_any (X : Int) (w : World) (hX : Num X) (hG : GCell 1 pp w) :
    Calls Tryd.prog 18 #[feV X] w fun e w' => e = .returned (feV (X * X % pp)) ∧ Below w.heap.size w w' := by
  have B := Lib.hid (Box1.start w X)
  replace hG := hG.below B.out.bl
  go_enter Tryd.func18, Tryd.ntmps18
  go_upto_region 1 with fail
  generalize ((w.alloc (.cells #[.int .u64 (w0 X), .int .u64 (w1 X), .int .u64 (w2 X), .int .u64 (w3 X)] 33)).alloc (.cells #[.int .u64 0, .int .u64 0, .int .u64 0, .int .u64 0] 33)) = u0 at *
  obtain ⟨bl, l0, l1, x0, x1, x2, x3, r0, r1, r2, r3, f0, f1, f2, f3⟩ := B.out
  go_wp2_with fail
  refine (mul_any X X _ hX hX hG).mono ?_
  clear bl l0 l1 x0 x1 x2 x3 r0 r1 r2 r3 f0 f1 f2 f3
  rintro e u ⟨rfl, hb⟩
  replace B := Lib.hid (B.out.next hb); obtain ⟨bl, l0, l1, x0, x1, x2, x3, r0, r1, r2, r3, f0, f1, f2, f3⟩ := B.out; clear hb
  go_wp2_with fail
  refine bodyPost_ret (v := feV (X * X % pp)) (by simp [results, Tryd.results18, go_sem, r0, r1, r2, r3]) rfl ⟨rfl, ?_⟩
  repeat' (first | exact Below.refl _ _ | assumption | refine Below.setCell ?_ ?_ _ | refine Below.alloc ?_ ?_ _ | refine Below.drew ?_ | refine Below.trans ?_ (Below.mono (by assumption) ?_) | (simp; done) | (simp; omega))
theorem enters_square : Enters 18 := enters_of Tryd.func18 (by kernel_rfl) rfl

theorem var_far4 {g c : Nat} {Z : Int} {u : World} (h : Var4 g Z u) (hne : c ≠ g) (Z' : Int) : Var4 g Z (set4 u c Z') := (((h.far hne _ _).far hne _ _).far hne _ _).far hne _ _
/-- Two new blocks, stored into. -/
theorem pair_after {u0 u : World} {g1 g2 : Nat} (hb : Below u0.heap.size u0 u) (s1 : Sown u0 (.cells #[.int .u64 0, .int .u64 0, .int .u64 0, .int .u64 0] 33) g1 u) (s2 : Sown u0 (.cells #[.int .u64 0, .int .u64 0, .int .u64 0, .int .u64 0] 33) g2 u) (hne : g1 ≠ g2) (A B : Int) :
    Below u0.heap.size u0 (set4 (set4 u g1 A) g2 B) ∧ Var4 g1 A (set4 (set4 u g1 A) g2 B) ∧ Var4 g2 B (set4 (set4 u g1 A) g2 B) :=
  ⟨set4_below s2.1 (set4_below s1.1 hb _) _, var_far4 (s1.var.set4 A) (Ne.symm hne) B, (var_far4 s2.var hne A).set4 B⟩
theorem wpCalm_done {P : Program} {w : World} {K : Act → Prop} {l : List Oper} {a : Act} (h : K a) : wpCalm P w K 0 l a := h
theorem wpList_done {P : Program} {ops : Array Oper} {Q : Exit → Act → World → Prop} {a : Act} {w : World} (h : Q .normal a w) : wpList P ops Q [] a w := h

/-- A number stored, in a region that draws its order, where nothing else may come up. -/
theorem wpAnyH_store_fe {ops : Array Oper} {Q : Exit → Act → World → Prop} {S : World → Prop} {fuel : Nat} {listed : Array Bool} {a : Act} {w : World} {i : Nat} {o : Oper} {x y : Operand} {g : Nat} {X Z : Int} (hr : Region.ready .any ops listed = [i]) (ho : ops[i]? = some o) (hop : o.op = .store 33 x y) (hd : o.dst = none) (hg : o.guard = none)
    (hx : a.eval x = .pointer (some ⟨g, 0, none⟩)) (hy : a.eval y = feV Z) (h : Var4 g X w) (hS : S (set4 w g Z)) (hn : wpAnyH Tryd.prog .any ops Q S fuel (listed.setIfInBounds i true) a (set4 w g Z)) : wpAnyH Tryd.prog .any ops Q S (fuel + 1) listed a w := by
  refine wpAnyH_all hr (by simp) fun j hj => ?_
  obtain rfl : j = i := by simpa using hj
  have hw : Region.wanted o (yielded ops a.tmps) = true := by unfold Region.wanted; rw [hg]
  simp only [wpOp, ho, hw, if_true]
  refine .inl ?_
  unfold Oper.wp
  rw [run_store_fe h hop hx hy]
  simp only [Oper.upon, hd]
  exact ⟨hS, hn⟩
/-- A number loaded first, in a region that draws its order. -/
theorem wpAnyH_load_fe {ops : Array Oper} {Q : Exit → Act → World → Prop} {S : World → Prop} {fuel : Nat} {listed : Array Bool} {a : Act} {w : World} {i : Nat} {o : Oper} {x : Operand} {g d : Nat} {X : Int} (hi : ops[i]? = some o) (hop : o.op = .load 33 x) (hd : o.dst = some d) (hg : o.guard = none)
    (hs : Region.noSelect ops = true) (hf : Region.free .any ops listed i = true) (hr : (Region.ready .any ops listed).contains i = true) (hQ : ∀ c a w, Q (.panic c) (a.put (some d) (feV X)) w → Q (.panic c) a w)
    (hx : a.eval x = .pointer (some ⟨g, 0, none⟩)) (hV : ∀ V, S V → Var4 g X V) (hS : S w) (h : wpAnyH Tryd.prog .any ops Q S fuel (listed.setIfInBounds i true) (a.put (some d) (feV X)) w) : wpAnyH Tryd.prog .any ops Q S (fuel + 1) listed a w := by
  rw [← hd] at h hQ
  refine wpAnyH_take hi hs hf hr hQ (Or.inl ⟨?_, fun V hS => run_load_fe (hV V hS) hop hx⟩) hS h
  unfold Region.wanted; rw [hg]
theorem four_far {b2 b3 b4 b5 c : Nat} {A B C D Z : Int} {u : World} (h : Var4 b2 A u ∧ Var4 b3 B u ∧ Var4 b4 C u ∧ Var4 b5 D u) (n2 : c ≠ b2) (n3 : c ≠ b3) (n4 : c ≠ b4) (n5 : c ≠ b5) : Var4 b2 A (set4 u c Z) ∧ Var4 b3 B (set4 u c Z) ∧ Var4 b4 C (set4 u c Z) ∧ Var4 b5 D (set4 u c Z) :=
  ⟨var_far4 h.1 n2 _, var_far4 h.2.1 n3 _, var_far4 h.2.2.1 n4 _, var_far4 h.2.2.2 n5 _⟩
theorem Var4.later {g : Nat} {X : Int} {u : World} (h : Var4 g X u) (o : Obj) : Var4 g X (u.alloc o) := h.below ((Below.refl _ _).alloc (Nat.le_refl _) _)
theorem Var4.new' {u : World} {n : Nat} (hn : u.heap.size = n) (X : Int) : Var4 n X (u.alloc (.cells #[.int .u64 (w0 X), .int .u64 (w1 X), .int .u64 (w2 X), .int .u64 (w3 X)] 33)) := hn ▸ Var4.new u X
end Go.Proofs.YtegebgbmnddopaaDoor
