/- A region that draws its order and ends in an append. Plain facts on the model. -/
import Derived.Test.YtgioojahadlmhaaLateT
import Derived.Test.YtgioojahadlmhaaApp
namespace Go.Proofs.Ytgioojahadlmhaa
open Go.RowKit
set_option maxRecDepth 20000

section
variable {w : World} {ops : Array Oper} {Q : Exit → Act → World → Prop} {o : Oper} {a : Act} {α : Type} {S : World → Prop}
theorem wpAnyD_app {fuel : Nat} {listed : Array Bool} {f : α → Value} (hf : ∀ x, (f x).oneCell' = true) {s x : Operand} {t e : TypeId} {bw : Nat} {z : Value} (i : Nat) {d : Tmp} (hr : Region.ready .any ops listed = [i]) (hoo : ops[i]? = some o) (hd : o.dst = some d) (hw : Region.wanted o (yielded ops a.tmps) = true) (hl : (listed.setIfInBounds i true).getD i false = true)
    (ho : o.op = .call { callee := .builtin .append, args := #[s, x], argTypes := #[t, t] }) (ht : Try.prog.underlying t = some (.slice e))
    (hi : (Try.prog.info? e).map (fun i => (i.size, i.bytes, i.zero)) = some (1, bw, some z)) (hz : z.cells.size = 1) (hby : bw ≤ 8) {base n c : Nat} {v : Value} {l m : List α} {g : Nat} {off : Nat} (hs : a.eval s = v) (hown : w.ownsRow base e 1 v n (l.map f)) (hx : a.eval x = .slice (some ⟨g, off, none⟩) m.length c)
    (hA : w.rangeAt g off (m.map f)) (hn : n + m.length ≤ 16777216) (hbase : base ≤ w.heap.size)
    (h : ∀ v' w', w'.ownsRow base e 1 v' (n + m.length) ((l ++ m).map f) → Below base w w' → wpAnyL Try.prog ops Q (Till i S) fuel (listed.setIfInBounds i true) (a.put (some d) v') w') : wpAnyL Try.prog ops Q (Till i S) (fuel + 1) listed a w := by
  simp only [← hd] at h
  obtain ⟨inf, h1, h2⟩ := Option.map_eq_some_iff.1 hi
  obtain ⟨e1, e2, e3⟩ : inf.size = 1 ∧ inf.bytes = bw ∧ inf.zero = some z := by simpa using h2
  refine ⟨fun e => (by rw [hr] at e; cases e), fun j hj => ?_⟩
  rw [hr] at hj
  obtain rfl : j = i := by simpa using hj
  simp only [wpOp, hoo, hw, if_true]
  refine .inl ?_
  refine wp_append_own w s x t ho base e inf z 1 bw ht h1 e3 e1 e2 hz (by omega) v n (l.map f) hs hown ⟨g, off, none⟩ m.length c (m.map f) hx (by simp) (fun j u hu => by rw [Addr.add_mid]; exact hA j u hu) (fun u hu => by rw [List.mem_map] at hu; obtain ⟨x, _, rfl⟩ := hu; exact hf x)
    (by unfold maxLen; omega) (Nat.le_trans (Nat.mul_le_mul hn hby) (by omega)) hbase fun v' w' h3 h4 _ => ⟨.inl hl, h v' w' (by rw [List.map_append]; exact h3) (below_grown h4 (own_lt hown) hbase)⟩
theorem arr_stands {g B : Nat} {vs : List Value} {u u' : World} (h : Arr g vs u) (hb : Below B u u') (hg : g < B := by omega) : Arr g vs u' :=
  ⟨Nat.lt_of_lt_of_le h.lt hb.size, fun i v hi => by rw [hb.cell (p := ⟨g, i, none⟩) hg]; exact h.c i v hi, fun i => by rw [hb.frozen (p := ⟨g, i, none⟩) hg]; exact h.f i⟩
/-- What is owned, and holds something, is a row of its own. -/
theorem own_arr {base e n : Nat} {v : Value} {vs : List Value} (h : w.ownsRow base e 1 v n vs) (hn : 0 < n) : ∃ g c, v = .slice (some ⟨g, 0, none⟩) n c ∧ n ≤ c ∧ base ≤ g ∧ Arr g vs w := by
  rcases h.2 with ⟨_, hn'⟩ | ⟨g, cap, cur, rfl, hb, hg, h1, _, _, h4⟩
  · omega
  · refine ⟨g, cap, rfl, h1, hb, (Array.getElem?_eq_some_iff.1 hg).1, fun i v hv => ?_, fun i => ?_⟩
    · simp only [World.cell?, hg]
      rw [← h4] at hv
      have hi : i < n * 1 := by
        rcases Nat.lt_or_ge i (n * 1) with h | h
        · exact h
        · rw [List.getElem?_eq_none (by simp; omega)] at hv; cases hv
      rw [List.getElem?_take_of_lt hi] at hv
      simpa using hv
    · simp [World.frozen?, hg]
end
end Go.Proofs.Ytgioojahadlmhaa
