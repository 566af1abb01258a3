/- Slices that grow by append, in memory of their own. -/
import Derived.Test.YtobpgolchlgpfaaDoorBsl
import Derived.Laws.AppendOwn
import Derived.Laws.OwnMore
namespace Go.Proofs.YtobpgolchlgpfaaDoor
open Go.RowKit
set_option maxRecDepth 20000

theorem below_grown {w w' : World} {row : Option Nat} {B : Nat} (h : w.grownBy w' row) (hr : ∀ k, row = some k → B ≤ k) (hB : B ≤ w.heap.size) : Below B w w' :=
  ⟨h.os, h.tape, h.output, h.size, fun k hk => h.block k (Nat.lt_of_lt_of_le hk hB) (fun e => by have := hr k e.symm; omega)⟩
theorem own_lt {w : World} {base e : Nat} {size : Nat} {v : Value} {n : Nat} {xs : List Value} (h : w.ownsRow base e size v n xs) : ∀ k, v.ownBlock = some k → base ≤ k := fun k hk => (h.lt k hk).1
theorem own_below {w w' : World} {base e : Nat} {size : Nat} {v : Value} {n : Nat} {xs : List Value} (h : w.ownsRow base e size v n xs) (hb : Below w.heap.size w w') : w'.ownsRow base e size v n xs :=
  h.kept (row := none) ⟨hb.os, hb.tape, hb.output, hb.size, fun k hk _ => hb.block k hk⟩ (by cases hv : v.ownBlock <;> simp)
/-- What is owned is read. -/
theorem Sl.own {w : World} {base : Nat} {v : Value} {l : List (BitVec 8)} (h : w.ownsRow base 5 1 v l.length (l.map b8)) : Sl v l w := by
  rcases h.2 with ⟨rfl, hn⟩ | ⟨g, cap, cur, rfl, hb, hg, h1, h2, h3, h4⟩
  · exact ⟨none, 0, by rw [hn], by omega, fun he => absurd (List.eq_nil_of_length_eq_zero hn) he⟩
  · refine ⟨_, cap, rfl, h1, fun _ => ⟨g, 0, rfl, (Array.getElem?_eq_some_iff.1 hg).1, fun j v hv => ?_⟩⟩
    have hj : j < (l.map b8).length := by
      rcases Nat.lt_or_ge j (l.map b8).length with h | h
      · exact h
      · rw [List.getElem?_eq_none h] at hv; cases hv
    have hj' : j < l.length := by simpa using hj
    rw [Nat.zero_add]
    simp only [World.cell?, hg]
    rw [← hv, ← h4]
    simp [hj']
section
variable {w : World} {ops : Array Oper} {Q : Exit → Act → World → Prop} {rest : List Oper} {o : Oper} {a : Act} {α : Type}
/-- append of elements that lie in another row. -/
theorem wpList_app {f : α → Value} (hf : ∀ x, (f x).oneCell' = true) {s x : Operand} {t e : TypeId} {bw : Nat} {z : Value} (hg : o.guard = none) (ho : o.op = .call { callee := .builtin .append, args := #[s, x], argTypes := #[t, t] }) (ht : Tryd.prog.underlying t = some (.slice e))
    (hi : (Tryd.prog.info? e).map (fun i => (i.size, i.bytes, i.zero)) = some (1, bw, some z)) (hz : z.cells.size = 1) (hby : bw ≤ 8) {base n c : Nat} {v : Value} {l m : List α} {g : Nat} {off : Nat} (hs : a.eval s = v) (hown : w.ownsRow base e 1 v n (l.map f)) (hx : a.eval x = .slice (some ⟨g, off, none⟩) m.length c)
    (hA : w.rangeAt g off (m.map f)) (hn : n + m.length ≤ 16777216) (hbase : base ≤ w.heap.size)
    (h : ∀ v' w', w'.ownsRow base e 1 v' (n + m.length) ((l ++ m).map f) → Below base w w' → wpList Tryd.prog ops Q rest (a.put o.dst v') w') : wpList Tryd.prog ops Q (o :: rest) a w := by
  obtain ⟨inf, h1, h2⟩ := Option.map_eq_some_iff.1 hi
  obtain ⟨e1, e2, e3⟩ : inf.size = 1 ∧ inf.bytes = bw ∧ inf.zero = some z := by simpa using h2
  refine wpList_append_own w hg s x t ho base e inf z 1 bw ht h1 e3 e1 e2 hz (by omega) v n (l.map f) hs hown ⟨g, off, none⟩ m.length c (m.map f) hx (by simp) (fun j u hu => by rw [Addr.add_mid]; exact hA j u hu) (fun u hu => by rw [List.mem_map] at hu; obtain ⟨x, _, rfl⟩ := hu; exact hf x)
    (by unfold maxLen; omega) (Nat.le_trans (Nat.mul_le_mul hn hby) (by omega)) hbase fun v' w' h3 h4 _ => h v' w' (by rw [List.map_append]; exact h3) (below_grown h4 (own_lt hown) hbase)
end
end Go.Proofs.YtobpgolchlgpfaaDoor
