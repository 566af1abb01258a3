import Derived.Test.YtcgbgmbnagmohaaDoorGen
import Derived.Laws.AppendOwn
import Derived.Laws.OwnMore
import Derived.Laws.MakeOwn
import Derived.Great.BuildSlice
namespace Go.Proofs.YtcgbgmbnagmohaaDoor
open Go.RowKit
set_option maxRecDepth 20000
theorem below_grown {w w' : World} {row : Option Nat} {B : Nat} (h : w.grownBy w' row) (hr : ∀ k, row = some k → B ≤ k) (hB : B ≤ w.heap.size) : Below B w w' :=
 ⟨h.os, h.tape, h.output, h.size, fun k hk => h.block k (Nat.lt_of_lt_of_le hk hB) (fun e => by have := hr k e.symm; omega)⟩
theorem own_lt {w : World} {base e : Nat} {size : Nat} {v : Value} {n : Nat} {xs : List Value} (h : w.ownsRow base e size v n xs) : ∀ k, v.ownBlock = some k → base ≤ k := fun k hk => (h.lt k hk).1
theorem own_below {w w' : World} {base e : Nat} {size : Nat} {v : Value} {n : Nat} {xs : List Value} (h : w.ownsRow base e size v n xs) (hb : Below w.heap.size w w') : w'.ownsRow base e size v n xs :=
 h.kept (row := none) ⟨hb.os, hb.tape, hb.output, hb.size, fun k hk _ => hb.block k hk⟩ (by cases hv : v.ownBlock <;> simp)
theorem own_mono {w : World} {base base' e n : Nat} {v : Value} {vs : List Value} (h : w.ownsRow base e 1 v n vs) (hb : base' ≤ base) : w.ownsRow base' e 1 v n vs := by
 refine ⟨h.1, ?_⟩
 rcases h.2 with h1 | ⟨g, cap, cur, h1, h2, h3⟩
 ·exact .inl h1
 ·exact .inr ⟨g, cap, cur, h1, Nat.le_trans hb h2, h3⟩
section
variable {w : World} {ops : Array Oper} {Q : Exit → Act → World → Prop} {rest : List Oper} {o : Oper} {a : Act} {α : Type}
theorem wpList_app {f : α → Value} (hf : ∀ x, (f x).oneCell' = true) {s x : Operand} {t e : TypeId} {bw : Nat} {z : Value} (hg : o.guard = none) (ho : o.op = .call { callee := .builtin .append, args := #[s, x], argTypes := #[t, t] }) (ht : Tryd.prog.underlying t = some (.slice e))
  (hi : (Tryd.prog.info? e).map (fun i => (i.size, i.bytes, i.zero)) = some (1, bw, some z)) (hz : z.cells.size = 1) (hby : bw ≤ 8) {base n c : Nat} {v : Value} {l m : List α} {g : Nat} {off : Nat} (hs : a.eval s = v) (hown : w.ownsRow base e 1 v n (l.map f)) (hx : a.eval x = .slice (some ⟨g, off, none⟩) m.length c)
  (hA : w.rangeAt g off (m.map f)) (hn : n + m.length ≤ 16777216) (hbase : base ≤ w.heap.size)
  (h : ∀ v' w', w'.ownsRow base e 1 v' (n + m.length) ((l ++ m).map f) → Below base w w' → wpList Tryd.prog ops Q rest (a.put o.dst v') w') : wpList Tryd.prog ops Q (o :: rest) a w := by
 obtain ⟨inf, h1, h2⟩ := Option.map_eq_some_iff.1 hi
 obtain ⟨e1, e2, e3⟩ : inf.size = 1 ∧ inf.bytes = bw ∧ inf.zero = some z := by simpa using h2
 refine wpList_append_own w hg s x t ho base e inf z 1 bw ht h1 e3 e1 e2 hz (by omega) v n (l.map f) hs hown ⟨g, off, none⟩ m.length c (m.map f) hx (by simp) (fun j u hu => by rw [Addr.add_mid]; exact hA j u hu) (fun u hu => by rw [List.mem_map] at hu; obtain ⟨x, _, rfl⟩ := hu; exact hf x)
  (by unfold maxLen; omega) (Nat.le_trans (Nat.mul_le_mul hn hby) (by omega)) hbase fun v' w' h3 h4 _ => h v' w' (by rw [List.map_append]; exact h3) (below_grown h4 (own_lt hown) hbase)
end
section
variable {w : World} {ρ : Operand → Value} {o : Oper} {x y : Operand} {t t' : TypeId}
theorem run_bsl {t e : TypeId} {n : Nat} {parts : Array (Nat × Operand)} {cells : Array Value} {z : Value} (ho : o.op = .buildSlice t n parts) (ht : Tryd.prog.underlying t = some (.slice e)) (hi : (Tryd.prog.info? e).map (fun i => (i.size, i.zero)) = some (1, some z)) (hn : n ≤ 1000) (hp : 0 < n)
  (hf : Instr.fill (fun i => some (i * 1, 1)) ((Array.range (n * 1)).map (z.cells[· % z.cells.size]!)) (parts.map fun (i, x) => (i, ρ x)).toList = some cells) : (execOp ρ o).run Tryd.prog w = .ok (.value (.slice (some ⟨w.heap.size, 0, none⟩) n n)) (w.alloc (.cells cells e)) := by
 obtain ⟨inf, h1, h2⟩ := Option.map_eq_some_iff.1 hi
 obtain ⟨e1, e2⟩ : inf.size = 1 ∧ inf.zero = some z := by simpa using h2
 have h := run_buildSlice (P := Tryd.prog) w t e n (parts.map fun (i, x) => (i, ρ x)) cells inf z ht h1 e2 (by rw [e1]; omega) (by rw [e1]; omega) (by rw [e1]; exact hf)
 unfold execOp
 simp only [ho, Sem.run_bind, h]
 simp [go_sem]
theorem run_shri {n k : Nat} (ho : o.op = .binOp .shr t x y t') (hx : ρ x = .int .i64 (n : Int)) (hy : ρ y = .int .u64 (k : Int)) (hk : k ≤ 64) : (execOp ρ o).run Tryd.prog w = .ok (.value (.int .i64 ((n / 2 ^ k : Nat) : Int))) w := by
 obtain ⟨dst, op, type, pos, after, guard⟩ := o
 subst ho
 have e : ((n : Int) / 2 ^ k) = ((n / 2 ^ k : Nat) : Int) := by simp
 generalize n / 2 ^ k = z at *
 have hk0 : (0 : Int) ≤ (k : Int) := by omega
 go_simp
 try exact e
end
end Go.Proofs.YtcgbgmbnagmohaaDoor
