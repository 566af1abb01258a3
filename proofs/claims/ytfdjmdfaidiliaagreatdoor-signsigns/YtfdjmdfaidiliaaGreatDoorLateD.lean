import Derived.Test.YtfdjmdfaidiliaaGreatDoorGenA
import Derived.Test.YtfdjmdfaidiliaaGreatDoorSl
import Derived.Great.BuildSlice
import Derived.Lib.SlBytesConst
import Derived.Laws.AppendOwn
import Derived.Laws.OwnMore
import Derived.Laws.BytesString
import Derived.Laws.Small
import Derived.Test.YtfdjmdfaidiliaaGreatDoorLateT
namespace Go.Proofs.YtfdjmdfaidiliaaGreatDoor
open Go.RowKit
set_option maxRecDepth 20000
section
variable {w : World} {ρ : Operand → Value} {o : Oper} {x y : Operand}
end
section
variable {w : World} {ρ : Operand → Value} {o : Oper} {x y : Operand} {t t' : TypeId}
end
end Go.Proofs.YtfdjmdfaidiliaaGreatDoor
namespace Go.Proofs.YtfdjmdfaidiliaaGreatDoor
open Go.RowKit
set_option maxRecDepth 20000
theorem Sl.own {w : World} {base : Nat} {v : Value} {l : List (BitVec 8)} (h : w.ownsRow base 5 1 v l.length (l.map b8)) : Sl v l w := by
  rcases h.2 with ⟨rfl, hn⟩ | ⟨g, cap, cur, rfl, hb, hg, h1, h2, h3, h4⟩
  · exact ⟨none, 0, by rw [hn], by omega, fun he => absurd (List.eq_nil_of_length_eq_zero hn) he⟩
  · refine ⟨_, cap, rfl, h1, fun _ => ⟨g, 0, rfl, (Array.getElem?_eq_some_iff.1 hg).1, fun j v hv => ?_⟩⟩
    have hj : j < (l.map b8).length := by
      rcases Nat.lt_or_ge j (l.map b8).length with h | h
      · exact h
      · rw [List.getElem?_eq_none h] at hv; cases hv
    have hj' : j < l.length := by simpa using hj
    rw [Nat.zero_add]
    simp only [World.cell?, hg]
    rw [← hv, ← h4]
    simp [hj']
section
variable {w : World} {ops : Array Oper} {Q : Exit → Act → World → Prop} {rest : List Oper} {o : Oper} {a : Act} {α : Type}
end
end Go.Proofs.YtfdjmdfaidiliaaGreatDoor
namespace Go.Proofs.YtfdjmdfaidiliaaGreatDoor
open Go.RowKit
set_option maxRecDepth 20000
theorem Sl.front {ao : Option Addr} {n c k : Nat} {l : List (BitVec 8)} {u : World} (h : Sl (.slice ao n c) l u) (hk : k ≤ l.length) : Sl (.slice ao k c) (l.take k) u := by
  obtain ⟨ao', c', h1, h2, h3⟩ := h
  injection h1 with e1 _ e2
  subst e1 e2
  refine ⟨_, c, by rw [List.length_take, Nat.min_eq_left hk], by rw [List.length_take]; omega, fun hn => ?_⟩
  obtain ⟨b, f, rfl, h5, h6⟩ := h3 (by intro e; apply hn; rw [e]; simp)
  exact ⟨b, f, rfl, h5, by rw [List.map_take]; exact rangeAt_take h6⟩
section
variable {w : World} {ρ : Operand → Value} {o : Oper} {x y : Operand} {t t' : TypeId}
end
end Go.Proofs.YtfdjmdfaidiliaaGreatDoor
namespace Go.Proofs.YtfdjmdfaidiliaaGreatDoor
open Go.RowKit
set_option maxRecDepth 20000
section
variable {w : World} {ops : Array Oper} {Q : Exit → Act → World → Prop} {o : Oper} {a : Act} {α : Type} {S : World → Prop}
theorem wpAnyD_app {fuel : Nat} {listed : Array Bool} {f : α → Value} (hf : ∀ x, (f x).oneCell' = true) {s x : Operand} {t e : TypeId} {bw : Nat} {z : Value} (i : Nat) {d : Tmp} (hr : Region.ready .any ops listed = [i]) (hoo : ops[i]? = some o) (hd : o.dst = some d) (hw : Region.wanted o (yielded ops a.tmps) = true) (hl : (listed.setIfInBounds i true).getD i false = true)
    (ho : o.op = .call { callee := .builtin .append, args := #[s, x], argTypes := #[t, t] }) (ht : Tryz.prog.underlying t = some (.slice e))
    (hi : (Tryz.prog.info? e).map (fun i => (i.size, i.bytes, i.zero)) = some (1, bw, some z)) (hz : z.cells.size = 1) (hby : bw ≤ 8) {base n c : Nat} {v : Value} {l m : List α} {g : Nat} {off : Nat} (hs : a.eval s = v) (hown : w.ownsRow base e 1 v n (l.map f)) (hx : a.eval x = .slice (some ⟨g, off, none⟩) m.length c)
    (hA : w.rangeAt g off (m.map f)) (hn : n + m.length ≤ 16777216) (hbase : base ≤ w.heap.size)
    (h : ∀ v' w', w'.ownsRow base e 1 v' (n + m.length) ((l ++ m).map f) → Below base w w' → qb2 Tryz.prog ops Q (Till i S) fuel (listed.setIfInBounds i true) (a.put (some d) v') w') : qb2 Tryz.prog ops Q (Till i S) (fuel + 1) listed a w := by
  simp only [← hd] at h
  obtain ⟨inf, h1, h2⟩ := Option.map_eq_some_iff.1 hi
  obtain ⟨e1, e2, e3⟩ : inf.size = 1 ∧ inf.bytes = bw ∧ inf.zero = some z := by simpa using h2
  refine ⟨fun e => (by rw [hr] at e; cases e), fun j hj => ?_⟩
  rw [hr] at hj
  obtain rfl : j = i := by simpa using hj
  simp only [wpOp, hoo, hw, if_true]
  refine .inl ?_
  refine wp_append_own w s x t ho base e inf z 1 bw ht h1 e3 e1 e2 hz (by omega) v n (l.map f) hs hown ⟨g, off, none⟩ m.length c (m.map f) hx (by simp) (fun j u hu => by rw [Addr.add_mid]; exact hA j u hu) (fun u hu => by rw [List.mem_map] at hu; obtain ⟨x, _, rfl⟩ := hu; exact hf x)
    (by unfold maxLen; omega) (Nat.le_trans (Nat.mul_le_mul hn hby) (by omega)) hbase fun v' w' h3 h4 _ => ⟨.inl hl, h v' w' (by rw [List.map_append]; exact h3) (below_grown h4 (own_lt hown) hbase)⟩
theorem arr_stands {g B : Nat} {vs : List Value} {u u' : World} (h : Arr g vs u) (hb : Below B u u') (hg : g < B := by omega) : Arr g vs u' :=
  ⟨Nat.lt_of_lt_of_le h.lt hb.size, fun i v hi => by rw [hb.cell (p := ⟨g, i, none⟩) hg]; exact h.c i v hi, fun i => by rw [hb.frozen (p := ⟨g, i, none⟩) hg]; exact h.f i⟩
theorem own_arr {base e n : Nat} {v : Value} {vs : List Value} (h : w.ownsRow base e 1 v n vs) (hn : 0 < n) : ∃ g c, v = .slice (some ⟨g, 0, none⟩) n c ∧ n ≤ c ∧ base ≤ g ∧ Arr g vs w := by
  rcases h.2 with ⟨_, hn'⟩ | ⟨g, cap, cur, rfl, hb, hg, h1, _, _, h4⟩
  · omega
  · refine ⟨g, cap, rfl, h1, hb, (Array.getElem?_eq_some_iff.1 hg).1, fun i v hv => ?_, fun i => ?_⟩
    · simp only [World.cell?, hg]
      rw [← h4] at hv
      have hi : i < n * 1 := by
        rcases Nat.lt_or_ge i (n * 1) with h | h
        · exact h
        · rw [List.getElem?_eq_none (by simp; omega)] at hv; cases hv
      rw [List.getElem?_take_of_lt hi] at hv
      simpa using hv
    · simp [World.frozen?, hg]
end
end Go.Proofs.YtfdjmdfaidiliaaGreatDoor
