/- Two slices that grow in turn, each in memory of its own; slices of keys that grow. -/
import Derived.Test.YtebmcjleepnehaaDoorKeySl
namespace Go.Proofs.YtebmcjleepnehaaDoor
open Go.RowKit

/-- Their memory is not the same. -/
def Apart (v v2 : Value) : Prop := ∀ k, v.ownBlock = some k → v2.ownBlock ≠ some k
theorem Apart.symm {v v2 : Value} (h : Apart v v2) : Apart v2 v := fun k h1 h2 => h k h2 h1
theorem Apart.nil (v : Value) : Apart (.slice none 0 0) v := fun k h => by cases h
theorem apart_new {w u : World} {base e e' n n' : Nat} {size size' : Nat} {v v2 : Value} {xs ys : List Value} (h : w.ownsRow base e size v n xs) (h2 : u.ownsRow w.heap.size e' size' v2 n' ys) : Apart v v2 := fun k h1 h3 => by
  have := (h.lt k h1).2
  have := (h2.lt k h3).1
  omega
section
variable {P : Program} {w : World}
theorem append_where (base : Nat) (t ty e : TypeId) (i : TypeInfo) (z : Value) (size bytes : Nat) (ht : P.underlying t = some (.slice e)) (hi : P.info? e = some i) (hz : i.zero = some z)
    (hsize : i.size = size) (hby : i.bytes = bytes) (hzs : z.cells.size = size) (hsz : 0 < size)
    (v : Value) (n : Nat) (xs : List Value) (hown : w.ownsRow base e size v n xs)
    (a : Addr) (m c : Nat) (news : List Value) (hl : news.length = m * size) (hnews : ∀ j u, news[j]? = some u → w.cell? (a.add j) = some u) (h1 : ∀ u ∈ news, u.oneCell' = true)
    (h63 : n + m ≤ maxLen) (hbytes : (n + m) * bytes ≤ 140737488355328) (hm : 0 < m) {v' : Value} {w' : World}
    (hr : (Builtin.append_ #[t, t] ty #[v, .slice (some a) m c]).run P w = .ok v' w') : v'.ownBlock = v.ownBlock ∨ v'.ownBlock = some w.heap.size := by
  subst hsize
  subst hby
  have hsmall : n + m ≤ 9223372036854775807 := by simp only [maxLen] at h63; omega
  rcases hown.2 with ⟨rfl, rfl⟩ | ⟨g, cap, cur, rfl, hbg, hg, hnc, hcm, hcs, htake⟩
  · have hr' := run_append_nil (P := P) w t ty e i z ht hi hz a m c news hl hnews (by omega) (by omega) (by have hb := hbytes; simp only [Nat.zero_add] at hb; omega)
    rw [hr'] at hr
    injection hr with e1 _
    exact .inr (by rw [← e1]; rfl)
  · by_cases hroom : n + m ≤ cap
    · have hfit : n * i.size + news.length ≤ cur.size := by rw [hl, hcs, ← Nat.add_mul]; exact Nat.mul_le_mul_right _ hroom
      have hr' := run_append_room (P := P) w t ty e i ht hi g n cap cur hg a m c news hl hnews h1 hroom hfit
      rw [hr'] at hr
      injection hr with e1 _
      exact .inl (by rw [← e1]; rfl)
    · have holds : ∀ j u, xs[j]? = some u → w.cell? ((⟨g, 0, none⟩ : Addr).add j) = some u := hown.cells (g := g) rfl
      have hr' := run_append_grow (P := P) w t ty e i z ht hi hz ⟨g, 0, none⟩ n cap xs hown.1 holds a m c news hl hnews (by omega) (by omega) (growslice_fits (by omega) hbytes)
      rw [hr'] at hr
      injection hr with e1 _
      exact .inr (by rw [← e1]; rfl)
end
section
variable {w : World} {ops : Array Oper} {Q : Exit → Act → World → Prop} {rest : List Oper} {o : Oper} {a : Act}
/-- append to one of two. -/
theorem wpList_app2 {s x : Operand} (hg : o.guard = none) (ho : o.op = .call { callee := .builtin .append, args := #[s, x], argTypes := #[22, 22] })
    {base base2 n n2 c : Nat} {v v2 : Value} {l m l2 : List (BitVec 8)} {g : Nat} {off : Nat} (hs : a.eval s = v) (hown : w.ownsRow base 5 1 v n (l.map b8)) (hown2 : w.ownsRow base2 5 1 v2 n2 (l2.map b8)) (hap : Apart v v2) (hx : a.eval x = .slice (some ⟨g, off, none⟩) m.length c)
    (hA : w.rangeAt g off (m.map b8)) (hn : n + m.length ≤ 16777216) (hm : 0 < m.length) (hbase : base ≤ w.heap.size)
    (h : ∀ v' w', w'.ownsRow base 5 1 v' (n + m.length) ((l ++ m).map b8) → w'.ownsRow base2 5 1 v2 n2 (l2.map b8) → Apart v' v2 → Below base w w' → wpList Tryd.prog ops Q rest (a.put o.dst v') w') : wpList Tryd.prog ops Q (o :: rest) a w := by
  have hi : (Tryd.prog.info? 5).map (fun i => (i.size, i.bytes, i.zero)) = some (1, 1, some (.int .u8 0)) := by kernel_rfl
  obtain ⟨inf, h1, h2⟩ := Option.map_eq_some_iff.1 hi
  obtain ⟨e1, e2, e3⟩ : inf.size = 1 ∧ inf.bytes = 1 ∧ inf.zero = some (.int .u8 0) := by simpa using h2
  have hc : ∀ j u, (m.map b8)[j]? = some u → w.cell? ((⟨g, off, none⟩ : Addr).add j) = some u := fun j u hu => by rw [Addr.add_mid]; exact hA j u hu
  have h8 : ∀ u ∈ m.map b8, u.oneCell' = true := fun u hu => by rw [List.mem_map] at hu; obtain ⟨x, _, rfl⟩ := hu; rfl
  obtain ⟨v', w', hr, h3, h4, _⟩ := run_append_own (P := Tryd.prog) w base 22 o.type 5 inf (.int .u8 0) 1 1 Tryd.underlying22 h1 e3 e1 e2 rfl (by omega) v n (l.map b8) hown ⟨g, off, none⟩ m.length c (m.map b8) (by simp) hc h8
    (by unfold maxLen; omega) (by omega) hbase
  have hw := append_where (P := Tryd.prog) base 22 o.type 5 inf (.int .u8 0) 1 1 Tryd.underlying22 h1 e3 e1 e2 rfl (by omega) v n (l.map b8) hown ⟨g, off, none⟩ m.length c (m.map b8) (by simp) hc h8 (by unfold maxLen; omega) (by omega) hm hr
  refine wpList_val (v := v') (w' := w') ?_ hg (h v' w' (by rw [List.map_append]; exact h3) ?_ ?_ (below_grown h4 (own_lt hown) hbase))
  · unfold execOp
    simp [ho, resolve, invoke, builtin, hs, hx, hr, Result.andThen]
  · refine hown2.kept h4 ?_
    cases hv : v2.ownBlock with
    | none => exact .inl rfl
    | some k => exact .inr fun he => hap k he.symm hv
  · intro k hk
    rcases hw with hw | hw
    · rw [hw] at hk; exact hap k hk
    · rw [hw] at hk
      injection hk with hk
      intro hk2
      have := (hown2.lt k hk2).2
      omega
/-- append of a key to keys. -/
theorem wpList_appK {s x : Operand} (hg : o.guard = none) (ho : o.op = .call { callee := .builtin .append, args := #[s, x], argTypes := #[24, 24] })
    {base n c : Nat} {v : Value} {l m : List (BitVec 8)} {g : Nat} (hs : a.eval s = v) (hown : w.ownsRow base 28 32 v n (l.map b8)) (hx : a.eval x = .slice (some ⟨g, 0, none⟩) 1 c) (hml : m.length = 32)
    (hA : w.rangeAt g 0 (m.map b8)) (hn : n ≤ 100000) (hbase : base ≤ w.heap.size)
    (h : ∀ v' w', w'.ownsRow base 28 32 v' (n + 1) ((l ++ m).map b8) → Below base w w' → wpList Tryd.prog ops Q rest (a.put o.dst v') w') : wpList Tryd.prog ops Q (o :: rest) a w := by
  have hi : (Tryd.prog.info? 28).map (fun i => (i.size, i.bytes, i.zero)) = some (32, 32, some (.agg (z8 32).toArray)) := by kernel_rfl
  obtain ⟨inf, h1, h2⟩ := Option.map_eq_some_iff.1 hi
  obtain ⟨e1, e2, e3⟩ : inf.size = 32 ∧ inf.bytes = 32 ∧ inf.zero = some (.agg (z8 32).toArray) := by simpa using h2
  refine wpList_append_own w hg s x 24 ho base 28 inf (.agg (z8 32).toArray) 32 32 Tryd.underlying24 h1 e3 e1 e2 (by decide +kernel) (by omega) v n (l.map b8) hs hown ⟨g, 0, none⟩ 1 c (m.map b8) hx (by simp [hml]) (fun j u hu => by rw [Addr.add_mid]; exact hA j u hu) (fun u hu => by rw [List.mem_map] at hu; obtain ⟨x, _, rfl⟩ := hu; rfl)
    (by unfold maxLen; omega) (by omega) hbase fun v' w' h3 h4 _ => h v' w' (by rw [List.map_append]; exact h3) (below_grown h4 (own_lt hown) hbase)
theorem fold_get : ∀ (xs : List Value) (k : Nat) (cs : Array Value) (i : Nat), ((xs.zipIdx k).foldl (fun cs (p : Value × Nat) => cs.setIfInBounds (0 * 32 + p.2) p.1) cs)[i]? = if k ≤ i ∧ i < k + xs.length ∧ i < cs.size then xs[i - k]? else cs[i]?
  | [], k, cs, i => by rw [if_neg (by simp; omega)]; rfl
  | x :: xs, k, cs, i => by
    rw [List.zipIdx_cons, List.foldl_cons, fold_get xs (k + 1), Nat.zero_mul, Nat.zero_add, Array.size_setIfInBounds, Array.getElem?_setIfInBounds]
    by_cases h1 : i = k
    · subst h1
      rw [if_neg (by omega)]
      by_cases h2 : i < cs.size
      · rw [if_pos rfl, if_pos h2, if_pos ⟨by omega, by simp, h2⟩]; simp
      · rw [if_pos rfl, if_neg h2, if_neg (by omega), Array.getElem?_eq_none (by omega)]
    · by_cases h2 : k + 1 ≤ i ∧ i < k + 1 + xs.length ∧ i < cs.size
      · rw [if_pos h2, if_pos ⟨by omega, by simp; omega, h2.2.2⟩, show i - k = (i - (k + 1)) + 1 by omega, List.getElem?_cons_succ]
      · rw [if_neg h2, if_neg (Ne.symm h1), if_neg (by simp; omega)]
/-- A slice of one key. -/
theorem run_bslK {ρ : Operand → Value} {y : Operand} {l : List (BitVec 8)} (ho : o.op = .buildSlice 24 1 #[(0, y)]) (hl : l.length = 32) (hy : ρ y = .agg (l.map b8).toArray) : (execOp ρ o).run Tryd.prog w = .ok (.value (.slice (some ⟨w.heap.size, 0, none⟩) 1 1)) (w.alloc (.cells (l.map b8).toArray 28)) := by
  have hi : (Tryd.prog.info? 28).map (fun i => (i.size, i.zero)) = some (32, some (.agg (z8 32).toArray)) := by kernel_rfl
  obtain ⟨inf, h1, h2⟩ := Option.map_eq_some_iff.1 hi
  obtain ⟨e1, e2⟩ : inf.size = 32 ∧ inf.zero = some (.agg (z8 32).toArray) := by simpa using h2
  have hf : Instr.fill (fun i => some (i * inf.size, inf.size)) ((Array.range (1 * inf.size)).map ((Value.agg (z8 32).toArray).cells[· % (Value.agg (z8 32).toArray).cells.size]!)) [(0, .agg (l.map b8).toArray)] = some (l.map b8).toArray := by
    rw [e1]
    have hc : (Value.agg (l.map b8).toArray).cells = (l.map b8).toArray := rfl
    simp only [Instr.fill, hc]
    rw [if_neg (by simp [hl])]
    congr 1
    apply Array.ext_getElem?
    intro i
    rw [Array.zipIdx_toArray, List.foldl_toArray, fold_get]
    by_cases h : i < 32
    · rw [if_pos ⟨by omega, by rw [List.length_map]; omega, by simp [h]⟩]; simp
    · rw [if_neg (by rw [List.length_map]; omega), Array.getElem?_eq_none (by simp; omega), Array.getElem?_eq_none (by simp; omega)]
  have h := run_buildSlice (P := Tryd.prog) w 24 28 1 #[(0, .agg (l.map b8).toArray)] (l.map b8).toArray inf (.agg (z8 32).toArray) Tryd.underlying24 h1 e2 (by rw [e1]; omega) (by rw [e1]; omega) hf
  unfold execOp
  simp [ho, hy, h]
end
end Go.Proofs.YtebmcjleepnehaaDoor
