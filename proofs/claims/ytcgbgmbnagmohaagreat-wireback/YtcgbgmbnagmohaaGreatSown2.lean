import Derived.Test.YtcgbgmbnagmohaaGreatProg
import Derived.WalkKit
import Derived.Orders
import Derived.Below
namespace Go.Proofs.YtcgbgmbnagmohaaGreat
open Go.RowKit
set_option maxRecDepth 20000
section
variable {P : Program} {ops : Array Oper} {Q : Exit → Act → World → Prop}
structure FA (ops : Array Oper) (m : Nat) (a0 : Act) (L : Nat → Prop) (val : Nat → Value) (a : Act) : Prop where
  df : a.defers = a0.defers
  sz : a.tmps.size = a0.tmps.size
  yes : ∀ i o t, i < m → L i → ops[i]? = some o → o.dst = some t → t < a0.tmps.size → a.tmps[t]? = some (val i)
  no : ∀ t, (∀ i o, i < m → L i → ops[i]? = some o → o.dst ≠ some t) → a.tmps[t]? = a0.tmps[t]?
theorem FA.start (ops : Array Oper) (m : Nat) (a0 : Act) (val : Nat → Value) : FA ops m a0 (fun i => i < 0) val a0 :=
  ⟨rfl, rfl, fun _ _ _ _ h => absurd h (Nat.not_lt_zero _), fun _ _ => rfl⟩
def dstB (ops : Array Oper) (m : Nat) : Bool := (List.range m).all fun i => (List.range m).all fun j => i == j || ((ops[i]?).bind (·.dst)) != ((ops[j]?).bind (·.dst)) || ((ops[i]?).bind (·.dst)).isNone
theorem dst_ne {m i j : Nat} {o o' : Oper} {t : Tmp} (h : dstB ops m = true) (hi : i < m) (hj : j < m) (hne : i ≠ j) (ho : ops[i]? = some o) (ho' : ops[j]? = some o') (ht : o.dst = some t) : o'.dst ≠ some t := by
  unfold dstB at h
  rw [List.all_eq_true] at h
  have h1 := h i (List.mem_range.2 hi)
  rw [List.all_eq_true] at h1
  have h2 := h1 j (List.mem_range.2 hj)
  simp only [ho, ho', Option.bind_some, ht, Option.isNone_some, Bool.or_false, Bool.or_eq_true, beq_iff_eq, bne_iff_ne] at h2
  rcases h2 with h2 | h2
  · exact absurd h2 hne
  · exact fun e => h2 e.symm
theorem FA.put {m : Nat} {a0 a : Act} {L L' : Nat → Prop} {val : Nat → Value} {i : Nat} {o : Oper} {v : Value} (h : FA ops m a0 L val a) (hd : dstB ops m = true) (hi : i < m) (ho : ops[i]? = some o) (hv : val i = v)
    (hL : ∀ j, L' j ↔ (L j ∨ j = i)) (hn : ¬ L i) : FA ops m a0 L' val (a.put o.dst v) := by
  cases hdst : o.dst with
  | none =>
    refine ⟨h.df, h.sz, fun j o' t hj hl ho' ht hs => ?_, fun t ht => ?_⟩
    · rcases (hL j).1 hl with hl' | rfl
      · exact h.yes j o' t hj hl' ho' ht hs
      · rw [ho] at ho'; cases ho'; rw [hdst] at ht; cases ht
    · exact h.no t fun j o' hj hl ho' => ht j o' hj ((hL j).2 (.inl hl)) ho'
  | some d =>
    refine ⟨h.df, by simp [Act.put, h.sz], fun j o' t hj hl ho' ht hs => ?_, fun t ht => ?_⟩
    · rcases (hL j).1 hl with hl' | rfl
      · have hne : i ≠ j := fun e => hn (e ▸ hl')
        have hdt : d ≠ t := fun e => dst_ne hd hi hj hne ho ho' hdst (e ▸ ht)
        simp only [Act.put]
        rw [Array.getElem?_setIfInBounds_ne hdt]
        exact h.yes j o' t hj hl' ho' ht hs
      · rw [ho] at ho'; cases ho'; rw [hdst] at ht; cases ht
        simp only [Act.put]
        rw [Array.getElem?_setIfInBounds_self_of_lt (by rw [h.sz]; exact hs), hv]
    · have hdt : d ≠ t := fun e => ht i o hi ((hL i).2 (.inr rfl)) ho (e ▸ hdst)
      simp only [Act.put]
      rw [Array.getElem?_setIfInBounds_ne hdt]
      exact h.no t fun j o' hj hl ho' => ht j o' hj ((hL j).2 (.inl hl)) ho'
theorem FA.congr {m : Nat} {a0 a : Act} {L L' : Nat → Prop} {val val' : Nat → Value} (h : FA ops m a0 L val a) (hL : ∀ i, i < m → (L i ↔ L' i)) (hv : ∀ i, i < m → L i → val i = val' i) : FA ops m a0 L' val' a :=
  ⟨h.df, h.sz, fun i o t hi hl ho ht hs => by rw [← hv i hi ((hL i hi).2 hl)]; exact h.yes i o t hi ((hL i hi).2 hl) ho ht hs, fun t ht => h.no t fun i o hi hl ho => ht i o hi ((hL i hi).1 hl) ho⟩
theorem FA.slot {m : Nat} {a0 a b : Act} {L L' : Nat → Prop} {val : Nat → Value} (ha : FA ops m a0 L val a) (hb : FA ops m a0 L' val b) (t : Nat)
    (h : ∀ i o, i < m → ops[i]? = some o → o.dst = some t → (L i ∧ L' i)) : a.tmps[t]? = b.tmps[t]? := by
  by_cases hx : ∃ i o, i < m ∧ ops[i]? = some o ∧ o.dst = some t
  · obtain ⟨i, o, hi, ho, ht⟩ := hx
    obtain ⟨l1, l2⟩ := h i o hi ho ht
    by_cases hs : t < a0.tmps.size
    · rw [ha.yes i o t hi l1 ho ht hs, hb.yes i o t hi l2 ho ht hs]
    · rw [Array.getElem?_eq_none (by rw [ha.sz]; omega), Array.getElem?_eq_none (by rw [hb.sz]; omega)]
  · rw [ha.no t fun i o hi _ ho ht => hx ⟨i, o, hi, ho, ht⟩, hb.no t fun i o hi _ ho ht => hx ⟨i, o, hi, ho, ht⟩]
theorem FA.ext {m : Nat} {a0 a b : Act} {L : Nat → Prop} {val : Nat → Value} (ha : FA ops m a0 L val a) (hb : FA ops m a0 L val b) (hall : ∀ i, i < m → L i) : a = b := by
  have h1 : a.tmps = b.tmps := Array.ext_getElem? fun t => ha.slot hb t fun i _ hi _ _ => ⟨hall i hi, hall i hi⟩
  have h2 : a.defers = b.defers := ha.df.trans hb.df.symm
  cases a; cases b; simp_all
def depsOf (ops : Array Oper) (i : Nat) : List Nat := match ops[i]? with
  | some o => (o.after.toList.filter (Region.binds .any ·)).map (·.on)
  | none => []
def needs (ops : Array Oper) : Nat → List Nat → List Nat
  | 0, l => l
  | f + 1, l => needs ops f (l ++ l.flatMap (depsOf ops)).eraseDups
def Closed (ops : Array Oper) (listed : Array Bool) : Prop := ∀ i, listed.getD i false = true → ∀ j ∈ depsOf ops i, listed.getD j false = true
theorem needs_listed {listed : Array Bool} (hc : Closed ops listed) : ∀ (f : Nat) (l : List Nat), (∀ i ∈ l, listed.getD i false = true) → ∀ i ∈ needs ops f l, listed.getD i false = true
  | 0, _, h => h
  | f + 1, l, h => needs_listed hc f _ fun i hi => by
    rw [List.mem_eraseDups, List.mem_append, List.mem_flatMap] at hi
    rcases hi with hi | ⟨j, hj, hi⟩
    · exact h i hi
    · exact hc j (h j hj) i hi
theorem ready_deps {listed : Array Bool} {i : Nat} (h : i ∈ Region.ready .any ops listed) : ∀ j ∈ depsOf ops i, listed.getD j false = true := by
  obtain ⟨_, o, ho, hall⟩ := mem_ready.1 h
  intro j hj
  unfold depsOf at hj
  rw [ho] at hj
  simp only [List.mem_map, List.mem_filter, Array.mem_toList_iff] at hj
  obtain ⟨e, ⟨he, hb⟩, rfl⟩ := hj
  exact hall e he hb
def firstB (n j : Nat) : Array Bool := ((List.range n).map fun i => decide (i < j)).toArray
def Sown (w0 : World) (obj : Obj) (g : Nat) (w : World) : Prop := w0.heap.size ≤ g ∧ g < w.heap.size ∧ w.heap[g]? = some obj
theorem Sown.below {w0 w w' : World} {obj : Obj} {g : Nat} (h : Sown w0 obj g w) (hb : Below w.heap.size w w') : Sown w0 obj g w' := ⟨h.1, Nat.lt_of_lt_of_le h.2.1 hb.size, by rw [hb.block g h.2.1]; exact h.2.2⟩
structure SownSpec (ops : Array Oper) (q m : Nat) (ty : TypeId) : Prop where
  mn : m ≤ ops.size
  qm : q ≤ m
  dst : dstB ops m = true
  sel : Region.noSelect ops = true
  plain : ∀ i o, i < m → ops[i]? = some o → o.guard = none ∧ ∀ j ∈ depsOf ops i, j < i
  looks : ∀ i o t, i < q → ops[i]? = some o → t ∈ o.looksAt ops → ∀ j o', j < m → ops[j]? = some o' → o'.dst = some t → j < i ∧ j ∈ depsOf ops i
  allocs : ∀ i o, q ≤ i → i < m → ops[i]? = some o → o.op = .alloc ty
  all : ∀ j, m ≤ j → j < ops.size → ∀ i, i < m → i ∈ needs ops 4 (depsOf ops j)
  tail : ∀ j, m ≤ j → j < ops.size → Region.ready .any ops (firstB ops.size j) = [j]
  last : Region.ready .any ops (firstB ops.size ops.size) = []
end
end Go.Proofs.YtcgbgmbnagmohaaGreat
namespace Go.Proofs.YtcgbgmbnagmohaaGreat
open Go.RowKit
set_option maxRecDepth 20000
section
variable {P : Program} {ops : Array Oper} {Q : Exit → Act → World → Prop}
theorem listed_of_true {listed : Array Bool} {i : Nat} (h : listed.getD i false = true) : listed.getD i true = true := by
  simp only [Array.getD_eq_getD_getElem?] at *
  cases e : listed[i]? with
  | none => rfl
  | some b => rw [e] at h; simpa using h
end
end Go.Proofs.YtcgbgmbnagmohaaGreat
