/- A region that draws its order, whose first operations let everything stand (loads, sums, calls that make memory at most), then lay blocks, then go on in order: walked once. Plain facts on the model; nothing of the program. -/
import Derived.Test.YtgioojahadlmhaaProg
import Derived.WalkKit
import Derived.Orders
import Derived.Below
namespace Go.Proofs.Ytgioojahadlmhaa
open Go.RowKit
set_option maxRecDepth 20000

section
variable {P : Program} {ops : Array Oper} {Q : Exit → Act → World → Prop}

/-- Memory may have been made; what was there stands; the value is v. -/
def calmUpon (P : Program) (w : World) (v : Value) : Result Next → Prop
  | .ok (.value u) w' => w' = w ∧ u = v
  | .ok (.enter f args) w' => w' = w ∧ Calls P f args w fun e w'' => e = .returned v ∧ Below w.heap.size w w''
  | _ => False

/-- The first n operations, in the order of the text, each calm in every world that has grown out of w0. -/
def wpCalm (P : Program) (w0 : World) (K : Act → Prop) : Nat → List Oper → Act → Prop
  | 0, _, a => K a
  | _ + 1, [], _ => False
  | n + 1, o :: rest, a => ∃ v, (∀ w, Below w0.heap.size w0 w → calmUpon P w v ((execOp a.eval o).run P w)) ∧ wpCalm P w0 K n rest (a.put o.dst v)
theorem wpCalm_step {w0 : World} {K : Act → Prop} {n : Nat} {o : Oper} {rest : List Oper} {a : Act} (v : Value) (h : ∀ w, Below w0.heap.size w0 w → calmUpon P w v ((execOp a.eval o).run P w)) (h' : wpCalm P w0 K n rest (a.put o.dst v)) : wpCalm P w0 K (n + 1) (o :: rest) a := ⟨v, h, h'⟩

theorem wpCalm_mono {w0 : World} {K K' : Act → Prop} (hK : ∀ a, K a → K' a) : ∀ (n : Nat) (l : List Oper) (a : Act), wpCalm P w0 K n l a → wpCalm P w0 K' n l a
  | 0, _, _, h => hK _ h
  | _ + 1, [], _, h => h
  | n + 1, _ :: l, _, ⟨v, h, h'⟩ => ⟨v, h, wpCalm_mono hK n l _ h'⟩

/-- A frame that is a0 but for the operations' slots that have come up. -/
structure FA (ops : Array Oper) (m : Nat) (a0 : Act) (L : Nat → Prop) (val : Nat → Value) (a : Act) : Prop where
  df : a.defers = a0.defers
  sz : a.tmps.size = a0.tmps.size
  yes : ∀ i o t, i < m → L i → ops[i]? = some o → o.dst = some t → t < a0.tmps.size → a.tmps[t]? = some (val i)
  no : ∀ t, (∀ i o, i < m → L i → ops[i]? = some o → o.dst ≠ some t) → a.tmps[t]? = a0.tmps[t]?

theorem FA.start (ops : Array Oper) (m : Nat) (a0 : Act) (val : Nat → Value) : FA ops m a0 (fun i => i < 0) val a0 :=
  ⟨rfl, rfl, fun _ _ _ _ h => absurd h (Nat.not_lt_zero _), fun _ _ => rfl⟩

/-- Slots are told apart. -/
def dstB (ops : Array Oper) (m : Nat) : Bool := (List.range m).all fun i => (List.range m).all fun j => i == j || ((ops[i]?).bind (·.dst)) != ((ops[j]?).bind (·.dst)) || ((ops[i]?).bind (·.dst)).isNone
theorem dst_ne {m i j : Nat} {o o' : Oper} {t : Tmp} (h : dstB ops m = true) (hi : i < m) (hj : j < m) (hne : i ≠ j) (ho : ops[i]? = some o) (ho' : ops[j]? = some o') (ht : o.dst = some t) : o'.dst ≠ some t := by
  unfold dstB at h
  rw [List.all_eq_true] at h
  have h1 := h i (List.mem_range.2 hi)
  rw [List.all_eq_true] at h1
  have h2 := h1 j (List.mem_range.2 hj)
  simp only [ho, ho', Option.bind_some, ht, Option.isNone_some, Bool.or_false, Bool.or_eq_true, beq_iff_eq, bne_iff_ne] at h2
  rcases h2 with h2 | h2
  · exact absurd h2 hne
  · exact fun e => h2 e.symm

theorem FA.put {m : Nat} {a0 a : Act} {L L' : Nat → Prop} {val : Nat → Value} {i : Nat} {o : Oper} {v : Value} (h : FA ops m a0 L val a) (hd : dstB ops m = true) (hi : i < m) (ho : ops[i]? = some o) (hv : val i = v)
    (hL : ∀ j, L' j ↔ (L j ∨ j = i)) (hn : ¬ L i) : FA ops m a0 L' val (a.put o.dst v) := by
  cases hdst : o.dst with
  | none =>
    refine ⟨h.df, h.sz, fun j o' t hj hl ho' ht hs => ?_, fun t ht => ?_⟩
    · rcases (hL j).1 hl with hl' | rfl
      · exact h.yes j o' t hj hl' ho' ht hs
      · rw [ho] at ho'; cases ho'; rw [hdst] at ht; cases ht
    · exact h.no t fun j o' hj hl ho' => ht j o' hj ((hL j).2 (.inl hl)) ho'
  | some d =>
    refine ⟨h.df, by simp [Act.put, h.sz], fun j o' t hj hl ho' ht hs => ?_, fun t ht => ?_⟩
    · rcases (hL j).1 hl with hl' | rfl
      · have hne : i ≠ j := fun e => hn (e ▸ hl')
        have hdt : d ≠ t := fun e => dst_ne hd hi hj hne ho ho' hdst (e ▸ ht)
        simp only [Act.put]
        rw [Array.getElem?_setIfInBounds_ne hdt]
        exact h.yes j o' t hj hl' ho' ht hs
      · rw [ho] at ho'; cases ho'; rw [hdst] at ht; cases ht
        simp only [Act.put]
        rw [Array.getElem?_setIfInBounds_self_of_lt (by rw [h.sz]; exact hs), hv]
    · have hdt : d ≠ t := fun e => ht i o hi ((hL i).2 (.inr rfl)) ho (e ▸ hdst)
      simp only [Act.put]
      rw [Array.getElem?_setIfInBounds_ne hdt]
      exact h.no t fun j o' hj hl ho' => ht j o' hj ((hL j).2 (.inl hl)) ho'

theorem FA.congr {m : Nat} {a0 a : Act} {L L' : Nat → Prop} {val val' : Nat → Value} (h : FA ops m a0 L val a) (hL : ∀ i, i < m → (L i ↔ L' i)) (hv : ∀ i, i < m → L i → val i = val' i) : FA ops m a0 L' val' a :=
  ⟨h.df, h.sz, fun i o t hi hl ho ht hs => by rw [← hv i hi ((hL i hi).2 hl)]; exact h.yes i o t hi ((hL i hi).2 hl) ho ht hs, fun t ht => h.no t fun i o hi hl ho => ht i o hi ((hL i hi).1 hl) ho⟩

/-- Two such frames agree wherever the operations that have come up are the same. -/
theorem FA.slot {m : Nat} {a0 a b : Act} {L L' : Nat → Prop} {val : Nat → Value} (ha : FA ops m a0 L val a) (hb : FA ops m a0 L' val b) (t : Nat)
    (h : ∀ i o, i < m → ops[i]? = some o → o.dst = some t → (L i ∧ L' i)) : a.tmps[t]? = b.tmps[t]? := by
  by_cases hx : ∃ i o, i < m ∧ ops[i]? = some o ∧ o.dst = some t
  · obtain ⟨i, o, hi, ho, ht⟩ := hx
    obtain ⟨l1, l2⟩ := h i o hi ho ht
    by_cases hs : t < a0.tmps.size
    · rw [ha.yes i o t hi l1 ho ht hs, hb.yes i o t hi l2 ho ht hs]
    · rw [Array.getElem?_eq_none (by rw [ha.sz]; omega), Array.getElem?_eq_none (by rw [hb.sz]; omega)]
  · rw [ha.no t fun i o hi _ ho ht => hx ⟨i, o, hi, ho, ht⟩, hb.no t fun i o hi _ ho ht => hx ⟨i, o, hi, ho, ht⟩]
theorem FA.ext {m : Nat} {a0 a b : Act} {L : Nat → Prop} {val : Nat → Value} (ha : FA ops m a0 L val a) (hb : FA ops m a0 L val b) (hall : ∀ i, i < m → L i) : a = b := by
  have h1 : a.tmps = b.tmps := Array.ext_getElem? fun t => ha.slot hb t fun i _ hi _ _ => ⟨hall i hi, hall i hi⟩
  have h2 : a.defers = b.defers := ha.df.trans hb.df.symm
  cases a; cases b; simp_all

/-- The lexical walk, with its values in a table. -/
theorem wpCalm_table {w0 : World} {K : Act → Prop} {m q : Nat} {a0 : Act} (hd : dstB ops m = true) (hq : q ≤ m) : ∀ (n j : Nat) (l : List Oper) (val : Nat → Value) (a : Act), j + n = q → (∀ i, l[i]? = ops[j + i]?) →
    FA ops m a0 (fun i => i < j) val a → wpCalm P w0 K n l a →
    ∃ val' : Nat → Value, (∀ i, i < j → val' i = val i) ∧ (∀ i o, j ≤ i → i < q → ops[i]? = some o → ∃ aL, FA ops m a0 (fun x => x < i) val' aL ∧ ∀ w, Below w0.heap.size w0 w → calmUpon P w (val' i) ((execOp aL.eval o).run P w)) ∧
      ∃ aQ, FA ops m a0 (fun x => x < q) val' aQ ∧ K aQ
  | 0, j, l, val, a, hn, _, hF, h => by
    obtain rfl : j = q := by omega
    exact ⟨val, fun _ _ => rfl, fun i o h1 h2 => absurd h2 (by omega), a, hF, h⟩
  | n + 1, j, [], val, a, hn, _, hF, h => h.elim
  | n + 1, j, o :: l, val, a, hn, hl, hF, h => by
    obtain ⟨v, hc, h'⟩ := h
    have ho : ops[j]? = some o := by have := hl 0; simpa using this.symm
    have hF1 : FA ops m a0 (fun i => i < j) (fun i => if i = j then v else val i) a := hF.congr (fun _ _ => Iff.rfl) fun i _ hi => by rw [if_neg (Nat.ne_of_lt hi)]
    have hF2 := hF1.put (L' := fun i => i < j + 1) (v := v) hd (by omega : j < m) ho (by simp) (fun i => by omega) (Nat.lt_irrefl j)
    obtain ⟨val', e1, e2, e3⟩ := wpCalm_table hd hq n (j + 1) l (fun i => if i = j then v else val i) (a.put o.dst v) (by omega) (fun i => by have := hl (i + 1); simp only [List.getElem?_cons_succ] at this; rw [this]; congr 1; omega) hF2 h'
    refine ⟨val', fun i hi => ?_, fun i o' h1 h2 ho' => ?_, e3⟩
    · rw [e1 i (by omega)]; rw [if_neg (Nat.ne_of_lt hi)]
    · by_cases hij : i = j
      · subst hij
        rw [ho] at ho'; cases ho'
        have hv : val' i = v := by rw [e1 i (by omega)]; simp
        refine ⟨a, hF1.congr (fun _ _ => Iff.rfl) fun x _ hx => ?_, ?_⟩
        · rw [e1 x (by omega)]
        · rw [hv]; exact hc
      · exact e2 i o' (by omega) h2 ho'

/-- What an operation waits for. -/
def depsOf (ops : Array Oper) (i : Nat) : List Nat := match ops[i]? with
  | some o => (o.after.toList.filter (Region.binds .any ·)).map (·.on)
  | none => []
def needs (ops : Array Oper) : Nat → List Nat → List Nat
  | 0, l => l
  | f + 1, l => needs ops f (l ++ l.flatMap (depsOf ops)).eraseDups
def Closed (ops : Array Oper) (listed : Array Bool) : Prop := ∀ i, listed.getD i false = true → ∀ j ∈ depsOf ops i, listed.getD j false = true
theorem needs_listed {listed : Array Bool} (hc : Closed ops listed) : ∀ (f : Nat) (l : List Nat), (∀ i ∈ l, listed.getD i false = true) → ∀ i ∈ needs ops f l, listed.getD i false = true
  | 0, _, h => h
  | f + 1, l, h => needs_listed hc f _ fun i hi => by
    rw [List.mem_eraseDups, List.mem_append, List.mem_flatMap] at hi
    rcases hi with hi | ⟨j, hj, hi⟩
    · exact h i hi
    · exact hc j (h j hj) i hi
theorem ready_deps {listed : Array Bool} {i : Nat} (h : i ∈ Region.ready .any ops listed) : ∀ j ∈ depsOf ops i, listed.getD j false = true := by
  obtain ⟨_, o, ho, hall⟩ := mem_ready.1 h
  intro j hj
  unfold depsOf at hj
  rw [ho] at hj
  simp only [List.mem_map, List.mem_filter, Array.mem_toList_iff] at hj
  obtain ⟨e, ⟨he, hb⟩, rfl⟩ := hj
  exact hall e he hb
theorem ready_of_deps {listed : Array Bool} {i : Nat} {o : Oper} (ho : ops[i]? = some o) (hn : listed.getD i true = false) (h : ∀ j ∈ depsOf ops i, listed.getD j false = true) : i ∈ Region.ready .any ops listed := by
  refine mem_ready.2 ⟨hn, o, ho, fun e he hb => h _ ?_⟩
  unfold depsOf
  rw [ho]
  simp only [List.mem_map, List.mem_filter, Array.mem_toList_iff]
  exact ⟨e, ⟨he, hb⟩, rfl⟩

/-- The first j have come up. -/
def firstB (n j : Nat) : Array Bool := ((List.range n).map fun i => decide (i < j)).toArray
theorem firstB_get (n j i : Nat) : (firstB n j)[i]? = if i < n then some (decide (i < j)) else none := by
  unfold firstB
  by_cases h : i < n
  · simp [h]
  · simp [h]

/-- What is asked of the region: q calm operations, then blocks of one type up to m, then the rest one behind the other. -/
def sownB (ops : Array Oper) (q m : Nat) (ty : TypeId) : Bool :=
  decide (m ≤ ops.size) && decide (q ≤ m) && dstB ops m && Region.noSelect ops &&
  ((List.range m).all fun i => ((ops[i]?).map (·.guard.isNone)).getD false && (depsOf ops i).all fun j => decide (j < i)) &&
  ((List.range q).all fun i => (((ops[i]?).map (·.looksAt ops)).getD []).all fun t => (List.range m).all fun j => ((ops[j]?).bind (·.dst)) != some t || (decide (j < i) && (depsOf ops i).contains j)) &&
  ((List.range m).all fun i => decide (i < q) || match ops[i]? with | some o => (match o.op with | .alloc t => t == ty | _ => false) | none => false) &&
  ((List.range ops.size).all fun j => decide (j < m) || (((List.range m).all fun i => (needs ops 4 (depsOf ops j)).contains i) && Region.ready .any ops (firstB ops.size j) == [j])) &&
  Region.ready .any ops (firstB ops.size ops.size) == []

theorem wpAny_tail {m : Nat} (hB : ∀ j, m ≤ j → j < ops.size → Region.ready .any ops (firstB ops.size j) = [j]) (hE : Region.ready .any ops (firstB ops.size ops.size) = []) :
    ∀ (f j : Nat) (a : Act) (w : World), j + f = ops.size → m ≤ j → wpList P ops Q (ops.toList.drop j) a w → wpAny P .any ops Q f (firstB ops.size j) a w
  | 0, j, a, w, hj, hm, h => by
    obtain rfl : j = ops.size := by omega
    rw [List.drop_eq_nil_of_le (by simp)] at h
    exact ⟨hE, h⟩
  | f + 1, j, a, w, hj, hm, h => by
    have hr := hB j hm (by omega)
    have hlt : j < ops.toList.length := by simp; omega
    rw [List.drop_eq_getElem_cons hlt] at h
    have ho : ops[j]? = some ops.toList[j] := by simp [show j < ops.size by omega]
    refine ⟨fun e => (by rw [hr] at e; cases e), fun i hi => ?_⟩
    rw [hr] at hi
    obtain rfl : i = j := by simpa using hi
    have hs : (firstB ops.size i).setIfInBounds i true = firstB ops.size (i + 1) := by
      apply Array.ext_getElem?
      intro k
      by_cases hk : i = k
      · subst hk
        rw [Array.getElem?_setIfInBounds_self_of_lt (by simp [firstB]; omega), firstB_get, if_pos (by omega)]
        simp
      · rw [Array.getElem?_setIfInBounds_ne hk, firstB_get, firstB_get]
        by_cases hn : k < ops.size
        · rw [if_pos hn, if_pos hn]; congr 1; exact decide_eq_decide.2 (by omega)
        · rw [if_neg hn, if_neg hn]
    simp only [wpOp, ho]
    simp only [wpList] at h
    rw [hs]
    have IH := fun a' w' => wpAny_tail hB hE f (i + 1) a' w' (by omega) (by omega)
    split
    · rename_i hw
      simp only [hw, if_true] at h
      exact h.imp (Oper.wp_mono IH) id
    · rename_i hw
      simp only [hw] at h
      exact IH _ _ h

/-- How many have not come up. -/
def leftN (listed : Array Bool) (n : Nat) : Nat := (List.range n).countP fun i => !listed.getD i true
theorem leftN_set {listed : Array Bool} {i : Nat} (h : listed.getD i true = false) : ∀ n, n ≤ listed.size → leftN (listed.setIfInBounds i true) n + (if i < n then 1 else 0) = leftN listed n
  | 0, _ => by simp [leftN]
  | n + 1, hn => by
    have ih := leftN_set h n (by omega)
    unfold leftN at *
    rw [List.range_succ, List.countP_append, List.countP_append]
    have hi : i < listed.size := by
      rcases Nat.lt_or_ge i listed.size with h' | h'
      · exact h'
      · simp [Array.getElem?_eq_none h'] at h
    by_cases hin : i = n
    · subst hin
      have e : (listed.setIfInBounds i true).getD i true = true := by simp
      rw [if_neg (by omega)] at ih
      rw [if_pos (by omega)]
      simp only [List.countP_cons, List.countP_nil, e, h, Bool.not_true, Bool.not_false, if_true, Bool.false_eq_true, if_false]
      omega
    · have e : (listed.setIfInBounds i true).getD n true = listed.getD n true := getD_set_ne true hin
      simp only [List.countP_cons, List.countP_nil, e]
      generalize (if (!listed.getD n true) = true then 1 else 0) = z
      by_cases h2 : i < n
      · rw [if_pos h2] at ih; rw [if_pos (by omega)]; omega
      · rw [if_neg h2] at ih; rw [if_neg (by omega)]; omega

/-- The slots' values: those of the calm operations, then blocks. -/
def mixV (q : Nat) (val : Nat → Value) (gs : Nat → Nat) (i : Nat) : Value := if i < q then val i else .pointer (some ⟨gs i, 0, none⟩)
/-- A block that was laid behind w0, as it was laid. -/
def Sown (w0 : World) (obj : Obj) (g : Nat) (w : World) : Prop := w0.heap.size ≤ g ∧ g < w.heap.size ∧ w.heap[g]? = some obj
theorem Sown.below {w0 w w' : World} {obj : Obj} {g : Nat} (h : Sown w0 obj g w) (hb : Below w.heap.size w w') : Sown w0 obj g w' := ⟨h.1, Nat.lt_of_lt_of_le h.2.1 hb.size, by rw [hb.block g h.2.1]; exact h.2.2⟩

structure SownSpec (ops : Array Oper) (q m : Nat) (ty : TypeId) : Prop where
  mn : m ≤ ops.size
  qm : q ≤ m
  dst : dstB ops m = true
  sel : Region.noSelect ops = true
  plain : ∀ i o, i < m → ops[i]? = some o → o.guard = none ∧ ∀ j ∈ depsOf ops i, j < i
  looks : ∀ i o t, i < q → ops[i]? = some o → t ∈ o.looksAt ops → ∀ j o', j < m → ops[j]? = some o' → o'.dst = some t → j < i ∧ j ∈ depsOf ops i
  allocs : ∀ i o, q ≤ i → i < m → ops[i]? = some o → o.op = .alloc ty
  all : ∀ j, m ≤ j → j < ops.size → ∀ i, i < m → i ∈ needs ops 4 (depsOf ops j)
  tail : ∀ j, m ≤ j → j < ops.size → Region.ready .any ops (firstB ops.size j) = [j]
  last : Region.ready .any ops (firstB ops.size ops.size) = []
theorem sown_spec {q m : Nat} {ty : TypeId} (h : sownB ops q m ty = true) : SownSpec ops q m ty := by
  unfold sownB at h
  simp only [Bool.and_eq_true, decide_eq_true_eq, List.all_eq_true, List.mem_range, beq_iff_eq] at h
  obtain ⟨⟨⟨⟨⟨⟨⟨⟨h1, h2⟩, h3⟩, h4⟩, h5⟩, h6⟩, h7⟩, h8⟩, h9⟩ := h
  refine ⟨h1, h2, h3, h4, fun i o hi ho => ?_, fun i o t hi ho ht j o' hj ho' hd => ?_, fun i o hq hi ho => ?_, fun j hm hj i hi => ?_, fun j hm hj => ?_, h9⟩
  · obtain ⟨h51, h52⟩ := h5 i hi
    rw [ho] at h51
    exact ⟨by simpa using h51, h52⟩
  · have h := h6 i hi t (by rw [ho]; exact ht) j hj
    rw [ho'] at h
    simp only [Option.bind_some, hd, bne_self_eq_false, Bool.false_or, Bool.and_eq_true, decide_eq_true_eq, List.contains_iff_mem] at h
    exact h
  · have h := h7 i hi
    rw [ho] at h
    simp only [show ¬ i < q by omega, decide_false, Bool.false_or] at h
    split at h
    · rename_i t e; rw [e]; simp only [beq_iff_eq] at h; rw [h]
    · cases h
  · have h := h8 j hj
    simp only [show ¬ j < m by omega, decide_false, Bool.false_or, Bool.and_eq_true, List.all_eq_true, List.mem_range, List.contains_iff_mem] at h
    exact h.1 i hi
  · have h := h8 j hj
    simp only [show ¬ j < m by omega, decide_false, Bool.false_or, Bool.and_eq_true, List.all_eq_true, List.mem_range, List.contains_iff_mem, beq_iff_eq] at h
    exact h.2
end
end Go.Proofs.Ytgioojahadlmhaa
