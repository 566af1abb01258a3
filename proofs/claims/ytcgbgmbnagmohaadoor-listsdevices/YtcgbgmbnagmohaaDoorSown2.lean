import Derived.Test.YtcgbgmbnagmohaaDoorProg
import Derived.WalkKit
import Derived.Orders
import Derived.Below
namespace Go.Proofs.YtcgbgmbnagmohaaDoor
open Go.RowKit
set_option maxRecDepth 20000
section
variable {P : Program} {ops : Array Oper} {Q : Exit → Act → World → Prop}
def calmUpon (P : Program) (w : World) (v : Value) : Result Next → Prop
 | .ok (.value u) w' => w' = w ∧ u = v
 | .ok (.enter f args) w' => w' = w ∧ Calls P f args w fun e w'' => e = .returned v ∧ Below w.heap.size w w''
 | _ => False
def wpCalm (P : Program) (w0 : World) (K : Act → Prop) : Nat → List Oper → Act → Prop
 | 0, _, a => K a
 | _ + 1, [], _ => False
 | n + 1, o :: rest, a => ∃ v, (∀ w, Below w0.heap.size w0 w → calmUpon P w v ((execOp a.eval o).run P w)) ∧ wpCalm P w0 K n rest (a.put o.dst v)
theorem qad {w0 : World} {K : Act → Prop} {n : Nat} {o : Oper} {rest : List Oper} {a : Act} (v : Value) (h : ∀ w, Below w0.heap.size w0 w → calmUpon P w v ((execOp a.eval o).run P w)) (h' : wpCalm P w0 K n rest (a.put o.dst v)) : wpCalm P w0 K (n + 1) (o :: rest) a := ⟨v, h, h'⟩
theorem wpCalm_mono {w0 : World} {K K' : Act → Prop} (hK : ∀ a, K a → K' a) : ∀ (n : Nat) (l : List Oper) (a : Act), wpCalm P w0 K n l a → wpCalm P w0 K' n l a
 | 0, _, _, h => hK _ h
 | _ + 1, [], _, h => h
 | n + 1, _ :: l, _, ⟨v, h, h'⟩ => ⟨v, h, wpCalm_mono hK n l _ h'⟩
structure FA (ops : Array Oper) (m : Nat) (a0 : Act) (L : Nat → Prop) (val : Nat → Value) (a : Act) : Prop where
 df : a.defers = a0.defers
 sz : a.tmps.size = a0.tmps.size
 yes : ∀ i o t, i < m → L i → ops[i]? = some o → o.dst = some t → t < a0.tmps.size → a.tmps[t]? = some (val i)
 no : ∀ t, (∀ i o, i < m → L i → ops[i]? = some o → o.dst ≠ some t) → a.tmps[t]? = a0.tmps[t]?
theorem FA.start (ops : Array Oper) (m : Nat) (a0 : Act) (val : Nat → Value) : FA ops m a0 (fun i => i < 0) val a0 :=
 ⟨rfl, rfl, fun _ _ _ _ h => absurd h (Nat.not_lt_zero _), fun _ _ => rfl⟩
def dstB (ops : Array Oper) (m : Nat) : Bool := (List.range m).all fun i => (List.range m).all fun j => i == j || ((ops[i]?).bind (·.dst)) != ((ops[j]?).bind (·.dst)) || ((ops[i]?).bind (·.dst)).isNone
theorem dst_ne {m i j : Nat} {o o' : Oper} {t : Tmp} (h : dstB ops m = true) (hi : i < m) (hj : j < m) (hne : i ≠ j) (ho : ops[i]? = some o) (ho' : ops[j]? = some o') (ht : o.dst = some t) : o'.dst ≠ some t := by
 unfold dstB at h
 rw [List.all_eq_true] at h
 have h1 := h i (List.mem_range.2 hi)
 rw [List.all_eq_true] at h1
 have h2 := h1 j (List.mem_range.2 hj)
 simp only [ho, ho', Option.bind_some, ht, Option.isNone_some, Bool.or_false, Bool.or_eq_true, beq_iff_eq, bne_iff_ne] at h2
 rcases h2 with h2 | h2
 ·exact absurd h2 hne
 ·exact fun e => h2 e.symm
theorem FA.put {m : Nat} {a0 a : Act} {L L' : Nat → Prop} {val : Nat → Value} {i : Nat} {o : Oper} {v : Value} (h : FA ops m a0 L val a) (hd : dstB ops m = true) (hi : i < m) (ho : ops[i]? = some o) (hv : val i = v)
  (hL : ∀ j, L' j ↔ (L j ∨ j = i)) (hn : ¬ L i) : FA ops m a0 L' val (a.put o.dst v) := by
 cases hdst : o.dst with
 | none =>
  refine ⟨h.df, h.sz, fun j o' t hj hl ho' ht hs => ?_, fun t ht => ?_⟩
  ·rcases (hL j).1 hl with hl' | rfl
   ·exact h.yes j o' t hj hl' ho' ht hs
   ·rw [ho] at ho'; cases ho'; rw [hdst] at ht; cases ht
  ·exact h.no t fun j o' hj hl ho' => ht j o' hj ((hL j).2 (.inl hl)) ho'
 | some d =>
  refine ⟨h.df, by simp [Act.put, h.sz], fun j o' t hj hl ho' ht hs => ?_, fun t ht => ?_⟩
  ·rcases (hL j).1 hl with hl' | rfl
   ·have hne : i ≠ j := fun e => hn (e ▸ hl')
    have hdt : d ≠ t := fun e => dst_ne hd hi hj hne ho ho' hdst (e ▸ ht)
    simp only [Act.put]
    rw [Array.getElem?_setIfInBounds_ne hdt]
    exact h.yes j o' t hj hl' ho' ht hs
   ·rw [ho] at ho'; cases ho'; rw [hdst] at ht; cases ht
    simp only [Act.put]
    rw [Array.getElem?_setIfInBounds_self_of_lt (by rw [h.sz]; exact hs), hv]
  ·have hdt : d ≠ t := fun e => ht i o hi ((hL i).2 (.inr rfl)) ho (e ▸ hdst)
   simp only [Act.put]
   rw [Array.getElem?_setIfInBounds_ne hdt]
   exact h.no t fun j o' hj hl ho' => ht j o' hj ((hL j).2 (.inl hl)) ho'
theorem FA.congr {m : Nat} {a0 a : Act} {L L' : Nat → Prop} {val val' : Nat → Value} (h : FA ops m a0 L val a) (hL : ∀ i, i < m → (L i ↔ L' i)) (hv : ∀ i, i < m → L i → val i = val' i) : FA ops m a0 L' val' a :=
 ⟨h.df, h.sz, fun i o t hi hl ho ht hs => by rw [← hv i hi ((hL i hi).2 hl)]; exact h.yes i o t hi ((hL i hi).2 hl) ho ht hs, fun t ht => h.no t fun i o hi hl ho => ht i o hi ((hL i hi).1 hl) ho⟩
theorem FA.slot {m : Nat} {a0 a b : Act} {L L' : Nat → Prop} {val : Nat → Value} (ha : FA ops m a0 L val a) (hb : FA ops m a0 L' val b) (t : Nat)
  (h : ∀ i o, i < m → ops[i]? = some o → o.dst = some t → (L i ∧ L' i)) : a.tmps[t]? = b.tmps[t]? := by
 by_cases hx : ∃ i o, i < m ∧ ops[i]? = some o ∧ o.dst = some t
 ·obtain ⟨i, o, hi, ho, ht⟩ := hx
  obtain ⟨l1, l2⟩ := h i o hi ho ht
  by_cases hs : t < a0.tmps.size
  ·rw [ha.yes i o t hi l1 ho ht hs, hb.yes i o t hi l2 ho ht hs]
  ·rw [Array.getElem?_eq_none (by rw [ha.sz]; omega), Array.getElem?_eq_none (by rw [hb.sz]; omega)]
 ·rw [ha.no t fun i o hi _ ho ht => hx ⟨i, o, hi, ho, ht⟩, hb.no t fun i o hi _ ho ht => hx ⟨i, o, hi, ho, ht⟩]
theorem FA.ext {m : Nat} {a0 a b : Act} {L : Nat → Prop} {val : Nat → Value} (ha : FA ops m a0 L val a) (hb : FA ops m a0 L val b) (hall : ∀ i, i < m → L i) : a = b := by
 have h1 : a.tmps = b.tmps := Array.ext_getElem? fun t => ha.slot hb t fun i _ hi _ _ => ⟨hall i hi, hall i hi⟩
 have h2 : a.defers = b.defers := ha.df.trans hb.df.symm
 cases a; cases b; simp_all
theorem wpCalm_table {w0 : World} {K : Act → Prop} {m q : Nat} {a0 : Act} (hd : dstB ops m = true) (hq : q ≤ m) : ∀ (n j : Nat) (l : List Oper) (val : Nat → Value) (a : Act), j + n = q → (∀ i, l[i]? = ops[j + i]?) →
  FA ops m a0 (fun i => i < j) val a → wpCalm P w0 K n l a →
  ∃ val' : Nat → Value, (∀ i, i < j → val' i = val i) ∧ (∀ i o, j ≤ i → i < q → ops[i]? = some o → ∃ aL, FA ops m a0 (fun x => x < i) val' aL ∧ ∀ w, Below w0.heap.size w0 w → calmUpon P w (val' i) ((execOp aL.eval o).run P w)) ∧
   ∃ aQ, FA ops m a0 (fun x => x < q) val' aQ ∧ K aQ
 | 0, j, l, val, a, hn, _, hF, h => by
  obtain rfl : j = q := by omega
  exact ⟨val, fun _ _ => rfl, fun i o h1 h2 => absurd h2 (by omega), a, hF, h⟩
 | n + 1, j, [], val, a, hn, _, hF, h => h.elim
 | n + 1, j, o :: l, val, a, hn, hl, hF, h => by
  obtain ⟨v, hc, h'⟩ := h
  have ho : ops[j]? = some o := by have := hl 0; simpa using this.symm
  have hF1 : FA ops m a0 (fun i => i < j) (fun i => if i = j then v else val i) a := hF.congr (fun _ _ => Iff.rfl) fun i _ hi => by rw [if_neg (Nat.ne_of_lt hi)]
  have hF2 := hF1.put (L' := fun i => i < j + 1) (v := v) hd (by omega : j < m) ho (by simp) (fun i => by omega) (Nat.lt_irrefl j)
  obtain ⟨val', e1, e2, e3⟩ := wpCalm_table hd hq n (j + 1) l (fun i => if i = j then v else val i) (a.put o.dst v) (by omega) (fun i => by have := hl (i + 1); simp only [List.getElem?_cons_succ] at this; rw [this]; congr 1; omega) hF2 h'
  refine ⟨val', fun i hi => ?_, fun i o' h1 h2 ho' => ?_, e3⟩
  ·rw [e1 i (by omega)]; rw [if_neg (Nat.ne_of_lt hi)]
  ·by_cases hij : i = j
   ·subst hij
    rw [ho] at ho'; cases ho'
    have hv : val' i = v := by rw [e1 i (by omega)]; simp
    refine ⟨a, hF1.congr (fun _ _ => Iff.rfl) fun x _ hx => ?_, ?_⟩
    ·rw [e1 x (by omega)]
    ·rw [hv]; exact hc
   ·exact e2 i o' (by omega) h2 ho'
def depsOf (ops : Array Oper) (i : Nat) : List Nat := match ops[i]? with
 | some o => (o.after.toList.filter (Region.binds .any ·)).map (·.on)
 | none => []
def needs (ops : Array Oper) : Nat → List Nat → List Nat
 | 0, l => l
 | f + 1, l => needs ops f (l ++ l.flatMap (depsOf ops)).eraseDups
def Closed (ops : Array Oper) (listed : Array Bool) : Prop := ∀ i, listed.getD i false = true → ∀ j ∈ depsOf ops i, listed.getD j false = true
theorem needs_listed {listed : Array Bool} (hc : Closed ops listed) : ∀ (f : Nat) (l : List Nat), (∀ i ∈ l, listed.getD i false = true) → ∀ i ∈ needs ops f l, listed.getD i false = true
 | 0, _, h => h
 | f + 1, l, h => needs_listed hc f _ fun i hi => by
  rw [List.mem_eraseDups, List.mem_append, List.mem_flatMap] at hi
  rcases hi with hi | ⟨j, hj, hi⟩
  ·exact h i hi
  ·exact hc j (h j hj) i hi
theorem ready_deps {listed : Array Bool} {i : Nat} (h : i ∈ Region.ready .any ops listed) : ∀ j ∈ depsOf ops i, listed.getD j false = true := by
 obtain ⟨_, o, ho, hall⟩ := mem_ready.1 h
 intro j hj
 unfold depsOf at hj
 rw [ho] at hj
 simp only [List.mem_map, List.mem_filter, Array.mem_toList_iff] at hj
 obtain ⟨e, ⟨he, hb⟩, rfl⟩ := hj
 exact hall e he hb
theorem ready_of_deps {listed : Array Bool} {i : Nat} {o : Oper} (ho : ops[i]? = some o) (hn : listed.getD i true = false) (h : ∀ j ∈ depsOf ops i, listed.getD j false = true) : i ∈ Region.ready .any ops listed := by
 refine mem_ready.2 ⟨hn, o, ho, fun e he hb => h _ ?_⟩
 unfold depsOf
 rw [ho]
 simp only [List.mem_map, List.mem_filter, Array.mem_toList_iff]
 exact ⟨e, ⟨he, hb⟩, rfl⟩
def firstB (n j : Nat) : Array Bool := ((List.range n).map fun i => decide (i < j)).toArray
theorem firstB_get (n j i : Nat) : (firstB n j)[i]? = if i < n then some (decide (i < j)) else none := by
 unfold firstB
 by_cases h : i < n
 ·simp [h]
 ·simp [h]
def sownB (ops : Array Oper) (q m : Nat) (ty : TypeId) : Bool :=
 decide (m ≤ ops.size) && decide (q ≤ m) && dstB ops m && Region.noSelect ops &&
 ((List.range m).all fun i => ((ops[i]?).map (·.guard.isNone)).getD false && (depsOf ops i).all fun j => decide (j < i)) &&
 ((List.range q).all fun i => (((ops[i]?).map (·.looksAt ops)).getD []).all fun t => (List.range m).all fun j => ((ops[j]?).bind (·.dst)) != some t || (decide (j < i) && (depsOf ops i).contains j)) &&
 ((List.range m).all fun i => decide (i < q) || match ops[i]? with | some o => (match o.op with | .alloc t => t == ty | _ => false) | none => false) &&
 ((List.range ops.size).all fun j => decide (j < m) || (((List.range m).all fun i => (needs ops 4 (depsOf ops j)).contains i) && Region.ready .any ops (firstB ops.size j) == [j])) &&
 Region.ready .any ops (firstB ops.size ops.size) == []
theorem wpAny_tail {m : Nat} (hB : ∀ j, m ≤ j → j < ops.size → Region.ready .any ops (firstB ops.size j) = [j]) (hE : Region.ready .any ops (firstB ops.size ops.size) = []) :
  ∀ (f j : Nat) (a : Act) (w : World), j + f = ops.size → m ≤ j → wpList P ops Q (ops.toList.drop j) a w → wpAny P .any ops Q f (firstB ops.size j) a w
 | 0, j, a, w, hj, hm, h => by
  obtain rfl : j = ops.size := by omega
  rw [List.drop_eq_nil_of_le (by simp)] at h
  exact ⟨hE, h⟩
 | f + 1, j, a, w, hj, hm, h => by
  have hr := hB j hm (by omega)
  have hlt : j < ops.toList.length := by simp; omega
  rw [List.drop_eq_getElem_cons hlt] at h
  have ho : ops[j]? = some ops.toList[j] := by simp [show j < ops.size by omega]
  refine ⟨fun e => (by rw [hr] at e; cases e), fun i hi => ?_⟩
  rw [hr] at hi
  obtain rfl : i = j := by simpa using hi
  have hs : (firstB ops.size i).setIfInBounds i true = firstB ops.size (i + 1) := by
   apply Array.ext_getElem?
   intro k
   by_cases hk : i = k
   ·subst hk
    rw [Array.getElem?_setIfInBounds_self_of_lt (by simp [firstB]; omega), firstB_get, if_pos (by omega)]
    simp
   ·rw [Array.getElem?_setIfInBounds_ne hk, firstB_get, firstB_get]
    by_cases hn : k < ops.size
    ·rw [if_pos hn, if_pos hn]; congr 1; exact decide_eq_decide.2 (by omega)
    ·rw [if_neg hn, if_neg hn]
  simp only [wpOp, ho]
  simp only [wpList] at h
  rw [hs]
  have IH := fun a' w' => wpAny_tail hB hE f (i + 1) a' w' (by omega) (by omega)
  split
  ·rename_i hw
   simp only [hw, if_true] at h
   exact h.imp (Oper.wp_mono IH) id
  ·rename_i hw
   simp only [hw] at h
   exact IH _ _ h
def leftN (listed : Array Bool) (n : Nat) : Nat := (List.range n).countP fun i => !listed.getD i true
theorem leftN_set {listed : Array Bool} {i : Nat} (h : listed.getD i true = false) : ∀ n, n ≤ listed.size → leftN (listed.setIfInBounds i true) n + (if i < n then 1 else 0) = leftN listed n
 | 0, _ => by simp [leftN]
 | n + 1, hn => by
  have ih := leftN_set h n (by omega)
  unfold leftN at *
  rw [List.range_succ, List.countP_append, List.countP_append]
  have hi : i < listed.size := by
   rcases Nat.lt_or_ge i listed.size with h' | h'
   ·exact h'
   ·simp [Array.getElem?_eq_none h'] at h
  by_cases hin : i = n
  ·subst hin
   have e : (listed.setIfInBounds i true).getD i true = true := by simp
   rw [if_neg (by omega)] at ih
   rw [if_pos (by omega)]
   simp only [List.countP_cons, List.countP_nil, e, h, Bool.not_true, Bool.not_false, if_true, Bool.false_eq_true, if_false]
   omega
  ·have e : (listed.setIfInBounds i true).getD n true = listed.getD n true := getD_set_ne true hin
   simp only [List.countP_cons, List.countP_nil, e]
   generalize (if (!listed.getD n true) = true then 1 else 0) = z
   by_cases h2 : i < n
   ·rw [if_pos h2] at ih; rw [if_pos (by omega)]; omega
   ·rw [if_neg h2] at ih; rw [if_neg (by omega)]; omega
def mixV (q : Nat) (val : Nat → Value) (gs : Nat → Nat) (i : Nat) : Value := if i < q then val i else .pointer (some ⟨gs i, 0, none⟩)
def Sown (w0 : World) (obj : Obj) (g : Nat) (w : World) : Prop := w0.heap.size ≤ g ∧ g < w.heap.size ∧ w.heap[g]? = some obj
theorem Sown.below {w0 w w' : World} {obj : Obj} {g : Nat} (h : Sown w0 obj g w) (hb : Below w.heap.size w w') : Sown w0 obj g w' := ⟨h.1, Nat.lt_of_lt_of_le h.2.1 hb.size, by rw [hb.block g h.2.1]; exact h.2.2⟩
structure SownSpec (ops : Array Oper) (q m : Nat) (ty : TypeId) : Prop where
 mn : m ≤ ops.size
 qm : q ≤ m
 dst : dstB ops m = true
 sel : Region.noSelect ops = true
 plain : ∀ i o, i < m → ops[i]? = some o → o.guard = none ∧ ∀ j ∈ depsOf ops i, j < i
 looks : ∀ i o t, i < q → ops[i]? = some o → t ∈ o.looksAt ops → ∀ j o', j < m → ops[j]? = some o' → o'.dst = some t → j < i ∧ j ∈ depsOf ops i
 allocs : ∀ i o, q ≤ i → i < m → ops[i]? = some o → o.op = .alloc ty
 all : ∀ j, m ≤ j → j < ops.size → ∀ i, i < m → i ∈ needs ops 4 (depsOf ops j)
 tail : ∀ j, m ≤ j → j < ops.size → Region.ready .any ops (firstB ops.size j) = [j]
 last : Region.ready .any ops (firstB ops.size ops.size) = []
theorem sown_spec {q m : Nat} {ty : TypeId} (h : sownB ops q m ty = true) : SownSpec ops q m ty := by
 unfold sownB at h
 simp only [Bool.and_eq_true, decide_eq_true_eq, List.all_eq_true, List.mem_range, beq_iff_eq] at h
 obtain ⟨⟨⟨⟨⟨⟨⟨⟨h1, h2⟩, h3⟩, h4⟩, h5⟩, h6⟩, h7⟩, h8⟩, h9⟩ := h
 refine ⟨h1, h2, h3, h4, fun i o hi ho => ?_, fun i o t hi ho ht j o' hj ho' hd => ?_, fun i o hq hi ho => ?_, fun j hm hj i hi => ?_, fun j hm hj => ?_, h9⟩
 ·obtain ⟨h51, h52⟩ := h5 i hi
  rw [ho] at h51
  exact ⟨by simpa using h51, h52⟩
 ·have h := h6 i hi t (by rw [ho]; exact ht) j hj
  rw [ho'] at h
  simp only [Option.bind_some, hd, bne_self_eq_false, Bool.false_or, Bool.and_eq_true, decide_eq_true_eq, List.contains_iff_mem] at h
  exact h
 ·have h := h7 i hi
  rw [ho] at h
  simp only [show ¬ i < q by omega, decide_false, Bool.false_or] at h
  split at h
  ·rename_i t e; rw [e]; simp only [beq_iff_eq] at h; rw [h]
  ·cases h
 ·have h := h8 j hj
  simp only [show ¬ j < m by omega, decide_false, Bool.false_or, Bool.and_eq_true, List.all_eq_true, List.mem_range, List.contains_iff_mem] at h
  exact h.1 i hi
 ·have h := h8 j hj
  simp only [show ¬ j < m by omega, decide_false, Bool.false_or, Bool.and_eq_true, List.all_eq_true, List.mem_range, List.contains_iff_mem, beq_iff_eq] at h
  exact h.2
end
end Go.Proofs.YtcgbgmbnagmohaaDoor
namespace Go.Proofs.YtcgbgmbnagmohaaDoor
open Go.RowKit
set_option maxRecDepth 20000
section
variable {P : Program} {ops : Array Oper} {Q : Exit → Act → World → Prop}
theorem listed_of_true {listed : Array Bool} {i : Nat} (h : listed.getD i false = true) : listed.getD i true = true := by
 simp only [Array.getD_eq_getD_getElem?] at *
 cases e : listed[i]? with
 | none => rfl
 | some b => rw [e] at h; simpa using h
theorem listed_of_false {listed : Array Bool} {i : Nat} (hi : i < listed.size) (h : ¬ listed.getD i false = true) : listed.getD i true = false := by
 simp only [Array.getD_eq_getD_getElem?] at *
 rw [Array.getElem?_eq_getElem hi] at *
 simpa using h
theorem set_listed {listed : Array Bool} {i : Nat} (hi : i < listed.size) (j : Nat) : (listed.setIfInBounds i true).getD j false = true ↔ (listed.getD j false = true ∨ j = i) := by
 by_cases h : i = j
 ·subst h; simp [hi]
 ·rw [getD_set_ne false h]
  exact ⟨.inl, fun h' => h'.elim id fun e => absurd e.symm h⟩
theorem sown_any {w0 : World} {q m : Nat} {ty : TypeId} {obj : Obj} {a0 : Act} {val : Nat → Value} (hB : SownSpec ops q m ty)
  (hA : ∀ (ρ : Operand → Value) (w : World) (i : Nat) (o : Oper), q ≤ i → i < m → o.op = .alloc ty → (execOp ρ o).run P w = .ok (.value (.pointer (some ⟨w.heap.size, 0, none⟩))) (w.alloc obj))
  (hC : ∀ i o, i < q → ops[i]? = some o → ∃ aL, FA ops m a0 (fun x => x < i) val aL ∧ ∀ w, Below w0.heap.size w0 w → calmUpon P w (val i) ((execOp aL.eval o).run P w))
  (hT : ∀ (gs : Nat → Nat) (a : Act) (w : World), FA ops m a0 (fun i => i < m) (mixV q val gs) a → Below w0.heap.size w0 w → (∀ i, q ≤ i → i < m → Sown w0 obj (gs i) w) → (∀ i j, q ≤ i → i < m → q ≤ j → j < m → i ≠ j → gs i ≠ gs j) → wpList P ops Q (ops.toList.drop m) a w) :
  ∀ (fuel : Nat) (listed : Array Bool) (a : Act) (w : World) (gs : Nat → Nat), listed.size = ops.size → (∀ j, m ≤ j → listed.getD j false = false) → Closed ops listed → leftN listed ops.size = fuel →
   Below w0.heap.size w0 w → FA ops m a0 (fun i => listed.getD i false = true) (mixV q val gs) a →
   (∀ i, q ≤ i → i < m → listed.getD i false = true → Sown w0 obj (gs i) w) →
   (∀ i j, q ≤ i → i < m → q ≤ j → j < m → i ≠ j → listed.getD i false = true → listed.getD j false = true → gs i ≠ gs j) →
   wpAny P .any ops Q fuel listed a w := by
 intro fuel
 induction fuel with
 | zero =>
  intro listed a w gs hs hm hcl hf hb hF hS hD
  have hall : ∀ i, i < ops.size → listed.getD i true = true := by
   intro i hi
   unfold leftN at hf
   rw [List.countP_eq_zero] at hf
   simpa using hf i (List.mem_range.2 hi)
  have hno : ¬ m < ops.size := fun h => by
   have h1 := hall m h
   have h2 := hm m (Nat.le_refl _)
   simp only [Array.getD_eq_getD_getElem?, Array.getElem?_eq_getElem (show m < listed.size by omega), Option.getD_some] at h1 h2
   rw [h1] at h2; cases h2
  have hmn : m = ops.size := by have := hB.mn; omega
  have hL : ∀ i, i < m → listed.getD i false = true := fun i hi => by
   have h1 := hall i (by omega)
   simp only [Array.getD_eq_getD_getElem?, Array.getElem?_eq_getElem (show i < listed.size by omega), Option.getD_some] at h1 ⊢
   exact h1
  have hfirst : listed = firstB ops.size m := by
   apply Array.ext_getElem?
   intro k
   rw [firstB_get]
   by_cases hk : k < ops.size
   ·rw [if_pos hk]
    have h1 := hall k hk
    simp only [Array.getD_eq_getD_getElem?, Array.getElem?_eq_getElem (show k < listed.size by omega), Option.getD_some] at h1
    rw [Array.getElem?_eq_getElem (show k < listed.size by omega), h1, decide_eq_true (by omega)]
   ·rw [if_neg hk, Array.getElem?_eq_none (by omega)]
  rw [hfirst]
  refine wpAny_tail hB.tail hB.last 0 m a w (by omega) (Nat.le_refl _) ?_
  exact hT gs a w (hF.congr (fun i hi => ⟨fun _ => hi, fun _ => hL i hi⟩) fun _ _ _ => rfl) hb (fun i h1 h2 => hS i h1 h2 (hL i h2)) fun i j h1 h2 h3 h4 h5 => hD i j h1 h2 h3 h4 h5 (hL i h2) (hL j h4)
 | succ fuel ih =>
  intro listed a w gs hs hm hcl hf hb hF hS hD
  by_cases hall : ∀ i, i < m → listed.getD i false = true
  ·have hfirst : listed = firstB ops.size m := by
    apply Array.ext_getElem?
    intro k
    rw [firstB_get]
    by_cases hk : k < ops.size
    ·rw [if_pos hk, Array.getElem?_eq_getElem (show k < listed.size by omega)]
     congr 1
     by_cases hkm : k < m
     ·have h1 := hall k hkm
      simp only [Array.getD_eq_getD_getElem?, Array.getElem?_eq_getElem (show k < listed.size by omega), Option.getD_some] at h1
      rw [h1, decide_eq_true hkm]
     ·have h1 := hm k (by omega)
      simp only [Array.getD_eq_getD_getElem?, Array.getElem?_eq_getElem (show k < listed.size by omega), Option.getD_some] at h1
      rw [h1, decide_eq_false hkm]
    ·rw [if_neg hk, Array.getElem?_eq_none (by omega)]
   have hfu : m + (fuel + 1) = ops.size := by
    have hg : ∀ n, n ≤ ops.size → leftN listed n = n - m := by
     intro n
     induction n with
     | zero => intro _; simp [leftN]
     | succ n ihn =>
      intro hn
      have h1 := ihn (by omega)
      unfold leftN at h1 ⊢
      rw [List.range_succ, List.countP_append, h1]
      by_cases hnm : n < m
      ·have h2 := listed_of_true (hall n hnm)
       simp only [List.countP_cons, List.countP_nil, h2, Bool.not_true, Bool.false_eq_true, if_false]
       omega
      ·have h2 : listed.getD n true = false := listed_of_false (by omega) (by rw [hm n (by omega)]; simp)
       simp only [List.countP_cons, List.countP_nil, h2, Bool.not_false, if_true]
       omega
    have := hg ops.size (Nat.le_refl _)
    have := hB.mn
    omega
   rw [hfirst]
   refine wpAny_tail hB.tail hB.last (fuel + 1) m a w hfu (Nat.le_refl _) ?_
   exact hT gs a w (hF.congr (fun i hi => ⟨fun _ => hi, fun _ => hall i hi⟩) fun _ _ _ => rfl) hb (fun i h1 h2 => hS i h1 h2 (hall i h2)) fun i j h1 h2 h3 h4 h5 => hD i j h1 h2 h3 h4 h5 (hall i h2) (hall j h4)
  ·have hmn := hB.mn
   refine ⟨fun hr => absurd ?_ hall, fun j hj => ?_⟩
   ·-- nothing may come up: then all have
    intro i
    induction i using Nat.strongRecOn with
    | _ i ihi =>
     intro hi
     cases hd : listed.getD i false with
     | true => rfl
     | false =>
      exfalso
      have ho : ops[i]? = some ops[i] := Array.getElem?_eq_getElem (by omega)
      have := ready_of_deps (listed := listed) ho (listed_of_false (by omega) (by rw [hd]; simp)) fun x hx => ihi x ((hB.plain i _ hi ho).2 x hx) (by have := (hB.plain i _ hi ho).2 x hx; omega)
      rw [hr] at this
      cases this
   ·obtain ⟨hun, o, ho, _⟩ := mem_ready.1 hj
    have hjn : j < ops.size := by
     rcases Nat.lt_or_ge j ops.size with h | h
     ·exact h
     ·rw [Array.getElem?_eq_none h] at ho; cases ho
    have hdeps := ready_deps hj
    have hjm : j < m := by
     rcases Nat.lt_or_ge j m with h | h
     ·exact h
     ·exact absurd (fun i hi => needs_listed hcl 4 _ hdeps i (hB.all j h hjn i hi)) hall
    have hnl : ¬ listed.getD j false = true := fun h => by rw [listed_of_true h] at hun; cases hun
    have hgd := (hB.plain j o hjm ho).1
    have hw : Region.wanted o (yielded ops a.tmps) = true := by unfold Region.wanted; rw [hgd]
    have hsel := fun cs b => Region.noSelect_spec hB.sel j o cs b ho
    have hset := set_listed (listed := listed) (i := j) (by omega)
    have hs' : (listed.setIfInBounds j true).size = ops.size := by simpa using hs
    have hm' : ∀ k, m ≤ k → (listed.setIfInBounds j true).getD k false = false := fun k hk => by rw [getD_set_ne false (by omega)]; exact hm k hk
    have hcl' : Closed ops (listed.setIfInBounds j true) := fun i hi x hx => by
     rw [hset]
     rcases (hset i).1 hi with h | rfl
     ·exact .inl (hcl i h x hx)
     ·exact .inl (hdeps x hx)
    have hf' : leftN (listed.setIfInBounds j true) ops.size = fuel := by
     have := leftN_set hun ops.size (by omega)
     rw [if_pos hjn] at this
     omega
    simp only [wpOp, ho, hw, if_true]
    refine .inl ?_
    unfold Oper.wp
    by_cases hjq : j < q
    ·obtain ⟨aL, hFL, hcalm⟩ := hC j o hjq ho
     have hFL' : FA ops m a0 (fun x => x < j) (mixV q val gs) aL := hFL.congr (fun _ _ => Iff.rfl) fun i _ hi => by unfold mixV; rw [if_pos (by omega)]
     have hev : execOp a.eval o = execOp aL.eval o := by
      refine execOp_congr o hsel fun x hx => ?_
      cases x with
      | tmp t =>
       have ht : t ∈ o.looksAt ops := List.mem_append_left _ (List.mem_filterMap.2 ⟨.tmp t, by simpa using hx, rfl⟩)
       have := hF.slot hFL' t fun i o' hi ho' hd => by
        obtain ⟨h1, h2⟩ := hB.looks j o t hjq ho ht i o' hi ho' hd
        exact ⟨hdeps i h2, h1⟩
       simp only [Act.eval, Array.getD_eq_getD_getElem?, this]
      | _ => rfl
     rw [hev]
     have hc := hcalm w hb
     have hF' : FA ops m a0 (fun i => (listed.setIfInBounds j true).getD i false = true) (mixV q val gs) (a.put o.dst (val j)) :=
      hF.put hB.dst hjm ho (by unfold mixV; rw [if_pos hjq]) hset hnl
     generalize (execOp aL.eval o).run P w = r at *
     cases r with
     | ok n w' =>
      cases n <;> simp only [calmUpon] at hc <;> simp only [Oper.upon]
      case value u =>
       obtain ⟨rfl, rfl⟩ := hc
       exact ih _ _ _ gs hs' hm' hcl' hf' hb hF' (fun i h1 h2 h3 => hS i h1 h2 (((hset i).1 h3).resolve_right (by omega)))
        fun i k h1 h2 h3 h4 h5 h6 h7 => hD i k h1 h2 h3 h4 h5 (((hset i).1 h6).resolve_right (by omega)) (((hset k).1 h7).resolve_right (by omega))
      case enter f args =>
       obtain ⟨rfl, hcall⟩ := hc
       refine hcall.mono fun e w'' ⟨he, hb'⟩ => ?_
       subst he
       exact ih _ _ _ gs hs' hm' hcl' hf' (hb.trans (hb'.mono hb.size)) hF' (fun i h1 h2 h3 => (hS i h1 h2 (((hset i).1 h3).resolve_right (by omega))).below hb')
        fun i k h1 h2 h3 h4 h5 h6 h7 => hD i k h1 h2 h3 h4 h5 (((hset i).1 h6).resolve_right (by omega)) (((hset k).1 h7).resolve_right (by omega))
     | halt x w' => simp only [calmUpon] at hc
    ·rw [hA _ _ j o (by omega) hjm (hB.allocs j o (by omega) hjm ho)]
     simp only [Oper.upon]
     have hbA : Below w.heap.size w (w.alloc obj) := (Below.refl _ _).alloc (Nat.le_refl _) _
     have hF1 : FA ops m a0 (fun i => listed.getD i false = true) (mixV q val (fun i => if i = j then w.heap.size else gs i)) a := hF.congr (fun _ _ => Iff.rfl) fun i _ hi => by
      have hij : i ≠ j := fun e => hnl (e ▸ hi)
      unfold mixV; simp only [if_neg hij]
     have hF' : FA ops m a0 (fun i => (listed.setIfInBounds j true).getD i false = true) (mixV q val (fun i => if i = j then w.heap.size else gs i)) (a.put o.dst (.pointer (some ⟨w.heap.size, 0, none⟩))) :=
      hF1.put hB.dst hjm ho (by unfold mixV; rw [if_neg hjq]; simp) hset hnl
     refine ih _ _ _ (fun i => if i = j then w.heap.size else gs i) hs' hm' hcl' hf' (hb.trans (hbA.mono hb.size)) hF' (fun i h1 h2 h3 => ?_) fun i k h1 h2 h3 h4 h5 h6 h7 => ?_
     ·by_cases hij : i = j
      ·subst hij
       simp only [if_true]
       exact ⟨hb.size, by simp, by show (w.heap.push obj)[w.heap.size]? = some obj; simp⟩
      ·simp only [if_neg hij]
       exact (hS i h1 h2 (((hset i).1 h3).resolve_right hij)).below hbA
     ·by_cases hij : i = j
      ·have hkj : k ≠ j := fun e => h5 (hij.trans e.symm)
       simp only [if_pos hij, if_neg hkj]
       have := (hS k h3 h4 (((hset k).1 h7).resolve_right hkj)).2.1
       omega
      ·by_cases hkj : k = j
       ·simp only [if_neg hij, if_pos hkj]
        have := (hS i h1 h2 (((hset i).1 h6).resolve_right hij)).2.1
        omega
       ·simp only [if_neg hij, if_neg hkj]
        exact hD i k h1 h2 h3 h4 h5 (((hset i).1 h6).resolve_right hij) (((hset k).1 h7).resolve_right hkj)
theorem leftN_none (n : Nat) : ∀ k, k ≤ n → leftN (Array.replicate n false) k = k
 | 0, _ => by simp [leftN]
 | k + 1, h => by
  have ih := leftN_none n k (by omega)
  unfold leftN at ih ⊢
  have e : (Array.replicate n false).getD k true = false := by simp [show k < n by omega]
  rw [List.range_succ, List.countP_append, ih]
  simp only [List.countP_cons, List.countP_nil, e, Bool.not_false, if_true]
theorem wp_region_sown {id : Nat} {l : List Oper} {a : Act} {w : World} {obj : Obj} (q m : Nat) (ty : TypeId) (hm : P.follows .mixedOrders = true) (hB : sownB l.toArray q m ty = true)
  (hA : ∀ (ρ : Operand → Value) (w : World) (i : Nat) (o : Oper), q ≤ i → i < m → o.op = .alloc ty → (execOp ρ o).run P w = .ok (.value (.pointer (some ⟨w.heap.size, 0, none⟩))) (w.alloc obj))
  (h : wpCalm P w (fun a' => ∀ (val : Nat → Value), FA l.toArray m a (fun i => i < q) val a' → ∀ (gs : Nat → Nat) (a'' : Act) (w' : World), FA l.toArray m a (fun i => i < m) (mixV q val gs) a'' → Below w.heap.size w w' →
   (∀ i, q ≤ i → i < m → Sown w obj (gs i) w') → (∀ i j, q ≤ i → i < m → q ≤ j → j < m → i ≠ j → gs i ≠ gs j) → wpList P l.toArray Q (l.drop m) a'' w') q l a) : (Code.region id l.toArray true).wp P Q a w := by
 have hS := sown_spec hB
 have hn : ∀ i : Nat, ¬ (Array.replicate l.toArray.size false).getD i false = true := fun i => by
  simp only [Array.getD_eq_getD_getElem?, Array.getElem?_replicate]
  split <;> simp
 obtain ⟨val, _, e2, aQ, hQ, hK⟩ := wpCalm_table (P := P) hS.dst hS.qm q 0 l (fun _ => undef) a (by omega) (fun i => by simp) (FA.start _ _ _ _) h
 refine wp_region_any hm ?_
 refine sown_any hS hA (fun i o hi ho => e2 i o (Nat.zero_le _) hi ho) (fun gs a'' w' hF hb h1 h2 => ?_) _ _ _ _ (fun _ => 0) (by simp) (fun j _ => by simpa using hn j) (fun i hi => absurd hi (hn i)) (leftN_none _ _ (Nat.le_refl _)) (Below.refl _ _).drew ?_ (fun i _ _ h => absurd h (hn i)) (fun i _ _ _ _ _ _ h => absurd h (hn i))
 ·exact hK val hQ gs a'' w' hF hb h1 h2
 ·exact (FA.start _ _ _ (fun _ => undef)).congr (fun i _ => ⟨fun h => absurd h (Nat.not_lt_zero _), fun h => absurd h (hn i)⟩) fun i _ (h : i < 0) => absurd h (Nat.not_lt_zero _)
theorem qbf {id : Nat} {l : List Oper} {a : Act} {w : World} (q : Nat) (hm : P.follows .mixedOrders = true) (hB : sownB l.toArray q q 0 = true)
  (h : wpCalm P w (fun a' => ∀ w', Below w.heap.size w w' → wpList P l.toArray Q (l.drop q) a' w') q l a) : (Code.region id l.toArray true).wp P Q a w := by
 refine wp_region_sown (obj := .cells #[] 0) q q 0 hm hB (fun _ _ i _ h1 h2 => absurd h2 (by omega)) ?_
 refine wpCalm_mono ?_ q l a h
 intro a' h' val hF gs a'' w' hF' hb _ _
 have e : a'' = a' := hF'.ext (hF.congr (fun _ _ => Iff.rfl) fun i hi _ => by unfold mixV; rw [if_pos hi]) fun i hi => hi
 rw [e]
 exact h' w' hb
theorem wp_region_sow2 {id : Nat} {l : List Oper} {a : Act} {w : World} {obj : Obj} {o1 o2 : Oper} (q : Nat) (ty : TypeId) (hm : P.follows .mixedOrders = true) (h1 : l[q]? = some o1) (h2 : l[q + 1]? = some o2) (hB : sownB l.toArray q (q + 2) ty = true)
  (hA : ∀ (ρ : Operand → Value) (w : World) (o : Oper), o.op = .alloc ty → (execOp ρ o).run P w = .ok (.value (.pointer (some ⟨w.heap.size, 0, none⟩))) (w.alloc obj))
  (h : wpCalm P w (fun a' => ∀ (g1 g2 : Nat) (w' : World), Below w.heap.size w w' → Sown w obj g1 w' → Sown w obj g2 w' → g1 ≠ g2 →
   wpList P l.toArray Q (l.drop (q + 2)) ((a'.put o1.dst (.pointer (some ⟨g1, 0, none⟩))).put o2.dst (.pointer (some ⟨g2, 0, none⟩))) w') q l a) : (Code.region id l.toArray true).wp P Q a w := by
 refine wp_region_sown q (q + 2) ty hm hB (fun ρ w _ o _ _ => hA ρ w o) ?_
 refine wpCalm_mono ?_ q l a h
 have hS := sown_spec hB
 intro a' h' val hF gs a'' w' hF' hb hs hd
 have f0 : FA l.toArray (q + 2) a (fun i => i < q) (mixV q val gs) a' := hF.congr (fun _ _ => Iff.rfl) fun i _ hi => by unfold mixV; rw [if_pos hi]
 have f1 := f0.put (i := q) (o := o1) (v := .pointer (some ⟨gs q, 0, none⟩)) (L' := fun i => i < q + 1) hS.dst (by omega) (by simpa using h1) (by unfold mixV; rw [if_neg (by omega)]) (fun j => by omega) (Nat.lt_irrefl _)
 have f2 := f1.put (i := q + 1) (o := o2) (v := .pointer (some ⟨gs (q + 1), 0, none⟩)) (L' := fun i => i < q + 2) hS.dst (by omega) (by simpa using h2) (by unfold mixV; rw [if_neg (by omega)]) (fun j => by omega) (Nat.lt_irrefl _)
 rw [hF'.ext f2 fun i hi => hi]
 exact h' _ _ _ hb (hs q (Nat.le_refl _) (by omega)) (hs (q + 1) (by omega) (by omega)) (hd q (q + 1) (Nat.le_refl _) (by omega) (by omega) (by omega) (by omega))
end
end Go.Proofs.YtcgbgmbnagmohaaDoor
