/- The law of a region that sows: calm operations in whatever order, blocks laid in between, then the rest. -/
import Derived.Test.YtgioojahadlmhaaSown
namespace Go.Proofs.Ytgioojahadlmhaa
open Go.RowKit
set_option maxRecDepth 20000

section
variable {P : Program} {ops : Array Oper} {Q : Exit → Act → World → Prop}

theorem listed_of_true {listed : Array Bool} {i : Nat} (h : listed.getD i false = true) : listed.getD i true = true := by
  simp only [Array.getD_eq_getD_getElem?] at *
  cases e : listed[i]? with
  | none => rfl
  | some b => rw [e] at h; simpa using h
theorem listed_of_false {listed : Array Bool} {i : Nat} (hi : i < listed.size) (h : ¬ listed.getD i false = true) : listed.getD i true = false := by
  simp only [Array.getD_eq_getD_getElem?] at *
  rw [Array.getElem?_eq_getElem hi] at *
  simpa using h
theorem set_listed {listed : Array Bool} {i : Nat} (hi : i < listed.size) (j : Nat) : (listed.setIfInBounds i true).getD j false = true ↔ (listed.getD j false = true ∨ j = i) := by
  by_cases h : i = j
  · subst h; simp [hi]
  · rw [getD_set_ne false h]
    exact ⟨.inl, fun h' => h'.elim id fun e => absurd e.symm h⟩

theorem sown_any {w0 : World} {q m : Nat} {ty : TypeId} {obj : Obj} {a0 : Act} {val : Nat → Value} (hB : SownSpec ops q m ty)
    (hA : ∀ (ρ : Operand → Value) (w : World) (i : Nat) (o : Oper), q ≤ i → i < m → o.op = .alloc ty → (execOp ρ o).run P w = .ok (.value (.pointer (some ⟨w.heap.size, 0, none⟩))) (w.alloc obj))
    (hC : ∀ i o, i < q → ops[i]? = some o → ∃ aL, FA ops m a0 (fun x => x < i) val aL ∧ ∀ w, Below w0.heap.size w0 w → calmUpon P w (val i) ((execOp aL.eval o).run P w))
    (hT : ∀ (gs : Nat → Nat) (a : Act) (w : World), FA ops m a0 (fun i => i < m) (mixV q val gs) a → Below w0.heap.size w0 w → (∀ i, q ≤ i → i < m → Sown w0 obj (gs i) w) → (∀ i j, q ≤ i → i < m → q ≤ j → j < m → i ≠ j → gs i ≠ gs j) → wpList P ops Q (ops.toList.drop m) a w) :
    ∀ (fuel : Nat) (listed : Array Bool) (a : Act) (w : World) (gs : Nat → Nat), listed.size = ops.size → (∀ j, m ≤ j → listed.getD j false = false) → Closed ops listed → leftN listed ops.size = fuel →
      Below w0.heap.size w0 w → FA ops m a0 (fun i => listed.getD i false = true) (mixV q val gs) a →
      (∀ i, q ≤ i → i < m → listed.getD i false = true → Sown w0 obj (gs i) w) →
      (∀ i j, q ≤ i → i < m → q ≤ j → j < m → i ≠ j → listed.getD i false = true → listed.getD j false = true → gs i ≠ gs j) →
      wpAny P .any ops Q fuel listed a w := by
  intro fuel
  induction fuel with
  | zero =>
    intro listed a w gs hs hm hcl hf hb hF hS hD
    have hall : ∀ i, i < ops.size → listed.getD i true = true := by
      intro i hi
      unfold leftN at hf
      rw [List.countP_eq_zero] at hf
      simpa using hf i (List.mem_range.2 hi)
    have hno : ¬ m < ops.size := fun h => by
      have h1 := hall m h
      have h2 := hm m (Nat.le_refl _)
      simp only [Array.getD_eq_getD_getElem?, Array.getElem?_eq_getElem (show m < listed.size by omega), Option.getD_some] at h1 h2
      rw [h1] at h2; cases h2
    have hmn : m = ops.size := by have := hB.mn; omega
    have hL : ∀ i, i < m → listed.getD i false = true := fun i hi => by
      have h1 := hall i (by omega)
      simp only [Array.getD_eq_getD_getElem?, Array.getElem?_eq_getElem (show i < listed.size by omega), Option.getD_some] at h1 ⊢
      exact h1
    have hfirst : listed = firstB ops.size m := by
      apply Array.ext_getElem?
      intro k
      rw [firstB_get]
      by_cases hk : k < ops.size
      · rw [if_pos hk]
        have h1 := hall k hk
        simp only [Array.getD_eq_getD_getElem?, Array.getElem?_eq_getElem (show k < listed.size by omega), Option.getD_some] at h1
        rw [Array.getElem?_eq_getElem (show k < listed.size by omega), h1, decide_eq_true (by omega)]
      · rw [if_neg hk, Array.getElem?_eq_none (by omega)]
    rw [hfirst]
    refine wpAny_tail hB.tail hB.last 0 m a w (by omega) (Nat.le_refl _) ?_
    exact hT gs a w (hF.congr (fun i hi => ⟨fun _ => hi, fun _ => hL i hi⟩) fun _ _ _ => rfl) hb (fun i h1 h2 => hS i h1 h2 (hL i h2)) fun i j h1 h2 h3 h4 h5 => hD i j h1 h2 h3 h4 h5 (hL i h2) (hL j h4)
  | succ fuel ih =>
    intro listed a w gs hs hm hcl hf hb hF hS hD
    by_cases hall : ∀ i, i < m → listed.getD i false = true
    · have hfirst : listed = firstB ops.size m := by
        apply Array.ext_getElem?
        intro k
        rw [firstB_get]
        by_cases hk : k < ops.size
        · rw [if_pos hk, Array.getElem?_eq_getElem (show k < listed.size by omega)]
          congr 1
          by_cases hkm : k < m
          · have h1 := hall k hkm
            simp only [Array.getD_eq_getD_getElem?, Array.getElem?_eq_getElem (show k < listed.size by omega), Option.getD_some] at h1
            rw [h1, decide_eq_true hkm]
          · have h1 := hm k (by omega)
            simp only [Array.getD_eq_getD_getElem?, Array.getElem?_eq_getElem (show k < listed.size by omega), Option.getD_some] at h1
            rw [h1, decide_eq_false hkm]
        · rw [if_neg hk, Array.getElem?_eq_none (by omega)]
      have hfu : m + (fuel + 1) = ops.size := by
        have hg : ∀ n, n ≤ ops.size → leftN listed n = n - m := by
          intro n
          induction n with
          | zero => intro _; simp [leftN]
          | succ n ihn =>
            intro hn
            have h1 := ihn (by omega)
            unfold leftN at h1 ⊢
            rw [List.range_succ, List.countP_append, h1]
            by_cases hnm : n < m
            · have h2 := listed_of_true (hall n hnm)
              simp only [List.countP_cons, List.countP_nil, h2, Bool.not_true, Bool.false_eq_true, if_false]
              omega
            · have h2 : listed.getD n true = false := listed_of_false (by omega) (by rw [hm n (by omega)]; simp)
              simp only [List.countP_cons, List.countP_nil, h2, Bool.not_false, if_true]
              omega
        have := hg ops.size (Nat.le_refl _)
        have := hB.mn
        omega
      rw [hfirst]
      refine wpAny_tail hB.tail hB.last (fuel + 1) m a w hfu (Nat.le_refl _) ?_
      exact hT gs a w (hF.congr (fun i hi => ⟨fun _ => hi, fun _ => hall i hi⟩) fun _ _ _ => rfl) hb (fun i h1 h2 => hS i h1 h2 (hall i h2)) fun i j h1 h2 h3 h4 h5 => hD i j h1 h2 h3 h4 h5 (hall i h2) (hall j h4)
    · have hmn := hB.mn
      refine ⟨fun hr => absurd ?_ hall, fun j hj => ?_⟩
      · -- nothing may come up: then all have
        intro i
        induction i using Nat.strongRecOn with
        | _ i ihi =>
          intro hi
          cases hd : listed.getD i false with
          | true => rfl
          | false =>
            exfalso
            have ho : ops[i]? = some ops[i] := Array.getElem?_eq_getElem (by omega)
            have := ready_of_deps (listed := listed) ho (listed_of_false (by omega) (by rw [hd]; simp)) fun x hx => ihi x ((hB.plain i _ hi ho).2 x hx) (by have := (hB.plain i _ hi ho).2 x hx; omega)
            rw [hr] at this
            cases this
      · obtain ⟨hun, o, ho, _⟩ := mem_ready.1 hj
        have hjn : j < ops.size := by
          rcases Nat.lt_or_ge j ops.size with h | h
          · exact h
          · rw [Array.getElem?_eq_none h] at ho; cases ho
        have hdeps := ready_deps hj
        have hjm : j < m := by
          rcases Nat.lt_or_ge j m with h | h
          · exact h
          · exact absurd (fun i hi => needs_listed hcl 4 _ hdeps i (hB.all j h hjn i hi)) hall
        have hnl : ¬ listed.getD j false = true := fun h => by rw [listed_of_true h] at hun; cases hun
        have hgd := (hB.plain j o hjm ho).1
        have hw : Region.wanted o (yielded ops a.tmps) = true := by unfold Region.wanted; rw [hgd]
        have hsel := fun cs b => Region.noSelect_spec hB.sel j o cs b ho
        have hset := set_listed (listed := listed) (i := j) (by omega)
        have hs' : (listed.setIfInBounds j true).size = ops.size := by simpa using hs
        have hm' : ∀ k, m ≤ k → (listed.setIfInBounds j true).getD k false = false := fun k hk => by rw [getD_set_ne false (by omega)]; exact hm k hk
        have hcl' : Closed ops (listed.setIfInBounds j true) := fun i hi x hx => by
          rw [hset]
          rcases (hset i).1 hi with h | rfl
          · exact .inl (hcl i h x hx)
          · exact .inl (hdeps x hx)
        have hf' : leftN (listed.setIfInBounds j true) ops.size = fuel := by
          have := leftN_set hun ops.size (by omega)
          rw [if_pos hjn] at this
          omega
        simp only [wpOp, ho, hw, if_true]
        refine .inl ?_
        unfold Oper.wp
        by_cases hjq : j < q
        · obtain ⟨aL, hFL, hcalm⟩ := hC j o hjq ho
          have hFL' : FA ops m a0 (fun x => x < j) (mixV q val gs) aL := hFL.congr (fun _ _ => Iff.rfl) fun i _ hi => by unfold mixV; rw [if_pos (by omega)]
          have hev : execOp a.eval o = execOp aL.eval o := by
            refine execOp_congr o hsel fun x hx => ?_
            cases x with
            | tmp t =>
              have ht : t ∈ o.looksAt ops := List.mem_append_left _ (List.mem_filterMap.2 ⟨.tmp t, by simpa using hx, rfl⟩)
              have := hF.slot hFL' t fun i o' hi ho' hd => by
                obtain ⟨h1, h2⟩ := hB.looks j o t hjq ho ht i o' hi ho' hd
                exact ⟨hdeps i h2, h1⟩
              simp only [Act.eval, Array.getD_eq_getD_getElem?, this]
            | _ => rfl
          rw [hev]
          have hc := hcalm w hb
          have hF' : FA ops m a0 (fun i => (listed.setIfInBounds j true).getD i false = true) (mixV q val gs) (a.put o.dst (val j)) :=
            hF.put hB.dst hjm ho (by unfold mixV; rw [if_pos hjq]) hset hnl
          generalize (execOp aL.eval o).run P w = r at *
          cases r with
          | ok n w' =>
            cases n <;> simp only [calmUpon] at hc <;> simp only [Oper.upon]
            case value u =>
              obtain ⟨rfl, rfl⟩ := hc
              exact ih _ _ _ gs hs' hm' hcl' hf' hb hF' (fun i h1 h2 h3 => hS i h1 h2 (((hset i).1 h3).resolve_right (by omega)))
                fun i k h1 h2 h3 h4 h5 h6 h7 => hD i k h1 h2 h3 h4 h5 (((hset i).1 h6).resolve_right (by omega)) (((hset k).1 h7).resolve_right (by omega))
            case enter f args =>
              obtain ⟨rfl, hcall⟩ := hc
              refine hcall.mono fun e w'' ⟨he, hb'⟩ => ?_
              subst he
              exact ih _ _ _ gs hs' hm' hcl' hf' (hb.trans (hb'.mono hb.size)) hF' (fun i h1 h2 h3 => (hS i h1 h2 (((hset i).1 h3).resolve_right (by omega))).below hb')
                fun i k h1 h2 h3 h4 h5 h6 h7 => hD i k h1 h2 h3 h4 h5 (((hset i).1 h6).resolve_right (by omega)) (((hset k).1 h7).resolve_right (by omega))
          | halt x w' => simp only [calmUpon] at hc
        · rw [hA _ _ j o (by omega) hjm (hB.allocs j o (by omega) hjm ho)]
          simp only [Oper.upon]
          have hbA : Below w.heap.size w (w.alloc obj) := (Below.refl _ _).alloc (Nat.le_refl _) _
          have hF1 : FA ops m a0 (fun i => listed.getD i false = true) (mixV q val (fun i => if i = j then w.heap.size else gs i)) a := hF.congr (fun _ _ => Iff.rfl) fun i _ hi => by
            have hij : i ≠ j := fun e => hnl (e ▸ hi)
            unfold mixV; simp only [if_neg hij]
          have hF' : FA ops m a0 (fun i => (listed.setIfInBounds j true).getD i false = true) (mixV q val (fun i => if i = j then w.heap.size else gs i)) (a.put o.dst (.pointer (some ⟨w.heap.size, 0, none⟩))) :=
            hF1.put hB.dst hjm ho (by unfold mixV; rw [if_neg hjq]; simp) hset hnl
          refine ih _ _ _ (fun i => if i = j then w.heap.size else gs i) hs' hm' hcl' hf' (hb.trans (hbA.mono hb.size)) hF' (fun i h1 h2 h3 => ?_) fun i k h1 h2 h3 h4 h5 h6 h7 => ?_
          · by_cases hij : i = j
            · subst hij
              simp only [if_true]
              exact ⟨hb.size, by simp, by show (w.heap.push obj)[w.heap.size]? = some obj; simp⟩
            · simp only [if_neg hij]
              exact (hS i h1 h2 (((hset i).1 h3).resolve_right hij)).below hbA
          · by_cases hij : i = j
            · have hkj : k ≠ j := fun e => h5 (hij.trans e.symm)
              simp only [if_pos hij, if_neg hkj]
              have := (hS k h3 h4 (((hset k).1 h7).resolve_right hkj)).2.1
              omega
            · by_cases hkj : k = j
              · simp only [if_neg hij, if_pos hkj]
                have := (hS i h1 h2 (((hset i).1 h6).resolve_right hij)).2.1
                omega
              · simp only [if_neg hij, if_neg hkj]
                exact hD i k h1 h2 h3 h4 h5 (((hset i).1 h6).resolve_right hij) (((hset k).1 h7).resolve_right hkj)

theorem leftN_none (n : Nat) : ∀ k, k ≤ n → leftN (Array.replicate n false) k = k
  | 0, _ => by simp [leftN]
  | k + 1, h => by
    have ih := leftN_none n k (by omega)
    unfold leftN at ih ⊢
    have e : (Array.replicate n false).getD k true = false := by simp [show k < n by omega]
    rw [List.range_succ, List.countP_append, ih]
    simp only [List.countP_cons, List.countP_nil, e, Bool.not_false, if_true]

theorem wp_region_sown {id : Nat} {l : List Oper} {a : Act} {w : World} {obj : Obj} (q m : Nat) (ty : TypeId) (hm : P.follows .mixedOrders = true) (hB : sownB l.toArray q m ty = true)
    (hA : ∀ (ρ : Operand → Value) (w : World) (i : Nat) (o : Oper), q ≤ i → i < m → o.op = .alloc ty → (execOp ρ o).run P w = .ok (.value (.pointer (some ⟨w.heap.size, 0, none⟩))) (w.alloc obj))
    (h : wpCalm P w (fun a' => ∀ (val : Nat → Value), FA l.toArray m a (fun i => i < q) val a' → ∀ (gs : Nat → Nat) (a'' : Act) (w' : World), FA l.toArray m a (fun i => i < m) (mixV q val gs) a'' → Below w.heap.size w w' →
      (∀ i, q ≤ i → i < m → Sown w obj (gs i) w') → (∀ i j, q ≤ i → i < m → q ≤ j → j < m → i ≠ j → gs i ≠ gs j) → wpList P l.toArray Q (l.drop m) a'' w') q l a) : (Code.region id l.toArray true).wp P Q a w := by
  have hS := sown_spec hB
  have hn : ∀ i : Nat, ¬ (Array.replicate l.toArray.size false).getD i false = true := fun i => by
    simp only [Array.getD_eq_getD_getElem?, Array.getElem?_replicate]
    split <;> simp
  obtain ⟨val, _, e2, aQ, hQ, hK⟩ := wpCalm_table (P := P) hS.dst hS.qm q 0 l (fun _ => undef) a (by omega) (fun i => by simp) (FA.start _ _ _ _) h
  refine wp_region_any hm ?_
  refine sown_any hS hA (fun i o hi ho => e2 i o (Nat.zero_le _) hi ho) (fun gs a'' w' hF hb h1 h2 => ?_) _ _ _ _ (fun _ => 0) (by simp) (fun j _ => by simpa using hn j) (fun i hi => absurd hi (hn i)) (leftN_none _ _ (Nat.le_refl _)) (Below.refl _ _).drew ?_ (fun i _ _ h => absurd h (hn i)) (fun i _ _ _ _ _ _ h => absurd h (hn i))
  · exact hK val hQ gs a'' w' hF hb h1 h2
  · exact (FA.start _ _ _ (fun _ => undef)).congr (fun i _ => ⟨fun h => absurd h (Nat.not_lt_zero _), fun h => absurd h (hn i)⟩) fun i _ (h : i < 0) => absurd h (Nat.not_lt_zero _)

/-- No block is laid. -/
theorem wp_region_calm {id : Nat} {l : List Oper} {a : Act} {w : World} (q : Nat) (hm : P.follows .mixedOrders = true) (hB : sownB l.toArray q q 0 = true)
    (h : wpCalm P w (fun a' => ∀ w', Below w.heap.size w w' → wpList P l.toArray Q (l.drop q) a' w') q l a) : (Code.region id l.toArray true).wp P Q a w := by
  refine wp_region_sown (obj := .cells #[] 0) q q 0 hm hB (fun _ _ i _ h1 h2 => absurd h2 (by omega)) ?_
  refine wpCalm_mono ?_ q l a h
  intro a' h' val hF gs a'' w' hF' hb _ _
  have e : a'' = a' := hF'.ext (hF.congr (fun _ _ => Iff.rfl) fun i hi _ => by unfold mixV; rw [if_pos hi]) fun i hi => hi
  rw [e]
  exact h' w' hb

/-- Two blocks are laid. -/
theorem wp_region_sow2 {id : Nat} {l : List Oper} {a : Act} {w : World} {obj : Obj} {o1 o2 : Oper} (q : Nat) (ty : TypeId) (hm : P.follows .mixedOrders = true) (h1 : l[q]? = some o1) (h2 : l[q + 1]? = some o2) (hB : sownB l.toArray q (q + 2) ty = true)
    (hA : ∀ (ρ : Operand → Value) (w : World) (o : Oper), o.op = .alloc ty → (execOp ρ o).run P w = .ok (.value (.pointer (some ⟨w.heap.size, 0, none⟩))) (w.alloc obj))
    (h : wpCalm P w (fun a' => ∀ (g1 g2 : Nat) (w' : World), Below w.heap.size w w' → Sown w obj g1 w' → Sown w obj g2 w' → g1 ≠ g2 →
      wpList P l.toArray Q (l.drop (q + 2)) ((a'.put o1.dst (.pointer (some ⟨g1, 0, none⟩))).put o2.dst (.pointer (some ⟨g2, 0, none⟩))) w') q l a) : (Code.region id l.toArray true).wp P Q a w := by
  refine wp_region_sown q (q + 2) ty hm hB (fun ρ w _ o _ _ => hA ρ w o) ?_
  refine wpCalm_mono ?_ q l a h
  have hS := sown_spec hB
  intro a' h' val hF gs a'' w' hF' hb hs hd
  have f0 : FA l.toArray (q + 2) a (fun i => i < q) (mixV q val gs) a' := hF.congr (fun _ _ => Iff.rfl) fun i _ hi => by unfold mixV; rw [if_pos hi]
  have f1 := f0.put (i := q) (o := o1) (v := .pointer (some ⟨gs q, 0, none⟩)) (L' := fun i => i < q + 1) hS.dst (by omega) (by simpa using h1) (by unfold mixV; rw [if_neg (by omega)]) (fun j => by omega) (Nat.lt_irrefl _)
  have f2 := f1.put (i := q + 1) (o := o2) (v := .pointer (some ⟨gs (q + 1), 0, none⟩)) (L' := fun i => i < q + 2) hS.dst (by omega) (by simpa using h2) (by unfold mixV; rw [if_neg (by omega)]) (fun j => by omega) (Nat.lt_irrefl _)
  rw [hF'.ext f2 fun i hi => hi]
  exact h' _ _ _ hb (hs q (Nat.le_refl _) (by omega)) (hs (q + 1) (by omega) (by omega)) (hd q (q + 1) (Nat.le_refl _) (by omega) (by omega) (by omega) (by omega))
end
end Go.Proofs.Ytgioojahadlmhaa
