/- Blocks of bytes of one's own, however many. -/
import Derived.Test.YtmnlpmengdjpmaaDoorAesOps
namespace Go.Proofs.YtmnlpmengdjpmaaDoor
open Go.RowKit
set_option maxRecDepth 20000

theorem oneB (l : List (BitVec 8)) : (l.map b8).toArray.all (·.oneCell') = true := one_map b8 (fun _ => rfl) l
/-- Since w, blocks were laid that read so. -/
structure Ms (w : World) (L : List (Nat × List (BitVec 8))) (u : World) : Prop where
  bl : Below w.heap.size w u
  nd : (L.map (·.1)).Nodup
  all : ∀ p ∈ L, w.heap.size ≤ p.1 ∧ Arr p.1 (p.2.map b8) u
theorem Ms.nil (w : World) : Ms w [] w := ⟨Below.refl _ _, List.nodup_nil, fun _ h => by cases h⟩
section
variable {w u u' : World} {L : List (Nat × List (BitVec 8))}
theorem Ms.below (h : Ms w L u) (hb : Below u.heap.size u u') : Ms w L u' :=
  ⟨h.bl.trans (hb.mono h.bl.size), h.nd, fun p hp => ⟨(h.all p hp).1, (h.all p hp).2.below hb⟩⟩
theorem Ms.new (h : Ms w L u) (l : List (BitVec 8)) (t : TypeId) : Ms w ((u.heap.size, l) :: L) (u.alloc (.cells (l.map b8).toArray t)) := by
  have hb : Below u.heap.size u (u.alloc (.cells (l.map b8).toArray t)) := (Below.refl _ _).alloc (Nat.le_refl _) _
  refine ⟨h.bl.trans (hb.mono h.bl.size), ?_, fun p hp => ?_⟩
  · rw [List.map_cons, List.nodup_cons]
    refine ⟨fun hm => ?_, h.nd⟩
    rw [List.mem_map] at hm
    obtain ⟨p, hp, he⟩ := hm
    have := (h.all p hp).2.lt
    exact absurd this (by have e : p.1 = u.heap.size := he; omega)
  · rcases List.mem_cons.1 hp with rfl | hp
    · exact ⟨h.bl.size, Arr.new8 _ _ _⟩
    · exact ⟨(h.all p hp).1, (h.all p hp).2.below hb⟩
theorem Ms.newZ (h : Ms w L u) (n : Nat) (t : TypeId) : Ms w ((u.heap.size, List.replicate n 0) :: L) (u.alloc (.cells (z8 n).toArray t)) := h.new _ t
theorem Ms.get (h : Ms w L u) {i g : Nat} {l : List (BitVec 8)} (hi : L[i]? = some (g, l)) : Arr g (l.map b8) u := (h.all (g, l) (List.mem_of_getElem? hi)).2
theorem Ms.ge (h : Ms w L u) {i g : Nat} {l : List (BitVec 8)} (hi : L[i]? = some (g, l)) : w.heap.size ≤ g := (h.all (g, l) (List.mem_of_getElem? hi)).1
theorem nodup_at {l : List Nat} (h : l.Nodup) : ∀ {i j a : Nat}, l[i]? = some a → l[j]? = some a → i = j := by
  intro i j a hi hj
  obtain ⟨h1, e1⟩ := List.getElem?_eq_some_iff.1 hi
  obtain ⟨h2, e2⟩ := List.getElem?_eq_some_iff.1 hj
  exact (List.getElem_inj h).1 (e1.trans e2.symm)
/-- One block is turned, the others stand. -/
theorem Ms.turn (h : Ms w L u) {i g : Nat} {l m : List (BitVec 8)} (hi : L[i]? = some (g, l)) (hb : Below w.heap.size w u') (hA : Arr g (m.map b8) u') (ho : ∀ g' k, g ≠ g' → Arr g' k u → Arr g' k u') : Ms w (L.set i (g, m)) u' := by
  have hlt : i < L.length := (List.getElem?_eq_some_iff.1 hi).1
  have hmap : (L.set i (g, m)).map (·.1) = L.map (·.1) := by
    rw [List.map_set]
    apply List.ext_getElem?
    intro j
    rw [List.getElem?_set]
    by_cases e : i = j
    · subst e; simp [hlt]
      have := hi; rw [List.getElem?_eq_getElem hlt] at this; simp [Option.some.inj this]
    · simp [e]
  refine ⟨hb, by rw [hmap]; exact h.nd, fun p hp => ?_⟩
  obtain ⟨j, hj, rfl⟩ := List.getElem_of_mem hp
  rw [List.length_set] at hj
  by_cases e : i = j
  · subst e; rw [List.getElem_set_self]; exact ⟨h.ge hi, hA⟩
  · rw [List.getElem_set_ne e]
    have hp' := h.all _ (List.getElem_mem hj)
    refine ⟨hp'.1, ho _ _ (fun hg => e ?_) hp'.2⟩
    have h1 : (L.map (·.1))[i]? = some g := by rw [List.getElem?_map, hi]; rfl
    have h2 : (L.map (·.1))[j]? = some g := by rw [List.getElem?_map, List.getElem?_eq_getElem hj, hg]; rfl
    exact nodup_at h.nd h1 h2
theorem Ms.set (h : Ms w L u) (i : Nat) {g : Nat} {l : List (BitVec 8)} (hi : L[i]? = some (g, l)) {j : Nat} (hj : j < l.length) (v : BitVec 8) : Ms w (L.set i (g, l.set j v)) (u.setCell ⟨g, j, none⟩ (b8 v)) :=
  h.turn hi (h.bl.setCell (p := ⟨g, j, none⟩) (h.ge hi) _) ((h.get hi).set8 hj v) fun _ _ hne hA => hA.far hne _ _
theorem Ms.put (h : Ms w L u) (i : Nat) {g : Nat} {l : List (BitVec 8)} (hi : L[i]? = some (g, l)) {m : List (BitVec 8)} (hm : m.length = l.length) : Ms w (L.set i (g, m)) (u.setCells g 0 (m.map b8)) :=
  h.turn hi (below_setCells (h.ge hi) _ _ h.bl) ((h.get hi).put (by rw [List.length_map, List.length_map, hm])) fun _ _ hne hA => hA.farAll hne _ _
theorem Ms.mid (h : Ms w L u) (i : Nat) {g : Nat} {l : List (BitVec 8)} (hi : L[i]? = some (g, l)) {f : Nat} {m : List (BitVec 8)} (hm : f + m.length ≤ l.length) : Ms w (L.set i (g, l.take f ++ (m ++ l.drop (f + m.length)))) (u.setCells g f (m.map b8)) := by
  refine h.turn hi (below_setCells (h.ge hi) _ _ h.bl) ?_ fun _ _ hne hA => hA.farAll hne _ _
  have := (h.get hi).mid (f := f) (vs := m.map b8) (by rw [List.length_map, List.length_map]; exact hm)
  rw [List.length_map, ← List.map_take, ← List.map_drop, ← List.map_append, ← List.map_append] at this
  exact this
theorem Ms.drop {p : Nat × List (BitVec 8)} (h : Ms w (p :: L) u) : Ms w L u := ⟨h.bl, (List.nodup_cons.1 h.nd).2, fun q hq => h.all q (List.mem_cons_of_mem _ hq)⟩
end
/-- The size of what a type holds. -/
theorem sz {l : List (BitVec 8)} {t : TypeId} {n : Nat} (h : (Tryd.prog.info? t).map (·.size) = some n) (hl : l.length = n) : (Tryd.prog.info? t).map (·.size) = some (l.map b8).length := by rw [List.length_map, hl]; exact h
theorem szBlock : (Tryd.prog.info? 55).map (·.size) = some 16 := by kernel_rfl
theorem sz16 : (Tryd.prog.info? 23).map (·.size) = some 16 := by kernel_rfl
theorem szWord : (Tryd.prog.info? 75).map (·.size) = some 4 := by kernel_rfl
theorem szKey : (Tryd.prog.info? 29).map (·.size) = some 32 := by kernel_rfl
theorem szBoxes : (Tryd.prog.info? 69).map (·.size) = some 512 := by kernel_rfl
theorem szCipher : (Tryd.prog.info? 73).map (·.size) = some 752 := by kernel_rfl
theorem szWords : (Tryd.prog.info? 76).map (·.size) = some 240 := by kernel_rfl
theorem sz255 : (Tryd.prog.info? 89).map (·.size) = some 255 := by kernel_rfl
/-- A result that is a row. -/
theorem results_rowB {fn : Func} {p : Tmp} {t : TypeId} {d : TypeDesc} (h : fn.results = #[.cell p t]) {tmps : Array Value} {w : World} {g : Nat} {l : List Value} (ht : tmps.getD p undef = .pointer (some ⟨g, 0, none⟩)) (hu : Tryd.prog.underlying t = some d) (hd : d.isRow = true) (hl : (Tryd.prog.info? t).map (·.size) = some l.length) (hr : w.rangeAt g 0 l) :
    (results fn tmps).run Tryd.prog w = .ok (.agg l.toArray) w := by
  rw [results_cell h, ht]
  have e := run_loadVar_mid (P := Tryd.prog) w g 0 t l d hr hu hd hl
  simp only [asAddr, Sem.run_pure, Result.andThen_ok, e]
theorem Arr.there8 {g : Nat} {l : List (BitVec 8)} {u : World} (h : Arr g (l.map b8) u) {m : List (BitVec 8)} (hm : m.length = l.length) : u.there g 0 (m.map b8).length := by
  have := h.there; rw [List.length_map] at this ⊢; rw [hm]; exact this
end Go.Proofs.YtmnlpmengdjpmaaDoor
