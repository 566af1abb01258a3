import Derived.Test.YtgioojahadlmhaaS5
import Derived.Test.YtgioojahadlmhaaGen
namespace Go.Proofs.Ytgioojahadlmhaa
open Go.RowKit
set_option maxRecDepth 20000
section
variable {P : Program} {w : World}
theorem append_where (base : Nat) (t ty e : TypeId) (i : TypeInfo) (z : Value) (size bytes : Nat) (ht : P.underlying t = some (.slice e)) (hi : P.info? e = some i) (hz : i.zero = some z)
    (hsize : i.size = size) (hby : i.bytes = bytes) (hzs : z.cells.size = size) (hsz : 0 < size)
    (v : Value) (n : Nat) (xs : List Value) (hown : w.ownsRow base e size v n xs)
    (a : Addr) (m c : Nat) (news : List Value) (hl : news.length = m * size) (hnews : ∀ j u, news[j]? = some u → w.cell? (a.add j) = some u) (h1 : ∀ u ∈ news, u.oneCell' = true)
    (h63 : n + m ≤ maxLen) (hbytes : (n + m) * bytes ≤ 140737488355328) (hm : 0 < m) {v' : Value} {w' : World}
    (hr : (Builtin.append_ #[t, t] ty #[v, .slice (some a) m c]).run P w = .ok v' w') : v'.ownBlock = v.ownBlock ∨ v'.ownBlock = some w.heap.size := by
  subst hsize
  subst hby
  have hsmall : n + m ≤ 9223372036854775807 := by simp only [maxLen] at h63; omega
  rcases hown.2 with ⟨rfl, rfl⟩ | ⟨g, cap, cur, rfl, hbg, hg, hnc, hcm, hcs, htake⟩
  · have hr' := run_append_nil (P := P) w t ty e i z ht hi hz a m c news hl hnews (by omega) (by omega) (by have hb := hbytes; simp only [Nat.zero_add] at hb; omega)
    rw [hr'] at hr
    injection hr with e1 _
    exact .inr (by rw [← e1]; rfl)
  · by_cases hroom : n + m ≤ cap
    · have hfit : n * i.size + news.length ≤ cur.size := by rw [hl, hcs, ← Nat.add_mul]; exact Nat.mul_le_mul_right _ hroom
      have hr' := run_append_room (P := P) w t ty e i ht hi g n cap cur hg a m c news hl hnews h1 hroom hfit
      rw [hr'] at hr
      injection hr with e1 _
      exact .inl (by rw [← e1]; rfl)
    · have holds : ∀ j u, xs[j]? = some u → w.cell? ((⟨g, 0, none⟩ : Addr).add j) = some u := hown.cells (g := g) rfl
      have hr' := run_append_grow (P := P) w t ty e i z ht hi hz ⟨g, 0, none⟩ n cap xs hown.1 holds a m c news hl hnews (by omega) (by omega) (growslice_fits (by omega) hbytes)
      rw [hr'] at hr
      injection hr with e1 _
      exact .inr (by rw [← e1]; rfl)
end
theorem Arr.same {g : Nat} {l : List Value} {w w' : World} (h : Arr g l w) (hs : w.heap.size ≤ w'.heap.size) (he : w'.heap[g]? = w.heap[g]?) : Arr g l w' :=
  ⟨Nat.lt_of_lt_of_le h.lt hs, fun i v hi => by have := h.c i v hi; simp only [World.cell?, he] at this ⊢; exact this, fun i => by have := h.f i; simp only [World.frozen?, he] at this ⊢; exact this⟩
section
variable {w : World} {ops : Array Oper} {Q : Exit → Act → World → Prop} {o : Oper} {a : Act} {S : World → Prop}
end
end Go.Proofs.Ytgioojahadlmhaa
namespace Go.Proofs.Ytgioojahadlmhaa
open Go.RowKit
set_option maxRecDepth 20000
structure Ext (B : Nat) (G : List Nat) (u V : World) : Prop where
  size : u.heap.size ≤ V.heap.size
  block : ∀ b, B ≤ b → b < u.heap.size → b ∉ G → V.heap[b]? = u.heap[b]?
theorem Ext.refl (B : Nat) (G : List Nat) (u : World) : Ext B G u u := ⟨Nat.le_refl _, fun _ _ _ _ => rfl⟩
theorem Ext.mono {B B' : Nat} {G G' : List Nat} {u V : World} (h : Ext B G u V) (hB : B ≤ B') (hG : ∀ b ∈ G, b ∈ G') : Ext B' G' u V := ⟨h.size, fun b h1 h2 h3 => h.block b (Nat.le_trans hB h1) h2 fun hm => h3 (hG b hm)⟩
theorem Ext.head {B : Nat} {G : List Nat} {u u' V : World} (hs : u.heap.size ≤ u'.heap.size) (hb : ∀ b, B ≤ b → b < u.heap.size → b ∉ G → u'.heap[b]? = u.heap[b]?) (h : Ext B G u' V) : Ext B G u V :=
  ⟨Nat.le_trans hs h.size, fun b h1 h2 h3 => (h.block b h1 (Nat.lt_of_lt_of_le h2 hs) h3).trans (hb b h1 h2 h3)⟩
theorem Ext.below {B : Nat} {G : List Nat} {u u' V : World} (hb : Below u.heap.size u u') (h : Ext B G u' V) : Ext B G u V := Ext.head hb.size (fun b _ h2 _ => hb.block b h2) h
def Fro (B : Nat) (H : World → Prop) (u : World) : Prop := ∀ V, Ext B [] u V → H V
theorem Fro.now {B : Nat} {H : World → Prop} {u : World} (h : Fro B H u) : H u := h u (Ext.refl _ _ _)
theorem Fro.below {B : Nat} {H : World → Prop} {u u' : World} (h : Fro B H u) (hb : Below u.heap.size u u') : Fro B H u' := fun V hV => h V (hV.below hb)
theorem Fro.mono {B B' : Nat} {H : World → Prop} {u : World} (h : Fro B H u) (hB : B' ≤ B) : Fro B' H u := fun V hV => h V (hV.mono hB fun _ h => h)
structure Ev (w : World) (L : List (Nat × List Value)) (K : List Nat) (F H : World → Prop) (u : World) : Prop where
  mv : Mv w L u
  kb : ∀ k ∈ K, k < u.heap.size
  fs : ∀ V, Ext 0 (K ++ L.map (·.1)) u V → F V
  hs : ∀ V, Ext w.heap.size (K ++ L.map (·.1)) u V → H V
section
variable {w u u' : World} {L : List (Nat × List Value)} {K : List Nat} {F H F0 H0 : World → Prop}
theorem Ev.start (hF : Fro 0 F w) : Ev w [] [] F (fun _ => True) w := ⟨Mv.nil w, (fun _ h => by cases h), hF, fun _ _ => trivial⟩
theorem Ev.f (e : Ev w L K F H u) : F u := e.fs u (Ext.refl _ _ _)
theorem Ev.h (e : Ev w L K F H u) : H u := e.hs u (Ext.refl _ _ _)
theorem Ev.bl (e : Ev w L K F H u) : Below w.heap.size w u := e.mv.bl
theorem Ev.get (e : Ev w L K F H u) {i g : Nat} {l : List Value} (hi : L[i]? = some (g, l)) : Arr g l u := e.mv.get hi
theorem Ev.gs (e : Ev w L K F H u) {b : Nat} (hb : b ∈ K ++ L.map (·.1)) : b < u.heap.size := by
  rcases List.mem_append.1 hb with h | h
  · exact e.kb b h
  · obtain ⟨p, hp, rfl⟩ := List.mem_map.1 h
    exact (e.mv.all p hp).2.lt
theorem Ev.below (e : Ev w L K F H u) (hb : Below u.heap.size u u') : Ev w L K F H u' :=
  ⟨e.mv.below hb, fun k hk => Nat.lt_of_lt_of_le (e.kb k hk) hb.size, fun V hV => e.fs V (hV.below hb), fun V hV => e.hs V (hV.below hb)⟩
theorem Ev.new (e : Ev w L K F H u) (l : List Value) (t : TypeId) : Ev w ((u.heap.size, l) :: L) K F H (u.alloc (.cells l.toArray t)) := by
  have hb : Below u.heap.size u (u.alloc (.cells l.toArray t)) := (Below.refl _ _).alloc (Nat.le_refl _) _
  have key : ∀ B V, Ext B (K ++ ((u.heap.size, l) :: L).map (·.1)) (u.alloc (.cells l.toArray t)) V → Ext B (K ++ L.map (·.1)) u V := fun B V hV =>
    ⟨Nat.le_trans hb.size hV.size, fun b h1 h2 h3 => (hV.block b h1 (Nat.lt_of_lt_of_le h2 hb.size) (fun hm => h3 (by
      rcases List.mem_append.1 hm with h | h
      · exact List.mem_append.2 (.inl h)
      · rw [List.map_cons, List.mem_cons] at h
        rcases h with h | h
        · simp only at h; omega
        · exact List.mem_append.2 (.inr h)))).trans (hb.block b h2)⟩
  exact ⟨e.mv.new l t, fun k hk => Nat.lt_of_lt_of_le (e.kb k hk) hb.size, fun V hV => e.fs V (key 0 V hV), fun V hV => e.hs V (key _ V hV)⟩
theorem setCell_far {g b : Nat} (hne : b ≠ g) (f : Nat) (v : Value) (u : World) : (u.setCell ⟨g, f, none⟩ v).heap[b]? = u.heap[b]? := by
  unfold World.setCell
  simp only [Array.getElem?_modify]
  rw [if_neg (Ne.symm hne)]
theorem setCells_far {g b : Nat} (hne : b ≠ g) : ∀ (vs : List Value) (f : Nat) (u : World), (u.setCells g f vs).heap[b]? = u.heap[b]?
  | [], _, _ => rfl
  | v :: vs, f, u => (setCells_far hne vs (f + 1) (u.setCell ⟨g, f, none⟩ v)).trans (setCell_far hne f v u)
theorem Ev.turned (e : Ev w L K F H u) {i g : Nat} {l m : List Value} (hi : L[i]? = some (g, l)) (hmv : Mv w (L.set i (g, m)) u') (hs : u.heap.size ≤ u'.heap.size) (ho : ∀ b, b ≠ g → u'.heap[b]? = u.heap[b]?) : Ev w (L.set i (g, m)) K F H u' := by
  have hlt : i < L.length := (List.getElem?_eq_some_iff.1 hi).1
  have hmap : (L.set i (g, m)).map (·.1) = L.map (·.1) := by
    rw [List.map_set]
    apply List.ext_getElem?
    intro j
    rw [List.getElem?_set]
    by_cases h : i = j
    · subst h; simp [hlt]
      have := hi; rw [List.getElem?_eq_getElem hlt] at this; simp [Option.some.inj this]
    · simp [h]
  have hg : g ∈ K ++ L.map (·.1) := List.mem_append.2 (.inr (List.mem_map.2 ⟨(g, l), List.mem_of_getElem? hi, rfl⟩))
  refine ⟨hmv, fun k hk => Nat.lt_of_lt_of_le (e.kb k hk) hs, fun V hV => e.fs V ?_, fun V hV => e.hs V ?_⟩
  · rw [hmap] at hV; exact hV.head hs fun b _ _ h3 => ho b fun hb => h3 (hb ▸ hg)
  · rw [hmap] at hV; exact hV.head hs fun b _ _ h3 => ho b fun hb => h3 (hb ▸ hg)
theorem Ev.put (e : Ev w L K F H u) (i : Nat) {g : Nat} {l : List Value} (hi : L[i]? = some (g, l)) {m : List Value} (hm : m.length = l.length) : Ev w (L.set i (g, m)) K F H (u.setCells g 0 m) :=
  e.turned hi (e.mv.put i hi hm) (qa3 (B := 0) (Nat.zero_le _) m 0 (Below.refl _ u)).size fun _ hb => setCells_far hb m 0 u
theorem Ev.mid (e : Ev w L K F H u) (i : Nat) {g : Nat} {l : List Value} (hi : L[i]? = some (g, l)) {f : Nat} {m : List Value} (hm : f + m.length ≤ l.length) : Ev w (L.set i (g, l.take f ++ (m ++ l.drop (f + m.length)))) K F H (u.setCells g f m) :=
  e.turned hi (e.mv.mid i hi hm) (qa3 (B := 0) (Nat.zero_le _) m f (Below.refl _ u)).size fun _ hb => setCells_far hb m f u
theorem Ev.set (e : Ev w L K F H u) (i : Nat) {g : Nat} {l : List Value} (hi : L[i]? = some (g, l)) {j : Nat} (hj : j < l.length) (v : Value) : Ev w (L.set i (g, l.set j v)) K F H (u.setCell ⟨g, j, none⟩ v) :=
  e.turned hi (e.mv.set i hi hj v) ((Below.refl 0 u).setCell (p := ⟨g, j, none⟩) (Nat.zero_le _) v).size fun _ hb => setCell_far hb j v u
theorem Ev.call (e : Ev w L K F H u) (hb : Below u.heap.size u u') (h0 : Fro u.heap.size H0 u') : Ev w L K F (fun V => H0 V ∧ H V) u' :=
  have e' := e.below hb
  ⟨e'.mv, e'.kb, e'.fs, fun V hV => ⟨h0 V ⟨hV.size, fun b h1 h2 _ => hV.block b (Nat.le_trans e.mv.bl.size h1) h2 fun hm => Nat.lt_irrefl _ (Nat.lt_of_lt_of_le (e.gs hm) h1)⟩, e'.hs V hV⟩⟩
theorem Ev.know (e : Ev w L K F H u) (h : ∀ V, F V → F0 V) : Ev w L K F0 H u := ⟨e.mv, e.kb, fun V hV => h V (e.fs V hV), e.hs⟩
theorem Ev.knowH (e : Ev w L K F H u) (h : ∀ V, H V → H0 V) : Ev w L K F H0 u := ⟨e.mv, e.kb, e.fs, fun V hV => h V (e.hs V hV)⟩
theorem Ev.tell (e : Ev w L K F H u) : Fro w.heap.size H u := fun V hV => e.hs V (hV.mono (Nat.le_refl _) fun _ h => by cases h)
end
end Go.Proofs.Ytgioojahadlmhaa
