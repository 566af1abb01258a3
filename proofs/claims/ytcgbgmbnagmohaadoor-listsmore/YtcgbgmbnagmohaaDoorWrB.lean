import Derived.Test.YtcgbgmbnagmohaaDoorS5
import Derived.Test.YtcgbgmbnagmohaaDoorGen
import Derived.Test.YtcgbgmbnagmohaaDoorSt
import Derived.Test.YtcgbgmbnagmohaaDoorGenA
import Derived.Test.YtcgbgmbnagmohaaDoorCatL
import Derived.Test.YtcgbgmbnagmohaaDoorFlB
import Derived.Test.YtcgbgmbnagmohaaDoorMixB
import Derived.Test.YtcgbgmbnagmohaaDoorStr
import Derived.Laws.IdiomStrings
import Derived.Test.YtcgbgmbnagmohaaDoorLateG
import Derived.Test.YtcgbgmbnagmohaaDoorTy10
import Derived.Test.YtcgbgmbnagmohaaDoorCpy
import Derived.Test.YtcgbgmbnagmohaaDoorEdRes
namespace Go.Proofs.YtcgbgmbnagmohaaDoor
open Go.RowKit
set_option maxRecDepth 20000
section
variable {P : Program} {w : World}
theorem append_where (base : Nat) (t ty e : TypeId) (i : TypeInfo) (z : Value) (size bytes : Nat) (ht : P.underlying t = some (.slice e)) (hi : P.info? e = some i) (hz : i.zero = some z)
    (hsize : i.size = size) (hby : i.bytes = bytes) (hzs : z.cells.size = size) (hsz : 0 < size)
    (v : Value) (n : Nat) (xs : List Value) (hown : w.ownsRow base e size v n xs)
    (a : Addr) (m c : Nat) (news : List Value) (hl : news.length = m * size) (hnews : ∀ j u, news[j]? = some u → w.cell? (a.add j) = some u) (h1 : ∀ u ∈ news, u.oneCell' = true)
    (h63 : n + m ≤ maxLen) (hbytes : (n + m) * bytes ≤ 140737488355328) (hm : 0 < m) {v' : Value} {w' : World}
    (hr : (Builtin.append_ #[t, t] ty #[v, .slice (some a) m c]).run P w = .ok v' w') : v'.ownBlock = v.ownBlock ∨ v'.ownBlock = some w.heap.size := by
  subst hsize
  subst hby
  have hsmall : n + m ≤ 9223372036854775807 := by simp only [maxLen] at h63; omega
  rcases hown.2 with ⟨rfl, rfl⟩ | ⟨g, cap, cur, rfl, hbg, hg, hnc, hcm, hcs, htake⟩
  · have hr' := run_append_nil (P := P) w t ty e i z ht hi hz a m c news hl hnews (by omega) (by omega) (by have hb := hbytes; simp only [Nat.zero_add] at hb; omega)
    rw [hr'] at hr
    injection hr with e1 _
    exact .inr (by rw [← e1]; rfl)
  · by_cases hroom : n + m ≤ cap
    · have hfit : n * i.size + news.length ≤ cur.size := by rw [hl, hcs, ← Nat.add_mul]; exact Nat.mul_le_mul_right _ hroom
      have hr' := run_append_room (P := P) w t ty e i ht hi g n cap cur hg a m c news hl hnews h1 hroom hfit
      rw [hr'] at hr
      injection hr with e1 _
      exact .inl (by rw [← e1]; rfl)
    · have holds : ∀ j u, xs[j]? = some u → w.cell? ((⟨g, 0, none⟩ : Addr).add j) = some u := hown.cells (g := g) rfl
      have hr' := run_append_grow (P := P) w t ty e i z ht hi hz ⟨g, 0, none⟩ n cap xs hown.1 holds a m c news hl hnews (by omega) (by omega) (growslice_fits (by omega) hbytes)
      rw [hr'] at hr
      injection hr with e1 _
      exact .inr (by rw [← e1]; rfl)
end
theorem Arr.same {g : Nat} {l : List Value} {w w' : World} (h : Arr g l w) (hs : w.heap.size ≤ w'.heap.size) (he : w'.heap[g]? = w.heap[g]?) : Arr g l w' :=
  ⟨Nat.lt_of_lt_of_le h.lt hs, fun i v hi => by have := h.c i v hi; simp only [World.cell?, he] at this ⊢; exact this, fun i => by have := h.f i; simp only [World.frozen?, he] at this ⊢; exact this⟩
section
variable {w : World} {ops : Array Oper} {Q : Exit → Act → World → Prop} {o : Oper} {a : Act} {S : World → Prop}
end
end Go.Proofs.YtcgbgmbnagmohaaDoor
namespace Go.Proofs.YtcgbgmbnagmohaaDoor
open Go.RowKit
set_option maxRecDepth 20000
structure Ext (B : Nat) (G : List Nat) (u V : World) : Prop where
  size : u.heap.size ≤ V.heap.size
  block : ∀ b, B ≤ b → b < u.heap.size → b ∉ G → V.heap[b]? = u.heap[b]?
theorem Ext.refl (B : Nat) (G : List Nat) (u : World) : Ext B G u u := ⟨Nat.le_refl _, fun _ _ _ _ => rfl⟩
theorem Ext.of_below {u V : World} (h : Below u.heap.size u V) : Ext 0 [] u V := ⟨h.size, fun b _ hb _ => h.block b hb⟩
theorem Ext.mono {B B' : Nat} {G G' : List Nat} {u V : World} (h : Ext B G u V) (hB : B ≤ B') (hG : ∀ b ∈ G, b ∈ G') : Ext B' G' u V := ⟨h.size, fun b h1 h2 h3 => h.block b (Nat.le_trans hB h1) h2 fun hm => h3 (hG b hm)⟩
theorem Ext.head {B : Nat} {G : List Nat} {u u' V : World} (hs : u.heap.size ≤ u'.heap.size) (hb : ∀ b, B ≤ b → b < u.heap.size → b ∉ G → u'.heap[b]? = u.heap[b]?) (h : Ext B G u' V) : Ext B G u V :=
  ⟨Nat.le_trans hs h.size, fun b h1 h2 h3 => (h.block b h1 (Nat.lt_of_lt_of_le h2 hs) h3).trans (hb b h1 h2 h3)⟩
theorem Ext.below {B : Nat} {G : List Nat} {u u' V : World} (hb : Below u.heap.size u u') (h : Ext B G u' V) : Ext B G u V := Ext.head hb.size (fun b _ h2 _ => hb.block b h2) h
def Fro (B : Nat) (H : World → Prop) (u : World) : Prop := ∀ V, Ext B [] u V → H V
theorem Fro.now {B : Nat} {H : World → Prop} {u : World} (h : Fro B H u) : H u := h u (Ext.refl _ _ _)
theorem Fro.below {B : Nat} {H : World → Prop} {u u' : World} (h : Fro B H u) (hb : Below u.heap.size u u') : Fro B H u' := fun V hV => h V (hV.below hb)
theorem Fro.mono {B B' : Nat} {H : World → Prop} {u : World} (h : Fro B H u) (hB : B' ≤ B) : Fro B' H u := fun V hV => h V (hV.mono hB fun _ h => h)
structure Ev (w : World) (L : List (Nat × List Value)) (K : List Nat) (F H : World → Prop) (u : World) : Prop where
  mv : Mv w L u
  kb : ∀ k ∈ K, k < u.heap.size
  fs : ∀ V, Ext 0 (K ++ L.map (·.1)) u V → F V
  hs : ∀ V, Ext w.heap.size (K ++ L.map (·.1)) u V → H V
section
variable {w u u' : World} {L : List (Nat × List Value)} {K : List Nat} {F H F0 H0 : World → Prop}
theorem Ev.start (hF : Fro 0 F w) : Ev w [] [] F (fun _ => True) w := ⟨Mv.nil w, (fun _ h => by cases h), hF, fun _ _ => trivial⟩
theorem Ev.f (e : Ev w L K F H u) : F u := e.fs u (Ext.refl _ _ _)
theorem Ev.h (e : Ev w L K F H u) : H u := e.hs u (Ext.refl _ _ _)
theorem Ev.bl (e : Ev w L K F H u) : Below w.heap.size w u := e.mv.bl
theorem Ev.get (e : Ev w L K F H u) {i g : Nat} {l : List Value} (hi : L[i]? = some (g, l)) : Arr g l u := e.mv.get hi
theorem Ev.gs (e : Ev w L K F H u) {b : Nat} (hb : b ∈ K ++ L.map (·.1)) : b < u.heap.size := by
  rcases List.mem_append.1 hb with h | h
  · exact e.kb b h
  · obtain ⟨p, hp, rfl⟩ := List.mem_map.1 h
    exact (e.mv.all p hp).2.lt
theorem Ev.below (e : Ev w L K F H u) (hb : Below u.heap.size u u') : Ev w L K F H u' :=
  ⟨e.mv.below hb, fun k hk => Nat.lt_of_lt_of_le (e.kb k hk) hb.size, fun V hV => e.fs V (hV.below hb), fun V hV => e.hs V (hV.below hb)⟩
theorem Ev.new (e : Ev w L K F H u) (l : List Value) (t : TypeId) : Ev w ((u.heap.size, l) :: L) K F H (u.alloc (.cells l.toArray t)) := by
  have hb : Below u.heap.size u (u.alloc (.cells l.toArray t)) := (Below.refl _ _).alloc (Nat.le_refl _) _
  have key : ∀ B V, Ext B (K ++ ((u.heap.size, l) :: L).map (·.1)) (u.alloc (.cells l.toArray t)) V → Ext B (K ++ L.map (·.1)) u V := fun B V hV =>
    ⟨Nat.le_trans hb.size hV.size, fun b h1 h2 h3 => (hV.block b h1 (Nat.lt_of_lt_of_le h2 hb.size) (fun hm => h3 (by
      rcases List.mem_append.1 hm with h | h
      · exact List.mem_append.2 (.inl h)
      · rw [List.map_cons, List.mem_cons] at h
        rcases h with h | h
        · simp only at h; omega
        · exact List.mem_append.2 (.inr h)))).trans (hb.block b h2)⟩
  exact ⟨e.mv.new l t, fun k hk => Nat.lt_of_lt_of_le (e.kb k hk) hb.size, fun V hV => e.fs V (key 0 V hV), fun V hV => e.hs V (key _ V hV)⟩
theorem setCell_far {g b : Nat} (hne : b ≠ g) (f : Nat) (v : Value) (u : World) : (u.setCell ⟨g, f, none⟩ v).heap[b]? = u.heap[b]? := by
  unfold World.setCell
  simp only [Array.getElem?_modify]
  rw [if_neg (Ne.symm hne)]
theorem setCells_far {g b : Nat} (hne : b ≠ g) : ∀ (vs : List Value) (f : Nat) (u : World), (u.setCells g f vs).heap[b]? = u.heap[b]?
  | [], _, _ => rfl
  | v :: vs, f, u => (setCells_far hne vs (f + 1) (u.setCell ⟨g, f, none⟩ v)).trans (setCell_far hne f v u)
theorem Ev.turned (e : Ev w L K F H u) {i g : Nat} {l m : List Value} (hi : L[i]? = some (g, l)) (hmv : Mv w (L.set i (g, m)) u') (hs : u.heap.size ≤ u'.heap.size) (ho : ∀ b, b ≠ g → u'.heap[b]? = u.heap[b]?) : Ev w (L.set i (g, m)) K F H u' := by
  have hlt : i < L.length := (List.getElem?_eq_some_iff.1 hi).1
  have hmap : (L.set i (g, m)).map (·.1) = L.map (·.1) := by
    rw [List.map_set]
    apply List.ext_getElem?
    intro j
    rw [List.getElem?_set]
    by_cases h : i = j
    · subst h; simp [hlt]
      have := hi; rw [List.getElem?_eq_getElem hlt] at this; simp [Option.some.inj this]
    · simp [h]
  have hg : g ∈ K ++ L.map (·.1) := List.mem_append.2 (.inr (List.mem_map.2 ⟨(g, l), List.mem_of_getElem? hi, rfl⟩))
  refine ⟨hmv, fun k hk => Nat.lt_of_lt_of_le (e.kb k hk) hs, fun V hV => e.fs V ?_, fun V hV => e.hs V ?_⟩
  · rw [hmap] at hV; exact hV.head hs fun b _ _ h3 => ho b fun hb => h3 (hb ▸ hg)
  · rw [hmap] at hV; exact hV.head hs fun b _ _ h3 => ho b fun hb => h3 (hb ▸ hg)
theorem Ev.put (e : Ev w L K F H u) (i : Nat) {g : Nat} {l : List Value} (hi : L[i]? = some (g, l)) {m : List Value} (hm : m.length = l.length) : Ev w (L.set i (g, m)) K F H (u.setCells g 0 m) :=
  e.turned hi (e.mv.put i hi hm) (qaq (B := 0) (Nat.zero_le _) m 0 (Below.refl _ u)).size fun _ hb => setCells_far hb m 0 u
theorem Ev.mid (e : Ev w L K F H u) (i : Nat) {g : Nat} {l : List Value} (hi : L[i]? = some (g, l)) {f : Nat} {m : List Value} (hm : f + m.length ≤ l.length) : Ev w (L.set i (g, l.take f ++ (m ++ l.drop (f + m.length)))) K F H (u.setCells g f m) :=
  e.turned hi (e.mv.mid i hi hm) (qaq (B := 0) (Nat.zero_le _) m f (Below.refl _ u)).size fun _ hb => setCells_far hb m f u
theorem Ev.set (e : Ev w L K F H u) (i : Nat) {g : Nat} {l : List Value} (hi : L[i]? = some (g, l)) {j : Nat} (hj : j < l.length) (v : Value) : Ev w (L.set i (g, l.set j v)) K F H (u.setCell ⟨g, j, none⟩ v) :=
  e.turned hi (e.mv.set i hi hj v) ((Below.refl 0 u).setCell (p := ⟨g, j, none⟩) (Nat.zero_le _) v).size fun _ hb => setCell_far hb j v u
theorem Ev.call (e : Ev w L K F H u) (hb : Below u.heap.size u u') (h0 : Fro u.heap.size H0 u') : Ev w L K F (fun V => H0 V ∧ H V) u' :=
  have e' := e.below hb
  ⟨e'.mv, e'.kb, e'.fs, fun V hV => ⟨h0 V ⟨hV.size, fun b h1 h2 _ => hV.block b (Nat.le_trans e.mv.bl.size h1) h2 fun hm => Nat.lt_irrefl _ (Nat.lt_of_lt_of_le (e.gs hm) h1)⟩, e'.hs V hV⟩⟩
theorem Ev.know (e : Ev w L K F H u) (h : ∀ V, F V → F0 V) : Ev w L K F0 H u := ⟨e.mv, e.kb, fun V hV => h V (e.fs V hV), e.hs⟩
theorem Ev.knowH (e : Ev w L K F H u) (h : ∀ V, H V → H0 V) : Ev w L K F H0 u := ⟨e.mv, e.kb, e.fs, fun V hV => h V (e.hs V hV)⟩
theorem Ev.tell (e : Ev w L K F H u) : Fro w.heap.size H u := fun V hV => e.hs V (hV.mono (Nat.le_refl _) fun _ h => by cases h)
end
end Go.Proofs.YtcgbgmbnagmohaaDoor
namespace Go.Proofs.YtcgbgmbnagmohaaDoor
open Go.RowKit
set_option maxRecDepth 20000
section
variable {w : World} {ρ : Operand → Value} {o : Oper} {t e : TypeId} {x y : Operand}
theorem qa9 {d : TypeDesc} {g i : Nat} {v : Value} (ho : o.op = .load t x) (ht : Tryd.prog.underlying t = some d) (hd : d.isRow = false) (hx : ρ x = .pointer (some ⟨g, i, none⟩)) (hc : w.cell? ⟨g, i, none⟩ = some v) : (execOp ρ o).run Tryd.prog w = .ok (.value v) w := by
  have hagg : (isAgg t).run Tryd.prog w = .ok false w := by
    unfold isAgg
    rw [Sem.run_bind, run_underlying ht w]
    cases d <;> simp_all
  unfold execOp
  simp only [ho, hx]
  simp [Instr.loadAt, Instr.sureAddr, loadVar, Sem.run_bind, hagg, go_sem, hc]
theorem run_stc {g i : Nat} {v v0 : Value} (ho : o.op = .store t x y) (hi : (Tryd.prog.info? t).map (·.size) = some 1) (hx : ρ x = .pointer (some ⟨g, i, none⟩)) (hy : ρ y = v) (hv : v.cells = #[v]) (h1 : v.oneCell' = true) (hc : w.cell? ⟨g, i, none⟩ = some v0) (hf : w.frozen? ⟨g, i, none⟩ = false) : (execOp ρ o).run Tryd.prog w = .ok .skip (w.setCell ⟨g, i, none⟩ v) := by
  have e1 : storeVar t ⟨g, i, none⟩ v = storeVar t ⟨g, i, none⟩ (.agg #[v]) := by unfold storeVar; rw [hv]; rfl
  have ht : w.there g i (#[v] : Array Value).size := fun j hj => by
    obtain rfl : j = 0 := by simpa using hj
    exact ⟨by rw [Nat.add_zero, hc]; rfl, by rw [Nat.add_zero]; exact hf⟩
  have h2 := run_storeVar_mid (P := Tryd.prog) w g i t #[v] ht hi (by simpa using h1)
  unfold execOp
  simp only [ho, hx, hy, Instr.storeAt, Instr.sureAddr, Sem.run_bind, Sem.run_pure, Result.andThen_ok, e1, h2]
  rfl
end
theorem qcc {w : World} {ρ : Operand → Value} {o : Oper} {t : TypeId} {parts : Array (Nat × Operand)} {ps : List (Nat × Value)} {cells : Array Value} (ho : o.op = .build t parts) (hp : parts.toList.map (fun (i, x) => (i, ρ x)) = ps) (h : Tryd.prog.built t ps = some cells) : (execOp ρ o).run Tryd.prog w = .ok (.value (.agg cells)) w := run_bld ho (by rw [Array.toList_map, hp]; exact h)
theorem run_bsl1 {w : World} {ρ : Operand → Value} {o : Oper} {t e : TypeId} {x : Operand} {z : Nat} {m : List Value} {zv : Value} (ho : o.op = .buildSlice t 1 #[(0, x)]) (ht : Tryd.prog.underlying t = some (.slice e)) (hi : (Tryd.prog.info? e).map (fun i => (i.size, i.zero)) = some (z, some zv)) (hx : ρ x = .agg m.toArray) (hl : m.length = z) (hz : 0 < z) (hz2 : z ≤ 100000) : (execOp ρ o).run Tryd.prog w = .ok (.value (.slice (some ⟨w.heap.size, 0, none⟩) 1 1)) (w.alloc (.cells m.toArray e)) := by
  obtain ⟨inf, h1, h2⟩ := Option.map_eq_some_iff.1 hi
  obtain ⟨e1, e2⟩ : inf.size = z ∧ inf.zero = some zv := by simpa using h2
  have hp : ((#[(0, x)] : Array (Nat × Operand)).map fun (i, x) => (i, ρ x)).toList = [(0, .agg m.toArray)] := by simp [hx]
  have hf : Instr.fill (fun i => some (i * z, z)) ((Array.range (1 * z)).map (zv.cells[· % zv.cells.size]!)) [(0, .agg m.toArray)] = some m.toArray := by
    have h := fill_one (place := fun i => some (i * z, z)) (z := (Array.range (1 * z)).map (zv.cells[· % zv.cells.size]!)) (vs := m) (by simp [hl]) (by simp [hl])
    rw [h, List.drop_of_length_le (by simp [hl]), List.append_nil]
  have h := run_buildSlice (P := Tryd.prog) w t e 1 ((#[(0, x)] : Array (Nat × Operand)).map fun (i, x) => (i, ρ x)) m.toArray inf zv ht h1 e2 (by rw [e1]; omega) (by rw [e1]; omega) (by rw [e1, hp]; exact hf)
  unfold execOp
  simp only [ho, Sem.run_bind, h]
  simp [go_sem]
structure SlR {α : Type} (z : Nat) (R : α → List Value → World → Prop) (l : List α) (a : Option Addr) (c : Nat) (u : World) : Prop where
  cap : l.length ≤ c
  ex : ∃ css : List (List Value), css.length = l.length ∧ (∀ x ∈ css, x.length = z) ∧ (∀ (i : Nat) (m : α) (cs : List Value), l[i]? = some m → css[i]? = some cs → R m cs u) ∧ (l ≠ [] → ∃ g f, a = some ⟨g, f, none⟩ ∧ g < u.heap.size ∧ u.rangeAt g f css.flatten)
structure Gw (w : World) (L : List (Nat × List Value)) (e : TypeId) (z : Nat) (v : Value) (n : Nat) (cs : List Value) (F H : World → Prop) (u : World) : Prop where
  ev : Ev w L v.ownBlock.toList F H u
  row : u.ownsRow w.heap.size e z v n cs
  ap : ∀ p ∈ L, v.ownBlock ≠ some p.1
section
variable {w u u' : World} {L : List (Nat × List Value)} {e : TypeId} {z n : Nat} {v : Value} {cs : List Value} {F H F0 H0 : World → Prop}
theorem ownsRow_at {B : Nat} (h : u.ownsRow B e z v n cs) (hk : ∀ k, v.ownBlock = some k → u'.heap[k]? = u.heap[k]?) : u'.ownsRow B e z v n cs := by
  refine ⟨h.1, ?_⟩
  rcases h.2 with h2 | ⟨g, cap, cur, rfl, h3, h4, h5⟩
  · exact .inl h2
  · exact .inr ⟨g, cap, cur, rfl, h3, (hk g rfl).trans h4, h5⟩
theorem qbn {B : Nat} (h : u.ownsRow B e z v n cs) {k : Nat} (hk : v.ownBlock = some k) : B ≤ k ∧ k < u.heap.size := by
  rcases h.2 with ⟨rfl, _⟩ | ⟨g, cap, cur, rfl, h3, h4, _⟩
  · cases hk
  · simp only [Value.ownBlock, Option.some.injEq] at hk
    subst hk
    exact ⟨h3, (Array.getElem?_eq_some_iff.1 h4).1⟩
theorem Gw.start (h : Ev w L [] F H u) (e : TypeId) (z : Nat) : Gw w L e z (.slice none 0 0) 0 [] F H u :=
  ⟨h, ⟨by simp, .inl ⟨rfl, rfl⟩⟩, fun _ _ h => by cases h⟩
theorem Gw.below (h : Gw w L e z v n cs F H u) (hb : Below u.heap.size u u') : Gw w L e z v n cs F H u' :=
  ⟨h.ev.below hb, ownsRow_at h.row fun k hk => hb.block k (qbn h.row hk).2, h.ap⟩
theorem Gw.new (h : Gw w L e z v n cs F H u) (l : List Value) (t : TypeId) : Gw w ((u.heap.size, l) :: L) e z v n cs F H (u.alloc (.cells l.toArray t)) := by
  have hb : Below u.heap.size u (u.alloc (.cells l.toArray t)) := (Below.refl _ _).alloc (Nat.le_refl _) _
  refine ⟨h.ev.new l t, ownsRow_at h.row fun k hk => hb.block k (qbn h.row hk).2, fun p hp he => ?_⟩
  rcases List.mem_cons.1 hp with rfl | hp
  · have := (qbn h.row he).2
    simp only at this; omega
  · exact h.ap p hp he
theorem Gw.turned (h : Gw w L e z v n cs F H u) {i g : Nat} {l m : List Value} (hi : L[i]? = some (g, l)) (h2 : Ev w (L.set i (g, m)) v.ownBlock.toList F H u') (ho : ∀ b, b ≠ g → u'.heap[b]? = u.heap[b]?) : Gw w (L.set i (g, m)) e z v n cs F H u' := by
  have hg := h.ap (g, l) (List.mem_of_getElem? hi)
  refine ⟨h2, ownsRow_at h.row fun k hk => ho k fun e => hg (e ▸ hk), fun p hp => ?_⟩
  rcases List.mem_or_eq_of_mem_set hp with hp | rfl
  · exact h.ap p hp
  · exact hg
theorem Gw.put (h : Gw w L e z v n cs F H u) (i : Nat) {g : Nat} {l : List Value} (hi : L[i]? = some (g, l)) {m : List Value} (hm : m.length = l.length) : Gw w (L.set i (g, m)) e z v n cs F H (u.setCells g 0 m) :=
  h.turned hi (h.ev.put i hi hm) fun _ hb => setCells_far hb m 0 u
theorem Gw.set (h : Gw w L e z v n cs F H u) (i : Nat) {g : Nat} {l : List Value} (hi : L[i]? = some (g, l)) {j : Nat} (hj : j < l.length) (x : Value) : Gw w (L.set i (g, l.set j x)) e z v n cs F H (u.setCell ⟨g, j, none⟩ x) :=
  h.turned hi (h.ev.set i hi hj x) fun _ hb => setCell_far hb j x u
theorem Gw.call (h : Gw w L e z v n cs F H u) (hb : Below u.heap.size u u') (h0 : Fro u.heap.size H0 u') : Gw w L e z v n cs F (fun V => H0 V ∧ H V) u' :=
  ⟨h.ev.call hb h0, ownsRow_at h.row fun k hk => hb.block k (qbn h.row hk).2, h.ap⟩
theorem Gw.know (h : Gw w L e z v n cs F H u) (hk : ∀ V, H V → H0 V) : Gw w L e z v n cs F H0 u := ⟨h.ev.knowH hk, h.row, h.ap⟩
theorem Gw.bl (h : Gw w L e z v n cs F H u) : Below w.heap.size w u := h.ev.bl
theorem Gw.get (h : Gw w L e z v n cs F H u) {i g : Nat} {l : List Value} (hi : L[i]? = some (g, l)) : Arr g l u := h.ev.get hi
theorem Gw.done (h : Gw w L e z v n cs F H u) : Ev w L [] F (fun V => V.ownsRow w.heap.size e z v n cs ∧ H V) u :=
  ⟨h.ev.mv, (fun _ hk => by cases hk), fun V hV => h.ev.fs V (hV.mono (Nat.le_refl _) fun b hb => List.mem_append.2 (.inr (by simpa using hb))),
   fun V hV => ⟨ownsRow_at h.row fun k hk => hV.block k (qbn h.row hk).1 (qbn h.row hk).2 (fun hm => by
      obtain ⟨p, hp, he⟩ := List.mem_map.1 (by simpa using hm : k ∈ L.map (·.1))
      exact h.ap p hp (he ▸ hk)), h.ev.hs V (hV.mono (Nat.le_refl _) fun b hb => List.mem_append.2 (.inr (by simpa using hb)))⟩⟩
theorem wpList_grow {ops : Array Oper} {Q : Exit → Act → World → Prop} {rest : List Oper} {o : Oper} {a : Act} {s x : Operand} {t : TypeId} {bw : Nat} {zv : Value} (hg : o.guard = none) (ho : o.op = .call { callee := .builtin .append, args := #[s, x], argTypes := #[t, t] })
    (ht : Tryd.prog.underlying t = some (.slice e)) (hi : (Tryd.prog.info? e).map (fun i => (i.size, i.bytes, i.zero)) = some (z, bw, some zv)) (hzs : zv.cells.size = z) (hz : 0 < z)
    (hs : a.eval s = v) {g f c : Nat} {m : List Value} (hx : a.eval x = .slice (some ⟨g, f, none⟩) 1 c) (hr : u.rangeAt g f m) (hl : m.length = z) (h1 : One m)
    (hn : n < 100000) (hbw : bw ≤ 1000000) (G : Gw w L e z v n cs F H u)
    (h : ∀ v' u', Gw w L e z v' (n + 1) (cs ++ m) F H u' → wpList Tryd.prog ops Q rest (a.put o.dst v') u') : wpList Tryd.prog ops Q (o :: rest) a u := by
  obtain ⟨inf, q1, q2⟩ := Option.map_eq_some_iff.1 hi
  obtain ⟨e1, e2, e3⟩ : inf.size = z ∧ inf.bytes = bw ∧ inf.zero = some zv := by simpa using q2
  have hc : ∀ j w', m[j]? = some w' → u.cell? ((⟨g, f, none⟩ : Addr).add j) = some w' := fun j w' hw => by rw [Addr.add_mid]; exact hr j w' hw
  have hby : (n + 1) * bw ≤ 140737488355328 := Nat.le_trans (Nat.mul_le_mul (show n + 1 ≤ 100000 by omega) hbw) (by omega)
  have hbase : w.heap.size ≤ u.heap.size := G.bl.size
  obtain ⟨v', w', hrun, h3, h4, _⟩ := run_append_own (P := Tryd.prog) u w.heap.size t o.type e inf zv z bw ht q1 e3 e1 e2 hzs hz v n cs G.row ⟨g, f, none⟩ 1 c m (by rw [hl, Nat.one_mul]) hc h1 (by unfold maxLen; omega) hby hbase
  have hw := append_where (P := Tryd.prog) w.heap.size t o.type e inf zv z bw ht q1 e3 e1 e2 hzs hz v n cs G.row ⟨g, f, none⟩ 1 c m (by rw [hl, Nat.one_mul]) hc h1 (by unfold maxLen; omega) hby (by omega) hrun
  have hb : Below w.heap.size u w' := below_grown h4 (fun k hk => (qbn G.row hk).1) hbase
  have hap : ∀ p ∈ L, v'.ownBlock ≠ some p.1 := fun p hp he => by
    rcases hw with hw | hw
    · exact G.ap p hp (hw ▸ he)
    · rw [hw] at he
      have h6 := (G.ev.mv.all p hp).2.lt
      injection he with he
      omega
  have key : ∀ B V, Ext B (v'.ownBlock.toList ++ L.map (·.1)) w' V → Ext B (v.ownBlock.toList ++ L.map (·.1)) u V := fun B V hV =>
    ⟨Nat.le_trans h4.size hV.size, fun b k1 k2 k3 => by
      have n1 : v.ownBlock ≠ some b := fun he => k3 (List.mem_append.2 (.inl (by simp [he])))
      have n2 : b ∉ v'.ownBlock.toList ++ L.map (·.1) := fun hm => by
        rcases List.mem_append.1 hm with hm | hm
        · have he : v'.ownBlock = some b := by simpa using hm
          rcases hw with hw | hw
          · exact n1 (hw ▸ he)
          · rw [hw] at he
            injection he with he
            omega
        · exact k3 (List.mem_append.2 (.inr hm))
      exact (hV.block b k1 (Nat.lt_of_lt_of_le k2 h4.size) n2).trans (h4.block b k2 fun he => n1 he.symm)⟩
  have hmv : Mv w L w' := ⟨G.bl.trans hb, G.ev.mv.nd, fun p hp => ⟨(G.ev.mv.all p hp).1, (G.ev.mv.all p hp).2.same h4.size (h4.block _ (G.ev.mv.all p hp).2.lt fun he => G.ap p hp he.symm)⟩⟩
  have hG : Gw w L e z v' (n + 1) (cs ++ m) F H w' := ⟨⟨hmv, fun k hk => (qbn h3 (by simpa using hk)).2, fun V hV => G.ev.fs V (key 0 V hV), fun V hV => G.ev.hs V (key _ V hV)⟩, h3, hap⟩
  refine qaa (v := v') (w' := w') ?_ hg (h v' w' hG)
  unfold execOp
  simp [ho, resolve, invoke, builtin, hs, hx, hrun, Result.andThen]
end
end Go.Proofs.YtcgbgmbnagmohaaDoor
namespace Go.Proofs.YtcgbgmbnagmohaaDoor
open Go.RowKit
set_option maxRecDepth 20000
section
variable {w : World} {ρ : Operand → Value} {o : Oper} {x y : Operand} {t t' : TypeId}
theorem run_minI {a b : Int} (ts : Array TypeId) (ho : o.op = .call { callee := .builtin .min, args := #[x, y], argTypes := ts }) (hx : ρ x = .int .i64 a) (hy : ρ y = .int .i64 b) : (execOp ρ o).run Tryd.prog w = .ok (.value (.int .i64 (min a b))) w := by
  unfold execOp
  have h := run_min_int2 (P := Tryd.prog) (w := w) ts o.type .i64 .i64 a b
  have e : (if b < a then b else a) = min a b := by split <;> omega
  rw [e] at h
  simp [ho, resolve, invoke, builtin, hx, hy, h, Result.andThen]
theorem run_maxI {a b : Int} (ts : Array TypeId) (ho : o.op = .call { callee := .builtin .max, args := #[x, y], argTypes := ts }) (hx : ρ x = .int .i64 a) (hy : ρ y = .int .i64 b) : (execOp ρ o).run Tryd.prog w = .ok (.value (.int .i64 (max a b))) w := by
  unfold execOp
  have h := run_max_int2 (P := Tryd.prog) (w := w) ts o.type .i64 .i64 a b
  have e : (if b > a then b else a) = max a b := by split <;> omega
  rw [e] at h
  simp [ho, resolve, invoke, builtin, hx, hy, h, Result.andThen]
end
def viF : Nat → Nat → List (BitVec 8)
  | 0, n => [BitVec.ofNat 8 n]
  | k + 1, n => if n ≤ 127 then [BitVec.ofNat 8 n] else BitVec.ofNat 8 (n % 128 + 128) :: viF k (n / 128)
def clN (n : Int) : Nat := (max 0 (min n 1099511627776)).toNat
def viB (n : Int) : List (BitVec 8) := viF 5 (clN n)
theorem viF_len : ∀ k n, (viF k n).length ≤ k + 1
  | 0, _ => by simp [viF]
  | k + 1, n => by
    rw [viF]; split
    · simp
    · have := viF_len k (n / 128); simp; omega
theorem viB_len (n : Int) : (viB n).length ≤ 6 := viF_len 5 _
theorem viF_pos (k n : Nat) : 0 < (viF k n).length := by
  cases k with
  | zero => simp [viF]
  | succ k => rw [viF]; split <;> simp
theorem clN_le (n : Int) : clN n ≤ 1099511627776 := by unfold clN; omega
structure NuI (n : Nat) (pre : List (BitVec 8)) (m : Nat) : Prop where
  ex : ∃ k, viF 5 n = pre ++ viF k m ∧ m < 128 ^ (k + 1) ∧ pre.length + k ≤ 5
theorem NuI.start {n : Nat} (h : n ≤ 1099511627776) : NuI n [] n := ⟨5, rfl, by omega, by simp⟩
theorem NuI.step {n m : Nat} {pre : List (BitVec 8)} (h : NuI n pre m) (hm : 127 < m) : NuI n (pre ++ [BitVec.ofNat 8 (m % 128 + 128)]) (m / 128) := by
  obtain ⟨k, e, h1, h2⟩ := h.ex
  cases k with
  | zero => omega
  | succ k =>
    refine ⟨k, ?_, ?_, by rw [List.length_append]; simp; omega⟩
    · rw [e, viF, if_neg (by omega), List.append_assoc]; rfl
    · rw [Nat.pow_succ] at h1
      exact Nat.div_lt_of_lt_mul (by rwa [Nat.mul_comm] at h1)
theorem NuI.done {n m : Nat} {pre : List (BitVec 8)} (h : NuI n pre m) (hm : m ≤ 127) : viF 5 n = pre ++ [BitVec.ofNat 8 m] := by
  obtain ⟨k, e, _, _⟩ := h.ex
  cases k with
  | zero => exact e
  | succ k => rw [e, viF, if_pos hm]
theorem NuI.len {n m : Nat} {pre : List (BitVec 8)} (h : NuI n pre m) : pre.length ≤ 5 := by obtain ⟨k, _, _, h2⟩ := h.ex; omega
theorem NuI.le {n m : Nat} {pre : List (BitVec 8)} (h : NuI n pre m) : m < 4398046511104 := by
  obtain ⟨k, _, h1, h2⟩ := h.ex
  have : 128 ^ (k + 1) ≤ 128 ^ 6 := Nat.pow_le_pow_right (by omega) (by omega)
  omega
end Go.Proofs.YtcgbgmbnagmohaaDoor
namespace Go.Proofs.YtcgbgmbnagmohaaDoor
open Go.RowKit
set_option maxRecDepth 20000
structure Tl (w : World) (v : Value) (l : List (BitVec 8)) (u : World) : Prop where
  bl : Below w.heap.size w u
  s : Sl v l u
theorem Tl.of {w u : World} {v : Value} {l : List (BitVec 8)} (h : S5 w v l u) : Tl w v l u := ⟨h.bl, h.sl⟩
def trB (b : Bool) : List (BitVec 8) := [if b then 1 else 0]
end Go.Proofs.YtcgbgmbnagmohaaDoor
namespace Go.Proofs.YtcgbgmbnagmohaaDoor
open Go.RowKit
set_option maxRecDepth 20000
section
variable {w : World} {ρ : Operand → Value} {o : Oper} {x y : Operand} {t t' : TypeId}
end
end Go.Proofs.YtcgbgmbnagmohaaDoor
namespace Go.Proofs.YtcgbgmbnagmohaaDoor
open Go.RowKit
set_option maxRecDepth 20000
structure MPk where
  id : Int
  key : List (BitVec 8)
def pkC (p : MPk) : List Value := .int .i64 p.id :: p.key.map b8
def pkB (p : MPk) : List (BitVec 8) := viB p.id ++ p.key
theorem qbq {p : MPk} (h : p.key.length = 32) : (pkC p).length = 33 := by unfold pkC; rw [List.length_cons, List.length_map, h]
structure MHd where
  r : List (BitVec 8)
  prev : Int
  n : Int
def hdB (h : MHd) : List (BitVec 8) := h.r ++ viB h.prev ++ viB h.n
end Go.Proofs.YtcgbgmbnagmohaaDoor
namespace Go.Proofs.YtcgbgmbnagmohaaDoor
open Go.RowKit
set_option maxRecDepth 20000
section
variable {w : World} {ρ : Operand → Value} {o : Oper} {t t' e : TypeId} {x y : Operand}
theorem qdg {z g i off n c : Nat} {k : IntKind} (ho : o.op = .indexAddr t x y) (ht : Tryd.prog.underlying t = some (.slice e)) (hs : (Tryd.prog.info? e).map (·.size) = some z) (hx : ρ x = .slice (some ⟨g, off, none⟩) n c) (hy : ρ y = .int k (i : Int)) (hi : i < n) : (execOp ρ o).run Tryd.prog w = .ok (.value (.pointer (some ⟨g, off + i * z, none⟩))) w := by
  have el : Tryd.prog.elem t = e := by unfold Program.elem; rw [ht]
  have h := run_indexAt_slice (P := Tryd.prog) (w := w) t ⟨g, off, none⟩ n c k (i : Int) (by rw [el]; exact ht)
  rw [el, if_pos ⟨by omega, by omega⟩] at h
  obtain ⟨inf, h1, h2⟩ := Option.map_eq_some_iff.1 hs
  have hz : (sizeOf e).run Tryd.prog w = .ok z w := by simp [sizeOf, typeInfo, go_sem, h1, h2]
  rw [hz] at h
  unfold execOp
  simp only [ho, hx, hy, Sem.run_bind, h]
  simp [go_sem, Addr.add_mid]
theorem run_geqI {k : IntKind} {a b : Int} {c : Bool} (ho : o.op = .binOp .geq t x y t') (hx : ρ x = .int k a) (hy : ρ y = .int k b) (h : decide (b ≤ a) = c) : (execOp ρ o).run Tryd.prog w = .ok (.value (.bool c)) w := by
  obtain ⟨dst, op, type, pos, after, guard⟩ := o
  subst ho
  subst h
  go_simp
end
structure Lz (z : Nat) (a : Option Addr) (cs : List (List Value)) (c : Nat) (u : World) : Prop where
  cap : cs.length ≤ c
  each : ∀ x ∈ cs, x.length = z
  at_ : cs ≠ [] → ∃ g f, a = some ⟨g, f, none⟩ ∧ g < u.heap.size ∧ u.rangeAt g f cs.flatten
theorem Lz.below {z : Nat} {a : Option Addr} {cs : List (List Value)} {c : Nat} {u u' : World} (h : Lz z a cs c u) (hb : Below u.heap.size u u') : Lz z a cs c u' :=
  ⟨h.cap, h.each, fun hn => by obtain ⟨g, f, h1, h2, h3⟩ := h.at_ hn; exact ⟨g, f, h1, Nat.lt_of_lt_of_le h2 hb.size, qb2 h3 h2 hb⟩⟩
theorem flat_len {z : Nat} : ∀ {cs : List (List Value)}, (∀ x ∈ cs, x.length = z) → cs.flatten.length = cs.length * z
  | [], _ => by simp
  | x :: cs, h => by
    rw [List.flatten_cons, List.length_append, flat_len (fun y hy => h y (List.mem_cons_of_mem _ hy)), h x (List.mem_cons_self ..), List.length_cons, Nat.succ_mul, Nat.add_comm]
theorem Lz.get {z : Nat} {a : Option Addr} {cs : List (List Value)} {c : Nat} {u : World} (h : Lz z a cs c u) {i : Nat} (hi : i < cs.length) : ∃ g f, a = some ⟨g, f, none⟩ ∧ g < u.heap.size ∧ u.rangeAt g (f + i * z) (cs.getD i []) := by
  obtain ⟨g, f, h1, h2, h3⟩ := h.at_ (by intro e; rw [e] at hi; cases hi)
  refine ⟨g, f, h1, h2, ?_⟩
  have e1 : cs = cs.take i ++ (cs[i] :: cs.drop (i + 1)) := by rw [← List.drop_eq_getElem_cons hi, List.take_append_drop]
  have hl : ((cs.take i).flatten).length = i * z := by
    rw [flat_len (fun x hx => h.each x (List.mem_of_mem_take hx)), List.length_take, Nat.min_eq_left (by omega)]
  have e2 : cs.flatten = (cs.take i).flatten ++ (cs[i] ++ (cs.drop (i + 1)).flatten) := by
    conv => lhs; rw [e1]
    rw [List.flatten_append, List.flatten_cons]
  rw [e2] at h3
  have h4 := qcb (k := (cs.take i).flatten.length) h3
  rw [List.drop_left' rfl, hl] at h4
  have h5 := qca (k := cs[i].length) h4
  rw [List.take_left' rfl] at h5
  rw [show cs.getD i [] = cs[i] by simp [hi]]
  exact h5
theorem pkB_len {p : MPk} (h : p.key.length = 32) : (pkB p).length ≤ 38 := by have := viB_len p.id; unfold pkB; rw [List.length_append]; omega
end Go.Proofs.YtcgbgmbnagmohaaDoor
namespace Go.Proofs.YtcgbgmbnagmohaaDoor
open Go.RowKit
set_option maxRecDepth 20000
attribute [local irreducible] wpList
theorem qbb (n : Nat) : (z8 n).length = n := by unfold z8; rw [List.length_map, List.length_replicate]
section
variable {w : World} {ρ : Operand → Value} {o : Oper} {t t' : TypeId} {x y : Operand}
end
end Go.Proofs.YtcgbgmbnagmohaaDoor
namespace Go.Proofs.YtcgbgmbnagmohaaDoor
open Go.RowKit
set_option maxRecDepth 20000
attribute [local irreducible] wpList
theorem Sl.ext {v : Value} {l : List (BitVec 8)} {u V : World} (h : Sl v l u) (hV : Ext 0 [] u V) : Sl v l V := by
  obtain ⟨ao, c, h1, h2, h3⟩ := h
  refine ⟨ao, c, h1, h2, fun hn => ?_⟩
  obtain ⟨b, f, h4, h5, h6⟩ := h3 hn
  exact ⟨b, f, h4, Nat.lt_of_lt_of_le h5 hV.size, fun j x hx => (World.cell?_of_block (a := ⟨b, f + j, none⟩) (hV.block b (Nat.zero_le _) h5 (by simp))).trans (h6 j x hx)⟩
theorem Ev.drop {w u : World} {L : List (Nat × List Value)} {K : List Nat} {F H : World → Prop} {p : Nat × List Value} (h : Ev w (p :: L) K F H u) : Ev w L K F H u :=
  have hm : ∀ b ∈ K ++ L.map (·.1), b ∈ K ++ (p :: L).map (·.1) := fun b hb => by
    rcases List.mem_append.1 hb with hb | hb
    · exact List.mem_append.2 (.inl hb)
    · exact List.mem_append.2 (.inr (List.mem_cons_of_mem _ hb))
  ⟨h.mv.drop, h.kb, fun V hV => h.fs V (hV.mono (Nat.le_refl _) hm), fun V hV => h.hs V (hV.mono (Nat.le_refl _) hm)⟩
section
variable {w : World} {ρ : Operand → Value} {o : Oper} {t t' : TypeId} {x y : Operand} {a b : Nat}
end
end Go.Proofs.YtcgbgmbnagmohaaDoor
namespace Go.Proofs.YtcgbgmbnagmohaaDoor
open Go.RowKit
set_option maxRecDepth 20000
attribute [local irreducible] wpList
end Go.Proofs.YtcgbgmbnagmohaaDoor
namespace Go.Proofs.YtcgbgmbnagmohaaDoor
open Go.RowKit
set_option maxRecDepth 20000
attribute [local irreducible] wpList
theorem pkC_row {p : MPk} : pkC p = pkR (.int .i64 p.id) (p.key.map b8) := by unfold pkC pkR; rfl
end Go.Proofs.YtcgbgmbnagmohaaDoor
namespace Go.Proofs.YtcgbgmbnagmohaaDoor
open Go.RowKit
set_option maxRecDepth 20000
attribute [local irreducible] wpList
theorem slR_own {α : Type} {z : Nat} {Rr : α → List Value → World → Prop} {B e n : Nat} {v : Value} {css : List (List Value)} {l : List α} {V : World} (h : V.ownsRow B e z v n css.flatten) (hn : n = l.length) (hc : css.length = l.length) (hz : ∀ x ∈ css, x.length = z) (hR : ∀ (i : Nat) (m : α) (cs : List Value), l[i]? = some m → css[i]? = some cs → Rr m cs V) : ∃ a c, v = .slice a l.length c ∧ SlR z Rr l a c V := by
  subst hn
  rcases h.2 with ⟨rfl, h2⟩ | ⟨g, cap, cur, rfl, h3, h4, h5, h6, h7, h8⟩
  · refine ⟨none, 0, by rw [h2], ⟨by omega, css, hc, hz, hR, fun hne => absurd (List.length_eq_zero_iff.1 h2) hne⟩⟩
  · refine ⟨some ⟨g, 0, none⟩, cap, rfl, ⟨h5, css, hc, hz, hR, fun _ => ⟨g, 0, rfl, (Array.getElem?_eq_some_iff.1 h4).1, fun j x hx => ?_⟩⟩⟩
    rw [Nat.zero_add]
    rw [← h8] at hx
    have hlt : j < l.length * z := by
      rcases Nat.lt_or_ge j (l.length * z) with h9 | h9
      · exact h9
      · rw [List.getElem?_eq_none (by rw [List.length_take]; omega)] at hx; cases hx
    rw [List.getElem?_take_of_lt hlt] at hx
    simp only [World.cell?, h4]
    simpa using hx
def pkAt (p : MPk) (cs : List Value) (_ : World) : Prop := cs = pkC p
theorem Gw.drop {w u : World} {p : Nat × List Value} {L : List (Nat × List Value)} {e : TypeId} {z n : Nat} {v : Value} {cs : List Value} {F H : World → Prop} (h : Gw w (p :: L) e z v n cs F H u) : Gw w L e z v n cs F H u := ⟨h.ev.drop, h.row, fun q hq => h.ap q (List.mem_cons_of_mem _ hq)⟩
theorem pkC_one {p : MPk} (_h : p.key.length = 32) : One (pkC p) := by rw [pkC_row]; exact pkR_one rfl (One.b8 _)
end Go.Proofs.YtcgbgmbnagmohaaDoor
namespace Go.Proofs.YtcgbgmbnagmohaaDoor
open Go.RowKit
set_option maxRecDepth 20000
structure MEv where
  fr : Int
  dev : Int
  first : Bool
  eph : List (BitVec 8)
  signed : Int
  one : Int
  head : MHd
  body : List (BitVec 8)
structure MEv.Ok (e : MEv) : Prop where
  eph : e.eph.length = 32
  head : e.head.r.length = 32
  body : e.body.length ≤ 100000
def oneN (o : Int) : Int := if 0 ≤ o then min o 1099511627775 + 1 else 0
def evB (e : MEv) : List (BitVec 8) := viB e.fr ++ viB e.dev ++ trB e.first ++ e.eph ++ viB e.signed ++ viB (oneN e.one) ++ hdB e.head ++ (viB (e.body.length : Int) ++ e.body)
end Go.Proofs.YtcgbgmbnagmohaaDoor
namespace Go.Proofs.YtcgbgmbnagmohaaDoor
open Go.RowKit
set_option maxRecDepth 20000
attribute [local irreducible] wpList
theorem fro_sl {B : Nat} {v : Value} {l : List (BitVec 8)} {u : World} (h : u.ownsRow B 5 1 v l.length (l.map b8)) : Fro B (Sl v l) u := fun _ hV =>
  Sl.own (base := B) (ownsRow_at h fun k hk => hV.block k (qbn h hk).1 (qbn h hk).2 (by simp))
end Go.Proofs.YtcgbgmbnagmohaaDoor
namespace Go.Proofs.YtcgbgmbnagmohaaDoor
open Go.RowKit
set_option maxRecDepth 20000
attribute [local irreducible] wpList
theorem pkC_en {p : MPk} : pkC p = enR (.int .i64 p.id) (p.key.map b8) := by unfold pkC enR; rfl
structure MLs where
  acc : Int
  ver : Int
  ident : List (BitVec 8)
  devs : List MPk
  sig : List (BitVec 8)
structure MBu where
  acc : Int
  dev : Int
  ident : List (BitVec 8)
  key : List (BitVec 8)
  signed : MPk
  sig : List (BitVec 8)
  ones : List MPk
structure MSlot where
  dev : Int
  signed : MPk
  sig : List (BitVec 8)
  ones : List MPk
  last : Int
  mail : List MEv
def lsAt (m : MLs) (cs : List Value) (V : World) : Prop := ∃ a c, cs = lsR (.int .i64 m.acc) (.int .i64 m.ver) (m.ident.map b8) (.slice a m.devs.length c) (m.sig.map b8) ∧ SlR 33 pkAt m.devs a c V
def LR {α : Type} (At : α → List Value → World → Prop) (l : List α) (css : List (List Value)) (V : World) : Prop := css.length = l.length ∧ ∀ (i : Nat) (m : α) (cs : List Value), l[i]? = some m → css[i]? = some cs → At m cs V
theorem LR.nil {α : Type} {At : α → List Value → World → Prop} (V : World) : LR At ([] : List α) [] V := ⟨rfl, fun _ _ _ h => by simp at h⟩
theorem LR.snoc {α : Type} {At : α → List Value → World → Prop} {l : List α} {css : List (List Value)} {y : α} {X : List Value} {V : World} (h : LR At l css V) (hy : At y X V) : LR At (l ++ [y]) (css ++ [X]) V := by
  refine ⟨by rw [List.length_append, List.length_append, h.1]; rfl, fun i m cs h1 h2 => ?_⟩
  rcases Nat.lt_or_ge i l.length with hi | hi
  · rw [List.getElem?_append_left hi] at h1
    rw [List.getElem?_append_left (by rw [h.1]; exact hi)] at h2
    exact h.2 i m cs h1 h2
  · rw [List.getElem?_append_right hi] at h1
    rw [List.getElem?_append_right (by rw [h.1]; exact hi), h.1] at h2
    obtain ⟨h3, rfl⟩ : i - l.length = 0 ∧ m = y := by
      cases h4 : i - l.length with
      | zero => rw [h4] at h1; simpa using h1.symm
      | succ k => rw [h4] at h1; simp at h1
    rw [h3] at h2
    obtain rfl : cs = X := by simpa using h2.symm
    exact hy
end Go.Proofs.YtcgbgmbnagmohaaDoor
namespace Go.Proofs.YtcgbgmbnagmohaaDoor
open Go.RowKit
set_option maxRecDepth 20000
attribute [local irreducible] wpList
end Go.Proofs.YtcgbgmbnagmohaaDoor
namespace Go.Proofs.YtcgbgmbnagmohaaDoor
open Go.RowKit
set_option maxRecDepth 20000
attribute [local irreducible] wpList
end Go.Proofs.YtcgbgmbnagmohaaDoor
namespace Go.Proofs.YtcgbgmbnagmohaaDoor
open Go.RowKit
set_option maxRecDepth 20000
attribute [local irreducible] wpList
structure MRp where
  err : Int
  ls : MLs
  bu : MBu
  mail : List MEv
end Go.Proofs.YtcgbgmbnagmohaaDoor
namespace Go.Proofs.YtcgbgmbnagmohaaDoor
open Go.RowKit
set_option maxRecDepth 20000
attribute [local irreducible] wpList
structure MRq where
  kind : Int
  acc : Int
  dev : Int
  pin : List (BitVec 8)
  next : List (BitVec 8)
  name : List (BitVec 8)
  ls : MLs
  token : List (BitVec 8)
  signed : MPk
  sig : List (BitVec 8)
  ones : List MPk
  ver : Int
  items : List (Int × MEv)
structure MAc where
  id : Int
  pin : List (BitVec 8)
  wrong : Int
  till : Int
  ls : MLs
  slots : List MSlot
  tokens : List (List (BitVec 8))
end Go.Proofs.YtcgbgmbnagmohaaDoor
namespace Go.Proofs.YtcgbgmbnagmohaaDoor
open Go.RowKit
set_option maxRecDepth 20000
attribute [local irreducible] wpList
structure MBu.Ok (m : MBu) : Prop where
  ident : m.ident.length = 32
  key : m.key.length = 32
  signed : m.signed.key.length = 32
  sig : m.sig.length = 64
  ones : ∀ p ∈ m.ones, p.key.length = 32
  many : m.ones.length ≤ 60000
end Go.Proofs.YtcgbgmbnagmohaaDoor
namespace Go.Proofs.YtcgbgmbnagmohaaDoor
open Go.RowKit
set_option maxRecDepth 20000
attribute [local irreducible] wpList
theorem slR_get {α : Type} {z : Nat} {Rr : α → List Value → World → Prop} {l : List α} {a : Option Addr} {c : Nat} {w : World} (h : Fro 0 (SlR z Rr l a c) w) {i : Nat} (hi : i < l.length) : ∃ g f cs, a = some ⟨g, f, none⟩ ∧ g < w.heap.size ∧ cs.length = z ∧ w.rangeAt g (f + i * z) cs ∧ Fro 0 (Rr l[i] cs) w := by
  have one : ∀ V, SlR z Rr l a c V → ∃ g f cs, a = some ⟨g, f, none⟩ ∧ g < V.heap.size ∧ cs.length = z ∧ V.rangeAt g (f + i * z) cs ∧ Rr l[i] cs V := fun V hV => by
    obtain ⟨h1, css, h2, h3, h4, h5⟩ := hV
    obtain ⟨g, f, h6, h7, h8⟩ := h5 (fun hn => by rw [hn] at hi; cases hi)
    have hic : i < css.length := by rw [h2]; exact hi
    refine ⟨g, f, css[i], h6, h7, h3 _ (List.getElem_mem hic), ?_, h4 i _ _ (List.getElem?_eq_getElem hi) (List.getElem?_eq_getElem hic)⟩
    have e1 : css = css.take i ++ (css[i] :: css.drop (i + 1)) := by rw [← List.drop_eq_getElem_cons hic, List.take_append_drop]
    have hl : ((css.take i).flatten).length = i * z := by
      rw [flat_len (fun x hx => h3 x (List.mem_of_mem_take hx)), List.length_take, Nat.min_eq_left (by omega)]
    have e2 : css.flatten = (css.take i).flatten ++ (css[i] ++ (css.drop (i + 1)).flatten) := by
      conv => lhs; rw [e1]
      rw [List.flatten_append, List.flatten_cons]
    rw [e2] at h8
    have h9 := qcb (k := (css.take i).flatten.length) h8
    rw [List.drop_left' rfl, hl] at h9
    have h10 := qca (k := css[i].length) h9
    rwa [List.take_left' rfl] at h10
  obtain ⟨g, f, cs, h1, h2, h3, h4, _⟩ := one w h.now
  refine ⟨g, f, cs, h1, h2, h3, h4, fun V hV => ?_⟩
  obtain ⟨g2, f2, cs2, k1, k2, k3, k4, k5⟩ := one V (h V hV)
  rw [h1] at k1
  simp only [Option.some.injEq, Addr.mk.injEq] at k1
  obtain ⟨rfl, rfl, _⟩ := k1
  have e : cs = cs2 := by
    apply List.ext_getElem?
    intro j
    rcases Nat.lt_or_ge j z with hj | hj
    · have q1 := h4 j _ (List.getElem?_eq_getElem (by omega))
      have q2 := k4 j _ (List.getElem?_eq_getElem (by omega))
      rw [World.cell?_of_block (a := ⟨g, f + i * z + j, none⟩) (hV.block g (Nat.zero_le _) h2 (by simp)), q1] at q2
      rw [List.getElem?_eq_getElem (by omega), List.getElem?_eq_getElem (by omega)]
      exact q2
    · rw [List.getElem?_eq_none (by omega), List.getElem?_eq_none (by omega)]
  rw [e]; exact k5
def evsB (ms : List MEv) (i : Nat) : List (BitVec 8) := viB (ms.length : Int) ++ (ms.take i).flatMap evB
end Go.Proofs.YtcgbgmbnagmohaaDoor
