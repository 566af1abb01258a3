import Derived.Test.YtcgbgmbnagmohaaDoorCatL
import Derived.Test.YtcgbgmbnagmohaaDoorGen
import Derived.Test.YtcgbgmbnagmohaaDoorSt
import Derived.Test.YtcgbgmbnagmohaaDoorGenA
namespace Go.Proofs.YtcgbgmbnagmohaaDoor
open Go.RowKit
set_option maxRecDepth 20000
section
variable {P : Program} {w : World}
theorem append_where (base : Nat) (t ty e : TypeId) (i : TypeInfo) (z : Value) (size bytes : Nat) (ht : P.underlying t = some (.slice e)) (hi : P.info? e = some i) (hz : i.zero = some z)
  (hsize : i.size = size) (hby : i.bytes = bytes) (hzs : z.cells.size = size) (hsz : 0 < size)
  (v : Value) (n : Nat) (xs : List Value) (hown : w.ownsRow base e size v n xs)
  (a : Addr) (m c : Nat) (news : List Value) (hl : news.length = m * size) (hnews : ∀ j u, news[j]? = some u → w.cell? (a.add j) = some u) (h1 : ∀ u ∈ news, u.oneCell' = true)
  (h63 : n + m ≤ maxLen) (hbytes : (n + m) * bytes ≤ 140737488355328) (hm : 0 < m) {v' : Value} {w' : World}
  (hr : (Builtin.append_ #[t, t] ty #[v, .slice (some a) m c]).run P w = .ok v' w') : v'.ownBlock = v.ownBlock ∨ v'.ownBlock = some w.heap.size := by
 subst hsize
 subst hby
 have hsmall : n + m ≤ 9223372036854775807 := by simp only [maxLen] at h63; omega
 rcases hown.2 with ⟨rfl, rfl⟩ | ⟨g, cap, cur, rfl, hbg, hg, hnc, hcm, hcs, htake⟩
 ·have hr' := run_append_nil (P := P) w t ty e i z ht hi hz a m c news hl hnews (by omega) (by omega) (by have hb := hbytes; simp only [Nat.zero_add] at hb; omega)
  rw [hr'] at hr
  injection hr with e1 _
  exact .inr (by rw [← e1]; rfl)
 ·by_cases hroom : n + m ≤ cap
  ·have hfit : n * i.size + news.length ≤ cur.size := by rw [hl, hcs, ← Nat.add_mul]; exact Nat.mul_le_mul_right _ hroom
   have hr' := run_append_room (P := P) w t ty e i ht hi g n cap cur hg a m c news hl hnews h1 hroom hfit
   rw [hr'] at hr
   injection hr with e1 _
   exact .inl (by rw [← e1]; rfl)
  ·have holds : ∀ j u, xs[j]? = some u → w.cell? ((⟨g, 0, none⟩ : Addr).add j) = some u := hown.cells (g := g) rfl
   have hr' := run_append_grow (P := P) w t ty e i z ht hi hz ⟨g, 0, none⟩ n cap xs hown.1 holds a m c news hl hnews (by omega) (by omega) (growslice_fits (by omega) hbytes)
   rw [hr'] at hr
   injection hr with e1 _
   exact .inr (by rw [← e1]; rfl)
end
theorem Arr.same {g : Nat} {l : List Value} {w w' : World} (h : Arr g l w) (hs : w.heap.size ≤ w'.heap.size) (he : w'.heap[g]? = w.heap[g]?) : Arr g l w' :=
 ⟨Nat.lt_of_lt_of_le h.lt hs, fun i v hi => by have := h.c i v hi; simp only [World.cell?, he] at this ⊢; exact this, fun i => by have := h.f i; simp only [World.frozen?, he] at this ⊢; exact this⟩
section
variable {w : World} {ops : Array Oper} {Q : Exit → Act → World → Prop} {o : Oper} {a : Act} {S : World → Prop}
end
end Go.Proofs.YtcgbgmbnagmohaaDoor
namespace Go.Proofs.YtcgbgmbnagmohaaDoor
open Go.RowKit
set_option maxRecDepth 20000
structure Ext (B : Nat) (G : List Nat) (u V : World) : Prop where
 size : u.heap.size ≤ V.heap.size
 block : ∀ b, B ≤ b → b < u.heap.size → b ∉ G → V.heap[b]? = u.heap[b]?
theorem Ext.refl (B : Nat) (G : List Nat) (u : World) : Ext B G u u := ⟨Nat.le_refl _, fun _ _ _ _ => rfl⟩
theorem Ext.of_below {u V : World} (h : Below u.heap.size u V) : Ext 0 [] u V := ⟨h.size, fun b _ hb _ => h.block b hb⟩
theorem Ext.mono {B B' : Nat} {G G' : List Nat} {u V : World} (h : Ext B G u V) (hB : B ≤ B') (hG : ∀ b ∈ G, b ∈ G') : Ext B' G' u V := ⟨h.size, fun b h1 h2 h3 => h.block b (Nat.le_trans hB h1) h2 fun hm => h3 (hG b hm)⟩
theorem Ext.head {B : Nat} {G : List Nat} {u u' V : World} (hs : u.heap.size ≤ u'.heap.size) (hb : ∀ b, B ≤ b → b < u.heap.size → b ∉ G → u'.heap[b]? = u.heap[b]?) (h : Ext B G u' V) : Ext B G u V :=
 ⟨Nat.le_trans hs h.size, fun b h1 h2 h3 => (h.block b h1 (Nat.lt_of_lt_of_le h2 hs) h3).trans (hb b h1 h2 h3)⟩
theorem Ext.below {B : Nat} {G : List Nat} {u u' V : World} (hb : Below u.heap.size u u') (h : Ext B G u' V) : Ext B G u V := Ext.head hb.size (fun b _ h2 _ => hb.block b h2) h
def Fro (B : Nat) (H : World → Prop) (u : World) : Prop := ∀ V, Ext B [] u V → H V
theorem Fro.now {B : Nat} {H : World → Prop} {u : World} (h : Fro B H u) : H u := h u (Ext.refl _ _ _)
theorem Fro.below {B : Nat} {H : World → Prop} {u u' : World} (h : Fro B H u) (hb : Below u.heap.size u u') : Fro B H u' := fun V hV => h V (hV.below hb)
theorem Fro.mono {B B' : Nat} {H : World → Prop} {u : World} (h : Fro B H u) (hB : B' ≤ B) : Fro B' H u := fun V hV => h V (hV.mono hB fun _ h => h)
structure Ev (w : World) (L : List (Nat × List Value)) (K : List Nat) (F H : World → Prop) (u : World) : Prop where
 mv : Mv w L u
 kb : ∀ k ∈ K, k < u.heap.size
 fs : ∀ V, Ext 0 (K ++ L.map (·.1)) u V → F V
 hs : ∀ V, Ext w.heap.size (K ++ L.map (·.1)) u V → H V
section
variable {w u u' : World} {L : List (Nat × List Value)} {K : List Nat} {F H F0 H0 : World → Prop}
theorem Ev.start (hF : Fro 0 F w) : Ev w [] [] F (fun _ => True) w := ⟨Mv.nil w, (fun _ h => by cases h), hF, fun _ _ => trivial⟩
theorem Ev.f (e : Ev w L K F H u) : F u := e.fs u (Ext.refl _ _ _)
theorem Ev.h (e : Ev w L K F H u) : H u := e.hs u (Ext.refl _ _ _)
theorem Ev.bl (e : Ev w L K F H u) : Below w.heap.size w u := e.mv.bl
theorem Ev.get (e : Ev w L K F H u) {i g : Nat} {l : List Value} (hi : L[i]? = some (g, l)) : Arr g l u := e.mv.get hi
theorem Ev.gs (e : Ev w L K F H u) {b : Nat} (hb : b ∈ K ++ L.map (·.1)) : b < u.heap.size := by
 rcases List.mem_append.1 hb with h | h
 ·exact e.kb b h
 ·obtain ⟨p, hp, rfl⟩ := List.mem_map.1 h
  exact (e.mv.all p hp).2.lt
theorem Ev.below (e : Ev w L K F H u) (hb : Below u.heap.size u u') : Ev w L K F H u' :=
 ⟨e.mv.below hb, fun k hk => Nat.lt_of_lt_of_le (e.kb k hk) hb.size, fun V hV => e.fs V (hV.below hb), fun V hV => e.hs V (hV.below hb)⟩
theorem Ev.new (e : Ev w L K F H u) (l : List Value) (t : TypeId) : Ev w ((u.heap.size, l) :: L) K F H (u.alloc (.cells l.toArray t)) := by
 have hb : Below u.heap.size u (u.alloc (.cells l.toArray t)) := (Below.refl _ _).alloc (Nat.le_refl _) _
 have key : ∀ B V, Ext B (K ++ ((u.heap.size, l) :: L).map (·.1)) (u.alloc (.cells l.toArray t)) V → Ext B (K ++ L.map (·.1)) u V := fun B V hV =>
  ⟨Nat.le_trans hb.size hV.size, fun b h1 h2 h3 => (hV.block b h1 (Nat.lt_of_lt_of_le h2 hb.size) (fun hm => h3 (by
   rcases List.mem_append.1 hm with h | h
   ·exact List.mem_append.2 (.inl h)
   ·rw [List.map_cons, List.mem_cons] at h
    rcases h with h | h
    ·simp only at h; omega
    ·exact List.mem_append.2 (.inr h)))).trans (hb.block b h2)⟩
 exact ⟨e.mv.new l t, fun k hk => Nat.lt_of_lt_of_le (e.kb k hk) hb.size, fun V hV => e.fs V (key 0 V hV), fun V hV => e.hs V (key _ V hV)⟩
theorem setCell_far {g b : Nat} (hne : b ≠ g) (f : Nat) (v : Value) (u : World) : (u.setCell ⟨g, f, none⟩ v).heap[b]? = u.heap[b]? := by
 unfold World.setCell
 simp only [Array.getElem?_modify]
 rw [if_neg (Ne.symm hne)]
theorem qdn {g b : Nat} (hne : b ≠ g) : ∀ (vs : List Value) (f : Nat) (u : World), (u.setCells g f vs).heap[b]? = u.heap[b]?
 | [], _, _ => rfl
 | v :: vs, f, u => (qdn hne vs (f + 1) (u.setCell ⟨g, f, none⟩ v)).trans (setCell_far hne f v u)
theorem Ev.turned (e : Ev w L K F H u) {i g : Nat} {l m : List Value} (hi : L[i]? = some (g, l)) (hmv : Mv w (L.set i (g, m)) u') (hs : u.heap.size ≤ u'.heap.size) (ho : ∀ b, b ≠ g → u'.heap[b]? = u.heap[b]?) : Ev w (L.set i (g, m)) K F H u' := by
 have hlt : i < L.length := (List.getElem?_eq_some_iff.1 hi).1
 have hmap : (L.set i (g, m)).map (·.1) = L.map (·.1) := by
  rw [List.map_set]
  apply List.ext_getElem?
  intro j
  rw [List.getElem?_set]
  by_cases h : i = j
  ·subst h; simp [hlt]
   have := hi; rw [List.getElem?_eq_getElem hlt] at this; simp [Option.some.inj this]
  ·simp [h]
 have hg : g ∈ K ++ L.map (·.1) := List.mem_append.2 (.inr (List.mem_map.2 ⟨(g, l), List.mem_of_getElem? hi, rfl⟩))
 refine ⟨hmv, fun k hk => Nat.lt_of_lt_of_le (e.kb k hk) hs, fun V hV => e.fs V ?_, fun V hV => e.hs V ?_⟩
 ·rw [hmap] at hV; exact hV.head hs fun b _ _ h3 => ho b fun hb => h3 (hb ▸ hg)
 ·rw [hmap] at hV; exact hV.head hs fun b _ _ h3 => ho b fun hb => h3 (hb ▸ hg)
theorem Ev.put (e : Ev w L K F H u) (i : Nat) {g : Nat} {l : List Value} (hi : L[i]? = some (g, l)) {m : List Value} (hm : m.length = l.length) : Ev w (L.set i (g, m)) K F H (u.setCells g 0 m) :=
 e.turned hi (e.mv.put i hi hm) (qa1 (B := 0) (Nat.zero_le _) m 0 (Below.refl _ u)).size fun _ hb => qdn hb m 0 u
theorem Ev.mid (e : Ev w L K F H u) (i : Nat) {g : Nat} {l : List Value} (hi : L[i]? = some (g, l)) {f : Nat} {m : List Value} (hm : f + m.length ≤ l.length) : Ev w (L.set i (g, l.take f ++ (m ++ l.drop (f + m.length)))) K F H (u.setCells g f m) :=
 e.turned hi (e.mv.mid i hi hm) (qa1 (B := 0) (Nat.zero_le _) m f (Below.refl _ u)).size fun _ hb => qdn hb m f u
theorem Ev.set (e : Ev w L K F H u) (i : Nat) {g : Nat} {l : List Value} (hi : L[i]? = some (g, l)) {j : Nat} (hj : j < l.length) (v : Value) : Ev w (L.set i (g, l.set j v)) K F H (u.setCell ⟨g, j, none⟩ v) :=
 e.turned hi (e.mv.set i hi hj v) ((Below.refl 0 u).setCell (p := ⟨g, j, none⟩) (Nat.zero_le _) v).size fun _ hb => setCell_far hb j v u
theorem Ev.call (e : Ev w L K F H u) (hb : Below u.heap.size u u') (h0 : Fro u.heap.size H0 u') : Ev w L K F (fun V => H0 V ∧ H V) u' :=
 have e' := e.below hb
 ⟨e'.mv, e'.kb, e'.fs, fun V hV => ⟨h0 V ⟨hV.size, fun b h1 h2 _ => hV.block b (Nat.le_trans e.mv.bl.size h1) h2 fun hm => Nat.lt_irrefl _ (Nat.lt_of_lt_of_le (e.gs hm) h1)⟩, e'.hs V hV⟩⟩
theorem Ev.know (e : Ev w L K F H u) (h : ∀ V, F V → F0 V) : Ev w L K F0 H u := ⟨e.mv, e.kb, fun V hV => h V (e.fs V hV), e.hs⟩
theorem Ev.knowH (e : Ev w L K F H u) (h : ∀ V, H V → H0 V) : Ev w L K F H0 u := ⟨e.mv, e.kb, e.fs, fun V hV => h V (e.hs V hV)⟩
theorem Ev.tell (e : Ev w L K F H u) : Fro w.heap.size H u := fun V hV => e.hs V (hV.mono (Nat.le_refl _) fun _ h => by cases h)
end
end Go.Proofs.YtcgbgmbnagmohaaDoor
namespace Go.Proofs.YtcgbgmbnagmohaaDoor
open Go.RowKit
set_option maxRecDepth 20000
section
variable {w : World} {ρ : Operand → Value} {o : Oper} {t e : TypeId} {x y : Operand}
theorem qav {d : TypeDesc} {g i : Nat} {v : Value} (ho : o.op = .load t x) (ht : Tryd.prog.underlying t = some d) (hd : d.isRow = false) (hx : ρ x = .pointer (some ⟨g, i, none⟩)) (hc : w.cell? ⟨g, i, none⟩ = some v) : (execOp ρ o).run Tryd.prog w = .ok (.value v) w := by
 have hagg : (isAgg t).run Tryd.prog w = .ok false w := by
  unfold isAgg
  rw [Sem.run_bind, run_underlying ht w]
  cases d <;> simp_all
 unfold execOp
 simp only [ho, hx]
 simp [Instr.loadAt, Instr.sureAddr, loadVar, Sem.run_bind, hagg, go_sem, hc]
theorem run_stc {g i : Nat} {v v0 : Value} (ho : o.op = .store t x y) (hi : (Tryd.prog.info? t).map (·.size) = some 1) (hx : ρ x = .pointer (some ⟨g, i, none⟩)) (hy : ρ y = v) (hv : v.cells = #[v]) (h1 : v.oneCell' = true) (hc : w.cell? ⟨g, i, none⟩ = some v0) (hf : w.frozen? ⟨g, i, none⟩ = false) : (execOp ρ o).run Tryd.prog w = .ok .skip (w.setCell ⟨g, i, none⟩ v) := by
 have e1 : storeVar t ⟨g, i, none⟩ v = storeVar t ⟨g, i, none⟩ (.agg #[v]) := by unfold storeVar; rw [hv]; rfl
 have ht : w.there g i (#[v] : Array Value).size := fun j hj => by
  obtain rfl : j = 0 := by simpa using hj
  exact ⟨by rw [Nat.add_zero, hc]; rfl, by rw [Nat.add_zero]; exact hf⟩
 have h2 := run_storeVar_mid (P := Tryd.prog) w g i t #[v] ht hi (by simpa using h1)
 unfold execOp
 simp only [ho, hx, hy, Instr.storeAt, Instr.sureAddr, Sem.run_bind, Sem.run_pure, Result.andThen_ok, e1, h2]
 rfl
end
theorem qcb {w : World} {ρ : Operand → Value} {o : Oper} {t : TypeId} {parts : Array (Nat × Operand)} {ps : List (Nat × Value)} {cells : Array Value} (ho : o.op = .build t parts) (hp : parts.toList.map (fun (i, x) => (i, ρ x)) = ps) (h : Tryd.prog.built t ps = some cells) : (execOp ρ o).run Tryd.prog w = .ok (.value (.agg cells)) w := run_bld ho (by rw [Array.toList_map, hp]; exact h)
theorem run_bsl1 {w : World} {ρ : Operand → Value} {o : Oper} {t e : TypeId} {x : Operand} {z : Nat} {m : List Value} {zv : Value} (ho : o.op = .buildSlice t 1 #[(0, x)]) (ht : Tryd.prog.underlying t = some (.slice e)) (hi : (Tryd.prog.info? e).map (fun i => (i.size, i.zero)) = some (z, some zv)) (hx : ρ x = .agg m.toArray) (hl : m.length = z) (hz : 0 < z) (hz2 : z ≤ 100000) : (execOp ρ o).run Tryd.prog w = .ok (.value (.slice (some ⟨w.heap.size, 0, none⟩) 1 1)) (w.alloc (.cells m.toArray e)) := by
 obtain ⟨inf, h1, h2⟩ := Option.map_eq_some_iff.1 hi
 obtain ⟨e1, e2⟩ : inf.size = z ∧ inf.zero = some zv := by simpa using h2
 have hp : ((#[(0, x)] : Array (Nat × Operand)).map fun (i, x) => (i, ρ x)).toList = [(0, .agg m.toArray)] := by simp [hx]
 have hf : Instr.fill (fun i => some (i * z, z)) ((Array.range (1 * z)).map (zv.cells[· % zv.cells.size]!)) [(0, .agg m.toArray)] = some m.toArray := by
  have h := fill_one (place := fun i => some (i * z, z)) (z := (Array.range (1 * z)).map (zv.cells[· % zv.cells.size]!)) (vs := m) (by simp [hl]) (by simp [hl])
  rw [h, List.drop_of_length_le (by simp [hl]), List.append_nil]
 have h := run_buildSlice (P := Tryd.prog) w t e 1 ((#[(0, x)] : Array (Nat × Operand)).map fun (i, x) => (i, ρ x)) m.toArray inf zv ht h1 e2 (by rw [e1]; omega) (by rw [e1]; omega) (by rw [e1, hp]; exact hf)
 unfold execOp
 simp only [ho, Sem.run_bind, h]
 simp [go_sem]
structure SlR {α : Type} (z : Nat) (R : α → List Value → World → Prop) (l : List α) (a : Option Addr) (c : Nat) (u : World) : Prop where
 cap : l.length ≤ c
 ex : ∃ css : List (List Value), css.length = l.length ∧ (∀ x ∈ css, x.length = z) ∧ (∀ (i : Nat) (m : α) (cs : List Value), l[i]? = some m → css[i]? = some cs → R m cs u) ∧ (l ≠ [] → ∃ g f, a = some ⟨g, f, none⟩ ∧ g < u.heap.size ∧ u.rangeAt g f css.flatten)
structure Gw (w : World) (L : List (Nat × List Value)) (e : TypeId) (z : Nat) (v : Value) (n : Nat) (cs : List Value) (F H : World → Prop) (u : World) : Prop where
 ev : Ev w L v.ownBlock.toList F H u
 row : u.ownsRow w.heap.size e z v n cs
 ap : ∀ p ∈ L, v.ownBlock ≠ some p.1
section
variable {w u u' : World} {L : List (Nat × List Value)} {e : TypeId} {z n : Nat} {v : Value} {cs : List Value} {F H F0 H0 : World → Prop}
theorem qbs {B : Nat} (h : u.ownsRow B e z v n cs) (hk : ∀ k, v.ownBlock = some k → u'.heap[k]? = u.heap[k]?) : u'.ownsRow B e z v n cs := by
 refine ⟨h.1, ?_⟩
 rcases h.2 with h2 | ⟨g, cap, cur, rfl, h3, h4, h5⟩
 ·exact .inl h2
 ·exact .inr ⟨g, cap, cur, rfl, h3, (hk g rfl).trans h4, h5⟩
theorem qa4 {B : Nat} (h : u.ownsRow B e z v n cs) {k : Nat} (hk : v.ownBlock = some k) : B ≤ k ∧ k < u.heap.size := by
 rcases h.2 with ⟨rfl, _⟩ | ⟨g, cap, cur, rfl, h3, h4, _⟩
 ·cases hk
 ·simp only [Value.ownBlock, Option.some.injEq] at hk
  subst hk
  exact ⟨h3, (Array.getElem?_eq_some_iff.1 h4).1⟩
theorem Gw.start (h : Ev w L [] F H u) (e : TypeId) (z : Nat) : Gw w L e z (.slice none 0 0) 0 [] F H u :=
 ⟨h, ⟨by simp, .inl ⟨rfl, rfl⟩⟩, fun _ _ h => by cases h⟩
theorem Gw.below (h : Gw w L e z v n cs F H u) (hb : Below u.heap.size u u') : Gw w L e z v n cs F H u' :=
 ⟨h.ev.below hb, qbs h.row fun k hk => hb.block k (qa4 h.row hk).2, h.ap⟩
theorem Gw.new (h : Gw w L e z v n cs F H u) (l : List Value) (t : TypeId) : Gw w ((u.heap.size, l) :: L) e z v n cs F H (u.alloc (.cells l.toArray t)) := by
 have hb : Below u.heap.size u (u.alloc (.cells l.toArray t)) := (Below.refl _ _).alloc (Nat.le_refl _) _
 refine ⟨h.ev.new l t, qbs h.row fun k hk => hb.block k (qa4 h.row hk).2, fun p hp he => ?_⟩
 rcases List.mem_cons.1 hp with rfl | hp
 ·have := (qa4 h.row he).2
  simp only at this; omega
 ·exact h.ap p hp he
theorem Gw.turned (h : Gw w L e z v n cs F H u) {i g : Nat} {l m : List Value} (hi : L[i]? = some (g, l)) (h2 : Ev w (L.set i (g, m)) v.ownBlock.toList F H u') (ho : ∀ b, b ≠ g → u'.heap[b]? = u.heap[b]?) : Gw w (L.set i (g, m)) e z v n cs F H u' := by
 have hg := h.ap (g, l) (List.mem_of_getElem? hi)
 refine ⟨h2, qbs h.row fun k hk => ho k fun e => hg (e ▸ hk), fun p hp => ?_⟩
 rcases List.mem_or_eq_of_mem_set hp with hp | rfl
 ·exact h.ap p hp
 ·exact hg
theorem Gw.put (h : Gw w L e z v n cs F H u) (i : Nat) {g : Nat} {l : List Value} (hi : L[i]? = some (g, l)) {m : List Value} (hm : m.length = l.length) : Gw w (L.set i (g, m)) e z v n cs F H (u.setCells g 0 m) :=
 h.turned hi (h.ev.put i hi hm) fun _ hb => qdn hb m 0 u
theorem Gw.set (h : Gw w L e z v n cs F H u) (i : Nat) {g : Nat} {l : List Value} (hi : L[i]? = some (g, l)) {j : Nat} (hj : j < l.length) (x : Value) : Gw w (L.set i (g, l.set j x)) e z v n cs F H (u.setCell ⟨g, j, none⟩ x) :=
 h.turned hi (h.ev.set i hi hj x) fun _ hb => setCell_far hb j x u
theorem Gw.call (h : Gw w L e z v n cs F H u) (hb : Below u.heap.size u u') (h0 : Fro u.heap.size H0 u') : Gw w L e z v n cs F (fun V => H0 V ∧ H V) u' :=
 ⟨h.ev.call hb h0, qbs h.row fun k hk => hb.block k (qa4 h.row hk).2, h.ap⟩
theorem Gw.know (h : Gw w L e z v n cs F H u) (hk : ∀ V, H V → H0 V) : Gw w L e z v n cs F H0 u := ⟨h.ev.knowH hk, h.row, h.ap⟩
theorem Gw.bl (h : Gw w L e z v n cs F H u) : Below w.heap.size w u := h.ev.bl
theorem Gw.get (h : Gw w L e z v n cs F H u) {i g : Nat} {l : List Value} (hi : L[i]? = some (g, l)) : Arr g l u := h.ev.get hi
theorem Gw.done (h : Gw w L e z v n cs F H u) : Ev w L [] F (fun V => V.ownsRow w.heap.size e z v n cs ∧ H V) u :=
 ⟨h.ev.mv, (fun _ hk => by cases hk), fun V hV => h.ev.fs V (hV.mono (Nat.le_refl _) fun b hb => List.mem_append.2 (.inr (by simpa using hb))),
  fun V hV => ⟨qbs h.row fun k hk => hV.block k (qa4 h.row hk).1 (qa4 h.row hk).2 (fun hm => by
   obtain ⟨p, hp, he⟩ := List.mem_map.1 (by simpa using hm : k ∈ L.map (·.1))
   exact h.ap p hp (he ▸ hk)), h.ev.hs V (hV.mono (Nat.le_refl _) fun b hb => List.mem_append.2 (.inr (by simpa using hb)))⟩⟩
end
end Go.Proofs.YtcgbgmbnagmohaaDoor
