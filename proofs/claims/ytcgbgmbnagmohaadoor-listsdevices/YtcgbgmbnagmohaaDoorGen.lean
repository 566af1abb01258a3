import Derived.Test.YtcgbgmbnagmohaaDoorCalm
import Derived.Laws.Tables
import Derived.Laws.Cover3
namespace Go.Proofs.YtcgbgmbnagmohaaDoor
open Go.RowKit
set_option maxRecDepth 20000
theorem qcd {w : World} {b f k : Nat} {vs : List Value} (h : w.rangeAt b f vs) : w.rangeAt b (f + k) (vs.drop k) := fun j v hv => by
 rw [List.getElem?_drop] at hv
 have := h (k + j) v hv
 rwa [← Nat.add_assoc] at this
theorem qcc {w : World} {b f k : Nat} {vs : List Value} (h : w.rangeAt b f vs) : w.rangeAt b f (vs.take k) := fun j v hv => by
 by_cases hj : j < k
 ·rw [List.getElem?_take_of_lt hj] at hv; exact h j v hv
 ·rw [List.getElem?_eq_none (by simp; omega)] at hv; cases hv
section
variable {w : World} {ρ : Operand → Value} {o : Oper} {t t' : TypeId} {x y z : Operand}
theorem run_nck {a : Addr} (ho : o.op = .nilCheck x) (hx : ρ x = .pointer (some a)) : (execOp ρ o).run Tryd.prog w = .ok (.value (.pointer (some a))) w := by
 obtain ⟨dst, op, type, pos, after, guard⟩ := o
 subst ho
 go_simp
theorem qan {fs : Array Field} {f : Field} {i g off s k : Nat} (ho : o.op = .fieldAddr t x i) (ht : Tryd.prog.underlying t = some (.struct fs)) (hf : fs[i]? = some f) (hs : (Tryd.prog.info? f.type).map (·.size) = some (s + 1)) (hk : f.offset = k) (hx : ρ x = .pointer (some ⟨g, off, none⟩)) : (execOp ρ o).run Tryd.prog w = .ok (.value (.pointer (some ⟨g, off + k, none⟩))) w := by
 obtain ⟨inf, h1, h2⟩ := Option.map_eq_some_iff.1 hs
 unfold execOp
 simp only [ho, hx]
 simp [Instr.fieldAt, run_underlying ht, hf, Instr.sureAddr, fieldPlace, sizeOf, typeInfo, go_sem, h1, h2, Addr.add_mid, hk]
theorem run_ixN {e : TypeId} {n g i off s : Nat} {k : IntKind} (ho : o.op = .indexAddr t x y) (ht : Tryd.prog.underlying t = some (.array n e)) (hs : (Tryd.prog.info? e).map (·.size) = some s) (hx : ρ x = .pointer (some ⟨g, off, none⟩)) (hy : ρ y = .int k (i : Int)) (hi : i < n) : (execOp ρ o).run Tryd.prog w = .ok (.value (.pointer (some ⟨g, off + i * s, none⟩))) w := by
 have el : Tryd.prog.elem t = e := by unfold Program.elem; rw [ht]
 have al : Tryd.prog.arrayLen t = n := by unfold Program.arrayLen; rw [ht]
 have h := run_indexAt_array (P := Tryd.prog) (w := w) t ⟨g, off, none⟩ k (i : Int) (by rw [al, el]; exact ht)
 rw [al, el, if_pos ⟨by omega, by omega⟩] at h
 obtain ⟨inf, h1, h2⟩ := Option.map_eq_some_iff.1 hs
 have hz : (sizeOf e).run Tryd.prog w = .ok s w := by simp [sizeOf, typeInfo, go_sem, h1, h2]
 rw [hz] at h
 unfold execOp
 simp only [ho, hx, hy, Sem.run_bind, h]
 simp [go_sem, Addr.add_mid]
theorem qaj {d : TypeDesc} {g f : Nat} {vs : List Value} (ho : o.op = .load t x) (ht : Tryd.prog.underlying t = some d) (hd : d.isRow = true) (hi : (Tryd.prog.info? t).map (·.size) = some vs.length) (hx : ρ x = .pointer (some ⟨g, f, none⟩)) (hr : w.rangeAt g f vs) : (execOp ρ o).run Tryd.prog w = .ok (.value (.agg vs.toArray)) w := by
 unfold execOp
 simp only [ho, hx, Sem.run_bind, run_loadAt_mid w g f t vs d hr ht hd hi, Result.andThen_ok, Sem.run_pure]
theorem run_bld {parts : Array (Nat × Operand)} {cells : Array Value} (ho : o.op = .build t parts) (h : Tryd.prog.built t (parts.map fun (i, x) => (i, ρ x)).toList = some cells) : (execOp ρ o).run Tryd.prog w = .ok (.value (.agg cells)) w := by
 unfold execOp
 simp only [ho, Sem.run_bind, run_build (P := Tryd.prog) w t _ cells h]
 simp [go_sem]
theorem qar {g f : Nat} {vs : List Value} (ho : o.op = .store t x y) (hi : (Tryd.prog.info? t).map (·.size) = some vs.length) (hx : ρ x = .pointer (some ⟨g, f, none⟩)) (hy : ρ y = .agg vs.toArray) (h1 : vs.toArray.all (·.oneCell') = true) (hr : w.there g f vs.length) : (execOp ρ o).run Tryd.prog w = .ok .skip (w.setCells g f vs) := by
 unfold execOp
 simp only [ho, hx, hy, Sem.run_bind, run_storeAt_mid w g f t vs.toArray (by simpa using hr) (by simpa using hi) h1, Result.andThen_ok, Sem.run_pure]
theorem qau {vs : List Value} (ho : o.op = .box t x) (hx : ρ x = .agg vs.toArray) : (execOp ρ o).run Tryd.prog w = .ok (.value (.pointer (some ⟨w.heap.size, 0, none⟩))) (w.alloc (.cells vs.toArray t)) := run_box ho hx
theorem run_cv8i {a : BitVec 8} (ho : o.op = .convert 5 3 x) (hx : ρ x = b8 a) : (execOp ρ o).run Tryd.prog w = .ok (.value (.int .i64 (a.toNat : Int))) w := by
 rw [run_cv ho Tryd.underlying5 Tryd.underlying3 hx, i64_fit (by omega) (by have := a.isLt; omega)]
theorem qdf {b : Bool} (ho : o.op = .unOp .not t x) (hx : ρ x = .bool b) : (execOp ρ o).run Tryd.prog w = .ok (.value (.bool (!b))) w := by
 obtain ⟨dst, op, type, pos, after, guard⟩ := o
 subst ho
 go_simp
theorem qb4 {k : IntKind} {a b : Int} {c : Bool} (ho : o.op = .binOp .eql t x y t') (hx : ρ x = .int k a) (hy : ρ y = .int k b) (h : (a == b) = c) : (execOp ρ o).run Tryd.prog w = .ok (.value (.bool c)) w := by
 rw [run_eql ho hx hy, h]
theorem run_neqb {k : IntKind} {a b : Int} {c : Bool} (ho : o.op = .binOp .neq t x y t') (hx : ρ x = .int k a) (hy : ρ y = .int k b) (h : (!(a == b)) = c) : (execOp ρ o).run Tryd.prog w = .ok (.value (.bool c)) w := by
 obtain ⟨dst, op, type, pos, after, guard⟩ := o
 subst ho
 go_simp
 try exact h
theorem qbr {k : IntKind} {a b : Int} {c : Bool} (ho : o.op = .binOp .lss t x y t') (hx : ρ x = .int k a) (hy : ρ y = .int k b) (h : decide (a < b) = c) : (execOp ρ o).run Tryd.prog w = .ok (.value (.bool c)) w := by
 rw [run_lss ho hx hy, h]
theorem qcu {w : World} {ρ : Operand → Value} {o : Oper} {t t' : TypeId} {x y : Operand} {k : IntKind} {a b : Int} {c : Bool} (ho : o.op = .binOp .gtr t x y t') (hx : ρ x = .int k a) (hy : ρ y = .int k b) (h : decide (b < a) = c) : (execOp ρ o).run Tryd.prog w = .ok (.value (.bool c)) w := by
 rw [run_gtr ho hx hy, h]
end
section
variable {w : World} {ρ : Operand → Value} {o : Oper} {t t' : TypeId} {x y : Operand} {a b : Nat}
theorem qb1 (ho : o.op = .binOp .add t x y t') (hx : ρ x = .int .i64 (a : Int)) (hy : ρ y = .int .i64 (b : Int)) (h : a + b < 4611686018427387904) : (execOp ρ o).run Tryd.prog w = .ok (.value (.int .i64 ((a + b : Nat) : Int))) w := by
 rw [run_add ho hx hy (by omega) (by omega), Int.natCast_add]
theorem run_subN (ho : o.op = .binOp .sub t x y t') (hx : ρ x = .int .i64 (a : Int)) (hy : ρ y = .int .i64 (b : Int)) (h : b ≤ a) (h1 : a < 4611686018427387904) : (execOp ρ o).run Tryd.prog w = .ok (.value (.int .i64 ((a - b : Nat) : Int))) w := by
 rw [run_sub ho hx hy (by omega) (by omega), Int.natCast_sub h]
theorem run_mulN (ho : o.op = .binOp .mul t x y t') (hx : ρ x = .int .i64 (a : Int)) (hy : ρ y = .int .i64 (b : Int)) (h : a * b < 4611686018427387904) : (execOp ρ o).run Tryd.prog w = .ok (.value (.int .i64 ((a * b : Nat) : Int))) w := by
 have e := Int.natCast_mul a b
 rw [run_mul ho hx hy (by rw [← e]; omega) (by rw [← e]; omega), e]
theorem run_quoN (ho : o.op = .binOp .quo t x y t') (hx : ρ x = .int .i64 (a : Int)) (hy : ρ y = .int .i64 (b : Int)) (h : a < 4611686018427387904) (h2 : 0 < b) : (execOp ρ o).run Tryd.prog w = .ok (.value (.int .i64 ((a / b : Nat) : Int))) w := by
 rw [run_quo ho hx hy (by omega) (by omega) (by omega), Int.natCast_ediv]
theorem run_remN (ho : o.op = .binOp .rem t x y t') (hx : ρ x = .int .i64 (a : Int)) (hy : ρ y = .int .i64 (b : Int)) (h2 : 0 < b) : (execOp ρ o).run Tryd.prog w = .ok (.value (.int .i64 ((a % b : Nat) : Int))) w := by
 rw [run_rem ho hx hy (by omega) (by omega), Int.natCast_emod]
end
theorem Arr.part {g : Nat} {l : List Value} {u : World} (h : Arr g l u) (f n : Nat) : u.rangeAt g f ((l.drop f).take n) := qcc (by have := qcd (k := f) h.range; rwa [Nat.zero_add] at this)
theorem forIn_find {P : Program} {w : World} {β : Type} {b c : β} {f : Nat → β → Sem (ForInStep β)} {p : Nat → Bool} : ∀ (n s : Nat), (∀ i, s ≤ i → i < s + n → (f i b).run P w = .ok (if p i then .yield b else .done c) w) →
  (forIn (List.range' s n) b f : Sem β).run P w = .ok (if (List.range' s n).all p then b else c) w
 | 0, s, _ => by simp [Sem.run_pure]
 | n + 1, s, h => by
  rw [List.range'_succ, List.forIn_cons, Sem.run_bind, h s (Nat.le_refl _) (by omega), Result.andThen_ok]
  have ih := forIn_find (p := p) n (s + 1) fun i h1 h2 => h i (by omega) (by omega)
  rw [List.all_cons]
  cases p s with
  | true => exact ih
  | false => simp [Sem.run_pure]
theorem fold_fill (l : List Value) : ∀ (k : Nat) (z : Array Value), k + l.length ≤ z.size → (l.zipIdx k).foldl (fun cs (c, j) => cs.setIfInBounds (0 + j) c) z = (z.toList.take k ++ (l ++ z.toList.drop (k + l.length))).toArray := by
 induction l with
 | nil => intro k z _; simp
 | cons v l ih =>
  intro k z h
  simp only [List.length_cons] at h
  rw [List.zipIdx_cons, List.foldl_cons, ih (k + 1) _ (by simp; omega)]
  apply congrArg List.toArray
  simp only [Nat.zero_add, Array.toList_setIfInBounds]
  have hk : k < z.toList.length := by simp; omega
  rw [List.take_set, List.drop_set_of_lt (by omega), List.take_succ_eq_append_getElem hk, List.set_append_right _ _ (by rw [List.length_take]; omega)]
  simp [show min k z.size = k by omega, show k + 1 + l.length = k + (l.length + 1) by omega]
theorem nodup_at {l : List Nat} (h : l.Nodup) : ∀ {i j a : Nat}, l[i]? = some a → l[j]? = some a → i = j := by
 intro i j a hi hj
 obtain ⟨h1, e1⟩ := List.getElem?_eq_some_iff.1 hi
 obtain ⟨h2, e2⟩ := List.getElem?_eq_some_iff.1 hj
 exact (List.getElem_inj h).1 (e1.trans e2.symm)
theorem qa8 {fn : Func} {p : Tmp} {t : TypeId} {d : TypeDesc} (h : fn.results = #[.cell p t]) {tmps : Array Value} {w : World} {g : Nat} {l : List Value} (ht : tmps.getD p undef = .pointer (some ⟨g, 0, none⟩)) (hu : Tryd.prog.underlying t = some d) (hd : d.isRow = true) (hl : (Tryd.prog.info? t).map (·.size) = some l.length) (hr : w.rangeAt g 0 l) :
  (results fn tmps).run Tryd.prog w = .ok (.agg l.toArray) w := by
 rw [results_cell h, ht]
 have e := run_loadVar_mid (P := Tryd.prog) w g 0 t l d hr hu hd hl
 simp only [asAddr, Sem.run_pure, Result.andThen_ok, e]
theorem fill_one {place : Nat → Option (Nat × Nat)} {z : Array Value} {vs : List Value} (hp : place 0 = some (0, vs.length)) (hz : vs.length ≤ z.size) : Instr.fill place z [(0, .agg vs.toArray)] = some (vs ++ z.toList.drop vs.length).toArray := by
 have hf := fold_fill vs 0 z (by omega)
 rw [List.take_zero, List.nil_append, Nat.zero_add] at hf
 unfold Instr.fill
 rw [hp]
 have hs : (vs.toArray.zipIdx.foldl (fun cs (c, j) => cs.setIfInBounds (0 + j) c) z) = (vs ++ z.toList.drop vs.length).toArray := by
  rw [← Array.foldl_toList, Array.toList_zipIdx]; exact hf
 simp only [Value.cells, List.size_toArray]
 rw [if_neg (by simp; omega), hs, Instr.fill]
theorem built_struct {P : Program} {t : TypeId} {fs : Array Field} {it : TypeInfo} {z : Value} {places : List (Nat × Nat)} (hit : P.info? t = some it) (hu : P.underlying t = some (.struct fs)) (hz : it.zero = some z) (hp : fs.toList.mapM (fun f => (P.info? f.type).map fun i => (f.offset, i.size)) = some places) (parts : List (Nat × Value)) :
  P.built t parts = Instr.fill (places.toArray[·]?) z.cells parts := by
 unfold Program.built
 rw [hit, hu]
 simp only [hz, hp]
theorem run_bld1 {w : World} {ρ : Operand → Value} {o : Oper} {t : TypeId} {x : Operand} {i : Nat} {v : Value} {cells : Array Value} (ho : o.op = .build t #[(i, x)]) (hx : ρ x = v) (h : Tryd.prog.built t [(i, v)] = some cells) : (execOp ρ o).run Tryd.prog w = .ok (.value (.agg cells)) w :=
 run_bld ho (by
  have e : ((#[(i, x)] : Array (Nat × Operand)).map fun (i, x) => (i, ρ x)).toList = [(i, v)] := by simp [hx]
  rw [e]; exact h)
theorem Arr.thereM {g : Nat} {l : List Value} {u : World} (h : Arr g l u) {f n : Nat} (hn : f + n ≤ l.length) : u.there g f n := fun j hj => by
 rw [h.c (f + j) _ (List.getElem?_eq_getElem (by omega))]
 exact ⟨rfl, h.f _⟩
theorem cell_setCells_ahead (g i : Nat) : ∀ (vs : List Value) (o : Nat) (u : World), i < o → (u.setCells g o vs).cell? ⟨g, i, none⟩ = u.cell? ⟨g, i, none⟩
 | [], _, _, _ => rfl
 | v :: vs, o, u, h => (cell_setCells_ahead g i vs (o + 1) (u.setCell ⟨g, o, none⟩ v) (by omega)).trans (World.cell?_setCell_other _ _ _ _ (by intro he; injection he; omega))
theorem qcr (g i : Nat) : ∀ (vs : List Value) (o : Nat) (u : World), o + vs.length ≤ i → (u.setCells g o vs).cell? ⟨g, i, none⟩ = u.cell? ⟨g, i, none⟩
 | [], _, _, _ => rfl
 | v :: vs, o, u, h => (qcr g i vs (o + 1) (u.setCell ⟨g, o, none⟩ v) (by simp at h; omega)).trans (World.cell?_setCell_other _ _ _ _ (by intro he; injection he; simp at h; omega))
theorem Arr.mid {b f : Nat} {l vs : List Value} {u : World} (h : Arr b l u) (hl : f + vs.length ≤ l.length) : Arr b (l.take f ++ (vs ++ l.drop (f + vs.length))) (u.setCells b f vs) := by
 refine ⟨by rw [qdr]; exact h.lt, fun i v hi => ?_, fun i => by rw [qct]; exact h.f i⟩
 by_cases h0 : i < f
 ·rw [List.getElem?_append_left (by rw [List.length_take]; omega), List.getElem?_take_of_lt h0] at hi
  rw [cell_setCells_ahead _ _ _ _ _ h0]
  exact h.c i v hi
 ·have ht : (l.take f).length = f := by rw [List.length_take]; omega
  rw [List.getElem?_append_right (by omega), ht] at hi
  by_cases hlt : i < f + vs.length
  ·rw [List.getElem?_append_left (by omega)] at hi
   have := World.rangeAt_setCells_same u b f vs (fun j hj => by rw [h.c (f + j) _ (List.getElem?_eq_getElem (by omega))]; exact ⟨rfl, h.f _⟩) (i - f) v hi
   rwa [show f + (i - f) = i by omega] at this
  ·rw [List.getElem?_append_right (by omega), List.getElem?_drop] at hi
   rw [qcr _ _ _ _ _ (by omega)]
   exact h.c i v (by rwa [show f + vs.length + (i - f - vs.length) = i by omega] at hi)
structure Mv (w : World) (L : List (Nat × List Value)) (u : World) : Prop where
 bl : Below w.heap.size w u
 nd : (L.map (·.1)).Nodup
 all : ∀ p ∈ L, w.heap.size ≤ p.1 ∧ Arr p.1 p.2 u
theorem Mv.nil (w : World) : Mv w [] w := ⟨Below.refl _ _, List.nodup_nil, fun _ h => by cases h⟩
section
variable {w u u' : World} {L : List (Nat × List Value)}
theorem Mv.below (h : Mv w L u) (hb : Below u.heap.size u u') : Mv w L u' :=
 ⟨h.bl.trans (hb.mono h.bl.size), h.nd, fun p hp => ⟨(h.all p hp).1, (h.all p hp).2.below hb⟩⟩
theorem Mv.cons (h : Mv w L u) {g : Nat} {l : List Value} (hg : w.heap.size ≤ g) (hn : ∀ p ∈ L, p.1 ≠ g) (hA : Arr g l u) : Mv w ((g, l) :: L) u := by
 refine ⟨h.bl, ?_, fun p hp => ?_⟩
 ·rw [List.map_cons, List.nodup_cons]
  refine ⟨fun hm => ?_, h.nd⟩
  rw [List.mem_map] at hm
  obtain ⟨p, hp, he⟩ := hm
  exact hn p hp he
 ·rcases List.mem_cons.1 hp with rfl | hp
  ·exact ⟨hg, hA⟩
  ·exact h.all p hp
theorem Mv.new (h : Mv w L u) (l : List Value) (t : TypeId) : Mv w ((u.heap.size, l) :: L) (u.alloc (.cells l.toArray t)) := by
 have hb : Below u.heap.size u (u.alloc (.cells l.toArray t)) := (Below.refl _ _).alloc (Nat.le_refl _) _
 refine (h.below hb).cons h.bl.size (fun p hp he => ?_) (Arr.new _ _ _)
 have := (h.all p hp).2.lt
 omega
theorem Mv.get (h : Mv w L u) {i g : Nat} {l : List Value} (hi : L[i]? = some (g, l)) : Arr g l u := (h.all (g, l) (List.mem_of_getElem? hi)).2
theorem Mv.ge (h : Mv w L u) {i g : Nat} {l : List Value} (hi : L[i]? = some (g, l)) : w.heap.size ≤ g := (h.all (g, l) (List.mem_of_getElem? hi)).1
theorem Mv.turn (h : Mv w L u) {i g : Nat} {l m : List Value} (hi : L[i]? = some (g, l)) (hb : Below w.heap.size w u') (hA : Arr g m u') (ho : ∀ g' k, g ≠ g' → Arr g' k u → Arr g' k u') : Mv w (L.set i (g, m)) u' := by
 have hlt : i < L.length := (List.getElem?_eq_some_iff.1 hi).1
 have hmap : (L.set i (g, m)).map (·.1) = L.map (·.1) := by
  rw [List.map_set]
  apply List.ext_getElem?
  intro j
  rw [List.getElem?_set]
  by_cases e : i = j
  ·subst e; simp [hlt]
   have := hi; rw [List.getElem?_eq_getElem hlt] at this; simp [Option.some.inj this]
  ·simp [e]
 refine ⟨hb, by rw [hmap]; exact h.nd, fun p hp => ?_⟩
 obtain ⟨j, hj, rfl⟩ := List.getElem_of_mem hp
 rw [List.length_set] at hj
 by_cases e : i = j
 ·subst e; rw [List.getElem_set_self]; exact ⟨h.ge hi, hA⟩
 ·rw [List.getElem_set_ne e]
  have hp' := h.all _ (List.getElem_mem hj)
  refine ⟨hp'.1, ho _ _ (fun hg => e ?_) hp'.2⟩
  have h1 : (L.map (·.1))[i]? = some g := by rw [List.getElem?_map, hi]; rfl
  have h2 : (L.map (·.1))[j]? = some g := by rw [List.getElem?_map, List.getElem?_eq_getElem hj, hg]; rfl
  exact nodup_at h.nd h1 h2
theorem Mv.set (h : Mv w L u) (i : Nat) {g : Nat} {l : List Value} (hi : L[i]? = some (g, l)) {j : Nat} (hj : j < l.length) (v : Value) : Mv w (L.set i (g, l.set j v)) (u.setCell ⟨g, j, none⟩ v) :=
 h.turn hi (h.bl.setCell (p := ⟨g, j, none⟩) (h.ge hi) _) ((h.get hi).set hj v) fun _ _ hne hA => hA.far hne _ _
theorem Mv.put (h : Mv w L u) (i : Nat) {g : Nat} {l : List Value} (hi : L[i]? = some (g, l)) {m : List Value} (hm : m.length = l.length) : Mv w (L.set i (g, m)) (u.setCells g 0 m) :=
 h.turn hi (qa1 (h.ge hi) _ _ h.bl) ((h.get hi).put hm) fun _ _ hne hA => hA.farAll hne _ _
theorem Mv.mid (h : Mv w L u) (i : Nat) {g : Nat} {l : List Value} (hi : L[i]? = some (g, l)) {f : Nat} {m : List Value} (hm : f + m.length ≤ l.length) : Mv w (L.set i (g, l.take f ++ (m ++ l.drop (f + m.length)))) (u.setCells g f m) :=
 h.turn hi (qa1 (h.ge hi) _ _ h.bl) ((h.get hi).mid hm) fun _ _ hne hA => hA.farAll hne _ _
theorem Mv.drop {p : Nat × List Value} (h : Mv w (p :: L) u) : Mv w L u := ⟨h.bl, (List.nodup_cons.1 h.nd).2, fun q hq => h.all q (List.mem_cons_of_mem _ hq)⟩
theorem Sown.arr {u0 : World} {vs : List Value} {t : TypeId} {g : Nat} (s : Sown u0 (.cells vs.toArray t) g u) : Arr g vs u := by
 obtain ⟨h0, h1, h2⟩ := s
 refine ⟨h1, fun i v hi => ?_, fun i => ?_⟩
 ·simp [go_sem, World.cell?, h2]
  simpa using hi
 ·simp [go_sem, World.frozen?, h2]
theorem Mv.sow (h : Mv w L u) (hb : Below u.heap.size u u') {vs : List Value} {t : TypeId} {g : Nat} (s : Sown u (.cells vs.toArray t) g u') : Mv w ((g, vs) :: L) u' := by
 refine (h.below hb).cons (Nat.le_trans h.bl.size s.1) (fun p hp he => ?_) s.arr
 have h1 := (h.all p hp).2.lt
 have h2 := s.1
 omega
theorem Mv.add (h : Mv w L u) (hb : Below u.heap.size u u') {g : Nat} (hg : u.heap.size ≤ g) {l : List Value} (hA : Arr g l u') : Mv w ((g, l) :: L) u' :=
 (h.below hb).cons (Nat.le_trans h.bl.size hg) (fun p hp he => by have := (h.all p hp).2.lt; omega) hA
theorem Mv.sow2 (h : Mv w L u) (hb : Below u.heap.size u u') {vs vs' : List Value} {t : TypeId} {g g' : Nat} (s : Sown u (.cells vs.toArray t) g u') (s' : Sown u (.cells vs'.toArray t) g' u') (hne : g ≠ g') : Mv w ((g', vs') :: (g, vs) :: L) u' := by
 refine (h.sow hb s).cons (Nat.le_trans h.bl.size s'.1) (fun p hp he => ?_) s'.arr
 rcases List.mem_cons.1 hp with rfl | hp
 ·exact hne he
 ·have h1 := (h.all p hp).2.lt
  have h2 := s'.1
  omega
end
theorem qah {ops : Array Oper} {Q : Exit → Act → World → Prop} {rest : List Oper} {o : Oper} {a : Act} {w w' : World} {v : Value} (hr : (execOp a.eval o).run Tryd.prog w = .ok (.value v) w') (hw : Region.wanted o (yielded ops a.tmps) = true) (h : wpList Tryd.prog ops Q rest (a.put o.dst v) w') : wpList Tryd.prog ops Q (o :: rest) a w := by
 simp only [wpList, hw, if_true]
 refine .inl ?_
 unfold Oper.wp
 rw [hr]
 exact h
theorem qbp {ops : Array Oper} {Q : Exit → Act → World → Prop} {rest : List Oper} {o : Oper} {a : Act} {w : World} {f : FuncId} {args : Array Value} {v : Value} (hr : (execOp a.eval o).run Tryd.prog w = .ok (.enter f args) w) (hw : Region.wanted o (yielded ops a.tmps) = true)
  (hc : Calls Tryd.prog f args w fun e w' => e = .returned v ∧ Below w.heap.size w w') (h : ∀ w', Below w.heap.size w w' → wpList Tryd.prog ops Q rest (a.put o.dst v) w') : wpList Tryd.prog ops Q (o :: rest) a w := by
 simp only [wpList, hw, if_true]
 refine .inl ?_
 unfold Oper.wp
 rw [hr]
 simp only [Oper.upon]
 refine hc.mono fun e w' ⟨he, hb⟩ => ?_
 subst he
 exact h w' hb
theorem qbq {f : FuncId} {args : Array Value} {w : World} {v : Value} (h : Calls Tryd.prog f args w fun e w' => e = .returned v ∧ Below w.heap.size w w') : Calls Tryd.prog f args w fun e w' => ∃ v', e = .returned v' ∧ (v' = v ∧ Below w.heap.size w w') :=
 h.mono fun _ _ ⟨h1, h2⟩ => ⟨v, h1, rfl, h2⟩
theorem wpList_callRG {ops : Array Oper} {Q : Exit → Act → World → Prop} {rest : List Oper} {o : Oper} {a : Act} {w : World} {f : FuncId} {args : Array Value} {R : Value → World → Prop} (hr : (execOp a.eval o).run Tryd.prog w = .ok (.enter f args) w) (hw : Region.wanted o (yielded ops a.tmps) = true)
  (hc : Calls Tryd.prog f args w fun e w' => ∃ v, e = .returned v ∧ R v w') (h : ∀ v w', R v w' → wpList Tryd.prog ops Q rest (a.put o.dst v) w') : wpList Tryd.prog ops Q (o :: rest) a w := by
 simp only [wpList, hw, if_true]
 refine .inl ?_
 unfold Oper.wp
 rw [hr]
 simp only [Oper.upon]
 refine hc.mono fun e w' ⟨v, he, hb⟩ => ?_
 subst he
 exact h v w' hb
theorem qa3 {ops : Array Oper} {Q : Exit → Act → World → Prop} {rest : List Oper} {o : Oper} {a : Act} {w : World} (hw : Region.wanted o (yielded ops a.tmps) = false) (h : wpList Tryd.prog ops Q rest (a.put o.dst undef) w) : wpList Tryd.prog ops Q (o :: rest) a w := by
 simp only [wpList, hw]
 exact h
theorem qbj {ops : Array Oper} {Q : Exit → Act → World → Prop} {rest : List Oper} {o : Oper} {a : Act} {w : World} {f : FuncId} {args : Array Value} {R : Value → World → Prop} (hr : (execOp a.eval o).run Tryd.prog w = .ok (.enter f args) w) (hg : o.guard = none)
  (hc : Calls Tryd.prog f args w fun e w' => ∃ v, e = .returned v ∧ R v w') (h : ∀ v w', R v w' → wpList Tryd.prog ops Q rest (a.put o.dst v) w') : wpList Tryd.prog ops Q (o :: rest) a w := by
 have hw : Region.wanted o (yielded ops a.tmps) = true := by unfold Region.wanted; rw [hg]
 simp only [wpList, hw, if_true]
 refine .inl ?_
 unfold Oper.wp
 rw [hr]
 simp only [Oper.upon]
 refine hc.mono fun e w' ⟨v, he, hb⟩ => ?_
 subst he
 exact h v w' hb
theorem wp_region_sow1 {P : Program} {Q : Exit → Act → World → Prop} {id : Nat} {l : List Oper} {a : Act} {w : World} {obj : Obj} {o1 : Oper} (q : Nat) (ty : TypeId) (hm : P.follows .mixedOrders = true) (h1 : l[q]? = some o1) (hB : sownB l.toArray q (q + 1) ty = true)
  (hA : ∀ (ρ : Operand → Value) (w : World) (o : Oper), o.op = .alloc ty → (execOp ρ o).run P w = .ok (.value (.pointer (some ⟨w.heap.size, 0, none⟩))) (w.alloc obj))
  (h : wpCalm P w (fun a' => ∀ (g1 : Nat) (w' : World), Below w.heap.size w w' → Sown w obj g1 w' → wpList P l.toArray Q (l.drop (q + 1)) (a'.put o1.dst (.pointer (some ⟨g1, 0, none⟩))) w') q l a) : (Code.region id l.toArray true).wp P Q a w := by
 refine wp_region_sown q (q + 1) ty hm hB (fun ρ w _ o _ _ => hA ρ w o) ?_
 refine wpCalm_mono ?_ q l a h
 have hS := sown_spec hB
 intro a' h' val hF gs a'' w' hF' hb hs _
 have f0 : FA l.toArray (q + 1) a (fun i => i < q) (mixV q val gs) a' := hF.congr (fun _ _ => Iff.rfl) fun i _ hi => by unfold mixV; rw [if_pos hi]
 have f1 := f0.put (i := q) (o := o1) (v := .pointer (some ⟨gs q, 0, none⟩)) (L' := fun i => i < q + 1) hS.dst (by omega) (by simpa using h1) (by unfold mixV; rw [if_neg (by omega)]) (fun j => by omega) (Nat.lt_irrefl _)
 rw [hF'.ext f1 fun i hi => hi]
 exact h' _ _ hb (hs q (Nat.le_refl _) (by omega))
end Go.Proofs.YtcgbgmbnagmohaaDoor
