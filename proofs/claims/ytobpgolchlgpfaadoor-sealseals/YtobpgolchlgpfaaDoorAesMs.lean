/- Blocks of bytes of one's own, however many. -/
import Derived.Test.YtobpgolchlgpfaaDoorCpy
import Derived.Test.YtobpgolchlgpfaaDoorAesDef
import Derived.Laws.Tables
import Derived.Laws.Cover3
namespace Go.Proofs.YtobpgolchlgpfaaDoor
open Go.RowKit
set_option maxRecDepth 20000

section
variable {w : World} {ρ : Operand → Value} {o : Oper} {t t' : TypeId} {x y z : Operand}
theorem run_mul8 {a b : BitVec 8} (ho : o.op = .binOp .mul t x y t') (hx : ρ x = b8 a) (hy : ρ y = b8 b) : (execOp ρ o).run Tryd.prog w = .ok (.value (b8 (a * b))) w := by
  obtain ⟨dst, op, type, pos, after, guard⟩ := o
  subst ho
  unfold b8 at *
  have e : IntKind.u8.wrap ((a.toNat : Int) * (b.toNat : Int)) = (((a * b).toNat : Nat) : Int) := by
    rw [wrap8, BitVec.toNat_mul]; simp
  generalize (a * b).toNat = z at *
  go_simp
  try exact e
theorem run_sub8 {a b : BitVec 8} (ho : o.op = .binOp .sub t x y t') (hx : ρ x = b8 a) (hy : ρ y = b8 b) : (execOp ρ o).run Tryd.prog w = .ok (.value (b8 (a - b))) w := by
  obtain ⟨dst, op, type, pos, after, guard⟩ := o
  subst ho
  unfold b8 at *
  have e : IntKind.u8.wrap ((a.toNat : Int) - (b.toNat : Int)) = (((a - b).toNat : Nat) : Int) := by
    rw [wrap8, BitVec.toNat_sub]; have := a.isLt; have := b.isLt; omega
  generalize (a - b).toNat = z at *
  go_simp
  try exact e
theorem run_shl8k {k : IntKind} {a : BitVec 8} {n : Nat} (ho : o.op = .binOp .shl t x y t') (hx : ρ x = b8 a) (hy : ρ y = .int k (n : Int)) (hn : n ≤ 8) : (execOp ρ o).run Tryd.prog w = .ok (.value (b8 (a <<< n))) w := by
  obtain ⟨dst, op, type, pos, after, guard⟩ := o
  subst ho
  unfold b8 at *
  have e : IntKind.u8.wrap ((a.toNat : Int) * 2 ^ n) = (((a <<< n).toNat : Nat) : Int) := by
    rw [wrap8, BitVec.toNat_shiftLeft, Nat.shiftLeft_eq]; simp
  generalize (a <<< n).toNat = z at *
  have hn0 : (0 : Int) ≤ (n : Int) := by omega
  go_simp
  try exact e
theorem run_xori {a b : Nat} (ho : o.op = .binOp .xor t x y t') (hx : ρ x = .int .i64 (a : Int)) (hy : ρ y = .int .i64 (b : Int)) (ha : a < 65536) (hb : b < 65536) : (execOp ρ o).run Tryd.prog w = .ok (.value (.int .i64 ((a ^^^ b : Nat) : Int))) w := by
  obtain ⟨dst, op, type, pos, after, guard⟩ := o
  subst ho
  have e : bits .xor .i64 (a : Int) (b : Int) = ((a ^^^ b : Nat) : Int) := by
    have hx : a ^^^ b < 2 ^ 16 := Nat.xor_lt_two_pow (by omega) (by omega)
    show IntKind.i64.wrap ((BitVec.ofInt 64 (a : Int) ^^^ BitVec.ofInt 64 (b : Int)).toNat : Int) = _
    rw [BitVec.toNat_xor, ofInt_u64 a (by omega), ofInt_u64 b (by omega), i64_fit (by omega) (by omega)]
  generalize a ^^^ b = z at *
  go_simp
  try exact e
/-- Numbers of 64 bits without a sign, small. -/
theorem run_cviuN {n : Nat} (ho : o.op = .convert 3 25 x) (hx : ρ x = .int .i64 (n : Int)) (hn : n < 65536) : (execOp ρ o).run Tryd.prog w = .ok (.value (.int .u64 (n : Int))) w := by
  rw [run_cv ho Tryd.underlying3 Tryd.underlying25 hx]
  have e : IntKind.u64.wrap (n : Int) = (n : Int) := by rw [wrap64]; omega
  rw [e]
theorem run_and7 {n : Nat} (ho : o.op = .binOp .and t x y t') (hx : ρ x = .int .u64 (n : Int)) (hy : ρ y = .int .u64 7) (hn : n < 8) : (execOp ρ o).run Tryd.prog w = .ok (.value (.int .u64 (n : Int))) w := by
  obtain ⟨dst, op, type, pos, after, guard⟩ := o
  subst ho
  have e : bits .and .u64 (n : Int) 7 = (n : Int) := by
    have h := u64_and_nat n 7 (by omega) (by omega)
    rw [show n &&& 7 = n % 8 from Nat.and_two_pow_sub_one_eq_mod n 3, Nat.mod_eq_of_lt hn] at h
    exact h
  go_simp
  try exact e
theorem run_subu {a b : Nat} (ho : o.op = .binOp .sub t x y t') (hx : ρ x = .int .u64 (a : Int)) (hy : ρ y = .int .u64 (b : Int)) (hb : b ≤ a) (ha : a < 65536) : (execOp ρ o).run Tryd.prog w = .ok (.value (.int .u64 ((a - b : Nat) : Int))) w := by
  obtain ⟨dst, op, type, pos, after, guard⟩ := o
  subst ho
  have e : IntKind.u64.wrap ((a : Int) - (b : Int)) = ((a - b : Nat) : Int) := by rw [wrap64]; omega
  generalize a - b = z at *
  go_simp
  try exact e
theorem run_eqv8 {a b : BitVec 8} {c : Bool} (ho : o.op = .binOp .eql t x y t') (hx : ρ x = b8 a) (hy : ρ y = b8 b) (h : decide (a = b) = c) : (execOp ρ o).run Tryd.prog w = .ok (.value (.bool c)) w := by
  refine run_eqlb (k := .u8) ho hx hy ?_
  rw [← h, Bool.eq_iff_iff]
  simp [← BitVec.toNat_inj]
  omega
theorem run_nck {a : Addr} (ho : o.op = .nilCheck x) (hx : ρ x = .pointer (some a)) : (execOp ρ o).run Tryd.prog w = .ok (.value (.pointer (some a))) w := by
  obtain ⟨dst, op, type, pos, after, guard⟩ := o
  subst ho
  go_simp
/-- The place of a field. -/
theorem run_fad {fs : Array Field} {f : Field} {i g off s k : Nat} (ho : o.op = .fieldAddr t x i) (ht : Tryd.prog.underlying t = some (.struct fs)) (hf : fs[i]? = some f) (hs : (Tryd.prog.info? f.type).map (·.size) = some (s + 1)) (hk : f.offset = k) (hx : ρ x = .pointer (some ⟨g, off, none⟩)) : (execOp ρ o).run Tryd.prog w = .ok (.value (.pointer (some ⟨g, off + k, none⟩))) w := by
  obtain ⟨inf, h1, h2⟩ := Option.map_eq_some_iff.1 hs
  unfold execOp
  simp only [ho, hx]
  simp [Instr.fieldAt, run_underlying ht, hf, Instr.sureAddr, fieldPlace, sizeOf, typeInfo, go_sem, h1, h2, Addr.add_mid, hk]
/-- A field of a struct that is a value. -/
theorem run_fld {fs : Array Field} {f : Field} {i s k : Nat} {vs : List Value} (ho : o.op = .field t x i) (ht : Tryd.prog.underlying t = some (.struct fs)) (hf : fs[i]? = some f) (hs : (Tryd.prog.info? f.type).map (·.size) = some s) (hg : ∀ w, (isAgg f.type).run Tryd.prog w = .ok true w) (hk : f.offset = k) (hx : ρ x = .agg vs.toArray) : (execOp ρ o).run Tryd.prog w = .ok (.value (.agg ((vs.drop k).take s).toArray)) w := by
  obtain ⟨inf, h1, h2⟩ := Option.map_eq_some_iff.1 hs
  unfold execOp
  simp only [ho, hx]
  simp [Instr.field, run_underlying ht, hf, asAgg, part, hg, sizeOf, typeInfo, go_sem, h1, h2, hk, List.extract_eq_take_drop]
/-- A place of an array of arrays. -/
theorem run_ixN {e : TypeId} {n g i off s : Nat} {k : IntKind} (ho : o.op = .indexAddr t x y) (ht : Tryd.prog.underlying t = some (.array n e)) (hs : (Tryd.prog.info? e).map (·.size) = some s) (hx : ρ x = .pointer (some ⟨g, off, none⟩)) (hy : ρ y = .int k (i : Int)) (hi : i < n) : (execOp ρ o).run Tryd.prog w = .ok (.value (.pointer (some ⟨g, off + i * s, none⟩))) w := by
  have el : Tryd.prog.elem t = e := by unfold Program.elem; rw [ht]
  have al : Tryd.prog.arrayLen t = n := by unfold Program.arrayLen; rw [ht]
  have h := run_indexAt_array (P := Tryd.prog) (w := w) t ⟨g, off, none⟩ k (i : Int) (by rw [al, el]; exact ht)
  rw [al, el, if_pos ⟨by omega, by omega⟩] at h
  obtain ⟨inf, h1, h2⟩ := Option.map_eq_some_iff.1 hs
  have hz : (sizeOf e).run Tryd.prog w = .ok s w := by simp [sizeOf, typeInfo, go_sem, h1, h2]
  rw [hz] at h
  unfold execOp
  simp only [ho, hx, hy, Sem.run_bind, h]
  simp [go_sem, Addr.add_mid]
/-- A load of a row in the midst. -/
theorem run_ldM {d : TypeDesc} {g f : Nat} {vs : List Value} (ho : o.op = .load t x) (ht : Tryd.prog.underlying t = some d) (hd : d.isRow = true) (hi : (Tryd.prog.info? t).map (·.size) = some vs.length) (hx : ρ x = .pointer (some ⟨g, f, none⟩)) (hr : w.rangeAt g f vs) : (execOp ρ o).run Tryd.prog w = .ok (.value (.agg vs.toArray)) w := by
  unfold execOp
  simp only [ho, hx, Sem.run_bind, run_loadAt_mid w g f t vs d hr ht hd hi, Result.andThen_ok, Sem.run_pure]
/-- a[l:], of an array. -/
theorem run_slAl {e : TypeId} {n g f l : Nat} {k : IntKind} (ho : o.op = .slice t x (some y) none none) (ht : Tryd.prog.underlying t = some (.array n e)) (hs : (Tryd.prog.info? e).map (·.size) = some 1) (hx : ρ x = .pointer (some ⟨g, f, none⟩)) (hy : ρ y = .int k (l : Int)) (hl : l < n) : (execOp ρ o).run Tryd.prog w = .ok (.value (.slice (some ⟨g, f + l, none⟩) (n - l) (n - l))) w := by
  have el : Tryd.prog.elem t = e := by unfold Program.elem; rw [ht]
  have al : Tryd.prog.arrayLen t = n := by unfold Program.arrayLen; rw [ht]
  have h1 := run_sliceAt_array_l (P := Tryd.prog) w t ⟨g, f, none⟩ (by rw [al, el]; exact ht) k (l : Int) (by omega) (by rw [al]; omega)
  obtain ⟨inf, hi, h2⟩ := Option.map_eq_some_iff.1 hs
  have hz : (sizeOf e).run Tryd.prog w = .ok 1 w := by simp [sizeOf, typeInfo, go_sem, hi, h2]
  rw [el, hz, al] at h1
  unfold execOp
  simp only [ho, hx, hy, Option.map_none, Option.map_some, Sem.run_bind, h1]
  simp [slicedAt, Addr.add_mid, show ¬ n = l by omega]
/-- a[l:h], of an array. -/
theorem run_slAlh {e : TypeId} {n g f l h : Nat} {k k' : IntKind} (ho : o.op = .slice t x (some y) (some z) none) (ht : Tryd.prog.underlying t = some (.array n e)) (hs : (Tryd.prog.info? e).map (·.size) = some 1) (hx : ρ x = .pointer (some ⟨g, f, none⟩)) (hy : ρ y = .int k (l : Int)) (hz : ρ z = .int k' (h : Int)) (hl : l < n) (h1 : l ≤ h) (h2 : h ≤ n) : (execOp ρ o).run Tryd.prog w = .ok (.value (.slice (some ⟨g, f + l, none⟩) (h - l) (n - l))) w := by
  have el : Tryd.prog.elem t = e := by unfold Program.elem; rw [ht]
  have al : Tryd.prog.arrayLen t = n := by unfold Program.arrayLen; rw [ht]
  have h3 := run_sliceAt_array_lh (P := Tryd.prog) w t ⟨g, f, none⟩ (by rw [al, el]; exact ht) k k' (l : Int) (h : Int) (by omega) (by omega) (by rw [al]; omega)
  obtain ⟨inf, hi, hj⟩ := Option.map_eq_some_iff.1 hs
  have hz' : (sizeOf e).run Tryd.prog w = .ok 1 w := by simp [sizeOf, typeInfo, go_sem, hi, hj]
  rw [el, hz', al] at h3
  unfold execOp
  simp only [ho, hx, hy, hz, Option.map_none, Option.map_some, Sem.run_bind, h3]
  simp [slicedAt, Addr.add_mid, show ¬ n = l by omega]
theorem run_s2a {e : TypeId} {n len c : Nat} {a : Option Addr} (ho : o.op = .sliceToArrayPointer t x) (ht : Tryd.prog.underlying t = some (.array n e)) (hx : ρ x = .slice a len c) (hn : n ≤ len) : (execOp ρ o).run Tryd.prog w = .ok (.value (.pointer a)) w := by
  unfold execOp
  simp only [ho, hx, Sem.run_bind, run_arrayAt (P := Tryd.prog) (w := w) t e n a len c ht hn]
  simp [go_sem]
theorem run_bld {parts : Array (Nat × Operand)} {cells : Array Value} (ho : o.op = .build t parts) (h : Tryd.prog.built t (parts.map fun (i, x) => (i, ρ x)).toList = some cells) : (execOp ρ o).run Tryd.prog w = .ok (.value (.agg cells)) w := by
  unfold execOp
  simp only [ho, Sem.run_bind, run_build (P := Tryd.prog) w t _ cells h]
  simp [go_sem]
end

/-- Cells in the midst of a row. -/
theorem Arr.part {g : Nat} {l : List Value} {u : World} (h : Arr g l u) (f n : Nat) : u.rangeAt g f ((l.drop f).take n) := rangeAt_take (by have := rangeAt_drop (k := f) h.range; rwa [Nat.zero_add] at this)
theorem Arr.get8 {g : Nat} {l : List (BitVec 8)} {u : World} (h : Arr g (l.map b8) u) {i : Nat} (hi : i < l.length) : u.cell? ⟨g, i, none⟩ = some (b8 (l.getD i 0)) := h.c i _ (get_map b8 0 hi)
theorem Arr.set8 {g : Nat} {l : List (BitVec 8)} {u : World} (h : Arr g (l.map b8) u) {i : Nat} (hi : i < l.length) (v : BitVec 8) : Arr g ((l.set i v).map b8) (u.setCell ⟨g, i, none⟩ (b8 v)) := by
  rw [← set_map]; exact h.set (by rw [List.length_map]; exact hi) _
theorem Arr.new8 (w : World) (l : List (BitVec 8)) (t : TypeId) : Arr w.heap.size (l.map b8) (w.alloc (.cells (l.map b8).toArray t)) := Arr.new _ _ _
/-- Bytes in the midst of a row, as a list by a function. -/
theorem Arr.tab8 {g : Nat} {l m : List (BitVec 8)} {u : World} (h : Arr g (l.map b8) u) {f : Nat} (hf : f + m.length ≤ l.length) (hm : ∀ i, i < m.length → m.getD i 0 = l.getD (f + i) 0) : u.rangeAt g f (m.map b8) := fun j v hv => by
  have hj : j < m.length := by
    rcases Nat.lt_or_ge j m.length with h1 | h1
    · exact h1
    · rw [List.getElem?_eq_none (by rw [List.length_map]; exact h1)] at hv; cases hv
  rw [get_map b8 0 hj] at hv
  rw [h.get8 (by omega), ← hm j hj]
  exact hv
theorem z8_as (n : Nat) : z8 n = (List.replicate n (0 : BitVec 8)).map b8 := rfl
/-- What is held against each other, cell by cell. -/
theorem forIn_find {P : Program} {w : World} {β : Type} {b c : β} {f : Nat → β → Sem (ForInStep β)} {p : Nat → Bool} : ∀ (n s : Nat), (∀ i, s ≤ i → i < s + n → (f i b).run P w = .ok (if p i then .yield b else .done c) w) →
    (forIn (List.range' s n) b f : Sem β).run P w = .ok (if (List.range' s n).all p then b else c) w
  | 0, s, _ => by simp [Sem.run_pure]
  | n + 1, s, h => by
    rw [List.range'_succ, List.forIn_cons, Sem.run_bind, h s (Nat.le_refl _) (by omega), Result.andThen_ok]
    have ih := forIn_find (p := p) n (s + 1) fun i h1 h2 => h i (by omega) (by omega)
    rw [List.all_cons]
    cases p s with
    | true => exact ih
    | false => simp [Sem.run_pure]
theorem all_eq8 {l m : List (BitVec 8)} (n : Nat) (hl : l.length = n) (hm : m.length = n) : ((List.range' 0 n).all fun i => (((l.getD i 0).toNat : Int) == ((m.getD i 0).toNat : Int))) = decide (l = m) := by
  rw [Bool.eq_iff_iff, List.all_eq_true, decide_eq_true_eq]
  constructor
  · intro h
    refine ext8 (by omega) fun i hi => ?_
    have := h i (List.mem_range'_1.2 ⟨Nat.zero_le _, by omega⟩)
    exact BitVec.eq_of_toNat_eq (Int.ofNat.inj (eq_of_beq this))
  · intro h i _
    rw [h]; simp
set_option maxHeartbeats 2000000 in
theorem eq16 {l m : List (BitVec 8)} (hl : l.length = 16) (hm : m.length = 16) (w : World) : (Op.equalIn 10000 23 (.agg (l.map b8).toArray) (.agg (m.map b8).toArray)).run Tryd.prog w = .ok (decide (l = m)) w := by
  have hu := Tryd.underlying5
  have ha := Tryd.isAgg5
  have hz := Tryd.sizeOf5
  rw [show (10000 : Nat) = 9999 + 1 from rfl, Op.equalIn]
  simp only [Sem.run_bind, run_underlying Tryd.underlying23, Result.andThen_ok]
  simp only [Std.Legacy.Range.forIn_eq_forIn_range', Std.Legacy.Range.size, Nat.sub_zero, Nat.add_sub_cancel, Nat.div_one]
  have he : ∀ i, i < 16 → (l.map b8)[i]? = some (.int .u8 ((l.getD i 0).toNat : Int)) := fun i hi => get_map b8 0 (by omega)
  have he' : ∀ i, i < 16 → (m.map b8)[i]? = some (.int .u8 ((m.getD i 0).toNat : Int)) := fun i hi => get_map b8 0 (by omega)
  have hA := all_eq8 16 hl hm
  generalize hvs : l.map b8 = vs at *
  generalize hvt : m.map b8 = vt at *
  clear hvs hvt
  obtain ⟨p, hp⟩ : ∃ p : Nat → Bool, p = fun i => (((l.getD i 0).toNat : Int) == ((m.getD i 0).toNat : Int)) := ⟨_, rfl⟩
  rw [← hp] at hA
  go_simp
  rw [forIn_find (c := (some false, ())) (p := p)]
  · rw [hA]
    by_cases h : l = m
    · simp [h]
    · simp [h]
  · intro i _ hi
    have e1 := he i (by omega)
    have e2 := he' i (by omega)
    clear he he'
    have hpi : p i = (((l.getD i 0).toNat : Int) == ((m.getD i 0).toNat : Int)) := by rw [hp]
    obtain ⟨a, ea⟩ : ∃ a : Int, a = ((l.getD i 0).toNat : Int) := ⟨_, rfl⟩
    obtain ⟨b, eb⟩ : ∃ b : Int, b = ((m.getD i 0).toNat : Int) := ⟨_, rfl⟩
    rw [← ea] at e1 hpi
    rw [← eb] at e2 hpi
    rw [hpi]
    clear hpi ea eb hA hp
    by_cases h : a = b <;> go_simp
theorem run_eq16 {l m : List (BitVec 8)} (hl : l.length = 16) (hm : m.length = 16) {w : World} {ρ : Operand → Value} {o : Oper} {x y : Operand} {t : TypeId} {c : Bool} (ho : o.op = .binOp .eql 23 x y t) (hx : ρ x = .agg (l.map b8).toArray) (hy : ρ y = .agg (m.map b8).toArray) (hc : decide (l = m) = c) : (execOp ρ o).run Tryd.prog w = .ok (.value (.bool c)) w := by
  obtain ⟨dst, op, type, pos, after, guard⟩ := o
  subst ho
  have hE := eq16 hl hm w
  rw [hc] at hE
  generalize (l.map b8).toArray = vs at *
  generalize (m.map b8).toArray = vt at *
  go_simp
/-- What the fold of a part writes. -/
theorem fold_fill (l : List Value) : ∀ (k : Nat) (z : Array Value), k + l.length ≤ z.size → (l.zipIdx k).foldl (fun cs (c, j) => cs.setIfInBounds (0 + j) c) z = (z.toList.take k ++ (l ++ z.toList.drop (k + l.length))).toArray := by
  induction l with
  | nil => intro k z _; simp
  | cons v l ih =>
    intro k z h
    simp only [List.length_cons] at h
    rw [List.zipIdx_cons, List.foldl_cons, ih (k + 1) _ (by simp; omega)]
    apply congrArg List.toArray
    simp only [Nat.zero_add, Array.toList_setIfInBounds]
    have hk : k < z.toList.length := by simp; omega
    rw [List.take_set, List.drop_set_of_lt (by omega), List.take_succ_eq_append_getElem hk, List.set_append_right _ _ (by rw [List.length_take]; omega)]
    simp [show min k z.size = k by omega, show k + 1 + l.length = k + (l.length + 1) by omega]
end Go.Proofs.YtobpgolchlgpfaaDoor
namespace Go.Proofs.YtobpgolchlgpfaaDoor
open Go.RowKit
set_option maxRecDepth 20000

theorem oneB (l : List (BitVec 8)) : (l.map b8).toArray.all (·.oneCell') = true := one_map b8 (fun _ => rfl) l
/-- Since w, blocks were laid that read so. -/
structure Ms (w : World) (L : List (Nat × List (BitVec 8))) (u : World) : Prop where
  bl : Below w.heap.size w u
  nd : (L.map (·.1)).Nodup
  all : ∀ p ∈ L, w.heap.size ≤ p.1 ∧ Arr p.1 (p.2.map b8) u
theorem Ms.nil (w : World) : Ms w [] w := ⟨Below.refl _ _, List.nodup_nil, fun _ h => by cases h⟩
section
variable {w u u' : World} {L : List (Nat × List (BitVec 8))}
theorem Ms.below (h : Ms w L u) (hb : Below u.heap.size u u') : Ms w L u' :=
  ⟨h.bl.trans (hb.mono h.bl.size), h.nd, fun p hp => ⟨(h.all p hp).1, (h.all p hp).2.below hb⟩⟩
theorem Ms.new (h : Ms w L u) (l : List (BitVec 8)) (t : TypeId) : Ms w ((u.heap.size, l) :: L) (u.alloc (.cells (l.map b8).toArray t)) := by
  have hb : Below u.heap.size u (u.alloc (.cells (l.map b8).toArray t)) := (Below.refl _ _).alloc (Nat.le_refl _) _
  refine ⟨h.bl.trans (hb.mono h.bl.size), ?_, fun p hp => ?_⟩
  · rw [List.map_cons, List.nodup_cons]
    refine ⟨fun hm => ?_, h.nd⟩
    rw [List.mem_map] at hm
    obtain ⟨p, hp, he⟩ := hm
    have := (h.all p hp).2.lt
    exact absurd this (by have e : p.1 = u.heap.size := he; omega)
  · rcases List.mem_cons.1 hp with rfl | hp
    · exact ⟨h.bl.size, Arr.new8 _ _ _⟩
    · exact ⟨(h.all p hp).1, (h.all p hp).2.below hb⟩
theorem Ms.newZ (h : Ms w L u) (n : Nat) (t : TypeId) : Ms w ((u.heap.size, List.replicate n 0) :: L) (u.alloc (.cells (z8 n).toArray t)) := h.new _ t
theorem Ms.get (h : Ms w L u) {i g : Nat} {l : List (BitVec 8)} (hi : L[i]? = some (g, l)) : Arr g (l.map b8) u := (h.all (g, l) (List.mem_of_getElem? hi)).2
theorem Ms.ge (h : Ms w L u) {i g : Nat} {l : List (BitVec 8)} (hi : L[i]? = some (g, l)) : w.heap.size ≤ g := (h.all (g, l) (List.mem_of_getElem? hi)).1
theorem nodup_at {l : List Nat} (h : l.Nodup) : ∀ {i j a : Nat}, l[i]? = some a → l[j]? = some a → i = j := by
  intro i j a hi hj
  obtain ⟨h1, e1⟩ := List.getElem?_eq_some_iff.1 hi
  obtain ⟨h2, e2⟩ := List.getElem?_eq_some_iff.1 hj
  exact (List.getElem_inj h).1 (e1.trans e2.symm)
/-- One block is turned, the others stand. -/
theorem Ms.turn (h : Ms w L u) {i g : Nat} {l m : List (BitVec 8)} (hi : L[i]? = some (g, l)) (hb : Below w.heap.size w u') (hA : Arr g (m.map b8) u') (ho : ∀ g' k, g ≠ g' → Arr g' k u → Arr g' k u') : Ms w (L.set i (g, m)) u' := by
  have hlt : i < L.length := (List.getElem?_eq_some_iff.1 hi).1
  have hmap : (L.set i (g, m)).map (·.1) = L.map (·.1) := by
    rw [List.map_set]
    apply List.ext_getElem?
    intro j
    rw [List.getElem?_set]
    by_cases e : i = j
    · subst e; simp [hlt]
      have := hi; rw [List.getElem?_eq_getElem hlt] at this; simp [Option.some.inj this]
    · simp [e]
  refine ⟨hb, by rw [hmap]; exact h.nd, fun p hp => ?_⟩
  obtain ⟨j, hj, rfl⟩ := List.getElem_of_mem hp
  rw [List.length_set] at hj
  by_cases e : i = j
  · subst e; rw [List.getElem_set_self]; exact ⟨h.ge hi, hA⟩
  · rw [List.getElem_set_ne e]
    have hp' := h.all _ (List.getElem_mem hj)
    refine ⟨hp'.1, ho _ _ (fun hg => e ?_) hp'.2⟩
    have h1 : (L.map (·.1))[i]? = some g := by rw [List.getElem?_map, hi]; rfl
    have h2 : (L.map (·.1))[j]? = some g := by rw [List.getElem?_map, List.getElem?_eq_getElem hj, hg]; rfl
    exact nodup_at h.nd h1 h2
theorem Ms.set (h : Ms w L u) (i : Nat) {g : Nat} {l : List (BitVec 8)} (hi : L[i]? = some (g, l)) {j : Nat} (hj : j < l.length) (v : BitVec 8) : Ms w (L.set i (g, l.set j v)) (u.setCell ⟨g, j, none⟩ (b8 v)) :=
  h.turn hi (h.bl.setCell (p := ⟨g, j, none⟩) (h.ge hi) _) ((h.get hi).set8 hj v) fun _ _ hne hA => hA.far hne _ _
theorem Ms.put (h : Ms w L u) (i : Nat) {g : Nat} {l : List (BitVec 8)} (hi : L[i]? = some (g, l)) {m : List (BitVec 8)} (hm : m.length = l.length) : Ms w (L.set i (g, m)) (u.setCells g 0 (m.map b8)) :=
  h.turn hi (below_setCells (h.ge hi) _ _ h.bl) ((h.get hi).put (by rw [List.length_map, List.length_map, hm])) fun _ _ hne hA => hA.farAll hne _ _
theorem Ms.mid (h : Ms w L u) (i : Nat) {g : Nat} {l : List (BitVec 8)} (hi : L[i]? = some (g, l)) {f : Nat} {m : List (BitVec 8)} (hm : f + m.length ≤ l.length) : Ms w (L.set i (g, l.take f ++ (m ++ l.drop (f + m.length)))) (u.setCells g f (m.map b8)) := by
  refine h.turn hi (below_setCells (h.ge hi) _ _ h.bl) ?_ fun _ _ hne hA => hA.farAll hne _ _
  have := (h.get hi).mid (f := f) (vs := m.map b8) (by rw [List.length_map, List.length_map]; exact hm)
  rw [List.length_map, ← List.map_take, ← List.map_drop, ← List.map_append, ← List.map_append] at this
  exact this
theorem Ms.drop {p : Nat × List (BitVec 8)} (h : Ms w (p :: L) u) : Ms w L u := ⟨h.bl, (List.nodup_cons.1 h.nd).2, fun q hq => h.all q (List.mem_cons_of_mem _ hq)⟩
end
/-- The size of what a type holds. -/
theorem sz {l : List (BitVec 8)} {t : TypeId} {n : Nat} (h : (Tryd.prog.info? t).map (·.size) = some n) (hl : l.length = n) : (Tryd.prog.info? t).map (·.size) = some (l.map b8).length := by rw [List.length_map, hl]; exact h
theorem szBlock : (Tryd.prog.info? 55).map (·.size) = some 16 := by kernel_rfl
theorem sz16 : (Tryd.prog.info? 23).map (·.size) = some 16 := by kernel_rfl
theorem szWord : (Tryd.prog.info? 75).map (·.size) = some 4 := by kernel_rfl
theorem szKey : (Tryd.prog.info? 29).map (·.size) = some 32 := by kernel_rfl
theorem szBoxes : (Tryd.prog.info? 69).map (·.size) = some 512 := by kernel_rfl
theorem szCipher : (Tryd.prog.info? 73).map (·.size) = some 752 := by kernel_rfl
theorem szWords : (Tryd.prog.info? 76).map (·.size) = some 240 := by kernel_rfl
theorem sz255 : (Tryd.prog.info? 89).map (·.size) = some 255 := by kernel_rfl
/-- A result that is a row. -/
theorem results_rowB {fn : Func} {p : Tmp} {t : TypeId} {d : TypeDesc} (h : fn.results = #[.cell p t]) {tmps : Array Value} {w : World} {g : Nat} {l : List Value} (ht : tmps.getD p undef = .pointer (some ⟨g, 0, none⟩)) (hu : Tryd.prog.underlying t = some d) (hd : d.isRow = true) (hl : (Tryd.prog.info? t).map (·.size) = some l.length) (hr : w.rangeAt g 0 l) :
    (results fn tmps).run Tryd.prog w = .ok (.agg l.toArray) w := by
  rw [results_cell h, ht]
  have e := run_loadVar_mid (P := Tryd.prog) w g 0 t l d hr hu hd hl
  simp only [asAddr, Sem.run_pure, Result.andThen_ok, e]
theorem Arr.there8 {g : Nat} {l : List (BitVec 8)} {u : World} (h : Arr g (l.map b8) u) {m : List (BitVec 8)} (hm : m.length = l.length) : u.there g 0 (m.map b8).length := by
  have := h.there; rw [List.length_map] at this ⊢; rw [hm]; exact this
end Go.Proofs.YtobpgolchlgpfaaDoor
