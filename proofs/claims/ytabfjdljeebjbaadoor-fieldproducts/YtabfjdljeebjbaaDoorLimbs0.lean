/- Rows of sixteen limbs, of 16 bits each when they are carried: plain facts, and such rows in memory. -/
import Derived.Test.YtabfjdljeebjbaaDoorKnown
namespace Go.Proofs.YtabfjdljeebjbaaDoor
open Go.RowKit

/-- A number of limbs, the least first. -/
def lb : List Int → Int
  | [] => 0
  | b :: t => b + 65536 * lb t
theorem lb_append (a : List Int) (b : Int) : lb (a ++ [b]) = lb a + 65536 ^ a.length * b := by
  induction a with
  | nil => simp [lb]
  | cons x t ih =>
    rw [List.cons_append, lb, lb, ih, List.length_cons, Int.pow_succ, Int.mul_add, Int.mul_comm (65536 ^ t.length) 65536, Int.mul_assoc, Int.add_assoc]
theorem lb_take_succ {l : List Int} {k : Nat} (h : k < l.length) : lb (l.take (k + 1)) = lb (l.take k) + 65536 ^ k * nth l k := by
  rw [List.take_succ_eq_append_getElem h, lb_append, List.length_take, Nat.min_eq_left (by omega)]
  unfold nth; rw [List.getElem?_eq_getElem h, Option.getD_some]
/-- The limbs from a place on. -/
theorem lb_split : ∀ (l : List Int) (k : Nat), k ≤ l.length → lb l = lb (l.take k) + 65536 ^ k * lb (l.drop k)
  | l, 0, _ => by simp [lb]
  | [], k + 1, h => by simp at h
  | x :: t, k + 1, h => by
    rw [List.take_succ_cons, List.drop_succ_cons, lb, lb, lb_split t k (by simpa using h), Int.pow_succ, Int.mul_add, Int.mul_comm (65536 ^ k) 65536, Int.mul_assoc, Int.add_assoc]
def Limbs (l : List Int) : Prop := ∀ b ∈ l, 0 ≤ b ∧ b < 65536
def Wides (l : List Int) : Prop := ∀ b ∈ l, 0 ≤ b ∧ b < 4611686018427387904
theorem Limbs.wides {l : List Int} (h : Limbs l) : Wides l := fun b hb => by have := h b hb; omega
theorem lb_nonneg {l : List Int} (h : Wides l) : 0 ≤ lb l := by
  induction l with
  | nil => simp [lb]
  | cons x t ih =>
    have hx := h x (by simp)
    have ht := ih fun b hb => h b (by simp [hb])
    rw [lb]; omega
theorem lb_lt {l : List Int} (h : Limbs l) : lb l < 65536 ^ l.length := by
  induction l with
  | nil => simp [lb]
  | cons x t ih =>
    have hx := h x (by simp)
    have ht := ih fun b hb => h b (by simp [hb])
    rw [lb, List.length_cons, Int.pow_succ]; omega
theorem pow16 : (65536 : Int) ^ 16 = 115792089237316195423570985008687907853269984665640564039457584007913129639936 := by decide
theorem Wides.nth {l : List Int} (h : Wides l) {k : Nat} (hk : k < l.length) : 0 ≤ nth l k ∧ nth l k < 4611686018427387904 := h _ (nth_mem hk)
theorem Limbs.nth {l : List Int} (h : Limbs l) {k : Nat} (hk : k < l.length) : 0 ≤ nth l k ∧ nth l k < 65536 := h _ (nth_mem hk)

/-- As the program holds them. -/
abbrev lV (l : List Int) : Value := .agg (l.map (Value.int .u64)).toArray
theorem lV_size {l : List Int} (h : l.length = 16) : (Tryd.prog.info? 54).map (·.size) = some (l.map (Value.int .u64)).length := by
  rw [List.length_map, h]; kernel_rfl
theorem lmap_getElem? {l : List Int} {i : Nat} (h : i < l.length) : (l.map (Value.int .u64))[i]? = some (.int .u64 (nth l i)) := by
  unfold nth; rw [List.getElem?_map, List.getElem?_eq_getElem h, Option.map_some, Option.getD_some]
theorem lV_one (l : List Int) : (l.map (Value.int .u64)).toArray.all (·.oneCell') = true := all_oneCell_toArray fun v hv => by
  rw [List.mem_map] at hv
  obtain ⟨x, _, rfl⟩ := hv
  rfl

/-- Limbs in a block of their own, that may be written. -/
structure LRow (b : Nat) (l : List Int) (u : World) : Prop where
  lt : b < u.heap.size
  c : ∀ i, i < l.length → u.cell? ⟨b, i, none⟩ = some (.int .u64 (nth l i))
  f : ∀ i, u.frozen? ⟨b, i, none⟩ = false
theorem LRow.new (w : World) (l : List Int) : LRow w.heap.size l (w.alloc (.cells (l.map (Value.int .u64)).toArray 54)) := by
  refine ⟨by simp, fun i hi => ?_, fun i => by simp [go_sem]⟩
  rw [World.cell?_alloc_new]
  simp [hi, nth]
theorem LRow.zero (u : World) : LRow u.heap.size (List.replicate 16 0) (u.alloc (.cells #[.int .u64 0, .int .u64 0, .int .u64 0, .int .u64 0, .int .u64 0, .int .u64 0, .int .u64 0, .int .u64 0, .int .u64 0, .int .u64 0, .int .u64 0, .int .u64 0, .int .u64 0, .int .u64 0, .int .u64 0, .int .u64 0] 54)) := LRow.new u (List.replicate 16 0)
theorem LRow.below {b : Nat} {l : List Int} {u u' : World} (h : LRow b l u) (hb : Below u.heap.size u u') : LRow b l u' :=
  ⟨Nat.lt_of_lt_of_le h.lt hb.size, fun i hi => by rw [hb.cell (p := ⟨b, i, none⟩) h.lt]; exact h.c i hi, fun i => by rw [hb.frozen (p := ⟨b, i, none⟩) h.lt]; exact h.f i⟩
theorem LRow.drew {b : Nat} {l : List Int} {u : World} (h : LRow b l u) : LRow b l u.drew := h.below (Below.refl _ _).drew
theorem LRow.set {b : Nat} {l : List Int} {u : World} (h : LRow b l u) {i : Nat} (hi : i < l.length) (v : Int) : LRow b (l.set i v) (u.setCell ⟨b, i, none⟩ (.int .u64 v)) := by
  refine ⟨by simpa using h.lt, fun j hj => ?_, fun j => by simpa [go_sem] using h.f j⟩
  rw [List.length_set] at hj
  by_cases e : i = j
  · subst e
    rw [World.cell?_setCell_same' _ _ _ (by rw [h.c i hi]; rfl)]
    simp [nth, hi]
  · rw [World.cell?_setCell_other _ _ _ _ (by intro he; injection he; contradiction), h.c j hj]
    simp [nth, List.getElem?_set_ne e]
theorem LRow.far {b c : Nat} {l : List Int} {u : World} (h : LRow b l u) (hne : c ≠ b) (o : Nat) (v : Value) : LRow b l (u.setCell ⟨c, o, none⟩ v) :=
  ⟨by simpa using h.lt, fun i hi => by rw [World.cell?_setCell_far _ ⟨c, _, none⟩ ⟨b, _, none⟩ _ hne]; exact h.c i hi, fun i => by simpa [go_sem] using h.f i⟩
theorem LRow.range {b : Nat} {l : List Int} {u : World} (h : LRow b l u) : u.rangeAt b 0 (l.map (Value.int .u64)) := fun j v hv => by
  rw [Nat.zero_add]
  have hj : j < l.length := by
    rcases Nat.lt_or_ge j l.length with h1 | h1
    · exact h1
    · rw [List.getElem?_eq_none (by simpa using h1)] at hv; cases hv
  rw [lmap_getElem? hj] at hv
  cases hv
  exact h.c j hj
theorem LRow.thereAt {b : Nat} {l : List Int} {u : World} (h : LRow b l u) : u.there b 0 l.length := fun j hj => by
  rw [Nat.zero_add, h.c j hj]
  exact ⟨rfl, h.f j⟩
theorem LRow.storeAll {b : Nat} {l l' : List Int} {u : World} (h : LRow b l u) (hl : l'.length = l.length) : LRow b l' (u.setCells b 0 (l'.map (Value.int .u64))) := by
  refine ⟨by rw [size_setCells]; exact h.lt, fun i hi => ?_, fun i => by rw [frozen_setCells]; exact h.f i⟩
  have hT := World.rangeAt_setCells_same u b 0 (l'.map (Value.int .u64)) (by simpa [hl] using h.thereAt) i _ (lmap_getElem? hi)
  rwa [Nat.zero_add] at hT
theorem cell_setCells_far {b c : Nat} (hne : c ≠ b) : ∀ (vs : List Value) (o : Nat) (u : World) (i : Nat), (u.setCells c o vs).cell? ⟨b, i, none⟩ = u.cell? ⟨b, i, none⟩
  | [], _, _, _ => rfl
  | v :: r, o, u, i => by
    show ((u.setCell ⟨c, o, none⟩ v).setCells c (o + 1) r).cell? ⟨b, i, none⟩ = _
    rw [cell_setCells_far hne r, World.cell?_setCell_far _ ⟨c, _, none⟩ ⟨b, _, none⟩ _ hne]
theorem LRow.farAll {b c : Nat} {l : List Int} {u : World} (h : LRow b l u) (hne : c ≠ b) (o : Nat) (vs : List Value) : LRow b l (u.setCells c o vs) :=
  ⟨by rw [size_setCells]; exact h.lt, fun i hi => by rw [cell_setCells_far hne]; exact h.c i hi, fun i => by rw [frozen_setCells]; exact h.f i⟩
theorem Var4.farAll {g c : Nat} {Z : Int} {u : World} (h : Var4 g Z u) (hne : c ≠ g) (o : Nat) (vs : List Value) : Var4 g Z (u.setCells c o vs) := by
  obtain ⟨l, c0, c1, c2, c3, f0, f1, f2, f3⟩ := h
  constructor
  · rw [size_setCells]; exact l
  · rw [cell_setCells_far hne]; exact c0
  · rw [cell_setCells_far hne]; exact c1
  · rw [cell_setCells_far hne]; exact c2
  · rw [cell_setCells_far hne]; exact c3
  · rw [frozen_setCells]; exact f0
  · rw [frozen_setCells]; exact f1
  · rw [frozen_setCells]; exact f2
  · rw [frozen_setCells]; exact f3
theorem results_limbs {fn : Func} {p : Tmp} (h : fn.results = #[.cell p 54]) {tmps : Array Value} {w : World} {g : Nat} {l : List Int} (ht : tmps.getD p undef = .pointer (some ⟨g, 0, none⟩)) (hl : l.length = 16) (hr : w.rangeAt g 0 (l.map (Value.int .u64))) :
    (results fn tmps).run Tryd.prog w = .ok (lV l) w := by
  rw [results_cell h, ht]
  have e := run_loadVar_mid (P := Tryd.prog) w g 0 54 (l.map (Value.int .u64)) (.array 16 23) hr Tryd.underlying54 rfl (lV_size hl)
  simp only [asAddr, Sem.run_pure, Result.andThen_ok, e]

/-- The prime's limbs. -/
def prL (i : Nat) : Int := if i = 0 then 65517 else if i = 15 then 32767 else 65535
theorem prL_bound (i : Nat) : 0 ≤ prL i ∧ prL i < 65536 := by unfold prL; split <;> (try split) <;> omega
set_option maxHeartbeats 400000 in
theorem prime_any (i : Nat) (w : World) : Calls Tryd.prog 42 #[.int .i64 (i : Int)] w fun e w' => e = .returned (.int .u64 (prL i)) ∧ w = w' := by
  by_cases h0 : i = 0
  · subst h0
    go_enter Tryd.func42, Tryd.ntmps42
    go_wp2_with fail
    go_ret
    exact ⟨rfl, rfl⟩
  · have e0 : ((i : Int) == 0) = false := beq_eq_false_iff_ne.2 (by omega)
    by_cases h1 : i = 15
    · subst h1
      go_enter Tryd.func42, Tryd.ntmps42
      go_wp2_with fail
      go_ret
      exact ⟨rfl, rfl⟩
    · have e1 : ((i : Int) == 15) = false := beq_eq_false_iff_ne.2 (by omega)
      have E : Hid (prL i = 65535) := Lib.hid (by unfold prL; rw [if_neg h0, if_neg h1])
      clear h0 h1
      go_enter Tryd.func42, Tryd.ntmps42
      go_wp2_with fail
      go_ret
      exact ⟨by rw [E.out]; rfl, rfl⟩
end Go.Proofs.YtabfjdljeebjbaaDoor
