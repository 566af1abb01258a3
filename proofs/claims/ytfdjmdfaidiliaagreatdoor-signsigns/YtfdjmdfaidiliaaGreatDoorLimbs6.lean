import Derived.Test.YtfdjmdfaidiliaaGreatDoorBase
import Derived.Lib.QuietBelow
namespace Go.Proofs.YtfdjmdfaidiliaaGreatDoor
open Go.RowKit
set_option maxRecDepth 20000
def lb : List Int → Int
  | [] => 0
  | b :: t => b + 65536 * lb t
theorem lb_append (a : List Int) (b : Int) : lb (a ++ [b]) = lb a + 65536 ^ a.length * b := by
  induction a with
  | nil => simp [lb]
  | cons x t ih =>
    rw [List.cons_append, lb, lb, ih, List.length_cons, Int.pow_succ, Int.mul_add, Int.mul_comm (65536 ^ t.length) 65536, Int.mul_assoc, Int.add_assoc]
theorem qbn {l : List Int} {k : Nat} (h : k < l.length) : lb (l.take (k + 1)) = lb (l.take k) + 65536 ^ k * nth l k := by
  rw [List.take_succ_eq_append_getElem h, lb_append, List.length_take, Nat.min_eq_left (by omega)]
  unfold nth; rw [List.getElem?_eq_getElem h, Option.getD_some]
theorem lb_split : ∀ (l : List Int) (k : Nat), k ≤ l.length → lb l = lb (l.take k) + 65536 ^ k * lb (l.drop k)
  | l, 0, _ => by simp [lb]
  | [], k + 1, h => by simp at h
  | x :: t, k + 1, h => by
    rw [List.take_succ_cons, List.drop_succ_cons, lb, lb, lb_split t k (by simpa using h), Int.pow_succ, Int.mul_add, Int.mul_comm (65536 ^ k) 65536, Int.mul_assoc, Int.add_assoc]
def Limbs (l : List Int) : Prop := ∀ b ∈ l, 0 ≤ b ∧ b < 65536
def Wides (l : List Int) : Prop := ∀ b ∈ l, 0 ≤ b ∧ b < 4611686018427387904
theorem Limbs.wides {l : List Int} (h : Limbs l) : Wides l := fun b hb => by have := h b hb; omega
theorem lb_nonneg {l : List Int} (h : Wides l) : 0 ≤ lb l := by
  induction l with
  | nil => simp [lb]
  | cons x t ih =>
    have hx := h x (by simp)
    have ht := ih fun b hb => h b (by simp [hb])
    rw [lb]; omega
theorem lb_lt {l : List Int} (h : Limbs l) : lb l < 65536 ^ l.length := by
  induction l with
  | nil => simp [lb]
  | cons x t ih =>
    have hx := h x (by simp)
    have ht := ih fun b hb => h b (by simp [hb])
    rw [lb, List.length_cons, Int.pow_succ]; omega
theorem pow16 : (65536 : Int) ^ 16 = 115792089237316195423570985008687907853269984665640564039457584007913129639936 := by decide
theorem Wides.nth {l : List Int} (h : Wides l) {k : Nat} (hk : k < l.length) : 0 ≤ nth l k ∧ nth l k < 4611686018427387904 := h _ (nth_mem hk)
theorem Limbs.nth {l : List Int} (h : Limbs l) {k : Nat} (hk : k < l.length) : 0 ≤ nth l k ∧ nth l k < 65536 := h _ (nth_mem hk)
abbrev lV (l : List Int) : Value := .agg (l.map (Value.int .u64)).toArray
theorem qcf {l : List Int} (h : l.length = 16) : (Tryz.prog.info? 115).map (·.size) = some (l.map (Value.int .u64)).length := by
  rw [List.length_map, h]; kernel_rfl
theorem lmap_getElem? {l : List Int} {i : Nat} (h : i < l.length) : (l.map (Value.int .u64))[i]? = some (.int .u64 (nth l i)) := by
  unfold nth; rw [List.getElem?_map, List.getElem?_eq_getElem h, Option.map_some, Option.getD_some]
theorem lV_one (l : List Int) : (l.map (Value.int .u64)).toArray.all (·.oneCell') = true := all_oneCell_toArray fun v hv => by
  rw [List.mem_map] at hv
  obtain ⟨x, _, rfl⟩ := hv
  rfl
structure LRow (b : Nat) (l : List Int) (u : World) : Prop where
  lt : b < u.heap.size
  c : ∀ i, i < l.length → u.cell? ⟨b, i, none⟩ = some (.int .u64 (nth l i))
  f : ∀ i, u.frozen? ⟨b, i, none⟩ = false
theorem LRow.new (w : World) (l : List Int) : LRow w.heap.size l (w.alloc (.cells (l.map (Value.int .u64)).toArray 115)) := by
  refine ⟨by simp, fun i hi => ?_, fun i => by simp [go_sem]⟩
  rw [World.cell?_alloc_new]
  simp [hi, nth]
theorem LRow.zero (u : World) : LRow u.heap.size (List.replicate 16 0) (u.alloc (.cells #[.int .u64 0, .int .u64 0, .int .u64 0, .int .u64 0, .int .u64 0, .int .u64 0, .int .u64 0, .int .u64 0, .int .u64 0, .int .u64 0, .int .u64 0, .int .u64 0, .int .u64 0, .int .u64 0, .int .u64 0, .int .u64 0] 115)) := LRow.new u (List.replicate 16 0)
theorem LRow.below {b : Nat} {l : List Int} {u u' : World} (h : LRow b l u) (hb : Below u.heap.size u u') : LRow b l u' :=
  ⟨Nat.lt_of_lt_of_le h.lt hb.size, fun i hi => by rw [hb.cell (p := ⟨b, i, none⟩) h.lt]; exact h.c i hi, fun i => by rw [hb.frozen (p := ⟨b, i, none⟩) h.lt]; exact h.f i⟩
theorem LRow.drew {b : Nat} {l : List Int} {u : World} (h : LRow b l u) : LRow b l u.drew := h.below (Below.refl _ _).drew
theorem LRow.set {b : Nat} {l : List Int} {u : World} (h : LRow b l u) {i : Nat} (hi : i < l.length) (v : Int) : LRow b (l.set i v) (u.setCell ⟨b, i, none⟩ (.int .u64 v)) := by
  refine ⟨by simpa using h.lt, fun j hj => ?_, fun j => by simpa [go_sem] using h.f j⟩
  rw [List.length_set] at hj
  by_cases e : i = j
  · subst e
    rw [World.cell?_setCell_same' _ _ _ (by rw [h.c i hi]; rfl)]
    simp [nth, hi]
  · rw [World.cell?_setCell_other _ _ _ _ (by intro he; injection he; contradiction), h.c j hj]
    simp [nth, List.getElem?_set_ne e]
theorem LRow.far {b c : Nat} {l : List Int} {u : World} (h : LRow b l u) (hne : c ≠ b) (o : Nat) (v : Value) : LRow b l (u.setCell ⟨c, o, none⟩ v) :=
  ⟨by simpa using h.lt, fun i hi => by rw [World.cell?_setCell_far _ ⟨c, _, none⟩ ⟨b, _, none⟩ _ hne]; exact h.c i hi, fun i => by simpa [go_sem] using h.f i⟩
theorem LRow.range {b : Nat} {l : List Int} {u : World} (h : LRow b l u) : u.rangeAt b 0 (l.map (Value.int .u64)) := fun j v hv => by
  rw [Nat.zero_add]
  have hj : j < l.length := by
    rcases Nat.lt_or_ge j l.length with h1 | h1
    · exact h1
    · rw [List.getElem?_eq_none (by simpa using h1)] at hv; cases hv
  rw [lmap_getElem? hj] at hv
  cases hv
  exact h.c j hj
theorem LRow.thereAt {b : Nat} {l : List Int} {u : World} (h : LRow b l u) : u.there b 0 l.length := fun j hj => by
  rw [Nat.zero_add, h.c j hj]
  exact ⟨rfl, h.f j⟩
theorem LRow.storeAll {b : Nat} {l l' : List Int} {u : World} (h : LRow b l u) (hl : l'.length = l.length) : LRow b l' (u.setCells b 0 (l'.map (Value.int .u64))) := by
  refine ⟨by rw [qc0]; exact h.lt, fun i hi => ?_, fun i => by rw [qbv]; exact h.f i⟩
  have hT := World.rangeAt_setCells_same u b 0 (l'.map (Value.int .u64)) (by simpa [hl] using h.thereAt) i _ (lmap_getElem? hi)
  rwa [Nat.zero_add] at hT
theorem qb9 {b c : Nat} (hne : c ≠ b) : ∀ (vs : List Value) (o : Nat) (u : World) (i : Nat), (u.setCells c o vs).cell? ⟨b, i, none⟩ = u.cell? ⟨b, i, none⟩
  | [], _, _, _ => rfl
  | v :: r, o, u, i => by
    show ((u.setCell ⟨c, o, none⟩ v).setCells c (o + 1) r).cell? ⟨b, i, none⟩ = _
    rw [qb9 hne r, World.cell?_setCell_far _ ⟨c, _, none⟩ ⟨b, _, none⟩ _ hne]
theorem LRow.farAll {b c : Nat} {l : List Int} {u : World} (h : LRow b l u) (hne : c ≠ b) (o : Nat) (vs : List Value) : LRow b l (u.setCells c o vs) :=
  ⟨by rw [qc0]; exact h.lt, fun i hi => by rw [qb9 hne]; exact h.c i hi, fun i => by rw [qbv]; exact h.f i⟩
theorem Var4.farAll {g c : Nat} {Z : Int} {u : World} (h : Var4 g Z u) (hne : c ≠ g) (o : Nat) (vs : List Value) : Var4 g Z (u.setCells c o vs) := by
  obtain ⟨l, c0, c1, c2, c3, f0, f1, f2, f3⟩ := h
  constructor
  · rw [qc0]; exact l
  · rw [qb9 hne]; exact c0
  · rw [qb9 hne]; exact c1
  · rw [qb9 hne]; exact c2
  · rw [qb9 hne]; exact c3
  · rw [qbv]; exact f0
  · rw [qbv]; exact f1
  · rw [qbv]; exact f2
  · rw [qbv]; exact f3
theorem results_limbs {fn : Func} {p : Tmp} (h : fn.results = #[.cell p 115]) {tmps : Array Value} {w : World} {g : Nat} {l : List Int} (ht : tmps.getD p undef = .pointer (some ⟨g, 0, none⟩)) (hl : l.length = 16) (hr : w.rangeAt g 0 (l.map (Value.int .u64))) :
    (results fn tmps).run Tryz.prog w = .ok (lV l) w := by
  rw [results_cellF h, ht]
  have e := run_loadVar_mid (P := Tryz.prog) w g 0 115 (l.map (Value.int .u64)) (.array 16 45) hr Tryz.underlying115 rfl (qcf hl)
  simp only [asAddr, Sem.run_pure, Result.andThen_ok, e]
def prL (i : Nat) : Int := if i = 0 then 65517 else if i = 15 then 32767 else 65535
theorem prL_bound (i : Nat) : 0 ≤ prL i ∧ prL i < 65536 := by unfold prL; split <;> (try split) <;> omega
set_option maxHeartbeats 400000 in
theorem prime_any (i : Nat) (w : World) : Calls Tryz.prog 113 #[.int .i64 (i : Int)] w fun e w' => e = .returned (.int .u64 (prL i)) ∧ w = w' := by
  by_cases h0 : i = 0
  · subst h0
    go_enter Tryz.func113, Tryz.ntmps113
    go_wp2_with fail
    go_ret
    exact ⟨rfl, rfl⟩
  · have e0 : ((i : Int) == 0) = false := beq_eq_false_iff_ne.2 (by omega)
    by_cases h1 : i = 15
    · subst h1
      go_enter Tryz.func113, Tryz.ntmps113
      go_wp2_with fail
      go_ret
      exact ⟨rfl, rfl⟩
    · have e1 : ((i : Int) == 15) = false := beq_eq_false_iff_ne.2 (by omega)
      have E : Hid (prL i = 65535) := Lib.hid (by unfold prL; rw [if_neg h0, if_neg h1])
      clear h0 h1
      go_enter Tryz.func113, Tryz.ntmps113
      go_wp2_with fail
      go_ret
      exact ⟨by rw [E.out]; rfl, rfl⟩
end Go.Proofs.YtfdjmdfaidiliaaGreatDoor
namespace Go.Proofs.YtfdjmdfaidiliaaGreatDoor
open Go.RowKit
set_option maxRecDepth 20000
def lz (Z : Int) (i : Nat) : Int := Z / 65536 ^ i % 65536
theorem lz_bound (Z : Int) (i : Nat) : 0 ≤ lz Z i ∧ lz Z i < 65536 := by unfold lz; omega
theorem lz_word0 {Z : Int} {k : Nat} (hq : (k : Int) / 4 = 0) : w0 Z / 2 ^ (16 * (k % 4)) % 65536 = lz Z k := by
  rcases (show k = 0 ∨ k = 1 ∨ k = 2 ∨ k = 3 by omega) with rfl | rfl | rfl | rfl
  · unfold lz; rw [show (65536 : Int) ^ 0 = 1 by decide, show (2 : Int) ^ (16 * (0 % 4)) = 1 by decide]; unfold w0; omega
  · unfold lz; rw [show (65536 : Int) ^ 1 = 65536 by decide, show (2 : Int) ^ (16 * (1 % 4)) = 65536 by decide]; unfold w0; omega
  · unfold lz; rw [show (65536 : Int) ^ 2 = 4294967296 by decide, show (2 : Int) ^ (16 * (2 % 4)) = 4294967296 by decide]; unfold w0; omega
  · unfold lz; rw [show (65536 : Int) ^ 3 = 281474976710656 by decide, show (2 : Int) ^ (16 * (3 % 4)) = 281474976710656 by decide]; unfold w0; omega
theorem lz_word1 {Z : Int} {k : Nat} (hq : (k : Int) / 4 = 1) : w1 Z / 2 ^ (16 * (k % 4)) % 65536 = lz Z k := by
  rcases (show k = 4 ∨ k = 5 ∨ k = 6 ∨ k = 7 by omega) with rfl | rfl | rfl | rfl
  · unfold lz; rw [show (65536 : Int) ^ 4 = 18446744073709551616 by decide, show (2 : Int) ^ (16 * (4 % 4)) = 1 by decide]; unfold w1; omega
  · unfold lz; rw [show (65536 : Int) ^ 5 = 1208925819614629174706176 by decide, show (2 : Int) ^ (16 * (5 % 4)) = 65536 by decide]; unfold w1; omega
  · unfold lz; rw [show (65536 : Int) ^ 6 = 79228162514264337593543950336 by decide, show (2 : Int) ^ (16 * (6 % 4)) = 4294967296 by decide]; unfold w1; omega
  · unfold lz; rw [show (65536 : Int) ^ 7 = 5192296858534827628530496329220096 by decide, show (2 : Int) ^ (16 * (7 % 4)) = 281474976710656 by decide]; unfold w1; omega
theorem lz_word2 {Z : Int} {k : Nat} (hq : (k : Int) / 4 = 2) : w2 Z / 2 ^ (16 * (k % 4)) % 65536 = lz Z k := by
  rcases (show k = 8 ∨ k = 9 ∨ k = 10 ∨ k = 11 by omega) with rfl | rfl | rfl | rfl
  · unfold lz; rw [show (65536 : Int) ^ 8 = 340282366920938463463374607431768211456 by decide, show (2 : Int) ^ (16 * (8 % 4)) = 1 by decide]; unfold w2; omega
  · unfold lz; rw [show (65536 : Int) ^ 9 = 22300745198530623141535718272648361505980416 by decide, show (2 : Int) ^ (16 * (9 % 4)) = 65536 by decide]; unfold w2; omega
  · unfold lz; rw [show (65536 : Int) ^ 10 = 1461501637330902918203684832716283019655932542976 by decide, show (2 : Int) ^ (16 * (10 % 4)) = 4294967296 by decide]; unfold w2; omega
  · unfold lz; rw [show (65536 : Int) ^ 11 = 95780971304118053647396689196894323976171195136475136 by decide, show (2 : Int) ^ (16 * (11 % 4)) = 281474976710656 by decide]; unfold w2; omega
theorem lz_word3 {Z : Int} {k : Nat} (hq : (k : Int) / 4 = 3) : w3 Z / 2 ^ (16 * (k % 4)) % 65536 = lz Z k := by
  rcases (show k = 12 ∨ k = 13 ∨ k = 14 ∨ k = 15 by omega) with rfl | rfl | rfl | rfl
  · unfold lz; rw [show (65536 : Int) ^ 12 = 6277101735386680763835789423207666416102355444464034512896 by decide, show (2 : Int) ^ (16 * (12 % 4)) = 1 by decide]; unfold w3; omega
  · unfold lz; rw [show (65536 : Int) ^ 13 = 411376139330301510538742295639337626245683966408394965837152256 by decide, show (2 : Int) ^ (16 * (13 % 4)) = 65536 by decide]; unfold w3; omega
  · unfold lz; rw [show (65536 : Int) ^ 14 = 26959946667150639794667015087019630673637144422540572481103610249216 by decide, show (2 : Int) ^ (16 * (14 % 4)) = 4294967296 by decide]; unfold w3; omega
  · unfold lz; rw [show (65536 : Int) ^ 15 = 1766847064778384329583297500742918515827483896875618958121606201292619776 by decide, show (2 : Int) ^ (16 * (15 % 4)) = 281474976710656 by decide]; unfold w3; omega
theorem lz_wordT0 {Z : Int} {k : Nat} (hq : (k : Int) / 4 = 0) : (w0 Z / 2 ^ (16 * (k % 4))).tmod 65536 = lz Z k := by
  rw [Int.tmod_eq_emod_of_nonneg (Int.ediv_nonneg (qa0 Z).1 (Int.le_of_lt (Int.pow_pos (by omega)))), lz_word0 hq]
theorem lz_wordT1 {Z : Int} {k : Nat} (hq : (k : Int) / 4 = 1) : (w1 Z / 2 ^ (16 * (k % 4))).tmod 65536 = lz Z k := by
  rw [Int.tmod_eq_emod_of_nonneg (Int.ediv_nonneg (qa3 Z).1 (Int.le_of_lt (Int.pow_pos (by omega)))), lz_word1 hq]
theorem lz_wordT2 {Z : Int} {k : Nat} (hq : (k : Int) / 4 = 2) : (w2 Z / 2 ^ (16 * (k % 4))).tmod 65536 = lz Z k := by
  rw [Int.tmod_eq_emod_of_nonneg (Int.ediv_nonneg (qa2 Z).1 (Int.le_of_lt (Int.pow_pos (by omega)))), lz_word2 hq]
theorem lz_wordT3 {Z : Int} {k : Nat} (hq : (k : Int) / 4 = 3) : (w3 Z / 2 ^ (16 * (k % 4))).tmod 65536 = lz Z k := by
  rw [Int.tmod_eq_emod_of_nonneg (Int.ediv_nonneg (qa1 Z).1 (Int.le_of_lt (Int.pow_pos (by omega)))), lz_word3 hq]
def lzTo (Z : Int) (k : Nat) : List Int := (List.range 16).map fun i => if i < k then lz Z i else 0
def lzAll (Z : Int) : List Int := (List.range 16).map fun i => lz Z i
theorem lzTo_len (Z : Int) (k : Nat) : (lzTo Z k).length = 16 := by simp [lzTo]
theorem qbs (Z : Int) : (lzAll Z).length = 16 := by simp [lzAll]
theorem lzTo_zero (Z : Int) : lzTo Z 0 = List.replicate 16 0 := by
  unfold lzTo
  rw [List.eq_replicate_iff]
  refine ⟨by simp, fun b hb => ?_⟩
  simp only [Nat.not_lt_zero, if_false, List.mem_map] at hb
  obtain ⟨_, _, rfl⟩ := hb
  rfl
theorem lzTo_all (Z : Int) : lzTo Z 16 = lzAll Z := by
  unfold lzTo lzAll
  apply List.map_congr_left
  intro i hi
  rw [if_pos (by simpa using hi)]
theorem lzTo_succ (Z : Int) (k : Nat) : (lzTo Z k).set k (lz Z k) = lzTo Z (k + 1) := by
  apply List.ext_getElem?
  intro i
  by_cases hi : i < 16
  · by_cases e : k = i
    · subst e; simp [lzTo, hi]
    · rw [List.getElem?_set_ne e]
      simp only [lzTo, List.getElem?_map, List.getElem?_range hi, Option.map_some]
      have : (i < k) ↔ (i < k + 1) := by omega
      simp only [this]
  · rw [List.getElem?_eq_none (by rw [List.length_set, lzTo_len]; omega), List.getElem?_eq_none (by rw [lzTo_len]; omega)]
theorem qc5 (Z : Int) : Limbs (lzAll Z) := fun b hb => by
  unfold lzAll at hb
  rw [List.mem_map] at hb
  obtain ⟨i, _, rfl⟩ := hb
  exact lz_bound Z i
theorem lzAll_nth (Z : Int) {i : Nat} (h : i < 16) : nth (lzAll Z) i = lz Z i := by simp [nth, lzAll, h]
theorem mod_mul_int {Z a b : Int} (h0 : 0 ≤ Z) (ha : 0 < a) (hb : 0 < b) : Z % a + a * (Z / a % b) = Z % (a * b) := by
  obtain ⟨n, rfl⟩ := Int.eq_ofNat_of_zero_le h0
  obtain ⟨x, rfl⟩ := Int.eq_ofNat_of_zero_le (Int.le_of_lt ha)
  obtain ⟨y, rfl⟩ := Int.eq_ofNat_of_zero_le (Int.le_of_lt hb)
  have h := congrArg (Nat.cast : Nat → Int) (Nat.mod_mul (x := n) (a := x) (b := y))
  simpa using h.symm
theorem lb_lzTo (Z : Int) (h0 : 0 ≤ Z) : ∀ k, k ≤ 16 → lb ((lzAll Z).take k) = Z % 65536 ^ k
  | 0, _ => by simp [lb, Int.emod_one]
  | k + 1, hk => by
    rw [qbn (by rw [qbs]; omega), lb_lzTo Z h0 k (by omega), lzAll_nth Z (by omega)]
    unfold lz
    rw [Int.pow_succ]
    exact mod_mul_int h0 (Int.pow_pos (by omega)) (by omega)
theorem lb_lzAll {Z : Int} (h : Num Z) : lb (lzAll Z) = Z := by
  have e := lb_lzTo Z h.1 16 (Nat.le_refl _)
  rw [List.take_of_length_le (by rw [qbs]; exact Nat.le_refl _), pow16, Int.emod_eq_of_lt h.1 h.2] at e
  exact e
structure LimI (w : World) (Z : Int) (g1 g2 k : Nat) (u : World) : Prop where
  bl : Below w.heap.size w u
  X : Var4 w.heap.size Z u
  R : LRow g1 (List.replicate 16 0) u
  V : LRow g2 (lzTo Z k) u
set_option maxHeartbeats 1000000 in
theorem limbs_any (X : Int) (w : World) :
    Calls Tryz.prog 94 #[feV X] w fun e w' => e = .returned (lV (lzAll X)) ∧ Below w.heap.size w w' := by
  have b1 : Below w.heap.size w (w.alloc (.cells #[.int .u64 (w0 X), .int .u64 (w1 X), .int .u64 (w2 X), .int .u64 (w3 X)] 47)) := (Below.refl _ _).alloc (Nat.le_refl _) _
  have hV := Var4.new w X
  go_enter Tryz.func94, Tryz.ntmps94
  go_upto_region 1 with fail
  have hs : w.heap.size + 1 = (w.alloc (.cells #[.int .u64 (w0 X), .int .u64 (w1 X), .int .u64 (w2 X), .int .u64 (w3 X)] 47)).heap.size := by simp
  rw [hs]
  have l0 := hV.lt
  generalize w.alloc (.cells #[.int .u64 (w0 X), .int .u64 (w1 X), .int .u64 (w2 X), .int .u64 (w3 X)] 47) = u0 at *
  clear hs
  have hR := LRow.zero u0
  have b2 : Below u0.heap.size u0 (u0.alloc (.cells #[.int .u64 0, .int .u64 0, .int .u64 0, .int .u64 0, .int .u64 0, .int .u64 0, .int .u64 0, .int .u64 0, .int .u64 0, .int .u64 0, .int .u64 0, .int .u64 0, .int .u64 0, .int .u64 0, .int .u64 0, .int .u64 0] 115)) := (Below.refl _ _).alloc (Nat.le_refl _) _
  replace hV := hV.below b2
  replace b1 := b1.trans (b2.mono b1.size)
  generalize u0.alloc (.cells #[.int .u64 0, .int .u64 0, .int .u64 0, .int .u64 0, .int .u64 0, .int .u64 0, .int .u64 0, .int .u64 0, .int .u64 0, .int .u64 0, .int .u64 0, .int .u64 0, .int .u64 0, .int .u64 0, .int .u64 0, .int .u64 0] 115) = u1 at *
  generalize u0.heap.size = g1 at *
  clear b2 u0
  have hB := LRow.zero u1
  have b2 : Below u1.heap.size u1 (u1.alloc (.cells #[.int .u64 0, .int .u64 0, .int .u64 0, .int .u64 0, .int .u64 0, .int .u64 0, .int .u64 0, .int .u64 0, .int .u64 0, .int .u64 0, .int .u64 0, .int .u64 0, .int .u64 0, .int .u64 0, .int .u64 0, .int .u64 0] 115)) := (Below.refl _ _).alloc (Nat.le_refl _) _
  have HB := Lib.hid hB; clear hB
  go_upto_region 2 with (refine wpList_store_mid rfl 115 (.tmp 3) (.tmp 5) rfl u1.heap.size 0 ((List.replicate 16 0).map (Value.int .u64)).toArray rfl rfl (by simpa using HB.out.thereAt) (by simpa using qcf (l := List.replicate 16 0) rfl) (lV_one _) ?_)
  replace HB := Lib.hid (HB.out.storeAll (l' := List.replicate 16 0) rfl)
  replace b2 := Below.setCells (Nat.le_refl u1.heap.size) ((List.replicate 16 0).map (Value.int .u64)) 0 b2
  have l1 := hR.lt
  replace hR := hR.below b2
  replace hV := hV.below b2
  replace b1 := b1.trans (b2.mono b1.size)
  generalize (u1.alloc (.cells #[.int .u64 0, .int .u64 0, .int .u64 0, .int .u64 0, .int .u64 0, .int .u64 0, .int .u64 0, .int .u64 0, .int .u64 0, .int .u64 0, .int .u64 0, .int .u64 0, .int .u64 0, .int .u64 0, .int .u64 0, .int .u64 0] 115)).setCells u1.heap.size 0 ((List.replicate 16 0).map (Value.int .u64)) = u2 at *
  generalize u1.heap.size = g2 at *
  clear b2 u1
  have hB := HB.out
  rw [← lzTo_zero X] at hB
  clear HB
  go_wp2_with fail
  go_loopw [4] (fun s u => ∃ k : Nat, k ≤ 16 ∧ s = .int .i64 (k : Int) ∧ LimI w X g1 g2 k u) (fun s _ => (16 - intOf s).toNat)
  case atStart => exact ⟨0, by omega, rfl, b1, hV, hR, hB⟩
  case round =>
    obtain ⟨k, hk, rfl, hI⟩ := hrel
    clear b1 hV hR hB
    obtain ⟨b1, hV, hR, hB⟩ := id hI
    obtain ⟨vl, v0, v1, v2, v3, vf0, vf1, vf2, vf3⟩ := id hV
    by_cases hlt : k = 16
    · subst hlt
      rw [lzTo_all] at hB
      have hk1 : ¬ (((16 : Nat) : Int) < 16) := by omega
      have HB := Lib.hid hB; clear hB
      have HR := Lib.hid hR; clear hR
      go_wp2_with (first | refine wpList_load_mid rfl 115 (.tmp 3) rfl g2 0 rfl ((lzAll X).map (Value.int .u64)) (.array 16 45) HB.out.range Tryz.underlying115 rfl (qcf (qbs X)) ?_ | refine wpList_store_mid rfl 115 (.tmp 2) _ rfl g1 0 ((lzAll X).map (Value.int .u64)).toArray rfl rfl (by simpa [qbs] using HR.out.thereAt) (by simpa using qcf (qbs X)) (lV_one _) ?_)
      have hT := World.rangeAt_setCells_same wr g1 0 ((lzAll X).map (Value.int .u64)) (by simpa [qbs] using HR.out.thereAt)
      refine bodyPost_ret (v := lV (lzAll X)) ?_ rfl ⟨rfl, ?_⟩
      · exact results_limbs Tryz.results94 rfl (qbs X) hT
      · exact Below.setCells (by omega) _ _ b1
    · have hk1 : (k : Int) < 16 := by omega
      have hk0 : (0 : Int) ≤ (k : Int) := by omega
      have hk3 : k < (lzTo X k).length := by rw [lzTo_len]; omega
      have hc := hB.c k hk3
      have hf := hB.f k
      have HB := Lib.hid (hB.set hk3 (lz X k)); clear hB
      have HR := Lib.hid hR; clear hR
      rcases (show (k : Int) / 4 = 0 ∨ (k : Int) / 4 = 1 ∨ (k : Int) / 4 = 2 ∨ (k : Int) / 4 = 3 by omega) with hq | hq | hq | hq
      · have hw := lz_wordT0 (Z := X) hq
        go_wp2_with fail
        exact ⟨⟨k + 1, by omega, by go_num, b1.setCell (p := ⟨g2, k, none⟩) (show w.heap.size ≤ g2 by omega) _, hV.far (by omega) _ _, HR.out.far (by omega) _ _, by rw [← lzTo_succ]; exact HB.out⟩, by simp [intOf]; omega⟩
      · have hw := lz_wordT1 (Z := X) hq
        go_wp2_with fail
        exact ⟨⟨k + 1, by omega, by go_num, b1.setCell (p := ⟨g2, k, none⟩) (show w.heap.size ≤ g2 by omega) _, hV.far (by omega) _ _, HR.out.far (by omega) _ _, by rw [← lzTo_succ]; exact HB.out⟩, by simp [intOf]; omega⟩
      · have hw := lz_wordT2 (Z := X) hq
        go_wp2_with fail
        exact ⟨⟨k + 1, by omega, by go_num, b1.setCell (p := ⟨g2, k, none⟩) (show w.heap.size ≤ g2 by omega) _, hV.far (by omega) _ _, HR.out.far (by omega) _ _, by rw [← lzTo_succ]; exact HB.out⟩, by simp [intOf]; omega⟩
      · have hw := lz_wordT3 (Z := X) hq
        go_wp2_with fail
        exact ⟨⟨k + 1, by omega, by go_num, b1.setCell (p := ⟨g2, k, none⟩) (show w.heap.size ≤ g2 by omega) _, hV.far (by omega) _ _, HR.out.far (by omega) _ _, by rw [← lzTo_succ]; exact HB.out⟩, by simp [intOf]; omega⟩
end Go.Proofs.YtfdjmdfaidiliaaGreatDoor
namespace Go.Proofs.YtfdjmdfaidiliaaGreatDoor
open Go.RowKit Go.Sort
set_option maxRecDepth 20000
end Go.Proofs.YtfdjmdfaidiliaaGreatDoor
namespace Go.Proofs.YtfdjmdfaidiliaaGreatDoor
open Go.RowKit Go.Sort
set_option maxRecDepth 20000
def prAll : List Int := (List.range 16).map prL
theorem prAll_len : prAll.length = 16 := by simp [prAll]
theorem prAll_lb : lb prAll = pp := by decide +kernel
theorem prAll_nth {i : Nat} (h : i < 16) : nth prAll i = prL i := by simp [nth, prAll, h]
theorem prAll_limbs : Limbs prAll := fun b hb => by
  unfold prAll at hb
  rw [List.mem_map] at hb
  obtain ⟨i, _, rfl⟩ := hb
  exact prL_bound i
theorem Limbs.take {l : List Int} (h : Limbs l) (k : Nat) : Limbs (l.take k) := fun b hb => h b (List.mem_of_mem_take hb)
theorem lb_take_lt {l : List Int} (h : Limbs l) {k : Nat} (hk : k ≤ l.length) : 0 ≤ lb (l.take k) ∧ lb (l.take k) < 65536 ^ k := by
  have h1 := lb_nonneg (h.take k).wides
  have h2 := lb_lt (h.take k)
  rw [List.length_take, Nat.min_eq_left hk] at h2
  exact ⟨h1, h2⟩
theorem drop_same {l : List Int} (hl : l.length = 16) {k : Nat} (h : ∀ j, k ≤ j → j < 16 → nth l j = prL j) : l.drop k = prAll.drop k := by
  apply List.ext_getElem?
  intro i
  rw [List.getElem?_drop, List.getElem?_drop]
  by_cases hi : k + i < 16
  · have e := h (k + i) (by omega) hi
    rw [← prAll_nth hi] at e
    unfold nth at e
    rw [List.getElem?_eq_getElem (by omega), List.getElem?_eq_getElem (by rw [prAll_len]; omega), Option.getD_some, Option.getD_some] at e
    rw [List.getElem?_eq_getElem (by omega), List.getElem?_eq_getElem (by rw [prAll_len]; omega), e]
  · rw [List.getElem?_eq_none (by omega), List.getElem?_eq_none (by rw [prAll_len]; omega)]
theorem least_at {l : List Int} (hl : l.length = 16) (hL : Limbs l) {i : Nat} (hi : i < 16) (h : ∀ j, i + 1 ≤ j → j < 16 → nth l j = prL j) (hne : nth l i ≠ prL i) : (lb l < pp) ↔ (nth l i < prL i) := by
  have e1 := lb_split l (i + 1) (by omega)
  have e2 := lb_split prAll (i + 1) (by rw [prAll_len]; omega)
  rw [prAll_lb, qbn (by rw [prAll_len]; omega), prAll_nth hi] at e2
  rw [qbn (by omega), drop_same hl h] at e1
  have b1 := lb_take_lt hL (k := i) (by omega)
  have b2 := lb_take_lt prAll_limbs (k := i) (by rw [prAll_len]; omega)
  generalize lb (l.take i) = a at *
  generalize lb (prAll.take i) = b at *
  generalize lb (prAll.drop (i + 1)) = r at *
  generalize nth l i = x at *
  generalize prL i = y at *
  generalize (65536 : Int) ^ (i + 1) * r = s at *
  generalize (65536 : Int) ^ i = M at *
  have hd : lb l - pp = a - b + M * (x - y) := by rw [e1, e2, Int.mul_sub]; omega
  constructor
  · intro hlt
    rcases Int.lt_or_gt_of_ne hne with h1 | h1
    · exact h1
    · exfalso
      have hm := Int.mul_le_mul_of_nonneg_left (show (1 : Int) ≤ x - y by omega) (show 0 ≤ M by omega)
      rw [Int.mul_one] at hm
      generalize M * (x - y) = t at *
      omega
  · intro hlt
    have hm := Int.mul_le_mul_of_nonneg_left (show x - y ≤ -1 by omega) (show 0 ≤ M by omega)
    rw [Int.mul_neg, Int.mul_one] at hm
    generalize M * (x - y) = t at *
    omega
theorem least_none {l : List Int} (hl : l.length = 16) (h : ∀ j, 0 ≤ j → j < 16 → nth l j = prL j) : ¬ lb l < pp := by
  have e := drop_same (k := 0) hl h
  rw [List.drop_zero, List.drop_zero] at e
  rw [e, prAll_lb]; omega
theorem prime_regrown (i : Nat) (u : World) : ∀ d os, Calls Tryz.prog 113 #[.int .i64 (i : Int)] (grow (redrawn u d) os) fun e w'' => e = .returned (.int .u64 (prL i)) ∧ ∃ p : Regrown, w'' = grow (redrawn u p.d) p.os := fun d os => (prime_any i _).mono fun _ _ ⟨he, hw⟩ => ⟨he, ⟨d, os⟩, hw.symm⟩
structure LeaI (w : World) (l : List Int) (k : Nat) (u : World) : Prop where
  bl : Below w.heap.size w u
  V : LRow w.heap.size l u
  eq : ∀ j, k ≤ j → j < 16 → nth l j = prL j
set_option maxHeartbeats 1000000 in
theorem least_any (l : List Int) (w : World) (hl : l.length = 16) (hL : Limbs l) :
    Calls Tryz.prog 112 #[lV l] w fun e w' => e = .returned (.bool (decide (lb l < pp))) ∧ Below w.heap.size w w' := by
  have HL := Lib.hid hl; clear hl
  have b1 : Below w.heap.size w (w.alloc (.cells (l.map (Value.int .u64)).toArray 115)) := (Below.refl _ _).alloc (Nat.le_refl _) _
  have hV := LRow.new w l
  go_enter Tryz.func112, Tryz.ntmps112
  go_wp2_with fail
  generalize w.alloc (.cells (l.map (Value.int .u64)).toArray 115) = u1 at *
  go_loopw [3] (fun s u => ∃ k : Nat, k ≤ 16 ∧ s = .int .i64 ((k : Int) - 1) ∧ LeaI w l k u) (fun s _ => (intOf s + 1).toNat)
  case atStart => exact ⟨16, by omega, rfl, b1, hV, fun j h1 h2 => by omega⟩
  case round =>
    obtain ⟨k, hk, rfl, hI⟩ := hrel
    clear b1 hV u1
    obtain ⟨b1, hV, hq⟩ := hI
    have Hq := Lib.hid hq; clear hq
    by_cases hlt : k = 0
    · subst hlt
      have hd : decide ((0 : Int) ≤ ((0 : Nat) : Int) - 1) = false := by decide
      have E : Hid (decide (lb l < pp) = false) := Lib.hid (decide_eq_false (least_none HL.out fun j _ h => Hq.out j (by omega) h))
      go_wp2_with fail
      go_ret
      exact ⟨by rw [E.out]; rfl, b1⟩
    · obtain ⟨j, rfl⟩ : ∃ j, k = j + 1 := ⟨k - 1, by omega⟩
      rw [show (((j + 1 : Nat) : Int) - 1) = (j : Int) from by omega]
      have hj : (j : Int) < 16 := by omega
      have hj0 : (0 : Int) ≤ (j : Int) := by omega
      have hjl : j < l.length := by rw [HL.out]; omega
      have hc := hV.c j hjl
      have kc := cell_regrown hc
      have cP := Lib.hid (prime_regrown j wr)
      by_cases he : nth l j = prL j
      · have hb : (nth l j != prL j) = false := by rw [he]; simp
        have He := Lib.hid he; clear he
        go_wp2_with fail
        refine wp_region_quiet_below (by kernel_rfl) (by kernel_rfl) ?_
        repeat (quiet_step (with_reducible exact cP.out _ _))
        refine wpQuiet_nil ?_
        intro _ hw'
        obtain ⟨⟨dq, osq⟩, hw''⟩ := hw'
        subst hw''
        go_wp2_with fail
        have bq := below_regrown wr dq osq
        exact ⟨⟨j, by omega, rfl, b1.trans (bq.mono b1.size), hV.below bq, fun i h1 h2 => by
          by_cases e : i = j
          · subst e; exact He.out
          · exact Hq.out i (by omega) h2⟩, by simp [intOf]⟩
      · have hb : (nth l j != prL j) = true := by rw [bne_iff_ne]; exact he
        have E : Hid (decide (lb l < pp) = decide (nth l j < prL j)) := Lib.hid (decide_eq_decide.2 (least_at HL.out hL (by omega) (fun i h1 h2 => Hq.out i h1 h2) he))
        clear he
        go_wp2_with fail
        refine wp_region_quiet_below (by kernel_rfl) (by kernel_rfl) ?_
        repeat (quiet_step (with_reducible exact cP.out _ _))
        refine wpQuiet_nil ?_
        intro _ hw'
        obtain ⟨⟨dq, osq⟩, hw''⟩ := hw'
        subst hw''
        have bq := below_regrown wr dq osq
        replace b1 := b1.trans (bq.mono b1.size)
        replace hV := hV.below bq
        clear bq kc hc cP
        generalize grow (redrawn wr dq) osq = u0 at *
        have hc := hV.c j hjl
        have kc := cell_regrown hc
        have cP := Lib.hid (prime_regrown j u0)
        go_wp2_with fail
        refine wp_region_quiet_below (by kernel_rfl) (by kernel_rfl) ?_
        repeat (quiet_step (with_reducible exact cP.out _ _))
        refine wpQuiet_nil ?_
        intro _ hw'
        obtain ⟨⟨dr, osr⟩, hw''⟩ := hw'
        subst hw''
        go_wp2_with fail
        go_ret
        exact ⟨by rw [E.out]; rfl, b1.trans ((below_regrown u0 dr osr).mono b1.size)⟩
end Go.Proofs.YtfdjmdfaidiliaaGreatDoor
namespace Go.Proofs.YtfdjmdfaidiliaaGreatDoor
open Go.RowKit
set_option maxRecDepth 20000
def Carried (l : List Int) (w : World) (e : Ending) (w' : World) : Prop := ∃ m : List Int, m.length = 16 ∧ Limbs m ∧ lb m % pp = lb l % pp ∧ e = .returned (lV m) ∧ Below w.heap.size w w'
theorem nth_set_same {m : List Int} {k : Nat} (h : k < m.length) (x : Int) : nth (m.set k x) k = x := by simp [nth, h]
theorem qdj {m : List Int} {k j : Nat} (h : k ≠ j) (x : Int) : nth (m.set k x) j = nth m j := by simp [nth, List.getElem?_set_ne h]
theorem take_set_lb {m : List Int} {k : Nat} (h : k < m.length) (x : Int) : lb ((m.set k x).take (k + 1)) = lb (m.take k) + 65536 ^ k * x := by
  rw [qbn (by rw [List.length_set]; exact h), nth_set_same h, List.take_set_of_le (Nat.le_refl k)]
theorem lb_set0 {m : List Int} (h : 0 < m.length) (x : Int) : lb (m.set 0 x) = lb m + (x - nth m 0) := by
  match m, h with
  | y :: t, _ => simp [lb, nth]; omega
theorem limbs_of_nth {m : List Int} (hm : m.length = 16) (h : ∀ j, j < 16 → 0 ≤ nth m j ∧ nth m j < 65536) : Limbs m := fun b hb => by
  obtain ⟨i, hi, rfl⟩ := List.getElem_of_mem hb
  have e := h i (by omega)
  unfold nth at e
  rwa [List.getElem?_eq_getElem hi, Option.getD_some] at e
theorem wides_set0 {m : List Int} (h : Limbs m) {x : Int} (h0 : 0 ≤ x) (h1 : x < 4611686018427387904) : Wides (m.set 0 x) := fun b hb => by
  rcases List.mem_or_eq_of_mem_set hb with h2 | h2
  · exact h.wides b h2
  · subst h2; exact ⟨h0, h1⟩
structure CarI (w : World) (l : List Int) (g1 k : Nat) (c : Int) (u : World) : Prop where
  bl : Below w.heap.size w u
  c0 : 0 ≤ c
  c1 : c < 140737488355328
  R : LRow g1 (List.replicate 16 0) u
  V : ∃ m : List Int, m.length = 16 ∧ LRow w.heap.size m u ∧ (∀ j, j < k → 0 ≤ nth m j ∧ nth m j < 65536) ∧ (∀ j, k ≤ j → j < 16 → nth m j = nth l j) ∧ lb (m.take k) + 65536 ^ k * c = lb (l.take k)
theorem CarI.step {w u : World} {l m : List Int} {g1 k : Nat} {c : Int} (hl : l.length = 16) (hW : Wides l) (hk : k < 16) (hg : g1 ≠ w.heap.size) (bl : Below w.heap.size w u) (c0 : 0 ≤ c) (c1 : c < 140737488355328) (R : LRow g1 (List.replicate 16 0) u)
    (hm : m.length = 16) (hV : LRow w.heap.size m u) (h1 : ∀ j, j < k → 0 ≤ nth m j ∧ nth m j < 65536) (h2 : ∀ j, k ≤ j → j < 16 → nth m j = nth l j) (h3 : lb (m.take k) + 65536 ^ k * c = lb (l.take k)) :
    CarI w l g1 (k + 1) ((c + nth l k) / 65536) (u.setCell ⟨w.heap.size, k, none⟩ (.int .u64 ((c + nth l k) % 65536))) := by
  have hb := hW.nth (k := k) (by omega)
  refine ⟨bl.setCell (p := ⟨w.heap.size, k, none⟩) (Nat.le_refl _) _, by omega, by omega, R.far (Ne.symm hg) _ _, m.set k ((c + nth l k) % 65536), by rw [List.length_set, hm], hV.set (by omega) _, ?_, ?_, ?_⟩
  · intro j hj
    by_cases e : k = j
    · subst e; rw [nth_set_same (by omega)]; omega
    · rw [qdj e]; exact h1 j (by omega)
  · intro j hj hj2
    rw [qdj (by omega)]; exact h2 j (by omega) hj2
  · rw [take_set_lb (by omega), qbn (by omega), ← h3, Int.pow_succ]
    generalize (65536 : Int) ^ k = M
    have e : c + nth l k = 65536 * ((c + nth l k) / 65536) + (c + nth l k) % 65536 := by omega
    generalize (c + nth l k) / 65536 = q at *
    generalize (c + nth l k) % 65536 = r at *
    have e2 : nth l k = 65536 * q + r - c := by omega
    rw [e2]; grind
set_option maxHeartbeats 2000000 in
theorem carry_upto : ∀ (n : Nat) (l : List Int) (w : World), l.length = 16 → Wides l → (lb l).toNat < n → Calls Tryz.prog 111 #[lV l] w (Carried l w)
  | 0, _, _, _, _, h => by omega
  | n + 1, l, w, hl, hW, hn => by
    have HI := Lib.hid (carry_upto n)
    have HL := Lib.hid hl; clear hl
    have b1 : Below w.heap.size w (w.alloc (.cells (l.map (Value.int .u64)).toArray 115)) := (Below.refl _ _).alloc (Nat.le_refl _) _
    have hV := LRow.new w l
    go_enter Tryz.func111, Tryz.ntmps111
    go_upto_region 1 with fail
    have hs : w.heap.size + 1 = (w.alloc (.cells (l.map (Value.int .u64)).toArray 115)).heap.size := by simp
    rw [hs]
    have l0 := hV.lt
    generalize w.alloc (.cells (l.map (Value.int .u64)).toArray 115) = u0 at *
    clear hs
    have hR := LRow.zero u0
    have b2 : Below u0.heap.size u0 (u0.alloc (.cells #[.int .u64 0, .int .u64 0, .int .u64 0, .int .u64 0, .int .u64 0, .int .u64 0, .int .u64 0, .int .u64 0, .int .u64 0, .int .u64 0, .int .u64 0, .int .u64 0, .int .u64 0, .int .u64 0, .int .u64 0, .int .u64 0] 115)) := (Below.refl _ _).alloc (Nat.le_refl _) _
    replace hV := hV.below b2
    replace b1 := b1.trans (b2.mono b1.size)
    generalize u0.alloc (.cells #[.int .u64 0, .int .u64 0, .int .u64 0, .int .u64 0, .int .u64 0, .int .u64 0, .int .u64 0, .int .u64 0, .int .u64 0, .int .u64 0, .int .u64 0, .int .u64 0, .int .u64 0, .int .u64 0, .int .u64 0, .int .u64 0] 115) = u1 at *
    generalize u0.heap.size = g1 at *
    clear b2 u0
    go_wp2_with fail
    go_loopw [3, 4] (fun s3 s4 u => ∃ (k : Nat) (c : Int), k ≤ 16 ∧ s3 = .int .u64 c ∧ s4 = .int .i64 (k : Int) ∧ CarI w l g1 k c u) (fun _ s4 _ => (16 - intOf s4).toNat)
    case atStart => exact ⟨0, 0, by omega, rfl, rfl, b1, by omega, by omega, hR, l, HL.out, hV, fun j h => by omega, fun j _ _ => rfl, by simp [lb]⟩
    case round =>
      obtain ⟨k, c, hk, rfl, rfl, hI⟩ := hrel
      clear b1 hV hR u1
      obtain ⟨b1, c0, c1, hR, m, hm, hV, h1, h2, h3⟩ := hI
      have H1 := Lib.hid h1; clear h1
      have H2 := Lib.hid h2; clear h2
      have H3 := Lib.hid h3; clear h3
      have Hm := Lib.hid hm; clear hm
      by_cases hlt : k = 16
      · subst hlt
        have hk1 : ¬ (((16 : Nat) : Int) < 16) := by omega
        have HM : Hid (Limbs m) := Lib.hid (limbs_of_nth Hm.out H1.out)
        have HN : Hid (lb m + 115792089237316195423570985008687907853269984665640564039457584007913129639936 * c = lb l) := Lib.hid (by
          have h := H3.out
          rwa [List.take_of_length_le (by rw [Hm.out]; exact Nat.le_refl _), List.take_of_length_le (by rw [HL.out]; exact Nat.le_refl _), pow16] at h)
        by_cases hc : c = 0
        · subst hc
          have HV := Lib.hid hV; clear hV
          have HR := Lib.hid hR; clear hR
          go_wp2_with (first | refine wpList_load_mid rfl 115 (.tmp 1) rfl w.heap.size 0 rfl (m.map (Value.int .u64)) (.array 16 45) HV.out.range Tryz.underlying115 rfl (qcf Hm.out) ?_ | refine wpList_store_mid rfl 115 (.tmp 2) _ rfl g1 0 (m.map (Value.int .u64)).toArray rfl rfl (by simpa [Hm.out] using HR.out.thereAt) (by simpa using qcf Hm.out) (lV_one _) ?_)
          have hT := World.rangeAt_setCells_same wr g1 0 (m.map (Value.int .u64)) (by simpa [Hm.out] using HR.out.thereAt)
          refine bodyPost_ret (v := lV m) ?_ rfl ⟨m, Hm.out, HM.out, by rw [← HN.out, Int.mul_zero, Int.add_zero], rfl, ?_⟩
          · exact results_limbs Tryz.results111 rfl Hm.out hT
          · exact Below.setCells (by omega) _ _ b1
        · have hz : (c == 0) = false := beq_eq_false_iff_ne.2 hc
          have hcp : 0 < c := by omega
          have hm0 := HM.out.nth (k := 0) (by rw [Hm.out]; omega)
          have q0 := hm0.1
          have q1 := hm0.2
          clear hm0 hc
          have k0 := hV.c 0 (by rw [Hm.out]; omega)
          have f0 := hV.f 0
          go_upto_region 11 with fail
          have hm0 : 0 < m.length := by rw [Hm.out]; omega
          replace hV := hV.set hm0 (nth m 0 + 38 * c)
          replace hR := hR.far (c := w.heap.size) (by omega) 0 (.int .u64 (nth m 0 + 38 * c))
          replace b1 := b1.setCell (p := ⟨w.heap.size, 0, none⟩) (Nat.le_refl _) (.int .u64 (nth m 0 + 38 * c))
          have HE : Hid (lb (m.set 0 (nth m 0 + 38 * c)) = lb m + 38 * c) := Lib.hid (by rw [lb_set0 hm0]; omega)
          have HW : Hid (Wides (m.set 0 (nth m 0 + 38 * c))) := Lib.hid (wides_set0 HM.out (by omega) (by omega))
          have HQ : Hid ((m.set 0 (nth m 0 + 38 * c)).length = 16) := Lib.hid (by rw [List.length_set, Hm.out])
          clear k0 f0
          generalize wr.setCell ⟨w.heap.size, 0, none⟩ (.int .u64 (nth m 0 + 38 * c)) = u0 at *
          generalize m.set 0 (nth m 0 + 38 * c) = m' at *
          have HV := Lib.hid hV; clear hV
          have hnn := lb_nonneg HM.out.wides
          have hlt : (lb m').toNat < n := by rw [HE.out]; have := HN.out; omega
          go_wp2_with (refine wpList_load_mid rfl 115 (.tmp 1) rfl w.heap.size 0 rfl (m'.map (Value.int .u64)) (.array 16 45) HV.out.range Tryz.underlying115 rfl (qcf HQ.out) ?_)
          refine (HI.out m' _ HQ.out HW.out hlt).mono ?_
          rintro e u2 ⟨r, hr1, hr2, hr3, rfl, hb⟩
          have Hr1 := Lib.hid hr1; clear hr1
          have HR := Lib.hid (hR.below hb); clear hR
          go_wp2_with (refine wpList_store_mid rfl 115 (.tmp 2) _ rfl g1 0 (r.map (Value.int .u64)).toArray rfl rfl (by simpa [Hr1.out] using HR.out.thereAt) (by simpa using qcf Hr1.out) (lV_one _) ?_)
          have hT := World.rangeAt_setCells_same u2 g1 0 (r.map (Value.int .u64)) (by simpa [Hr1.out] using HR.out.thereAt)
          refine bodyPost_ret (v := lV r) ?_ rfl ⟨r, Hr1.out, hr2, ?_, rfl, ?_⟩
          · exact results_limbs Tryz.results111 rfl Hr1.out hT
          · rw [hr3, HE.out, ← HN.out, show lb m + 115792089237316195423570985008687907853269984665640564039457584007913129639936 * c = lb m + 38 * c + pp * (2 * c) by unfold pp; omega, Int.add_mul_emod_self_left]
          · exact Below.setCells (by omega) _ _ (b1.trans (hb.mono b1.size))
      · have hk1 : (k : Int) < 16 := by omega
        have hk0 : (0 : Int) ≤ (k : Int) := by omega
        have hc := hV.c k (by rw [Hm.out]; omega)
        rw [H2.out k (by omega) (by omega)] at hc
        have hf := hV.f k
        have hb := hW.nth (k := k) (by rw [HL.out]; omega)
        have q0 := hb.1
        have q1 := hb.2
        have HS := Lib.hid (CarI.step HL.out hW (by omega) (by omega) b1 c0 c1 hR Hm.out hV H1.out H2.out H3.out)
        clear hb
        go_wp2_with fail
        exact ⟨⟨k + 1, _, by omega, rfl, by go_num, HS.out⟩, by simp [intOf]; omega⟩
theorem carry_any (l : List Int) (w : World) (hl : l.length = 16) (hW : Wides l) : Calls Tryz.prog 111 #[lV l] w (Carried l w) := carry_upto ((lb l).toNat + 1) l w hl hW (Nat.lt_succ_self _)
end Go.Proofs.YtfdjmdfaidiliaaGreatDoor
namespace Go.Proofs.YtfdjmdfaidiliaaGreatDoor
open Go.RowKit Go.Sort
set_option maxRecDepth 20000
theorem add_word0 {T v : Int} {k : Nat} (hq : (k : Int) / 4 = 0) (h0 : 0 ≤ T) (h1 : T < 65536 ^ k) (v0 : 0 ≤ v) (v1 : v < 65536) :
    IntKind.u64.wrap (w0 T + IntKind.u64.wrap (v * 2 ^ (16 * (k % 4)))) = w0 (T + 65536 ^ k * v) ∧ w1 T = w1 (T + 65536 ^ k * v) ∧ w2 T = w2 (T + 65536 ^ k * v) ∧ w3 T = w3 (T + 65536 ^ k * v) := by
  rcases (show k = 0 ∨ k = 1 ∨ k = 2 ∨ k = 3 by omega) with rfl | rfl | rfl | rfl
  · rw [show (65536 : Int) ^ 0 = 1 by decide] at *
    rw [show (2 : Int) ^ (16 * (0 % 4)) = 1 by decide, IntKind.wrap_u64, IntKind.wrap_u64]
    refine ⟨by unfold w0; omega, by unfold w1; omega, by unfold w2; omega, by unfold w3; omega⟩
  · rw [show (65536 : Int) ^ 1 = 65536 by decide] at *
    rw [show (2 : Int) ^ (16 * (1 % 4)) = 65536 by decide, IntKind.wrap_u64, IntKind.wrap_u64]
    refine ⟨by unfold w0; omega, by unfold w1; omega, by unfold w2; omega, by unfold w3; omega⟩
  · rw [show (65536 : Int) ^ 2 = 4294967296 by decide] at *
    rw [show (2 : Int) ^ (16 * (2 % 4)) = 4294967296 by decide, IntKind.wrap_u64, IntKind.wrap_u64]
    refine ⟨by unfold w0; omega, by unfold w1; omega, by unfold w2; omega, by unfold w3; omega⟩
  · rw [show (65536 : Int) ^ 3 = 281474976710656 by decide] at *
    rw [show (2 : Int) ^ (16 * (3 % 4)) = 281474976710656 by decide, IntKind.wrap_u64, IntKind.wrap_u64]
    refine ⟨by unfold w0; omega, by unfold w1; omega, by unfold w2; omega, by unfold w3; omega⟩
theorem add_word1 {T v : Int} {k : Nat} (hq : (k : Int) / 4 = 1) (h0 : 0 ≤ T) (h1 : T < 65536 ^ k) (v0 : 0 ≤ v) (v1 : v < 65536) :
    IntKind.u64.wrap (w1 T + IntKind.u64.wrap (v * 2 ^ (16 * (k % 4)))) = w1 (T + 65536 ^ k * v) ∧ w0 T = w0 (T + 65536 ^ k * v) ∧ w2 T = w2 (T + 65536 ^ k * v) ∧ w3 T = w3 (T + 65536 ^ k * v) := by
  rcases (show k = 4 ∨ k = 5 ∨ k = 6 ∨ k = 7 by omega) with rfl | rfl | rfl | rfl
  · rw [show (65536 : Int) ^ 4 = 18446744073709551616 by decide] at *
    rw [show (2 : Int) ^ (16 * (4 % 4)) = 1 by decide, IntKind.wrap_u64, IntKind.wrap_u64]
    refine ⟨by unfold w1; omega, by unfold w0; omega, by unfold w2; omega, by unfold w3; omega⟩
  · rw [show (65536 : Int) ^ 5 = 1208925819614629174706176 by decide] at *
    rw [show (2 : Int) ^ (16 * (5 % 4)) = 65536 by decide, IntKind.wrap_u64, IntKind.wrap_u64]
    refine ⟨by unfold w1; omega, by unfold w0; omega, by unfold w2; omega, by unfold w3; omega⟩
  · rw [show (65536 : Int) ^ 6 = 79228162514264337593543950336 by decide] at *
    rw [show (2 : Int) ^ (16 * (6 % 4)) = 4294967296 by decide, IntKind.wrap_u64, IntKind.wrap_u64]
    refine ⟨by unfold w1; omega, by unfold w0; omega, by unfold w2; omega, by unfold w3; omega⟩
  · rw [show (65536 : Int) ^ 7 = 5192296858534827628530496329220096 by decide] at *
    rw [show (2 : Int) ^ (16 * (7 % 4)) = 281474976710656 by decide, IntKind.wrap_u64, IntKind.wrap_u64]
    refine ⟨by unfold w1; omega, by unfold w0; omega, by unfold w2; omega, by unfold w3; omega⟩
theorem add_word2 {T v : Int} {k : Nat} (hq : (k : Int) / 4 = 2) (h0 : 0 ≤ T) (h1 : T < 65536 ^ k) (v0 : 0 ≤ v) (v1 : v < 65536) :
    IntKind.u64.wrap (w2 T + IntKind.u64.wrap (v * 2 ^ (16 * (k % 4)))) = w2 (T + 65536 ^ k * v) ∧ w0 T = w0 (T + 65536 ^ k * v) ∧ w1 T = w1 (T + 65536 ^ k * v) ∧ w3 T = w3 (T + 65536 ^ k * v) := by
  rcases (show k = 8 ∨ k = 9 ∨ k = 10 ∨ k = 11 by omega) with rfl | rfl | rfl | rfl
  · rw [show (65536 : Int) ^ 8 = 340282366920938463463374607431768211456 by decide] at *
    rw [show (2 : Int) ^ (16 * (8 % 4)) = 1 by decide, IntKind.wrap_u64, IntKind.wrap_u64]
    refine ⟨by unfold w2; omega, by unfold w0; omega, by unfold w1; omega, by unfold w3; omega⟩
  · rw [show (65536 : Int) ^ 9 = 22300745198530623141535718272648361505980416 by decide] at *
    rw [show (2 : Int) ^ (16 * (9 % 4)) = 65536 by decide, IntKind.wrap_u64, IntKind.wrap_u64]
    refine ⟨by unfold w2; omega, by unfold w0; omega, by unfold w1; omega, by unfold w3; omega⟩
  · rw [show (65536 : Int) ^ 10 = 1461501637330902918203684832716283019655932542976 by decide] at *
    rw [show (2 : Int) ^ (16 * (10 % 4)) = 4294967296 by decide, IntKind.wrap_u64, IntKind.wrap_u64]
    refine ⟨by unfold w2; omega, by unfold w0; omega, by unfold w1; omega, by unfold w3; omega⟩
  · rw [show (65536 : Int) ^ 11 = 95780971304118053647396689196894323976171195136475136 by decide] at *
    rw [show (2 : Int) ^ (16 * (11 % 4)) = 281474976710656 by decide, IntKind.wrap_u64, IntKind.wrap_u64]
    refine ⟨by unfold w2; omega, by unfold w0; omega, by unfold w1; omega, by unfold w3; omega⟩
theorem add_word3 {T v : Int} {k : Nat} (hq : (k : Int) / 4 = 3) (h0 : 0 ≤ T) (h1 : T < 65536 ^ k) (_v0 : 0 ≤ v) (_v1 : v < 65536) :
    IntKind.u64.wrap (w3 T + IntKind.u64.wrap (v * 2 ^ (16 * (k % 4)))) = w3 (T + 65536 ^ k * v) ∧ w0 T = w0 (T + 65536 ^ k * v) ∧ w1 T = w1 (T + 65536 ^ k * v) ∧ w2 T = w2 (T + 65536 ^ k * v) := by
  rcases (show k = 12 ∨ k = 13 ∨ k = 14 ∨ k = 15 by omega) with rfl | rfl | rfl | rfl
  · rw [show (65536 : Int) ^ 12 = 6277101735386680763835789423207666416102355444464034512896 by decide] at *
    rw [show (2 : Int) ^ (16 * (12 % 4)) = 1 by decide, IntKind.wrap_u64, IntKind.wrap_u64]
    refine ⟨by unfold w3; omega, by unfold w0; omega, by unfold w1; omega, by unfold w2; omega⟩
  · rw [show (65536 : Int) ^ 13 = 411376139330301510538742295639337626245683966408394965837152256 by decide] at *
    rw [show (2 : Int) ^ (16 * (13 % 4)) = 65536 by decide, IntKind.wrap_u64, IntKind.wrap_u64]
    refine ⟨by unfold w3; omega, by unfold w0; omega, by unfold w1; omega, by unfold w2; omega⟩
  · rw [show (65536 : Int) ^ 14 = 26959946667150639794667015087019630673637144422540572481103610249216 by decide] at *
    rw [show (2 : Int) ^ (16 * (14 % 4)) = 4294967296 by decide, IntKind.wrap_u64, IntKind.wrap_u64]
    refine ⟨by unfold w3; omega, by unfold w0; omega, by unfold w1; omega, by unfold w2; omega⟩
  · rw [show (65536 : Int) ^ 15 = 1766847064778384329583297500742918515827483896875618958121606201292619776 by decide] at *
    rw [show (2 : Int) ^ (16 * (15 % 4)) = 281474976710656 by decide, IntKind.wrap_u64, IntKind.wrap_u64]
    refine ⟨by unfold w3; omega, by unfold w0; omega, by unfold w1; omega, by unfold w2; omega⟩
def lbAt (u : World) (b : Nat) : Nat := (lb ((List.range 16).map fun i => match u.cell? ⟨b, i, none⟩ with | some (.int _ z) => z | _ => 0)).toNat
theorem lbAt_eq {u : World} {b : Nat} {m : List Int} (hm : m.length = 16) (h : LRow b m u) : lbAt u b = (lb m).toNat := by
  unfold lbAt
  congr 2
  apply List.ext_getElem?
  intro i
  by_cases hi : i < 16
  · have hc := h.c i (by omega)
    simp only [List.getElem?_map, List.getElem?_range hi, Option.map_some, hc]
    unfold nth
    rw [List.getElem?_eq_getElem (by omega), Option.getD_some]
  · rw [List.getElem?_eq_none (by simp; omega), List.getElem?_eq_none (by omega)]
structure SubI (w : World) (m : List Int) (g1 k : Nat) (b : Int) (u : World) : Prop where
  bl : Below w.heap.size w u
  b0 : 0 ≤ b
  b1 : b ≤ 1
  R : Var4 g1 0 u
  V : ∃ r : List Int, r.length = 16 ∧ LRow w.heap.size r u ∧ (∀ j, j < k → 0 ≤ nth r j ∧ nth r j < 65536) ∧ (∀ j, k ≤ j → j < 16 → nth r j = nth m j) ∧ lb (r.take k) = lb (m.take k) - lb (prAll.take k) + 65536 ^ k * b
theorem SubI.step {w u : World} {m r : List Int} {g1 k : Nat} {b x : Int} (hm : m.length = 16) (hM : Limbs m) (hk : k < 16) (hg : g1 ≠ w.heap.size) (bl : Below w.heap.size w u) (b0 : 0 ≤ b) (b1 : b ≤ 1) (R : Var4 g1 0 u)
    (hr : r.length = 16) (hV : LRow w.heap.size r u) (h1 : ∀ j, j < k → 0 ≤ nth r j ∧ nth r j < 65536) (h2 : ∀ j, k ≤ j → j < 16 → nth r j = nth m j) (h3 : lb (r.take k) = lb (m.take k) - lb (prAll.take k) + 65536 ^ k * b) (hx : x = nth m k + 65536 - prL k - b) :
    SubI w m g1 (k + 1) (1 - x / 65536) (u.setCell ⟨w.heap.size, k, none⟩ (.int .u64 (x % 65536))) := by
  have hb := hM.nth (k := k) (by omega)
  have hp := prL_bound k
  refine ⟨bl.setCell (p := ⟨w.heap.size, k, none⟩) (Nat.le_refl _) _, by omega, by omega, R.far (Ne.symm hg) _ _, r.set k (x % 65536), by rw [List.length_set, hr], hV.set (by omega) _, ?_, ?_, ?_⟩
  · intro j hj
    by_cases e : k = j
    · subst e; rw [nth_set_same (by omega)]; omega
    · rw [qdj e]; exact h1 j (by omega)
  · intro j hj hj2
    rw [qdj (by omega)]; exact h2 j (by omega) hj2
  · rw [take_set_lb (by omega), qbn (by omega), qbn (by rw [prAll_len]; omega), prAll_nth hk, h3, Int.pow_succ]
    generalize (65536 : Int) ^ k = M
    have e : x = 65536 * (x / 65536) + x % 65536 := by omega
    generalize x / 65536 = q at *
    generalize x % 65536 = s at *
    have e2 : nth m k = 65536 * q + s - 65536 + prL k + b := by omega
    rw [e2]; grind
structure OutI (w : World) (m : List Int) (g1 g2 k : Nat) (u : World) : Prop where
  bl : Below w.heap.size w u
  L : LRow w.heap.size m u
  R : Var4 g1 0 u
  V : Var4 g2 (lb (m.take k)) u
theorem OutI.put {w u u' : World} {m : List Int} {g1 g2 k : Nat} (h : OutI w m g1 g2 k u) (hw : w.heap.size < g2) (h12 : g1 ≠ g2) {o : Nat} {v : Value} (hu : u' = (u.setCell ⟨g2, o, none⟩ v).drew) (hV : Var4 g2 (lb (m.take (k + 1))) (u.setCell ⟨g2, o, none⟩ v)) : OutI w m g1 g2 (k + 1) u' := by
  subst hu
  exact ⟨(h.bl.setCell (p := ⟨g2, o, none⟩) (Nat.le_of_lt hw) _).drew, (h.L.far (by omega) _ _).drew, (h.R.far (Ne.symm h12) _ _).drew, hV.drew⟩
end Go.Proofs.YtfdjmdfaidiliaaGreatDoor
namespace Go.Proofs.YtfdjmdfaidiliaaGreatDoor
open Go.RowKit Go.Sort
set_option maxRecDepth 20000
theorem sub_end {r q : List Int} {b : Int} (hr : r.length = 16) (hL : Limbs r) (hq : q.length = 16) (hM : Limbs q) (b0 : 0 ≤ b) (b1 : b ≤ 1) (hlt : ¬ lb r < pp) (h : lb (q.take 16) = lb (r.take 16) - lb (prAll.take 16) + 65536 ^ 16 * b) : lb q = lb r - pp := by
  rw [List.take_of_length_le (by omega), List.take_of_length_le (by omega), List.take_of_length_le (by rw [prAll_len]; omega), prAll_lb, pow16] at h
  have h1 := lb_lt hM
  have h2 := lb_lt hL
  rw [hq, pow16] at h1
  rw [hr, pow16] at h2
  unfold pp at *
  omega
set_option maxHeartbeats 4000000 in
theorem fe_limbs (l : List Int) (w : World) (hl : l.length = 16) (hW : Wides l) :
    Calls Tryz.prog 93 #[lV l] w fun e w' => e = .returned (feV (lb l % pp)) ∧ Below w.heap.size w w' := by
  have HL := Lib.hid hl; clear hl
  have b1 : Below w.heap.size w (w.alloc (.cells (l.map (Value.int .u64)).toArray 115)) := (Below.refl _ _).alloc (Nat.le_refl _) _
  have hV := LRow.new w l
  go_enter Tryz.func93, Tryz.ntmps93
  go_upto_region 1 with fail
  have hs : w.heap.size + 1 = (w.alloc (.cells (l.map (Value.int .u64)).toArray 115)).heap.size := by simp
  rw [hs]
  have l0 := hV.lt
  generalize w.alloc (.cells (l.map (Value.int .u64)).toArray 115) = u0 at *
  clear hs
  have hR := Var4.zero u0
  have b2 : Below u0.heap.size u0 (u0.alloc (.cells #[.int .u64 0, .int .u64 0, .int .u64 0, .int .u64 0] 47)) := (Below.refl _ _).alloc (Nat.le_refl _) _
  replace hV := hV.below b2
  replace b1 := b1.trans (b2.mono b1.size)
  generalize u0.alloc (.cells #[.int .u64 0, .int .u64 0, .int .u64 0, .int .u64 0] 47) = u1 at *
  generalize u0.heap.size = g1 at *
  clear b2 u0
  have HV := Lib.hid hV; clear hV
  go_wp2_with (refine wpList_load_mid rfl 115 (.tmp 1) rfl w.heap.size 0 rfl (l.map (Value.int .u64)) (.array 16 45) HV.out.range Tryz.underlying115 rfl (qcf HL.out) ?_)
  refine (carry_any l _ HL.out hW).mono ?_
  rintro e u2 ⟨m, hm, hM, hE, rfl, hb⟩
  have Hm := Lib.hid hm; clear hm
  have HE := Lib.hid hE; clear hE
  replace HV := Lib.hid (HV.out.below hb)
  replace hR := hR.below hb
  replace b1 := b1.trans (hb.mono b1.size)
  clear hb
  go_wp2_with (refine wpList_store_mid rfl 115 (.tmp 1) _ rfl w.heap.size 0 (m.map (Value.int .u64)).toArray rfl rfl (by simpa [HL.out, Hm.out] using HV.out.thereAt) (by simpa using qcf Hm.out) (lV_one _) ?_)
  simp only [Act.put]
  replace HV := Lib.hid (HV.out.storeAll (l' := m) (by rw [Hm.out, HL.out]))
  replace hR := hR.farAll (c := w.heap.size) (by omega) 0 (m.map (Value.int .u64))
  replace b1 := Below.setCells (Nat.le_refl w.heap.size) (m.map (Value.int .u64)) 0 b1
  generalize u2.setCells w.heap.size 0 (m.map (Value.int .u64)) = u0 at *
  clear u2 u1
  go_loopw [3] (fun _ u => Below w.heap.size w u ∧ Var4 g1 0 u ∧ ∃ r : List Int, r.length = 16 ∧ Limbs r ∧ lb r % pp = lb l % pp ∧ LRow w.heap.size r u) (fun _ u => lbAt u w.heap.size)
  case atStart => exact ⟨b1, hR, m, Hm.out, hM, HE.out, HV.out⟩
  case round =>
    obtain ⟨bl, R, r, hr, hL, hE, hV⟩ := hrel
    clear b1 hR HV HE Hm hM u0
    have Hr := Lib.hid hr; clear hr
    have HE := Lib.hid hE; clear hE
    have HV := Lib.hid hV; clear hV
    by_cases hlt : lb r < pp
    · have hd : decide (lb r < pp) = true := decide_eq_true hlt
      go_wp2_with (refine wpList_load_mid rfl 115 (.tmp 1) rfl w.heap.size 0 rfl (r.map (Value.int .u64)) (.array 16 45) HV.out.range Tryz.underlying115 rfl (qcf Hr.out) ?_)
      refine (least_any r _ Hr.out hL).mono ?_
      rintro e u1 ⟨rfl, hb⟩
      replace HV := Lib.hid (HV.out.below hb)
      replace R := R.below hb
      replace bl := bl.trans (hb.mono bl.size)
      clear hb
      have hV := Var4.zero u1
      have b2 : Below u1.heap.size u1 (u1.alloc (.cells #[.int .u64 0, .int .u64 0, .int .u64 0, .int .u64 0] 47)) := (Below.refl _ _).alloc (Nat.le_refl _) _
      go_wp2_with fail
      replace HV := Lib.hid (HV.out.below b2)
      have l1 := R.lt
      replace R := R.below b2
      replace bl := bl.trans (b2.mono bl.size)
      generalize u1.alloc (.cells #[.int .u64 0, .int .u64 0, .int .u64 0, .int .u64 0] 47) = u2 at *
      generalize u1.heap.size = g2 at *
      clear b2 u1
      have E : Hid (lb r = lb l % pp) := Lib.hid (by rw [← HE.out, Int.emod_eq_of_lt (lb_nonneg hL.wides) hlt])
      clear HE hlt hd
      go_loopw [7] (fun s u => ∃ k : Nat, k ≤ 16 ∧ s = .int .i64 (k : Int) ∧ OutI w r g1 g2 k u) (fun s _ => (16 - intOf s).toNat)
      case atStart => exact ⟨0, by omega, rfl, bl, HV.out, R, hV⟩
      case round =>
        obtain ⟨k, hk, rfl, hI⟩ := hrel
        clear bl HV R hV
        obtain ⟨b1, hV1, hR, hV⟩ := id hI
        obtain ⟨vl, v0, v1, v2, v3, vf0, vf1, vf2, vf3⟩ := id hV
        by_cases hlt : k = 16
        · subst hlt
          have E2 : Hid (lb (r.take 16) = lb l % pp) := Lib.hid (by rw [List.take_of_length_le (by rw [Hr.out]; omega), E.out])
          have hk1 : ¬ (((16 : Nat) : Int) < 16) := by omega
          rw [E2.out] at v0 v1 v2 v3
          obtain ⟨vl', v0', v1', v2', v3', vf0', vf1', vf2', vf3'⟩ := hR
          go_wp2_with fail
          refine bodyPost_ret (v := feV (lb l % pp)) (by simp [results, Tryz.results93, go_sem, v0', v1', v2', v3']) rfl ⟨rfl, ?_⟩
          have hw1 : w.heap.size ≤ g1 := by omega
          exact (((b1.setCell hw1 _).setCell hw1 _).setCell hw1 _).setCell hw1 _
        · have hk1 : (k : Int) < 16 := by omega
          have hk0 : (0 : Int) ≤ (k : Int) := by omega
          have hk3 : k < r.length := by rw [Hr.out]; omega
          have hc := hV1.c k hk3
          have ht := lb_take_lt hL (k := k) (by omega)
          have hn := hL.nth hk3
          have HT := Lib.hid (qbn hk3)
          rcases (show (k : Int) / 4 = 0 ∨ (k : Int) / 4 = 1 ∨ (k : Int) / 4 = 2 ∨ (k : Int) / 4 = 3 by omega) with hq | hq | hq | hq
          · obtain ⟨p0, p1, p2, p3⟩ := add_word0 hq ht.1 ht.2 hn.1 hn.2
            rw [← HT.out] at p0 p1 p2 p3
            have P1 := Lib.hid p1; clear p1
            have P2 := Lib.hid p2; clear p2
            have P3 := Lib.hid p3; clear p3
            clear ht hn
            go_wp2_with fail
            go_region
            go_wp2_with fail
            exact ⟨⟨k + 1, by omega, by go_num, hI.put (by omega) (by omega) rfl (hV.put0 P1.out P2.out P3.out)⟩, by simp [intOf]; omega⟩
          · obtain ⟨p0, p1, p2, p3⟩ := add_word1 hq ht.1 ht.2 hn.1 hn.2
            rw [← HT.out] at p0 p1 p2 p3
            have P1 := Lib.hid p1; clear p1
            have P2 := Lib.hid p2; clear p2
            have P3 := Lib.hid p3; clear p3
            clear ht hn
            go_wp2_with fail
            go_region
            go_wp2_with fail
            exact ⟨⟨k + 1, by omega, by go_num, hI.put (by omega) (by omega) rfl (hV.put1 P1.out P2.out P3.out)⟩, by simp [intOf]; omega⟩
          · obtain ⟨p0, p1, p2, p3⟩ := add_word2 hq ht.1 ht.2 hn.1 hn.2
            rw [← HT.out] at p0 p1 p2 p3
            have P1 := Lib.hid p1; clear p1
            have P2 := Lib.hid p2; clear p2
            have P3 := Lib.hid p3; clear p3
            clear ht hn
            go_wp2_with fail
            go_region
            go_wp2_with fail
            exact ⟨⟨k + 1, by omega, by go_num, hI.put (by omega) (by omega) rfl (hV.put2 P1.out P2.out P3.out)⟩, by simp [intOf]; omega⟩
          · obtain ⟨p0, p1, p2, p3⟩ := add_word3 hq ht.1 ht.2 hn.1 hn.2
            rw [← HT.out] at p0 p1 p2 p3
            have P1 := Lib.hid p1; clear p1
            have P2 := Lib.hid p2; clear p2
            have P3 := Lib.hid p3; clear p3
            clear ht hn
            go_wp2_with fail
            go_region
            go_wp2_with fail
            exact ⟨⟨k + 1, by omega, by go_num, hI.put (by omega) (by omega) rfl (hV.put3 P1.out P2.out P3.out)⟩, by simp [intOf]; omega⟩
    · have hd : decide (lb r < pp) = false := decide_eq_false hlt
      go_wp2_with (refine wpList_load_mid rfl 115 (.tmp 1) rfl w.heap.size 0 rfl (r.map (Value.int .u64)) (.array 16 45) HV.out.range Tryz.underlying115 rfl (qcf Hr.out) ?_)
      refine (least_any r _ Hr.out hL).mono ?_
      rintro e u1 ⟨rfl, hb⟩
      have hM0 := lbAt_eq Hr.out HV.out
      have HM0 := Lib.hid hM0; clear hM0
      replace HV := Lib.hid (HV.out.below hb)
      replace R := R.below hb
      replace bl := bl.trans (hb.mono bl.size)
      clear hb
      go_wp2_with fail
      go_loopw [3, 4] (fun s3 s4 u => ∃ (k : Nat) (b : Int), k ≤ 16 ∧ s3 = .int .u64 b ∧ s4 = .int .i64 (k : Int) ∧ SubI w r g1 k b u) (fun _ s4 _ => (16 - intOf s4).toNat)
      case atStart => exact ⟨0, 0, by omega, rfl, rfl, bl, by omega, by omega, R, r, Hr.out, HV.out, fun j h => by omega, fun j _ _ => rfl, by simp [lb]⟩
      case round =>
        obtain ⟨k, b, hk, rfl, rfl, hI⟩ := hrel
        obtain ⟨bl', c0, c1, hR, q, hq, hV, h1, h2, h3⟩ := hI
        have H1 := Lib.hid h1; clear h1
        have H2 := Lib.hid h2; clear h2
        have H3 := Lib.hid h3; clear h3
        have Hq := Lib.hid hq; clear hq
        by_cases hk16 : k = 16
        · subst hk16
          have hk1 : ¬ (((16 : Nat) : Int) < 16) := by omega
          have HM : Hid (Limbs q) := Lib.hid (limbs_of_nth Hq.out H1.out)
          have HN : Hid (lb q = lb r - pp) := Lib.hid (sub_end Hr.out hL Hq.out HM.out c0 c1 (by omega) H3.out)
          have hp : 0 ≤ lb q := lb_nonneg HM.out.wides
          go_wp2_with fail
          refine ⟨⟨bl', hR, q, Hq.out, HM.out, ?_, hV⟩, ?_⟩
          · rw [HN.out, ← HE.out, Int.sub_emod_right]
          · rw [HM0.out, lbAt_eq Hq.out hV]
            have := HN.out
            unfold pp at this
            omega
        · have hk1 : (k : Int) < 16 := by omega
          have hk0 : (0 : Int) ≤ (k : Int) := by omega
          have hc := hV.c k (by rw [Hq.out]; omega)
          rw [H2.out k (by omega) (by omega)] at hc
          have hf := hV.f k
          have kc := cell_regrown hc
          have cP := Lib.hid (prime_regrown k wr)
          have hb := hL.nth (k := k) (by rw [Hr.out]; omega)
          have hpb := prL_bound k
          have q0 := hb.1
          have q1 := hb.2
          have q2 := hpb.1
          have q3 := hpb.2
          clear hb hpb
          have HS := Lib.hid (fun (u : World) (hu : Below wr.heap.size wr u) => SubI.step (x := nth r k + 65536 - prL k - b) Hr.out hL (by omega) (by omega) (bl'.trans (hu.mono bl'.size)) c0 c1 (hR.below hu) Hq.out (hV.below hu) H1.out H2.out H3.out rfl)
          go_upto_region 7 with fail
          refine wp_region_quiet_below (by kernel_rfl) (by kernel_rfl) ?_
          repeat (quiet_step (with_reducible exact cP.out _ _))
          refine wpQuiet_nil ?_
          intro _ hw'
          obtain ⟨⟨dq, osq⟩, hw''⟩ := hw'
          subst hw''
          have bq := below_regrown wr dq osq
          have e : IntKind.u64.wrap (IntKind.u64.wrap (IntKind.u64.wrap (nth r k + 65536) - prL k) - b) = nth r k + 65536 - prL k - b := by
            simp only [IntKind.wrap_u64]; omega
          rw [e]
          have hS := HS.out _ bq
          replace hf : (grow (redrawn wr dq) osq).frozen? ⟨w.heap.size, k, none⟩ = false := (hV.below bq).f k
          replace hc := (hV.below bq).c k (by rw [Hq.out]; omega)
          have x0 : 0 ≤ nth r k + 65536 - prL k - b := by omega
          have x1 : nth r k + 65536 - prL k - b < 131072 := by omega
          clear HS cP kc bq e
          generalize nth r k + 65536 - prL k - b = x at *
          generalize grow (redrawn wr dq) osq = u0 at *
          have HS := Lib.hid hS; clear hS
          clear hV H1 H2 H3 hR bl'
          go_wp2_with fail
          exact ⟨⟨k + 1, _, by omega, rfl, by go_num, HS.out⟩, by simp [intOf]; omega⟩
end Go.Proofs.YtfdjmdfaidiliaaGreatDoor
namespace Go.Proofs.YtfdjmdfaidiliaaGreatDoor
open Go.RowKit Go.Sort
set_option maxRecDepth 20000
theorem refcanon_any (X : Int) (w : World) (hX : Num X) :
    Calls Tryz.prog 64 #[feV X] w fun e w' => e = .returned (feV (X % pp)) ∧ Below w.heap.size w w' := by
  have b1 : Below w.heap.size w (w.alloc (.cells #[.int .u64 (w0 X), .int .u64 (w1 X), .int .u64 (w2 X), .int .u64 (w3 X)] 47)) := (Below.refl _ _).alloc (Nat.le_refl _) _
  have hV := Var4.new w X
  go_enter Tryz.func64, Tryz.ntmps64
  go_upto_region 1 with fail
  have hs : w.heap.size + 1 = (w.alloc (.cells #[.int .u64 (w0 X), .int .u64 (w1 X), .int .u64 (w2 X), .int .u64 (w3 X)] 47)).heap.size := by simp
  rw [hs]
  have l0 := hV.lt
  generalize w.alloc (.cells #[.int .u64 (w0 X), .int .u64 (w1 X), .int .u64 (w2 X), .int .u64 (w3 X)] 47) = u0 at *
  clear hs
  have hR := Var4.zero u0
  have b2 : Below u0.heap.size u0 (u0.alloc (.cells #[.int .u64 0, .int .u64 0, .int .u64 0, .int .u64 0] 47)) := (Below.refl _ _).alloc (Nat.le_refl _) _
  replace hV := hV.below b2
  replace b1 := b1.trans (b2.mono b1.size)
  generalize u0.alloc (.cells #[.int .u64 0, .int .u64 0, .int .u64 0, .int .u64 0] 47) = u1 at *
  generalize u0.heap.size = g1 at *
  clear b2 u0
  obtain ⟨vl, v0, v1, v2, v3, vf0, vf1, vf2, vf3⟩ := id hV
  go_wp2_with fail
  refine (limbs_any X _).mono ?_
  rintro e u2 ⟨rfl, hb⟩
  replace hR := hR.below hb
  replace b1 := b1.trans (hb.mono b1.size)
  clear vl v0 v1 v2 v3 vf0 vf1 vf2 vf3
  clear hb hV
  go_wp2_with fail
  refine (fe_limbs (lzAll X) _ (qbs X) (qc5 X).wides).mono ?_
  rintro e u3 ⟨rfl, hb⟩
  rw [lb_lzAll hX]
  replace hR := hR.below hb
  replace b1 := b1.trans (hb.mono b1.size)
  clear hb
  obtain ⟨vl, v0, v1, v2, v3, vf0, vf1, vf2, vf3⟩ := hR
  go_wp2_with fail
  refine bodyPost_ret (v := feV (X % pp)) (by simp [results, Tryz.results64, go_sem, v0, v1, v2, v3]) rfl ⟨rfl, ?_⟩
  have hw1 : w.heap.size ≤ g1 := by omega
  exact (((b1.setCell hw1 _).setCell hw1 _).setCell hw1 _).setCell hw1 _
end Go.Proofs.YtfdjmdfaidiliaaGreatDoor
