/- What keywardref01's Pow, Inv, even and Root answer. -/
import Derived.Test.YtfdjmdfaidiliaaDoorLimbs6
import Derived.Test.YtfdjmdfaidiliaaDoorEdOps
import Derived.Test.YtfdjmdfaidiliaaDoorGenA
import Derived.Test.YtfdjmdfaidiliaaDoorRootMath
namespace Go.Proofs.YtfdjmdfaidiliaaDoor
open Go.RowKit Go.Sort
set_option maxRecDepth 20000

theorem lb_set : ∀ {m : List Int} {j : Nat}, j < m.length → ∀ x : Int, lb (m.set j x) = lb m + 65536 ^ j * (x - nth m j)
  | [], j, h, _ => by simp at h
  | y :: t, 0, _, x => by simp [lb, nth]; omega
  | y :: t, j + 1, h, x => by
    have e := lb_set (m := t) (j := j) (by simpa using h) x
    rw [List.set_cons_succ, lb, lb, e, show nth (y :: t) (j + 1) = nth t j by simp [nth], Int.pow_succ, Int.mul_add, Int.mul_comm (65536 ^ j) 65536, Int.mul_assoc, Int.add_assoc]

theorem nth_zero (n j : Nat) : nth (List.replicate n 0) j = 0 := by
  simp only [nth, List.getElem?_replicate]; split <;> rfl
/-- Mul's loops: i limbs of the one, and k of the other by the next. -/
structure MuI (w : World) (a b : List Int) (g1 ga gb gr i k : Nat) (u : World) : Prop where
  bl : Below w.heap.size w u
  R : Var4 g1 0 u
  A : LRow ga a u
  B : LRow gb b u
  V : ∃ (r : List Int) (t : Int), r.length = 16 ∧ LRow gr r u ∧ (∀ j, j < 16 → 0 ≤ nth r j ∧ nth r j ≤ (16 * (i : Int) + k) * 163203776550) ∧ lb r + pp * t = lb (a.take i) * lb b + 65536 ^ i * (nth a i * lb (b.take k))
theorem mul_le {x y : Int} (h0 : 0 ≤ x) (h1 : x < 65536) (h2 : 0 ≤ y) (h3 : y < 65536) : 0 ≤ x * y ∧ x * y ≤ 4294836225 := by
  refine ⟨Int.mul_nonneg h0 h2, ?_⟩
  have := Int.mul_le_mul (show x ≤ 65535 by omega) (show y ≤ 65535 by omega) h2 (by omega)
  omega
theorem MuI.put {w u u' : World} {a b r : List Int} {g1 ga gb gr i k j : Nat} {t v : Int} (hb : b.length = 16) (hk : k < 16) (hw : w.heap.size ≤ gr) (h1 : g1 ≠ gr) (h2 : ga ≠ gr) (h3 : gb ≠ gr)
    (bl : Below w.heap.size w u) (R : Var4 g1 0 u) (A : LRow ga a u) (B : LRow gb b u) (hr : r.length = 16) (hV : LRow gr r u) (hn : ∀ j, j < 16 → 0 ≤ nth r j ∧ nth r j ≤ (16 * (i : Int) + k) * 163203776550) (ht : lb r + pp * t = lb (a.take i) * lb b + 65536 ^ i * (nth a i * lb (b.take k)))
    (hj : j < 16) (v0 : 0 ≤ v) (v1 : v ≤ 163203776550) (t' : Int) (hv : 65536 ^ j * v + pp * t' = 65536 ^ i * (nth a i * (65536 ^ k * nth b k)))
    (hu : u' = (u.setCell ⟨gr, j, none⟩ (.int .u64 (nth r j + v))).drew) : MuI w a b g1 ga gb gr i (k + 1) u' := by
  subst hu
  refine ⟨(bl.setCell (p := ⟨gr, j, none⟩) hw _).drew, (R.far (Ne.symm h1) _ _).drew, (A.far (Ne.symm h2) _ _).drew, (B.far (Ne.symm h3) _ _).drew, r.set j (nth r j + v), t + t', by rw [List.length_set, hr], (hV.set (by omega) _).drew, fun q hq => ?_, ?_⟩
  · have h := hn q hq
    have hb2 : (16 * (i : Int) + k) * 163203776550 + 163203776550 = (16 * (i : Int) + (k + 1 : Nat)) * 163203776550 := by rw [Int.natCast_add]; omega
    by_cases e : j = q
    · subst e; rw [nth_set_same (by omega)]; omega
    · rw [nth_set_other e]; omega
  · rw [lb_set (by omega), lb_take_succ (l := b) (by omega), show nth r j + v - nth r j = v by omega]
    generalize lb (b.take k) = B' at *
    generalize lb (a.take i) = A' at *
    generalize (65536 : Int) ^ i = M at *
    generalize (65536 : Int) ^ k = K at *
    generalize (65536 : Int) ^ j = J at *
    generalize pp = p at *
    grind
theorem MuI.turn {w u : World} {a b : List Int} {g1 ga gb gr i : Nat} (ha : a.length = 16) (hb : b.length = 16) (hi : i < 16) (h : MuI w a b g1 ga gb gr i 16 u) : MuI w a b g1 ga gb gr (i + 1) 0 u := by
  obtain ⟨bl, R, A, B, r, t, hr, hV, hn, ht⟩ := h
  refine ⟨bl, R, A, B, r, t, hr, hV, fun j hj => ?_, ?_⟩
  · have h := hn j hj
    have e : (16 * (i : Int) + (16 : Nat)) * 163203776550 = (16 * ((i + 1 : Nat) : Int) + (0 : Nat)) * 163203776550 := by rw [Int.natCast_add]; omega
    omega
  · rw [ht, List.take_of_length_le (l := b) (by omega), lb_take_succ (by omega), List.take_zero, show lb ([] : List Int) = 0 from rfl, Int.mul_zero, Int.mul_zero, Int.add_zero, Int.add_mul, Int.mul_assoc]
theorem wides_of_nth {m : List Int} (hm : m.length = 16) (h : ∀ j, j < 16 → 0 ≤ nth m j ∧ nth m j < 4611686018427387904) : Wides m := fun b hb => by
  obtain ⟨i, hi, rfl⟩ := List.getElem_of_mem hb
  have e := h i (by omega)
  unfold nth at e
  rwa [List.getElem?_eq_getElem hi, Option.getD_some] at e
theorem pow_turn {i k j : Nat} (h : i + k = j + 16) : (65536 : Int) ^ i * 65536 ^ k = 65536 ^ j * (2 * pp + 38) := by
  rw [← Int.pow_add, h, Int.pow_add, pow16]; rfl
end Go.Proofs.YtfdjmdfaidiliaaDoor
namespace Go.Proofs.YtfdjmdfaidiliaaDoor
open Go.RowKit
set_option maxRecDepth 20000

section
variable {w : World} {ρ : Operand → Value} {o : Oper} {t t' : TypeId} {x y : Operand} {a b : Int}
theorem run_addU (ho : o.op = .binOp .add t x y t') (hx : ρ x = .int .u64 a) (hy : ρ y = .int .u64 b) (h0 : 0 ≤ a + b) (h1 : a + b < 18446744073709551616) : (execOp ρ o).run Tryd.prog w = .ok (.value (.int .u64 (a + b))) w := by
  obtain ⟨dst, op, type, pos, after, guard⟩ := o
  subst ho
  have e : IntKind.u64.wrap (a + b) = a + b := by rw [wrap64]; omega
  go_simp
theorem run_subU (ho : o.op = .binOp .sub t x y t') (hx : ρ x = .int .u64 a) (hy : ρ y = .int .u64 b) (h0 : 0 ≤ a - b) (h1 : a - b < 18446744073709551616) : (execOp ρ o).run Tryd.prog w = .ok (.value (.int .u64 (a - b))) w := by
  obtain ⟨dst, op, type, pos, after, guard⟩ := o
  subst ho
  have e : IntKind.u64.wrap (a - b) = a - b := by rw [wrap64]; omega
  go_simp
theorem run_remU (ho : o.op = .binOp .rem t x y t') (hx : ρ x = .int .u64 a) (hy : ρ y = .int .u64 b) (h0 : 0 ≤ a) (h1 : 0 < b) : (execOp ρ o).run Tryd.prog w = .ok (.value (.int .u64 (a % b))) w := by
  obtain ⟨dst, op, type, pos, after, guard⟩ := o
  subst ho
  have hb : ¬ b = 0 := by omega
  go_simp
  rw [Int.tmod_eq_emod_of_nonneg h0]
theorem run_shrU {n : Nat} (ho : o.op = .binOp .shr t x y t') (hx : ρ x = .int .u64 a) (hy : ρ y = .int .u64 (n : Int)) (hn : n ≤ 64) : (execOp ρ o).run Tryd.prog w = .ok (.value (.int .u64 (a / 2 ^ n))) w := by
  obtain ⟨dst, op, type, pos, after, guard⟩ := o
  subst ho
  have hn0 : (0 : Int) ≤ (n : Int) := by omega
  go_simp
theorem run_stU {g i : Nat} {v : Value} (ho : o.op = .store 29 x y) (hx : ρ x = .pointer (some ⟨g, i, none⟩)) (hy : ρ y = .int .u64 a) (hc : w.cell? ⟨g, i, none⟩ = some v) (hf : w.frozen? ⟨g, i, none⟩ = false) : (execOp ρ o).run Tryd.prog w = .ok .skip (w.setCell ⟨g, i, none⟩ (.int .u64 a)) := by
  obtain ⟨dst, op, type, pos, after, guard⟩ := o
  subst ho
  go_simp
end
abbrev lL (l : List Int) : List Value := l.map (Value.int .u64)
theorem get_nth {l : List Int} {i : Nat} (h : i < l.length) : (lL l)[i]? = some (.int .u64 (nth l i)) := by
  unfold nth
  rw [List.getElem?_map, List.getElem?_eq_getElem h]; rfl
theorem set_lL (l : List Int) (i : Nat) (v : Int) : (lL l).set i (.int .u64 v) = lL (l.set i v) := by rw [← List.map_set]
theorem zq_len (n : Nat) : (zq n).length = n := List.length_replicate
theorem lL_len {l : List Int} {n : Nat} (h : l.length = n) : (lL l).length = (zq n).length := by rw [zq_len, List.length_map, h]
theorem enters_limbsF : Enters 76 := enters_of Tryd.func76 (by kernel_rfl) rfl
theorem enters_fe : Enters 75 := enters_of Tryd.func75 (by kernel_rfl) rfl

theorem feV_small {n : Int} (h0 : 0 ≤ n) (h1 : n < 4294967296) : feL n = [.int .u64 n, .int .u64 0, .int .u64 0, .int .u64 0] := by
  have e0 : w0 n = n := by unfold w0; omega
  have e1 : w1 n = 0 := by unfold w1; omega
  have e2 : w2 n = 0 := by unfold w2; omega
  have e3 : w3 n = 0 := by unfold w3; omega
  unfold feL
  rw [e0, e1, e2, e3]
theorem built_small (n : Int) : Tryd.prog.built 31 [(0, .int .u64 n), (1, .int .u64 0), (2, .int .u64 0), (3, .int .u64 0)] = some [.int .u64 n, .int .u64 0, .int .u64 0, .int .u64 0].toArray := by kernel_rfl
set_option maxHeartbeats 4000000 in
theorem rsmall_any (n : Int) (w : World) (h0 : 0 ≤ n) (h1 : n < 4294967296) : Calls Tryd.prog 50 #[.int .u32 n] w fun e w' => e = .returned (feV n) ∧ Below w.heap.size w w' := by
  have hM := Lib.hid (Mv.nil w)
  have HF := Lib.hid (feV_small h0 h1)
  have HB := Lib.hid (built_small n)
  rw [← HF.out] at HB
  go_enter Tryd.func50, Tryd.ntmps50
  go_upto_region 0 with fail; refine wp_region_lit ?_
  refine wpList_val (run_alc (vs := zq 4) rfl (by kernel_rfl)) rfl ?_; (try simp only [Act.put, List.setIfInBounds_toArray, List.set_cons_zero, List.set_cons_succ]); replace hM := Lib.hid (hM.out.new (zq 4) 31); generalize w.alloc (.cells (zq 4).toArray 31) = a1 at *; generalize w.heap.size = g1 at *
  refine wpList_end ?_
  go_upto_region 1 with fail; refine wp_region_lit ?_
  (repeat ((first | refine wpList_val (run_mv (v := b32 _) rfl rfl) rfl ?_ | refine wpList_val (run_mv (v := b64 _) rfl rfl) rfl ?_ | refine wpList_val (run_mv (v := b8 _) rfl rfl) rfl ?_ | refine wpList_val (run_mv (v := .int _ _) rfl rfl) rfl ?_ | refine wpList_val (run_mv (v := .bool _) rfl rfl) rfl ?_ | refine wpList_val (run_mv (v := .slice (some _) _ _) rfl rfl) rfl ?_ | refine wpList_val (run_mv (v := .slice _ _ _) rfl rfl) rfl ?_ | refine wpList_val (run_mv (v := .pointer (some _)) rfl rfl) rfl ?_ | refine wpList_val (run_mv (v := .agg _) rfl rfl) rfl ?_ | refine wpList_val (run_asg (v := b32 _) rfl rfl) rfl ?_ | refine wpList_val (run_asg (v := b64 _) rfl rfl) rfl ?_ | refine wpList_val (run_asg (v := b8 _) rfl rfl) rfl ?_ | refine wpList_val (run_asg (v := .int _ _) rfl rfl) rfl ?_ | refine wpList_val (run_asg (v := .bool _) rfl rfl) rfl ?_ | refine wpList_val (run_asg (v := .slice (some _) _ _) rfl rfl) rfl ?_ | refine wpList_val (run_asg (v := .slice _ _ _) rfl rfl) rfl ?_ | refine wpList_val (run_asg (v := .pointer (some _)) rfl rfl) rfl ?_ | refine wpList_val (run_asg (v := .agg _) rfl rfl) rfl ?_ | refine wpList_val (run_mv rfl rfl) rfl ?_ | refine wpList_val (run_asg rfl rfl) rfl ?_ | refine wpList_val (run_xor32 rfl rfl rfl) rfl ?_ | refine wpList_val (run_and32 rfl rfl rfl) rfl ?_ | refine wpList_val (run_or32 rfl rfl rfl) rfl ?_ | refine wpList_val (run_add32 rfl rfl rfl) rfl ?_ | refine wpList_val (run_not32 rfl rfl) rfl ?_ | refine wpList_val (run_xor64 rfl rfl rfl) rfl ?_ | refine wpList_val (run_and64 rfl rfl rfl) rfl ?_ | refine wpList_val (run_or64 rfl rfl rfl) rfl ?_ | refine wpList_val (run_add64 rfl rfl rfl) rfl ?_ | refine wpList_val (run_not64 rfl rfl) rfl ?_ | refine wpList_val (run_xor8 rfl rfl rfl) rfl ?_ | refine wpList_val (run_and8 rfl rfl rfl) rfl ?_ | refine wpList_val (run_or8 rfl rfl rfl) rfl ?_ | refine wpList_val (run_add8 rfl rfl rfl) rfl ?_ | refine wpList_val (run_not8 rfl rfl) rfl ?_ | refine wpList_val (run_cv64_32 rfl rfl) rfl ?_ | refine wpList_val (run_cv8_32 rfl rfl) rfl ?_ | refine wpList_val (run_cv8_64 rfl rfl) rfl ?_ | refine wpList_val (run_cv32_8 rfl rfl) rfl ?_ | refine wpList_val (run_cv64_8 rfl rfl) rfl ?_); (try simp only [Act.put, List.setIfInBounds_toArray, List.set_cons_zero, List.set_cons_succ])))
  refine wpList_val (run_cv (k := .u64) rfl Tryd.underlying75 Tryd.underlying29 rfl) rfl ?_; (try simp only [Act.put, List.setIfInBounds_toArray, List.set_cons_zero, List.set_cons_succ])
  rw [show IntKind.u64.wrap n = n by rw [wrap64]; omega]
  refine wpList_val (run_bld4 rfl rfl rfl rfl rfl HB.out) rfl ?_; (try simp only [Act.put, List.setIfInBounds_toArray, List.set_cons_zero, List.set_cons_succ])
  refine wpList_skip (run_stM (vs := feL n) rfl (szFe _) rfl rfl (oneFe _) ((hM.out.get (i := 0) rfl).there)) rfl rfl ?_; replace hM := Lib.hid (hM.out.put 0 rfl (m := feL n) rfl); generalize a1.setCells g1 0 (feL n) = a2 at *
  refine wpList_end ?_; go_wp2_with fail; refine bodyPost_ret (v := .agg (feL n).toArray) (results_rowB Tryd.results50 rfl Tryd.underlying31 rfl (szFe _) (hM.out.get (i := 0) rfl).range) rfl ⟨rfl, hM.out.bl⟩
theorem enters_rsmall : Enters 50 := enters_of Tryd.func50 (by kernel_rfl) rfl

/-- Limbs are added up, k of them so far, by what a function says. -/
structure AdI (a f : List Int) (k : Nat) (l : List Int) : Prop where
  len : l.length = 16
  bd : ∀ x ∈ l, 0 ≤ x ∧ x ≤ 200000 * (k + 1)
  eq : lb l = lb a + lb (f.take k)
theorem AdI.start {a f : List Int} (ha : a.length = 16) (hL : Limbs a) : AdI a f 0 a := ⟨ha, fun x hx => by have := hL x hx; omega, by simp [lb]⟩
theorem AdI.step {a f : List Int} (hf : f.length = 16) (hb : ∀ x ∈ f, 0 ≤ x ∧ x ≤ 131070) {k : Nat} {l : List Int} (h : AdI a f k l) (hk : k < 16) : AdI a f (k + 1) (l.set k (nth l k + nth f k)) := by
  have hlen := h.len
  have h1 := h.bd _ (nth_mem (show k < l.length by omega))
  have h2 := hb _ (nth_mem (show k < f.length by omega))
  refine ⟨by rw [List.length_set, h.len], fun x hx => ?_, ?_⟩
  · rcases List.mem_or_eq_of_mem_set hx with h3 | h3
    · have := h.bd x h3; omega
    · rw [h3]; omega
  · rw [lb_set (by omega), h.eq, lb_take_succ (by omega)]
    rw [show nth l k + nth f k - nth l k = nth f k by omega]
    omega
theorem AdI.wides {a f : List Int} {k : Nat} {l : List Int} (h : AdI a f k l) (hk : k ≤ 16) : Wides l := fun x hx => by have := h.bd x hx; omega
theorem AdI.get {a f : List Int} {k : Nat} {l : List Int} (h : AdI a f k l) (hk : k < 16) : 0 ≤ nth l k ∧ nth l k ≤ 200000 * (k + 1) := h.bd _ (nth_mem (by have := h.len; omega))

set_option maxHeartbeats 8000000 in
theorem radd_any (X Y : Int) (w : World) (hX : Num X) (hY : Num Y) : Calls Tryd.prog 52 #[feV X, feV Y] w fun e w' => e = .returned (feV ((X + Y) % pp)) ∧ Below w.heap.size w w' := by
  have hM := Lib.hid (Mv.nil w)
  have lA := lzAll_len X
  have lB := lzAll_len Y
  have HE : Hid (∀ l, AdI (lzAll X) (lzAll Y) 16 l → lb l = X + Y) := Lib.hid fun l h => by rw [h.eq, List.take_of_length_le (by omega), lb_lzAll hX, lb_lzAll hY]
  have dB := lzAll_limbs Y
  have S0 := Lib.hid (AdI.start (f := lzAll Y) lA (lzAll_limbs X))
  have SS : Hid (∀ (k : Nat) (l : List Int), AdI (lzAll X) (lzAll Y) k l → k < 16 → AdI (lzAll X) (lzAll Y) (k + 1) (l.set k (nth l k + nth (lzAll Y) k))) := Lib.hid fun k l h hk => h.step lB (fun x hx => by have := dB x hx; omega) hk
  have BB : Hid (∀ k, k < 16 → 0 ≤ nth (lzAll Y) k ∧ nth (lzAll Y) k < 65536) := Lib.hid fun k hk => dB.nth (by omega)
  have CA : Hid (∀ u, Calls Tryd.prog 76 #[feV X] u fun e w' => e = .returned (.agg (lL (lzAll X)).toArray) ∧ Below u.heap.size u w') := Lib.hid fun u => limbs_any X u
  have CB : Hid (∀ u, Calls Tryd.prog 76 #[feV Y] u fun e w' => e = .returned (.agg (lL (lzAll Y)).toArray) ∧ Below u.heap.size u w') := Lib.hid fun u => limbs_any Y u
  clear dB
  generalize lzAll X = A at *
  generalize lzAll Y = B at *
  have SA := Lib.hid (lV_size lA)
  have SB := Lib.hid (lV_size lB)
  go_enter Tryd.func52, Tryd.ntmps52
  go_upto_region 0 with fail; refine wp_region_lit ?_
  refine wpList_val (run_boxL (vs := feL X) rfl rfl) rfl ?_; (try simp only [Act.put, List.setIfInBounds_toArray, List.set_cons_zero, List.set_cons_succ]); replace hM := Lib.hid (hM.out.new (feL X) 31); generalize w.alloc (.cells (feL X).toArray 31) = a1 at *; generalize w.heap.size = g1 at *
  refine wpList_val (run_boxL (vs := feL Y) rfl rfl) rfl ?_; (try simp only [Act.put, List.setIfInBounds_toArray, List.set_cons_zero, List.set_cons_succ]); replace hM := Lib.hid (hM.out.new (feL Y) 31); generalize a1.alloc (.cells (feL Y).toArray 31) = a2 at *; generalize a1.heap.size = g2 at *
  refine wpList_val (run_alc (vs := zq 4) rfl (by kernel_rfl)) rfl ?_; (try simp only [Act.put, List.setIfInBounds_toArray, List.set_cons_zero, List.set_cons_succ]); replace hM := Lib.hid (hM.out.new (zq 4) 31); generalize a2.alloc (.cells (zq 4).toArray 31) = a3 at *; generalize a2.heap.size = g3 at *
  refine wpList_end ?_
  go_upto_region 1 with fail; refine wp_region_lit ?_
  refine wpList_val (run_ldM (vs := feL X) rfl Tryd.underlying31 rfl (szFe _) rfl ((hM.out.get (i := 2) rfl).range)) rfl ?_; (try simp only [Act.put, List.setIfInBounds_toArray, List.set_cons_zero, List.set_cons_succ])
  refine wpList_enter (run_call1 enters_limbsF rfl rfl rfl) rfl (CA.out _) (fun a4 hb => ?_); (try simp only [Act.put, List.setIfInBounds_toArray, List.set_cons_zero, List.set_cons_succ]); replace hM := Lib.hid (hM.out.below hb); clear hb
  refine wpList_val (run_alc (vs := zq 16) rfl (by kernel_rfl)) rfl ?_; (try simp only [Act.put, List.setIfInBounds_toArray, List.set_cons_zero, List.set_cons_succ]); replace hM := Lib.hid (hM.out.new (zq 16) 91); generalize a4.alloc (.cells (zq 16).toArray 91) = a5 at *; generalize a4.heap.size = g4 at *
  refine wpList_skip (run_stM (vs := lL A) rfl SA.out rfl rfl (lV_one _) (by rw [lL_len lA]; exact (hM.out.get (i := 0) rfl).there)) rfl rfl ?_
  replace hM := Lib.hid (hM.out.put 0 rfl (m := lL A) (lL_len lA))
  generalize a5.setCells g4 0 (lL A) = a6 at *
  refine wpList_end ?_
  go_upto_region 2 with fail; refine wp_region_lit ?_
  refine wpList_val (run_ldM (vs := feL Y) rfl Tryd.underlying31 rfl (szFe _) rfl ((hM.out.get (i := 2) rfl).range)) rfl ?_; (try simp only [Act.put, List.setIfInBounds_toArray, List.set_cons_zero, List.set_cons_succ])
  refine wpList_enter (run_call1 enters_limbsF rfl rfl rfl) rfl (CB.out _) (fun a7 hb => ?_); (try simp only [Act.put, List.setIfInBounds_toArray, List.set_cons_zero, List.set_cons_succ]); replace hM := Lib.hid (hM.out.below hb); clear hb
  refine wpList_val (run_alc (vs := zq 16) rfl (by kernel_rfl)) rfl ?_; (try simp only [Act.put, List.setIfInBounds_toArray, List.set_cons_zero, List.set_cons_succ]); replace hM := Lib.hid (hM.out.new (zq 16) 91); generalize a7.alloc (.cells (zq 16).toArray 91) = a8 at *; generalize a7.heap.size = g5 at *
  refine wpList_skip (run_stM (vs := lL B) rfl SB.out rfl rfl (lV_one _) (by rw [lL_len lB]; exact (hM.out.get (i := 0) rfl).there)) rfl rfl ?_
  replace hM := Lib.hid (hM.out.put 0 rfl (m := lL B) (lL_len lB))
  generalize a8.setCells g5 0 (lL B) = a9 at *
  refine wpList_end ?_
  go_upto_region 3 with fail; refine wp_region_lit ?_
  (repeat ((first | refine wpList_val (run_mv (v := b32 _) rfl rfl) rfl ?_ | refine wpList_val (run_mv (v := b64 _) rfl rfl) rfl ?_ | refine wpList_val (run_mv (v := b8 _) rfl rfl) rfl ?_ | refine wpList_val (run_mv (v := .int _ _) rfl rfl) rfl ?_ | refine wpList_val (run_mv (v := .bool _) rfl rfl) rfl ?_ | refine wpList_val (run_mv (v := .slice (some _) _ _) rfl rfl) rfl ?_ | refine wpList_val (run_mv (v := .slice _ _ _) rfl rfl) rfl ?_ | refine wpList_val (run_mv (v := .pointer (some _)) rfl rfl) rfl ?_ | refine wpList_val (run_mv (v := .agg _) rfl rfl) rfl ?_ | refine wpList_val (run_asg (v := b32 _) rfl rfl) rfl ?_ | refine wpList_val (run_asg (v := b64 _) rfl rfl) rfl ?_ | refine wpList_val (run_asg (v := b8 _) rfl rfl) rfl ?_ | refine wpList_val (run_asg (v := .int _ _) rfl rfl) rfl ?_ | refine wpList_val (run_asg (v := .bool _) rfl rfl) rfl ?_ | refine wpList_val (run_asg (v := .slice (some _) _ _) rfl rfl) rfl ?_ | refine wpList_val (run_asg (v := .slice _ _ _) rfl rfl) rfl ?_ | refine wpList_val (run_asg (v := .pointer (some _)) rfl rfl) rfl ?_ | refine wpList_val (run_asg (v := .agg _) rfl rfl) rfl ?_ | refine wpList_val (run_mv rfl rfl) rfl ?_ | refine wpList_val (run_asg rfl rfl) rfl ?_ | refine wpList_val (run_xor32 rfl rfl rfl) rfl ?_ | refine wpList_val (run_and32 rfl rfl rfl) rfl ?_ | refine wpList_val (run_or32 rfl rfl rfl) rfl ?_ | refine wpList_val (run_add32 rfl rfl rfl) rfl ?_ | refine wpList_val (run_not32 rfl rfl) rfl ?_ | refine wpList_val (run_xor64 rfl rfl rfl) rfl ?_ | refine wpList_val (run_and64 rfl rfl rfl) rfl ?_ | refine wpList_val (run_or64 rfl rfl rfl) rfl ?_ | refine wpList_val (run_add64 rfl rfl rfl) rfl ?_ | refine wpList_val (run_not64 rfl rfl) rfl ?_ | refine wpList_val (run_xor8 rfl rfl rfl) rfl ?_ | refine wpList_val (run_and8 rfl rfl rfl) rfl ?_ | refine wpList_val (run_or8 rfl rfl rfl) rfl ?_ | refine wpList_val (run_add8 rfl rfl rfl) rfl ?_ | refine wpList_val (run_not8 rfl rfl) rfl ?_ | refine wpList_val (run_cv64_32 rfl rfl) rfl ?_ | refine wpList_val (run_cv8_32 rfl rfl) rfl ?_ | refine wpList_val (run_cv8_64 rfl rfl) rfl ?_ | refine wpList_val (run_cv32_8 rfl rfl) rfl ?_ | refine wpList_val (run_cv64_8 rfl rfl) rfl ?_); (try simp only [Act.put, List.setIfInBounds_toArray, List.set_cons_zero, List.set_cons_succ])))
  refine wpList_end ?_
  go_wp2_with fail
  go_loopw [7] (fun s u => ∃ (k : Nat) (l : List Int), k ≤ 16 ∧ s = .int .i64 (k : Int) ∧ AdI A B k l ∧ Mv w [(g5, lL B), (g4, lL l), (g3, zq 4), (g2, feL Y), (g1, feL X)] u) (fun s _ => (16 - intOf s).toNat)
  case atStart => exact ⟨0, A, by omega, rfl, S0.out, hM.out⟩
  case round =>
    obtain ⟨k, l, hk, rfl, hA, hJ⟩ := hrel
    replace hM := Lib.hid hJ
    have HA := Lib.hid hA
    have hll := hA.len
    clear hJ hA
    by_cases hlt : k = 16
    · subst hlt
      have hk1 : ¬ (((16 : Nat) : Int) < 16) := by omega
      have hW := Lib.hid (HA.out.wides (Nat.le_refl _))
      have SL := Lib.hid (lV_size hll)
      have hv := HE.out l HA.out
      go_upto_region 7 with fail; refine wp_region_lit ?_
      refine wpList_val (run_ldM (vs := lL l) rfl Tryd.underlying91 rfl SL.out rfl (hM.out.get (i := 1) rfl).range) rfl ?_; (try simp only [Act.put, List.setIfInBounds_toArray, List.set_cons_zero, List.set_cons_succ])
      refine wpList_enter (run_call1 enters_fe rfl rfl rfl) rfl (fe_limbs l _ hll hW.out) (fun b1 hb => ?_); (try simp only [Act.put, List.setIfInBounds_toArray, List.set_cons_zero, List.set_cons_succ]); replace hM := Lib.hid (hM.out.below hb); clear hb
      rw [hv]
      refine wpList_skip (run_stM (vs := feL ((X + Y) % pp)) rfl (szFe _) rfl rfl (oneFe _) ((hM.out.get (i := 2) rfl).there)) rfl rfl ?_; replace hM := Lib.hid (hM.out.put 2 rfl (m := feL ((X + Y) % pp)) rfl); generalize b1.setCells g3 0 (feL ((X + Y) % pp)) = b2 at *
      refine wpList_end ?_; go_wp2_with fail; refine bodyPost_ret (v := .agg (feL ((X + Y) % pp)).toArray) (results_rowB Tryd.results52 rfl Tryd.underlying31 rfl (szFe _) (hM.out.get (i := 2) rfl).range) rfl ⟨rfl, hM.out.bl⟩
    · have hk1 : (k : Int) < 16 := by omega
      have HN := Lib.hid (SS.out k l HA.out (by omega))
      have hx := HA.out.get (show k < 16 by omega)
      have hy := BB.out k (by omega)
      have GL := Lib.hid (get_nth (l := l) (i := k) (by omega))
      have GB := Lib.hid (get_nth (l := B) (i := k) (by omega))
      generalize nth l k = x at *
      generalize nth B k = y at *
      go_upto_region 6 with fail; refine wp_region_calm 8 (by kernel_rfl) (by kernel_rfl) ?_
      (repeat ((first | refine wpCalm_step _ (fun V hV => calm_run (run_mv (v := b32 _) rfl rfl)) ?_ | refine wpCalm_step _ (fun V hV => calm_run (run_mv (v := b64 _) rfl rfl)) ?_ | refine wpCalm_step _ (fun V hV => calm_run (run_mv (v := b8 _) rfl rfl)) ?_ | refine wpCalm_step _ (fun V hV => calm_run (run_mv (v := .int _ _) rfl rfl)) ?_ | refine wpCalm_step _ (fun V hV => calm_run (run_mv (v := .bool _) rfl rfl)) ?_ | refine wpCalm_step _ (fun V hV => calm_run (run_mv (v := .slice (some _) _ _) rfl rfl)) ?_ | refine wpCalm_step _ (fun V hV => calm_run (run_mv (v := .slice _ _ _) rfl rfl)) ?_ | refine wpCalm_step _ (fun V hV => calm_run (run_mv (v := .pointer (some _)) rfl rfl)) ?_ | refine wpCalm_step _ (fun V hV => calm_run (run_mv (v := .agg _) rfl rfl)) ?_ | refine wpCalm_step _ (fun V hV => calm_run (run_asg (v := b32 _) rfl rfl)) ?_ | refine wpCalm_step _ (fun V hV => calm_run (run_asg (v := b64 _) rfl rfl)) ?_ | refine wpCalm_step _ (fun V hV => calm_run (run_asg (v := b8 _) rfl rfl)) ?_ | refine wpCalm_step _ (fun V hV => calm_run (run_asg (v := .int _ _) rfl rfl)) ?_ | refine wpCalm_step _ (fun V hV => calm_run (run_asg (v := .bool _) rfl rfl)) ?_ | refine wpCalm_step _ (fun V hV => calm_run (run_asg (v := .slice (some _) _ _) rfl rfl)) ?_ | refine wpCalm_step _ (fun V hV => calm_run (run_asg (v := .slice _ _ _) rfl rfl)) ?_ | refine wpCalm_step _ (fun V hV => calm_run (run_asg (v := .pointer (some _)) rfl rfl)) ?_ | refine wpCalm_step _ (fun V hV => calm_run (run_asg (v := .agg _) rfl rfl)) ?_ | refine wpCalm_step _ (fun V hV => calm_run (run_mv rfl rfl)) ?_ | refine wpCalm_step _ (fun V hV => calm_run (run_asg rfl rfl)) ?_ | refine wpCalm_step _ (fun V hV => calm_run (run_xor32 rfl rfl rfl)) ?_ | refine wpCalm_step _ (fun V hV => calm_run (run_and32 rfl rfl rfl)) ?_ | refine wpCalm_step _ (fun V hV => calm_run (run_or32 rfl rfl rfl)) ?_ | refine wpCalm_step _ (fun V hV => calm_run (run_add32 rfl rfl rfl)) ?_ | refine wpCalm_step _ (fun V hV => calm_run (run_not32 rfl rfl)) ?_ | refine wpCalm_step _ (fun V hV => calm_run (run_xor64 rfl rfl rfl)) ?_ | refine wpCalm_step _ (fun V hV => calm_run (run_and64 rfl rfl rfl)) ?_ | refine wpCalm_step _ (fun V hV => calm_run (run_or64 rfl rfl rfl)) ?_ | refine wpCalm_step _ (fun V hV => calm_run (run_add64 rfl rfl rfl)) ?_ | refine wpCalm_step _ (fun V hV => calm_run (run_not64 rfl rfl)) ?_ | refine wpCalm_step _ (fun V hV => calm_run (run_xor8 rfl rfl rfl)) ?_ | refine wpCalm_step _ (fun V hV => calm_run (run_and8 rfl rfl rfl)) ?_ | refine wpCalm_step _ (fun V hV => calm_run (run_or8 rfl rfl rfl)) ?_ | refine wpCalm_step _ (fun V hV => calm_run (run_add8 rfl rfl rfl)) ?_ | refine wpCalm_step _ (fun V hV => calm_run (run_not8 rfl rfl)) ?_ | refine wpCalm_step _ (fun V hV => calm_run (run_cv64_32 rfl rfl)) ?_ | refine wpCalm_step _ (fun V hV => calm_run (run_cv8_32 rfl rfl)) ?_ | refine wpCalm_step _ (fun V hV => calm_run (run_cv8_64 rfl rfl)) ?_ | refine wpCalm_step _ (fun V hV => calm_run (run_cv32_8 rfl rfl)) ?_ | refine wpCalm_step _ (fun V hV => calm_run (run_cv64_8 rfl rfl)) ?_); (try simp only [Act.put, List.setIfInBounds_toArray, List.set_cons_zero, List.set_cons_succ])))
      refine wpCalm_step _ (fun V hV => calm_run (run_ix0 (i := k) rfl Tryd.underlying91 (by kernel_rfl) rfl rfl (by omega))) ?_; (try simp only [Act.put, List.setIfInBounds_toArray, List.set_cons_zero, List.set_cons_succ])
      refine wpCalm_step _ (fun V hV => calm_run (run_ld64 rfl rfl (((hM.out.below hV).get (i := 1) rfl).c k _ GL.out))) ?_; (try simp only [Act.put, List.setIfInBounds_toArray, List.set_cons_zero, List.set_cons_succ])
      (repeat ((first | refine wpCalm_step _ (fun V hV => calm_run (run_mv (v := b32 _) rfl rfl)) ?_ | refine wpCalm_step _ (fun V hV => calm_run (run_mv (v := b64 _) rfl rfl)) ?_ | refine wpCalm_step _ (fun V hV => calm_run (run_mv (v := b8 _) rfl rfl)) ?_ | refine wpCalm_step _ (fun V hV => calm_run (run_mv (v := .int _ _) rfl rfl)) ?_ | refine wpCalm_step _ (fun V hV => calm_run (run_mv (v := .bool _) rfl rfl)) ?_ | refine wpCalm_step _ (fun V hV => calm_run (run_mv (v := .slice (some _) _ _) rfl rfl)) ?_ | refine wpCalm_step _ (fun V hV => calm_run (run_mv (v := .slice _ _ _) rfl rfl)) ?_ | refine wpCalm_step _ (fun V hV => calm_run (run_mv (v := .pointer (some _)) rfl rfl)) ?_ | refine wpCalm_step _ (fun V hV => calm_run (run_mv (v := .agg _) rfl rfl)) ?_ | refine wpCalm_step _ (fun V hV => calm_run (run_asg (v := b32 _) rfl rfl)) ?_ | refine wpCalm_step _ (fun V hV => calm_run (run_asg (v := b64 _) rfl rfl)) ?_ | refine wpCalm_step _ (fun V hV => calm_run (run_asg (v := b8 _) rfl rfl)) ?_ | refine wpCalm_step _ (fun V hV => calm_run (run_asg (v := .int _ _) rfl rfl)) ?_ | refine wpCalm_step _ (fun V hV => calm_run (run_asg (v := .bool _) rfl rfl)) ?_ | refine wpCalm_step _ (fun V hV => calm_run (run_asg (v := .slice (some _) _ _) rfl rfl)) ?_ | refine wpCalm_step _ (fun V hV => calm_run (run_asg (v := .slice _ _ _) rfl rfl)) ?_ | refine wpCalm_step _ (fun V hV => calm_run (run_asg (v := .pointer (some _)) rfl rfl)) ?_ | refine wpCalm_step _ (fun V hV => calm_run (run_asg (v := .agg _) rfl rfl)) ?_ | refine wpCalm_step _ (fun V hV => calm_run (run_mv rfl rfl)) ?_ | refine wpCalm_step _ (fun V hV => calm_run (run_asg rfl rfl)) ?_ | refine wpCalm_step _ (fun V hV => calm_run (run_xor32 rfl rfl rfl)) ?_ | refine wpCalm_step _ (fun V hV => calm_run (run_and32 rfl rfl rfl)) ?_ | refine wpCalm_step _ (fun V hV => calm_run (run_or32 rfl rfl rfl)) ?_ | refine wpCalm_step _ (fun V hV => calm_run (run_add32 rfl rfl rfl)) ?_ | refine wpCalm_step _ (fun V hV => calm_run (run_not32 rfl rfl)) ?_ | refine wpCalm_step _ (fun V hV => calm_run (run_xor64 rfl rfl rfl)) ?_ | refine wpCalm_step _ (fun V hV => calm_run (run_and64 rfl rfl rfl)) ?_ | refine wpCalm_step _ (fun V hV => calm_run (run_or64 rfl rfl rfl)) ?_ | refine wpCalm_step _ (fun V hV => calm_run (run_add64 rfl rfl rfl)) ?_ | refine wpCalm_step _ (fun V hV => calm_run (run_not64 rfl rfl)) ?_ | refine wpCalm_step _ (fun V hV => calm_run (run_xor8 rfl rfl rfl)) ?_ | refine wpCalm_step _ (fun V hV => calm_run (run_and8 rfl rfl rfl)) ?_ | refine wpCalm_step _ (fun V hV => calm_run (run_or8 rfl rfl rfl)) ?_ | refine wpCalm_step _ (fun V hV => calm_run (run_add8 rfl rfl rfl)) ?_ | refine wpCalm_step _ (fun V hV => calm_run (run_not8 rfl rfl)) ?_ | refine wpCalm_step _ (fun V hV => calm_run (run_cv64_32 rfl rfl)) ?_ | refine wpCalm_step _ (fun V hV => calm_run (run_cv8_32 rfl rfl)) ?_ | refine wpCalm_step _ (fun V hV => calm_run (run_cv8_64 rfl rfl)) ?_ | refine wpCalm_step _ (fun V hV => calm_run (run_cv32_8 rfl rfl)) ?_ | refine wpCalm_step _ (fun V hV => calm_run (run_cv64_8 rfl rfl)) ?_); (try simp only [Act.put, List.setIfInBounds_toArray, List.set_cons_zero, List.set_cons_succ])))
      refine wpCalm_step _ (fun V hV => calm_run (run_ix0 (i := k) rfl Tryd.underlying91 (by kernel_rfl) rfl rfl (by omega))) ?_; (try simp only [Act.put, List.setIfInBounds_toArray, List.set_cons_zero, List.set_cons_succ])
      refine wpCalm_step _ (fun V hV => calm_run (run_ld64 rfl rfl (((hM.out.below hV).get (i := 0) rfl).c k _ GB.out))) ?_; (try simp only [Act.put, List.setIfInBounds_toArray, List.set_cons_zero, List.set_cons_succ])
      refine wpCalm_step _ (fun V hV => calm_run (run_addU rfl rfl rfl (by omega) (by omega))) ?_; (try simp only [Act.put, List.setIfInBounds_toArray, List.set_cons_zero, List.set_cons_succ])
      refine wpCalm_step _ (fun V hV => calm_run (run_ix0 (i := k) rfl Tryd.underlying91 (by kernel_rfl) rfl rfl (by omega))) ?_; (try simp only [Act.put, List.setIfInBounds_toArray, List.set_cons_zero, List.set_cons_succ])
      refine wpCalm_done ?_; intro b1 hb; simp only [List.drop_succ_cons, List.drop_zero]
      replace hM := Lib.hid (hM.out.below hb)
      clear hb
      refine wpList_skip (run_stU rfl rfl rfl ((hM.out.get (i := 1) rfl).c k _ GL.out) ((hM.out.get (i := 1) rfl).f k)) rfl rfl ?_
      refine wpList_end ?_
      have hM2 : Hid (Mv w [(g5, lL B), (g4, lL (l.set k (x + y))), (g3, zq 4), (g2, feL Y), (g1, feL X)] (b1.setCell ⟨g4, k, none⟩ (.int .u64 (x + y)))) := Lib.hid (by
        have h := hM.out.set 1 rfl (j := k) (by rw [List.length_map]; omega) (.int .u64 (x + y))
        rw [set_lL] at h
        exact h)
      generalize b1.setCell ⟨g4, k, none⟩ (.int .u64 (x + y)) = b2 at *
      clear hM GL GB hx hy
      go_wp2_with fail
      exact ⟨⟨k + 1, l.set k (x + y), by omega, by go_num, HN.out, hM2.out⟩, by simp [intOf]; omega⟩
theorem enters_radd : Enters 52 := enters_of Tryd.func52 (by kernel_rfl) rfl
end Go.Proofs.YtfdjmdfaidiliaaDoor
namespace Go.Proofs.YtfdjmdfaidiliaaDoor
open Go.RowKit
set_option maxRecDepth 20000

def fpL (i : Nat) : Int := if i = 0 then 130996 else 131070
def fpAll : List Int := (List.range 16).map fpL
theorem fpAll_lb : lb fpAll = 4 * pp := by decide +kernel
theorem fpAll_nth {i : Nat} (h : i < 16) : nth fpAll i = fpL i := by simp [nth, fpAll, h]
/-- What less adds. -/
def dfAll (B : List Int) : List Int := (List.range 16).map fun i => fpL i - nth B i
theorem dfAll_len (B : List Int) : (dfAll B).length = 16 := by simp [dfAll]
theorem dfAll_nth (B : List Int) {i : Nat} (h : i < 16) : nth (dfAll B) i = fpL i - nth B i := by simp [nth, dfAll, h]
theorem dfAll_take {B : List Int} (hB : B.length = 16) : ∀ k, k ≤ 16 → lb ((dfAll B).take k) = lb (fpAll.take k) - lb (B.take k)
  | 0, _ => by simp [lb]
  | k + 1, h => by
    rw [lb_take_succ (by rw [dfAll_len]; omega), dfAll_take hB k (by omega), dfAll_nth B (by omega), lb_take_succ (l := fpAll) (by simp [fpAll]; omega), fpAll_nth (by omega), lb_take_succ (l := B) (by omega), Int.mul_sub]
    omega
theorem dfAll_lb {B : List Int} (hB : B.length = 16) : lb (dfAll B) = 4 * pp - lb B := by
  have h := dfAll_take hB 16 (Nat.le_refl _)
  rw [List.take_of_length_le (by rw [dfAll_len]; omega), List.take_of_length_le (by simp [fpAll]), List.take_of_length_le (by omega), fpAll_lb] at h
  exact h
theorem dfAll_bd {B : List Int} (hB : B.length = 16) (hL : Limbs B) : ∀ x ∈ dfAll B, 0 ≤ x ∧ x ≤ 131070 := fun x hx => by
  unfold dfAll at hx
  rw [List.mem_map] at hx
  obtain ⟨i, hi, rfl⟩ := hx
  have h := hL.nth (k := i) (by rw [hB]; exact List.mem_range.1 hi)
  unfold fpL
  split <;> omega
set_option maxHeartbeats 8000000 in
theorem rlessF_any (X Y : Int) (w : World) (hX : Num X) (hY : Num Y) : Calls Tryd.prog 54 #[feV X, feV Y] w fun e w' => e = .returned (feV ((X - Y) % pp)) ∧ Below w.heap.size w w' := by
  have hM := Lib.hid (Mv.nil w)
  have lA := lzAll_len X
  have lB := lzAll_len Y
  have lF := dfAll_len (lzAll Y)
  have HE : Hid (∀ l, AdI (lzAll X) (dfAll (lzAll Y)) 16 l → lb l % pp = (X - Y) % pp) := Lib.hid fun l h => by
    rw [h.eq, List.take_of_length_le (by omega), lb_lzAll hX, dfAll_lb lB, lb_lzAll hY, show X + (4 * pp - Y) = X - Y + pp * 4 by omega, Int.add_mul_emod_self_left]
  have dB := lzAll_limbs Y
  have dF := dfAll_bd lB dB
  have S0 := Lib.hid (AdI.start (f := dfAll (lzAll Y)) lA (lzAll_limbs X))
  have SS : Hid (∀ (k : Nat) (l : List Int), AdI (lzAll X) (dfAll (lzAll Y)) k l → k < 16 → AdI (lzAll X) (dfAll (lzAll Y)) (k + 1) (l.set k (nth l k + (fpL k - nth (lzAll Y) k)))) := Lib.hid fun k l h hk => by
    have := h.step lF dF hk
    rwa [dfAll_nth _ hk] at this
  have BB : Hid (∀ k, k < 16 → 0 ≤ nth (lzAll Y) k ∧ nth (lzAll Y) k < 65536) := Lib.hid fun k hk => dB.nth (by omega)
  have CA : Hid (∀ u, Calls Tryd.prog 76 #[feV X] u fun e w' => e = .returned (.agg (lL (lzAll X)).toArray) ∧ Below u.heap.size u w') := Lib.hid fun u => limbs_any X u
  have CB : Hid (∀ u, Calls Tryd.prog 76 #[feV Y] u fun e w' => e = .returned (.agg (lL (lzAll Y)).toArray) ∧ Below u.heap.size u w') := Lib.hid fun u => limbs_any Y u
  clear dB dF lF
  generalize dfAll (lzAll Y) = F at *
  generalize lzAll X = A at *
  generalize lzAll Y = B at *
  have SA := Lib.hid (lV_size lA)
  have SB := Lib.hid (lV_size lB)
  go_enter Tryd.func54, Tryd.ntmps54
  go_upto_region 0 with fail; refine wp_region_lit ?_
  refine wpList_val (run_boxL (vs := feL X) rfl rfl) rfl ?_; (try simp only [Act.put, List.setIfInBounds_toArray, List.set_cons_zero, List.set_cons_succ]); replace hM := Lib.hid (hM.out.new (feL X) 31); generalize w.alloc (.cells (feL X).toArray 31) = a1 at *; generalize w.heap.size = g1 at *
  refine wpList_val (run_boxL (vs := feL Y) rfl rfl) rfl ?_; (try simp only [Act.put, List.setIfInBounds_toArray, List.set_cons_zero, List.set_cons_succ]); replace hM := Lib.hid (hM.out.new (feL Y) 31); generalize a1.alloc (.cells (feL Y).toArray 31) = a2 at *; generalize a1.heap.size = g2 at *
  refine wpList_val (run_alc (vs := zq 4) rfl (by kernel_rfl)) rfl ?_; (try simp only [Act.put, List.setIfInBounds_toArray, List.set_cons_zero, List.set_cons_succ]); replace hM := Lib.hid (hM.out.new (zq 4) 31); generalize a2.alloc (.cells (zq 4).toArray 31) = a3 at *; generalize a2.heap.size = g3 at *
  refine wpList_end ?_
  go_upto_region 1 with fail; refine wp_region_lit ?_
  refine wpList_val (run_ldM (vs := feL X) rfl Tryd.underlying31 rfl (szFe _) rfl ((hM.out.get (i := 2) rfl).range)) rfl ?_; (try simp only [Act.put, List.setIfInBounds_toArray, List.set_cons_zero, List.set_cons_succ])
  refine wpList_enter (run_call1 enters_limbsF rfl rfl rfl) rfl (CA.out _) (fun a4 hb => ?_); (try simp only [Act.put, List.setIfInBounds_toArray, List.set_cons_zero, List.set_cons_succ]); replace hM := Lib.hid (hM.out.below hb); clear hb
  refine wpList_val (run_alc (vs := zq 16) rfl (by kernel_rfl)) rfl ?_; (try simp only [Act.put, List.setIfInBounds_toArray, List.set_cons_zero, List.set_cons_succ]); replace hM := Lib.hid (hM.out.new (zq 16) 91); generalize a4.alloc (.cells (zq 16).toArray 91) = a5 at *; generalize a4.heap.size = g4 at *
  refine wpList_skip (run_stM (vs := lL A) rfl SA.out rfl rfl (lV_one _) (by rw [lL_len lA]; exact (hM.out.get (i := 0) rfl).there)) rfl rfl ?_
  replace hM := Lib.hid (hM.out.put 0 rfl (m := lL A) (lL_len lA))
  generalize a5.setCells g4 0 (lL A) = a6 at *
  refine wpList_end ?_
  go_upto_region 2 with fail; refine wp_region_lit ?_
  refine wpList_val (run_ldM (vs := feL Y) rfl Tryd.underlying31 rfl (szFe _) rfl ((hM.out.get (i := 2) rfl).range)) rfl ?_; (try simp only [Act.put, List.setIfInBounds_toArray, List.set_cons_zero, List.set_cons_succ])
  refine wpList_enter (run_call1 enters_limbsF rfl rfl rfl) rfl (CB.out _) (fun a7 hb => ?_); (try simp only [Act.put, List.setIfInBounds_toArray, List.set_cons_zero, List.set_cons_succ]); replace hM := Lib.hid (hM.out.below hb); clear hb
  refine wpList_val (run_alc (vs := zq 16) rfl (by kernel_rfl)) rfl ?_; (try simp only [Act.put, List.setIfInBounds_toArray, List.set_cons_zero, List.set_cons_succ]); replace hM := Lib.hid (hM.out.new (zq 16) 91); generalize a7.alloc (.cells (zq 16).toArray 91) = a8 at *; generalize a7.heap.size = g5 at *
  refine wpList_skip (run_stM (vs := lL B) rfl SB.out rfl rfl (lV_one _) (by rw [lL_len lB]; exact (hM.out.get (i := 0) rfl).there)) rfl rfl ?_
  replace hM := Lib.hid (hM.out.put 0 rfl (m := lL B) (lL_len lB))
  generalize a8.setCells g5 0 (lL B) = a9 at *
  refine wpList_end ?_
  have HN0 := Lib.hid (SS.out 0 A S0.out (by omega))
  have hx0 := S0.out.get (show 0 < 16 by omega)
  have hy0 := BB.out 0 (by omega)
  have GL0 := Lib.hid (get_nth (l := A) (i := 0) (by omega))
  have GB0 := Lib.hid (get_nth (l := B) (i := 0) (by omega))
  have F0 : fpL 0 = 130996 := rfl
  rw [F0] at HN0
  clear F0
  generalize nth A 0 = x0 at *
  generalize nth B 0 = y0 at *
  go_upto_region 3 with fail; refine wp_region_lit ?_
  refine wpList_val (run_ix0 (i := 0) rfl Tryd.underlying91 (by kernel_rfl) rfl rfl (by omega)) rfl ?_; (try simp only [Act.put, List.setIfInBounds_toArray, List.set_cons_zero, List.set_cons_succ])
  refine wpList_val (run_ld64 rfl rfl ((hM.out.get (i := 1) rfl).c 0 _ GL0.out)) rfl ?_; (try simp only [Act.put, List.setIfInBounds_toArray, List.set_cons_zero, List.set_cons_succ])
  refine wpList_val (run_ix0 (i := 0) rfl Tryd.underlying91 (by kernel_rfl) rfl rfl (by omega)) rfl ?_; (try simp only [Act.put, List.setIfInBounds_toArray, List.set_cons_zero, List.set_cons_succ])
  refine wpList_val (run_ld64 rfl rfl ((hM.out.get (i := 0) rfl).c 0 _ GB0.out)) rfl ?_; (try simp only [Act.put, List.setIfInBounds_toArray, List.set_cons_zero, List.set_cons_succ])
  refine wpList_val (run_subU (a := 130996) rfl rfl rfl (by omega) (by omega)) rfl ?_; (try simp only [Act.put, List.setIfInBounds_toArray, List.set_cons_zero, List.set_cons_succ])
  refine wpList_val (run_addU rfl rfl rfl (by omega) (by omega)) rfl ?_; (try simp only [Act.put, List.setIfInBounds_toArray, List.set_cons_zero, List.set_cons_succ])
  refine wpList_val (run_ix0 (i := 0) rfl Tryd.underlying91 (by kernel_rfl) rfl rfl (by omega)) rfl ?_; (try simp only [Act.put, List.setIfInBounds_toArray, List.set_cons_zero, List.set_cons_succ])
  refine wpList_skip (run_stU rfl rfl rfl ((hM.out.get (i := 1) rfl).c 0 _ GL0.out) ((hM.out.get (i := 1) rfl).f 0)) rfl rfl ?_
  refine wpList_end ?_
  have hM2 : Hid (Mv w [(g5, lL B), (g4, lL (A.set 0 (x0 + (130996 - y0)))), (g3, zq 4), (g2, feL Y), (g1, feL X)] (a9.setCell ⟨g4, 0, none⟩ (.int .u64 (x0 + (130996 - y0))))) := Lib.hid (by
    have h := hM.out.set 1 rfl (j := 0) (by rw [List.length_map]; omega) (.int .u64 (x0 + (130996 - y0)))
    rw [set_lL] at h
    exact h)
  generalize a9.setCell ⟨g4, 0, none⟩ (.int .u64 (x0 + (130996 - y0))) = a10 at *
  replace hM := hM2
  generalize A.set 0 (x0 + (130996 - y0)) = A1 at *
  clear hM2 GL0 GB0 hx0 hy0
  go_upto_region 4 with fail; refine wp_region_lit ?_
  (repeat ((first | refine wpList_val (run_mv (v := b32 _) rfl rfl) rfl ?_ | refine wpList_val (run_mv (v := b64 _) rfl rfl) rfl ?_ | refine wpList_val (run_mv (v := b8 _) rfl rfl) rfl ?_ | refine wpList_val (run_mv (v := .int _ _) rfl rfl) rfl ?_ | refine wpList_val (run_mv (v := .bool _) rfl rfl) rfl ?_ | refine wpList_val (run_mv (v := .slice (some _) _ _) rfl rfl) rfl ?_ | refine wpList_val (run_mv (v := .slice _ _ _) rfl rfl) rfl ?_ | refine wpList_val (run_mv (v := .pointer (some _)) rfl rfl) rfl ?_ | refine wpList_val (run_mv (v := .agg _) rfl rfl) rfl ?_ | refine wpList_val (run_asg (v := b32 _) rfl rfl) rfl ?_ | refine wpList_val (run_asg (v := b64 _) rfl rfl) rfl ?_ | refine wpList_val (run_asg (v := b8 _) rfl rfl) rfl ?_ | refine wpList_val (run_asg (v := .int _ _) rfl rfl) rfl ?_ | refine wpList_val (run_asg (v := .bool _) rfl rfl) rfl ?_ | refine wpList_val (run_asg (v := .slice (some _) _ _) rfl rfl) rfl ?_ | refine wpList_val (run_asg (v := .slice _ _ _) rfl rfl) rfl ?_ | refine wpList_val (run_asg (v := .pointer (some _)) rfl rfl) rfl ?_ | refine wpList_val (run_asg (v := .agg _) rfl rfl) rfl ?_ | refine wpList_val (run_mv rfl rfl) rfl ?_ | refine wpList_val (run_asg rfl rfl) rfl ?_ | refine wpList_val (run_xor32 rfl rfl rfl) rfl ?_ | refine wpList_val (run_and32 rfl rfl rfl) rfl ?_ | refine wpList_val (run_or32 rfl rfl rfl) rfl ?_ | refine wpList_val (run_add32 rfl rfl rfl) rfl ?_ | refine wpList_val (run_not32 rfl rfl) rfl ?_ | refine wpList_val (run_xor64 rfl rfl rfl) rfl ?_ | refine wpList_val (run_and64 rfl rfl rfl) rfl ?_ | refine wpList_val (run_or64 rfl rfl rfl) rfl ?_ | refine wpList_val (run_add64 rfl rfl rfl) rfl ?_ | refine wpList_val (run_not64 rfl rfl) rfl ?_ | refine wpList_val (run_xor8 rfl rfl rfl) rfl ?_ | refine wpList_val (run_and8 rfl rfl rfl) rfl ?_ | refine wpList_val (run_or8 rfl rfl rfl) rfl ?_ | refine wpList_val (run_add8 rfl rfl rfl) rfl ?_ | refine wpList_val (run_not8 rfl rfl) rfl ?_ | refine wpList_val (run_cv64_32 rfl rfl) rfl ?_ | refine wpList_val (run_cv8_32 rfl rfl) rfl ?_ | refine wpList_val (run_cv8_64 rfl rfl) rfl ?_ | refine wpList_val (run_cv32_8 rfl rfl) rfl ?_ | refine wpList_val (run_cv64_8 rfl rfl) rfl ?_); (try simp only [Act.put, List.setIfInBounds_toArray, List.set_cons_zero, List.set_cons_succ])))
  refine wpList_end ?_
  go_wp2_with fail
  go_loopw [7] (fun s u => ∃ (k : Nat) (l : List Int), k ≤ 16 ∧ 0 < k ∧ s = .int .i64 (k : Int) ∧ AdI A F k l ∧ Mv w [(g5, lL B), (g4, lL l), (g3, zq 4), (g2, feL Y), (g1, feL X)] u) (fun s _ => (16 - intOf s).toNat)
  case atStart => exact ⟨1, A1, by omega, by omega, rfl, HN0.out, hM.out⟩
  case round =>
    obtain ⟨k, l, hk, hk0, rfl, hA, hJ⟩ := hrel
    replace hM := Lib.hid hJ
    have HA := Lib.hid hA
    have hll := hA.len
    clear hJ hA
    by_cases hlt : k = 16
    · subst hlt
      have hk1 : ¬ (((16 : Nat) : Int) < 16) := by omega
      have hW := Lib.hid (HA.out.wides (Nat.le_refl _))
      have SL := Lib.hid (lV_size hll)
      have hv := HE.out l HA.out
      go_upto_region 8 with fail; refine wp_region_lit ?_
      refine wpList_val (run_ldM (vs := lL l) rfl Tryd.underlying91 rfl SL.out rfl (hM.out.get (i := 1) rfl).range) rfl ?_; (try simp only [Act.put, List.setIfInBounds_toArray, List.set_cons_zero, List.set_cons_succ])
      refine wpList_enter (run_call1 enters_fe rfl rfl rfl) rfl (fe_limbs l _ hll hW.out) (fun b1 hb => ?_); (try simp only [Act.put, List.setIfInBounds_toArray, List.set_cons_zero, List.set_cons_succ]); replace hM := Lib.hid (hM.out.below hb); clear hb
      rw [hv]
      refine wpList_skip (run_stM (vs := feL ((X - Y) % pp)) rfl (szFe _) rfl rfl (oneFe _) ((hM.out.get (i := 2) rfl).there)) rfl rfl ?_; replace hM := Lib.hid (hM.out.put 2 rfl (m := feL ((X - Y) % pp)) rfl); generalize b1.setCells g3 0 (feL ((X - Y) % pp)) = b2 at *
      refine wpList_end ?_; go_wp2_with fail; refine bodyPost_ret (v := .agg (feL ((X - Y) % pp)).toArray) (results_rowB Tryd.results54 rfl Tryd.underlying31 rfl (szFe _) (hM.out.get (i := 2) rfl).range) rfl ⟨rfl, hM.out.bl⟩
    · have hk1 : (k : Int) < 16 := by omega
      have HN := Lib.hid (SS.out k l HA.out (by omega))
      have FK : fpL k = 131070 := if_neg (by omega)
      rw [FK] at HN
      clear FK
      have hx := HA.out.get (show k < 16 by omega)
      have hy := BB.out k (by omega)
      have GL := Lib.hid (get_nth (l := l) (i := k) (by omega))
      have GB := Lib.hid (get_nth (l := B) (i := k) (by omega))
      generalize nth l k = x at *
      generalize nth B k = y at *
      go_upto_region 7 with fail; refine wp_region_calm 9 (by kernel_rfl) (by kernel_rfl) ?_
      (repeat ((first | refine wpCalm_step _ (fun V hV => calm_run (run_mv (v := b32 _) rfl rfl)) ?_ | refine wpCalm_step _ (fun V hV => calm_run (run_mv (v := b64 _) rfl rfl)) ?_ | refine wpCalm_step _ (fun V hV => calm_run (run_mv (v := b8 _) rfl rfl)) ?_ | refine wpCalm_step _ (fun V hV => calm_run (run_mv (v := .int _ _) rfl rfl)) ?_ | refine wpCalm_step _ (fun V hV => calm_run (run_mv (v := .bool _) rfl rfl)) ?_ | refine wpCalm_step _ (fun V hV => calm_run (run_mv (v := .slice (some _) _ _) rfl rfl)) ?_ | refine wpCalm_step _ (fun V hV => calm_run (run_mv (v := .slice _ _ _) rfl rfl)) ?_ | refine wpCalm_step _ (fun V hV => calm_run (run_mv (v := .pointer (some _)) rfl rfl)) ?_ | refine wpCalm_step _ (fun V hV => calm_run (run_mv (v := .agg _) rfl rfl)) ?_ | refine wpCalm_step _ (fun V hV => calm_run (run_asg (v := b32 _) rfl rfl)) ?_ | refine wpCalm_step _ (fun V hV => calm_run (run_asg (v := b64 _) rfl rfl)) ?_ | refine wpCalm_step _ (fun V hV => calm_run (run_asg (v := b8 _) rfl rfl)) ?_ | refine wpCalm_step _ (fun V hV => calm_run (run_asg (v := .int _ _) rfl rfl)) ?_ | refine wpCalm_step _ (fun V hV => calm_run (run_asg (v := .bool _) rfl rfl)) ?_ | refine wpCalm_step _ (fun V hV => calm_run (run_asg (v := .slice (some _) _ _) rfl rfl)) ?_ | refine wpCalm_step _ (fun V hV => calm_run (run_asg (v := .slice _ _ _) rfl rfl)) ?_ | refine wpCalm_step _ (fun V hV => calm_run (run_asg (v := .pointer (some _)) rfl rfl)) ?_ | refine wpCalm_step _ (fun V hV => calm_run (run_asg (v := .agg _) rfl rfl)) ?_ | refine wpCalm_step _ (fun V hV => calm_run (run_mv rfl rfl)) ?_ | refine wpCalm_step _ (fun V hV => calm_run (run_asg rfl rfl)) ?_ | refine wpCalm_step _ (fun V hV => calm_run (run_xor32 rfl rfl rfl)) ?_ | refine wpCalm_step _ (fun V hV => calm_run (run_and32 rfl rfl rfl)) ?_ | refine wpCalm_step _ (fun V hV => calm_run (run_or32 rfl rfl rfl)) ?_ | refine wpCalm_step _ (fun V hV => calm_run (run_add32 rfl rfl rfl)) ?_ | refine wpCalm_step _ (fun V hV => calm_run (run_not32 rfl rfl)) ?_ | refine wpCalm_step _ (fun V hV => calm_run (run_xor64 rfl rfl rfl)) ?_ | refine wpCalm_step _ (fun V hV => calm_run (run_and64 rfl rfl rfl)) ?_ | refine wpCalm_step _ (fun V hV => calm_run (run_or64 rfl rfl rfl)) ?_ | refine wpCalm_step _ (fun V hV => calm_run (run_add64 rfl rfl rfl)) ?_ | refine wpCalm_step _ (fun V hV => calm_run (run_not64 rfl rfl)) ?_ | refine wpCalm_step _ (fun V hV => calm_run (run_xor8 rfl rfl rfl)) ?_ | refine wpCalm_step _ (fun V hV => calm_run (run_and8 rfl rfl rfl)) ?_ | refine wpCalm_step _ (fun V hV => calm_run (run_or8 rfl rfl rfl)) ?_ | refine wpCalm_step _ (fun V hV => calm_run (run_add8 rfl rfl rfl)) ?_ | refine wpCalm_step _ (fun V hV => calm_run (run_not8 rfl rfl)) ?_ | refine wpCalm_step _ (fun V hV => calm_run (run_cv64_32 rfl rfl)) ?_ | refine wpCalm_step _ (fun V hV => calm_run (run_cv8_32 rfl rfl)) ?_ | refine wpCalm_step _ (fun V hV => calm_run (run_cv8_64 rfl rfl)) ?_ | refine wpCalm_step _ (fun V hV => calm_run (run_cv32_8 rfl rfl)) ?_ | refine wpCalm_step _ (fun V hV => calm_run (run_cv64_8 rfl rfl)) ?_); (try simp only [Act.put, List.setIfInBounds_toArray, List.set_cons_zero, List.set_cons_succ])))
      refine wpCalm_step _ (fun V hV => calm_run (run_ix0 (i := k) rfl Tryd.underlying91 (by kernel_rfl) rfl rfl (by omega))) ?_; (try simp only [Act.put, List.setIfInBounds_toArray, List.set_cons_zero, List.set_cons_succ])
      refine wpCalm_step _ (fun V hV => calm_run (run_ld64 rfl rfl (((hM.out.below hV).get (i := 1) rfl).c k _ GL.out))) ?_; (try simp only [Act.put, List.setIfInBounds_toArray, List.set_cons_zero, List.set_cons_succ])
      (repeat ((first | refine wpCalm_step _ (fun V hV => calm_run (run_mv (v := b32 _) rfl rfl)) ?_ | refine wpCalm_step _ (fun V hV => calm_run (run_mv (v := b64 _) rfl rfl)) ?_ | refine wpCalm_step _ (fun V hV => calm_run (run_mv (v := b8 _) rfl rfl)) ?_ | refine wpCalm_step _ (fun V hV => calm_run (run_mv (v := .int _ _) rfl rfl)) ?_ | refine wpCalm_step _ (fun V hV => calm_run (run_mv (v := .bool _) rfl rfl)) ?_ | refine wpCalm_step _ (fun V hV => calm_run (run_mv (v := .slice (some _) _ _) rfl rfl)) ?_ | refine wpCalm_step _ (fun V hV => calm_run (run_mv (v := .slice _ _ _) rfl rfl)) ?_ | refine wpCalm_step _ (fun V hV => calm_run (run_mv (v := .pointer (some _)) rfl rfl)) ?_ | refine wpCalm_step _ (fun V hV => calm_run (run_mv (v := .agg _) rfl rfl)) ?_ | refine wpCalm_step _ (fun V hV => calm_run (run_asg (v := b32 _) rfl rfl)) ?_ | refine wpCalm_step _ (fun V hV => calm_run (run_asg (v := b64 _) rfl rfl)) ?_ | refine wpCalm_step _ (fun V hV => calm_run (run_asg (v := b8 _) rfl rfl)) ?_ | refine wpCalm_step _ (fun V hV => calm_run (run_asg (v := .int _ _) rfl rfl)) ?_ | refine wpCalm_step _ (fun V hV => calm_run (run_asg (v := .bool _) rfl rfl)) ?_ | refine wpCalm_step _ (fun V hV => calm_run (run_asg (v := .slice (some _) _ _) rfl rfl)) ?_ | refine wpCalm_step _ (fun V hV => calm_run (run_asg (v := .slice _ _ _) rfl rfl)) ?_ | refine wpCalm_step _ (fun V hV => calm_run (run_asg (v := .pointer (some _)) rfl rfl)) ?_ | refine wpCalm_step _ (fun V hV => calm_run (run_asg (v := .agg _) rfl rfl)) ?_ | refine wpCalm_step _ (fun V hV => calm_run (run_mv rfl rfl)) ?_ | refine wpCalm_step _ (fun V hV => calm_run (run_asg rfl rfl)) ?_ | refine wpCalm_step _ (fun V hV => calm_run (run_xor32 rfl rfl rfl)) ?_ | refine wpCalm_step _ (fun V hV => calm_run (run_and32 rfl rfl rfl)) ?_ | refine wpCalm_step _ (fun V hV => calm_run (run_or32 rfl rfl rfl)) ?_ | refine wpCalm_step _ (fun V hV => calm_run (run_add32 rfl rfl rfl)) ?_ | refine wpCalm_step _ (fun V hV => calm_run (run_not32 rfl rfl)) ?_ | refine wpCalm_step _ (fun V hV => calm_run (run_xor64 rfl rfl rfl)) ?_ | refine wpCalm_step _ (fun V hV => calm_run (run_and64 rfl rfl rfl)) ?_ | refine wpCalm_step _ (fun V hV => calm_run (run_or64 rfl rfl rfl)) ?_ | refine wpCalm_step _ (fun V hV => calm_run (run_add64 rfl rfl rfl)) ?_ | refine wpCalm_step _ (fun V hV => calm_run (run_not64 rfl rfl)) ?_ | refine wpCalm_step _ (fun V hV => calm_run (run_xor8 rfl rfl rfl)) ?_ | refine wpCalm_step _ (fun V hV => calm_run (run_and8 rfl rfl rfl)) ?_ | refine wpCalm_step _ (fun V hV => calm_run (run_or8 rfl rfl rfl)) ?_ | refine wpCalm_step _ (fun V hV => calm_run (run_add8 rfl rfl rfl)) ?_ | refine wpCalm_step _ (fun V hV => calm_run (run_not8 rfl rfl)) ?_ | refine wpCalm_step _ (fun V hV => calm_run (run_cv64_32 rfl rfl)) ?_ | refine wpCalm_step _ (fun V hV => calm_run (run_cv8_32 rfl rfl)) ?_ | refine wpCalm_step _ (fun V hV => calm_run (run_cv8_64 rfl rfl)) ?_ | refine wpCalm_step _ (fun V hV => calm_run (run_cv32_8 rfl rfl)) ?_ | refine wpCalm_step _ (fun V hV => calm_run (run_cv64_8 rfl rfl)) ?_); (try simp only [Act.put, List.setIfInBounds_toArray, List.set_cons_zero, List.set_cons_succ])))
      refine wpCalm_step _ (fun V hV => calm_run (run_ix0 (i := k) rfl Tryd.underlying91 (by kernel_rfl) rfl rfl (by omega))) ?_; (try simp only [Act.put, List.setIfInBounds_toArray, List.set_cons_zero, List.set_cons_succ])
      refine wpCalm_step _ (fun V hV => calm_run (run_ld64 rfl rfl (((hM.out.below hV).get (i := 0) rfl).c k _ GB.out))) ?_; (try simp only [Act.put, List.setIfInBounds_toArray, List.set_cons_zero, List.set_cons_succ])
      refine wpCalm_step _ (fun V hV => calm_run (run_subU (a := 131070) rfl rfl rfl (by omega) (by omega))) ?_; (try simp only [Act.put, List.setIfInBounds_toArray, List.set_cons_zero, List.set_cons_succ])
      refine wpCalm_step _ (fun V hV => calm_run (run_addU rfl rfl rfl (by omega) (by omega))) ?_; (try simp only [Act.put, List.setIfInBounds_toArray, List.set_cons_zero, List.set_cons_succ])
      refine wpCalm_step _ (fun V hV => calm_run (run_ix0 (i := k) rfl Tryd.underlying91 (by kernel_rfl) rfl rfl (by omega))) ?_; (try simp only [Act.put, List.setIfInBounds_toArray, List.set_cons_zero, List.set_cons_succ])
      refine wpCalm_done ?_; intro b1 hb; simp only [List.drop_succ_cons, List.drop_zero]
      replace hM := Lib.hid (hM.out.below hb)
      clear hb
      refine wpList_skip (run_stU rfl rfl rfl ((hM.out.get (i := 1) rfl).c k _ GL.out) ((hM.out.get (i := 1) rfl).f k)) rfl rfl ?_
      refine wpList_end ?_
      have hM2 : Hid (Mv w [(g5, lL B), (g4, lL (l.set k (x + (131070 - y)))), (g3, zq 4), (g2, feL Y), (g1, feL X)] (b1.setCell ⟨g4, k, none⟩ (.int .u64 (x + (131070 - y))))) := Lib.hid (by
        have h := hM.out.set 1 rfl (j := k) (by rw [List.length_map]; omega) (.int .u64 (x + (131070 - y)))
        rw [set_lL] at h
        exact h)
      generalize b1.setCell ⟨g4, k, none⟩ (.int .u64 (x + (131070 - y))) = b2 at *
      clear hM GL GB hx hy
      go_wp2_with fail
      exact ⟨⟨k + 1, l.set k (x + (131070 - y)), by omega, by omega, by go_num, HN.out, hM2.out⟩, by simp [intOf]; omega⟩
theorem enters_rlessF : Enters 54 := enters_of Tryd.func54 (by kernel_rfl) rfl
set_option maxHeartbeats 4000000 in
theorem rsub_any (X Y : Int) (w : World) (hX : Num X) (hY : Num Y) : Calls Tryd.prog 51 #[feV X, feV Y] w fun e w' => e = .returned (feV ((X - Y) % pp)) ∧ Below w.heap.size w w' := by
  have hM := Lib.hid (Mv.nil w)
  go_enter Tryd.func51, Tryd.ntmps51
  go_upto_region 0 with fail; refine wp_region_lit ?_
  refine wpList_val (run_boxL (vs := feL X) rfl rfl) rfl ?_; (try simp only [Act.put, List.setIfInBounds_toArray, List.set_cons_zero, List.set_cons_succ]); replace hM := Lib.hid (hM.out.new (feL X) 31); generalize w.alloc (.cells (feL X).toArray 31) = a1 at *; generalize w.heap.size = g1 at *
  refine wpList_val (run_boxL (vs := feL Y) rfl rfl) rfl ?_; (try simp only [Act.put, List.setIfInBounds_toArray, List.set_cons_zero, List.set_cons_succ]); replace hM := Lib.hid (hM.out.new (feL Y) 31); generalize a1.alloc (.cells (feL Y).toArray 31) = a2 at *; generalize a1.heap.size = g2 at *
  refine wpList_val (run_alc (vs := zq 4) rfl (by kernel_rfl)) rfl ?_; (try simp only [Act.put, List.setIfInBounds_toArray, List.set_cons_zero, List.set_cons_succ]); replace hM := Lib.hid (hM.out.new (zq 4) 31); generalize a2.alloc (.cells (zq 4).toArray 31) = a3 at *; generalize a2.heap.size = g3 at *
  refine wpList_end ?_
  go_upto_region 1 with fail; refine wp_region_lit ?_
  refine wpList_val (run_ldM (vs := feL X) rfl Tryd.underlying31 rfl (szFe _) rfl ((hM.out.get (i := 2) rfl).range)) rfl ?_; (try simp only [Act.put, List.setIfInBounds_toArray, List.set_cons_zero, List.set_cons_succ])
  refine wpList_val (run_ldM (vs := feL Y) rfl Tryd.underlying31 rfl (szFe _) rfl ((hM.out.get (i := 1) rfl).range)) rfl ?_; (try simp only [Act.put, List.setIfInBounds_toArray, List.set_cons_zero, List.set_cons_succ])
  refine wpList_enter (run_call2 enters_rlessF rfl rfl rfl rfl) rfl (rlessF_any X Y _ hX hY) (fun a4 hb => ?_); (try simp only [Act.put, List.setIfInBounds_toArray, List.set_cons_zero, List.set_cons_succ]); replace hM := Lib.hid (hM.out.below hb); clear hb
  refine wpList_skip (run_stM (vs := feL ((X - Y) % pp)) rfl (szFe _) rfl rfl (oneFe _) ((hM.out.get (i := 0) rfl).there)) rfl rfl ?_; replace hM := Lib.hid (hM.out.put 0 rfl (m := feL ((X - Y) % pp)) rfl); generalize a4.setCells g3 0 (feL ((X - Y) % pp)) = a5 at *
  refine wpList_end ?_; go_wp2_with fail; refine bodyPost_ret (v := .agg (feL ((X - Y) % pp)).toArray) (results_rowB Tryd.results51 rfl Tryd.underlying31 rfl (szFe _) (hM.out.get (i := 0) rfl).range) rfl ⟨rfl, hM.out.bl⟩
theorem enters_rsub : Enters 51 := enters_of Tryd.func51 (by kernel_rfl) rfl
theorem built_fe0 : Tryd.prog.built 31 [] = some (feL 0).toArray := by kernel_rfl
theorem run_bldE {w : World} {ρ : Operand → Value} {o : Oper} {t : TypeId} {cells : Array Value} (ho : o.op = .build t #[]) (h : Tryd.prog.built t [] = some cells) : (execOp ρ o).run Tryd.prog w = .ok (.value (.agg cells)) w := run_bld ho (by simpa using h)
theorem num_0 : Num 0 := num_small (by omega) (by omega)
set_option maxHeartbeats 4000000 in
theorem rneg_any (X : Int) (w : World) (hX : Num X) : Calls Tryd.prog 27 #[feV X] w fun e w' => e = .returned (feV (-X % pp)) ∧ Below w.heap.size w w' := by
  have hM := Lib.hid (Mv.nil w)
  have CL : Hid (∀ u, Calls Tryd.prog 54 #[feV 0, feV X] u fun e w' => e = .returned (feV (-X % pp)) ∧ Below u.heap.size u w') := Lib.hid fun u => by
    have := rlessF_any 0 X u num_0 hX
    rwa [Int.zero_sub] at this
  go_enter Tryd.func27, Tryd.ntmps27
  go_upto_region 0 with fail; refine wp_region_lit ?_
  refine wpList_val (run_boxL (vs := feL X) rfl rfl) rfl ?_; (try simp only [Act.put, List.setIfInBounds_toArray, List.set_cons_zero, List.set_cons_succ]); replace hM := Lib.hid (hM.out.new (feL X) 31); generalize w.alloc (.cells (feL X).toArray 31) = a1 at *; generalize w.heap.size = g1 at *
  refine wpList_val (run_alc (vs := zq 4) rfl (by kernel_rfl)) rfl ?_; (try simp only [Act.put, List.setIfInBounds_toArray, List.set_cons_zero, List.set_cons_succ]); replace hM := Lib.hid (hM.out.new (zq 4) 31); generalize a1.alloc (.cells (zq 4).toArray 31) = a2 at *; generalize a1.heap.size = g2 at *
  refine wpList_end ?_
  go_upto_region 1 with fail; refine wp_region_lit ?_
  refine wpList_val (run_bldE (cells := (feL 0).toArray) rfl built_fe0) rfl ?_; (try simp only [Act.put, List.setIfInBounds_toArray, List.set_cons_zero, List.set_cons_succ])
  refine wpList_val (run_ldM (vs := feL X) rfl Tryd.underlying31 rfl (szFe _) rfl ((hM.out.get (i := 1) rfl).range)) rfl ?_; (try simp only [Act.put, List.setIfInBounds_toArray, List.set_cons_zero, List.set_cons_succ])
  refine wpList_enter (run_call2 enters_rlessF rfl rfl rfl rfl) rfl (CL.out _) (fun a3 hb => ?_); (try simp only [Act.put, List.setIfInBounds_toArray, List.set_cons_zero, List.set_cons_succ]); replace hM := Lib.hid (hM.out.below hb); clear hb
  refine wpList_skip (run_stM (vs := feL (-X % pp)) rfl (szFe _) rfl rfl (oneFe _) ((hM.out.get (i := 0) rfl).there)) rfl rfl ?_; replace hM := Lib.hid (hM.out.put 0 rfl (m := feL (-X % pp)) rfl); generalize a3.setCells g2 0 (feL (-X % pp)) = a4 at *
  refine wpList_end ?_; go_wp2_with fail; refine bodyPost_ret (v := .agg (feL (-X % pp)).toArray) (results_rowB Tryd.results27 rfl Tryd.underlying31 rfl (szFe _) (hM.out.get (i := 0) rfl).range) rfl ⟨rfl, hM.out.bl⟩
theorem enters_rneg : Enters 27 := enters_of Tryd.func27 (by kernel_rfl) rfl
end Go.Proofs.YtfdjmdfaidiliaaDoor
namespace Go.Proofs.YtfdjmdfaidiliaaDoor
open Go.RowKit Go.Sort
set_option maxRecDepth 20000

set_option maxHeartbeats 4000000 in
theorem refmul_any (X Y : Int) (w : World) (hX : Num X) (hY : Num Y) :
    Calls Tryd.prog 47 #[feV X, feV Y] w fun e w' => e = .returned (feV (X * Y % pp)) ∧ Below w.heap.size w w' := by
  have b1 : Below w.heap.size w (w.alloc (.cells #[.int .u64 (w0 X), .int .u64 (w1 X), .int .u64 (w2 X), .int .u64 (w3 X)] 31)) := (Below.refl _ _).alloc (Nat.le_refl _) _
  have vX := Var4.new w X
  go_enter Tryd.func47, Tryd.ntmps47
  go_upto_region 1 with fail
  have hs : w.heap.size + 1 = (w.alloc (.cells #[.int .u64 (w0 X), .int .u64 (w1 X), .int .u64 (w2 X), .int .u64 (w3 X)] 31)).heap.size := by simp
  rw [hs]
  have l0 := vX.lt
  generalize w.alloc (.cells #[.int .u64 (w0 X), .int .u64 (w1 X), .int .u64 (w2 X), .int .u64 (w3 X)] 31) = u0 at *
  clear hs
  have vY := Var4.new u0 Y
  have b2 : Below u0.heap.size u0 (u0.alloc (.cells #[.int .u64 (w0 Y), .int .u64 (w1 Y), .int .u64 (w2 Y), .int .u64 (w3 Y)] 31)) := (Below.refl _ _).alloc (Nat.le_refl _) _
  replace vX := vX.below b2
  replace b1 := b1.trans (b2.mono b1.size)
  have hs : u0.heap.size + 1 = (u0.alloc (.cells #[.int .u64 (w0 Y), .int .u64 (w1 Y), .int .u64 (w2 Y), .int .u64 (w3 Y)] 31)).heap.size := by simp
  rw [hs]
  have l1 := vY.lt
  generalize u0.alloc (.cells #[.int .u64 (w0 Y), .int .u64 (w1 Y), .int .u64 (w2 Y), .int .u64 (w3 Y)] 31) = u1 at *
  generalize u0.heap.size = gy at *
  clear hs b2 u0
  have hR := Var4.zero u1
  have b2 : Below u1.heap.size u1 (u1.alloc (.cells #[.int .u64 0, .int .u64 0, .int .u64 0, .int .u64 0] 31)) := (Below.refl _ _).alloc (Nat.le_refl _) _
  replace vX := vX.below b2
  replace vY := vY.below b2
  replace b1 := b1.trans (b2.mono b1.size)
  generalize u1.alloc (.cells #[.int .u64 0, .int .u64 0, .int .u64 0, .int .u64 0] 31) = u0 at *
  generalize u1.heap.size = g1 at *
  clear b2 u1
  have l2 := hR.lt
  obtain ⟨vl, v0, v1, v2, v3, vf0, vf1, vf2, vf3⟩ := vX
  go_wp2_with fail
  refine (limbs_any X _).mono ?_
  rintro e u1 ⟨rfl, hb⟩
  clear vl v0 v1 v2 v3 vf0 vf1 vf2 vf3
  replace vY := vY.below hb
  replace hR := hR.below hb
  replace b1 := b1.trans (hb.mono b1.size)
  replace l2 := Nat.lt_of_lt_of_le l2 hb.size
  clear hb u0
  have HA := Lib.hid (LRow.zero u1)
  have b2 : Below u1.heap.size u1 (u1.alloc (.cells #[.int .u64 0, .int .u64 0, .int .u64 0, .int .u64 0, .int .u64 0, .int .u64 0, .int .u64 0, .int .u64 0, .int .u64 0, .int .u64 0, .int .u64 0, .int .u64 0, .int .u64 0, .int .u64 0, .int .u64 0, .int .u64 0] 91)) := (Below.refl _ _).alloc (Nat.le_refl _) _
  go_upto_region 2 with (refine wpList_store_mid rfl 91 (.tmp 5) (.tmp 11) rfl u1.heap.size 0 ((lzAll X).map (Value.int .u64)).toArray rfl rfl (by simpa [lzAll_len] using HA.out.thereAt) (by simpa using lV_size (lzAll_len X)) (lV_one _) ?_)
  replace HA := Lib.hid (HA.out.storeAll (l' := lzAll X) (by rw [lzAll_len]; rfl))
  replace b2 := Below.setCells (Nat.le_refl u1.heap.size) ((lzAll X).map (Value.int .u64)) 0 b2
  replace hR := hR.below b2
  replace vY := vY.below b2
  replace b1 := b1.trans (b2.mono b1.size)
  generalize (u1.alloc (.cells #[.int .u64 0, .int .u64 0, .int .u64 0, .int .u64 0, .int .u64 0, .int .u64 0, .int .u64 0, .int .u64 0, .int .u64 0, .int .u64 0, .int .u64 0, .int .u64 0, .int .u64 0, .int .u64 0, .int .u64 0, .int .u64 0] 91)).setCells u1.heap.size 0 ((lzAll X).map (Value.int .u64)) = u0 at *
  generalize u1.heap.size = ga at *
  clear b2 u1
  have l3 := HA.out.lt
  obtain ⟨vl, v0, v1, v2, v3, vf0, vf1, vf2, vf3⟩ := vY
  go_wp2_with fail
  refine (limbs_any Y _).mono ?_
  rintro e u1 ⟨rfl, hb⟩
  clear vl v0 v1 v2 v3 vf0 vf1 vf2 vf3
  replace HA := Lib.hid (HA.out.below hb)
  replace hR := hR.below hb
  replace b1 := b1.trans (hb.mono b1.size)
  replace l3 := Nat.lt_of_lt_of_le l3 hb.size
  clear hb u0
  have HB := Lib.hid (LRow.zero u1)
  have b2 : Below u1.heap.size u1 (u1.alloc (.cells #[.int .u64 0, .int .u64 0, .int .u64 0, .int .u64 0, .int .u64 0, .int .u64 0, .int .u64 0, .int .u64 0, .int .u64 0, .int .u64 0, .int .u64 0, .int .u64 0, .int .u64 0, .int .u64 0, .int .u64 0, .int .u64 0] 91)) := (Below.refl _ _).alloc (Nat.le_refl _) _
  go_upto_region 3 with (refine wpList_store_mid rfl 91 (.tmp 6) (.tmp 13) rfl u1.heap.size 0 ((lzAll Y).map (Value.int .u64)).toArray rfl rfl (by simpa [lzAll_len] using HB.out.thereAt) (by simpa using lV_size (lzAll_len Y)) (lV_one _) ?_)
  replace HB := Lib.hid (HB.out.storeAll (l' := lzAll Y) (by rw [lzAll_len]; rfl))
  replace b2 := Below.setCells (Nat.le_refl u1.heap.size) ((lzAll Y).map (Value.int .u64)) 0 b2
  replace hR := hR.below b2
  replace HA := Lib.hid (HA.out.below b2)
  replace b1 := b1.trans (b2.mono b1.size)
  generalize (u1.alloc (.cells #[.int .u64 0, .int .u64 0, .int .u64 0, .int .u64 0, .int .u64 0, .int .u64 0, .int .u64 0, .int .u64 0, .int .u64 0, .int .u64 0, .int .u64 0, .int .u64 0, .int .u64 0, .int .u64 0, .int .u64 0, .int .u64 0] 91)).setCells u1.heap.size 0 ((lzAll Y).map (Value.int .u64)) = u0 at *
  generalize u1.heap.size = gb at *
  clear b2 u1
  have l4 := HB.out.lt
  have HC := Lib.hid (LRow.zero u0)
  have b2 : Below u0.heap.size u0 (u0.alloc (.cells #[.int .u64 0, .int .u64 0, .int .u64 0, .int .u64 0, .int .u64 0, .int .u64 0, .int .u64 0, .int .u64 0, .int .u64 0, .int .u64 0, .int .u64 0, .int .u64 0, .int .u64 0, .int .u64 0, .int .u64 0, .int .u64 0] 91)) := (Below.refl _ _).alloc (Nat.le_refl _) _
  go_upto_region 4 with (refine wpList_store_mid rfl 91 (.tmp 7) (.tmp 14) rfl u0.heap.size 0 ((List.replicate 16 0).map (Value.int .u64)).toArray rfl rfl (by simpa using HC.out.thereAt) (by simpa using lV_size (l := List.replicate 16 0) rfl) (lV_one _) ?_)
  replace HC := Lib.hid (HC.out.storeAll (l' := List.replicate 16 0) rfl)
  replace b2 := Below.setCells (Nat.le_refl u0.heap.size) ((List.replicate 16 0).map (Value.int .u64)) 0 b2
  replace hR := hR.below b2
  replace HA := Lib.hid (HA.out.below b2)
  replace HB := Lib.hid (HB.out.below b2)
  replace b1 := b1.trans (b2.mono b1.size)
  generalize (u0.alloc (.cells #[.int .u64 0, .int .u64 0, .int .u64 0, .int .u64 0, .int .u64 0, .int .u64 0, .int .u64 0, .int .u64 0, .int .u64 0, .int .u64 0, .int .u64 0, .int .u64 0, .int .u64 0, .int .u64 0, .int .u64 0, .int .u64 0] 91)).setCells u0.heap.size 0 ((List.replicate 16 0).map (Value.int .u64)) = u1 at *
  generalize u0.heap.size = gr at *
  clear b2 u0
  have EX : Hid (lb (lzAll X) = X) := Lib.hid (lb_lzAll hX)
  have EY : Hid (lb (lzAll Y) = Y) := Lib.hid (lb_lzAll hY)
  have LA := Lib.hid (lzAll_len X)
  have LB := Lib.hid (lzAll_len Y)
  have hLA := lzAll_limbs X
  have hLB := lzAll_limbs Y
  generalize lzAll X = a at *
  generalize lzAll Y = b at *
  go_wp2_with fail
  go_loopw [8, 9] (fun s _ u => ∃ i : Nat, i ≤ 16 ∧ s = .int .i64 (i : Int) ∧ MuI w a b g1 ga gb gr i 0 u) (fun s _ _ => (16 - intOf s).toNat)
  case atStart => exact ⟨0, by omega, rfl, b1, hR, HA.out, HB.out, List.replicate 16 0, 0, rfl, HC.out, fun j hj => by rw [nth_zero]; omega, by simp [lb]⟩
  case round =>
    obtain ⟨i, hi, rfl, hI⟩ := hrel
    clear b1 hR HA HB HC
    by_cases hlt : i = 16
    · subst hlt
      have hi1 : ¬ (((16 : Nat) : Int) < 16) := by omega
      obtain ⟨b1, hR, hA, hB, r, t, hr, hV, hn, ht⟩ := hI
      clear hA hB
      have HE : Hid (lb r % pp = X * Y % pp) := Lib.hid (by
        rw [List.take_of_length_le (by rw [LA.out]; omega), EX.out, EY.out, List.take_zero, show lb ([] : List Int) = 0 from rfl, Int.mul_zero, Int.mul_zero, Int.add_zero] at ht
        rw [← ht, Int.add_mul_emod_self_left])
      have HW : Hid (Wides r) := Lib.hid (wides_of_nth hr fun j hj => by have := hn j hj; omega)
      have Hr := Lib.hid hr; clear hr
      have HV := Lib.hid hV; clear hV
      clear hn ht
      go_wp2_with (refine wpList_load_mid rfl 91 (.tmp 7) rfl gr 0 rfl (r.map (Value.int .u64)) (.array 16 29) HV.out.range Tryd.underlying91 rfl (lV_size Hr.out) ?_)
      refine (fe_limbs r _ Hr.out HW.out).mono ?_
      rintro e u3 ⟨rfl, hb⟩
      rw [HE.out]
      replace hR := hR.below hb
      replace b1 := b1.trans (hb.mono b1.size)
      clear hb
      obtain ⟨vl, v0, v1, v2, v3, vf0, vf1, vf2, vf3⟩ := hR
      go_wp2_with fail
      refine bodyPost_ret (v := feV (X * Y % pp)) (by simp [results, Tryd.results47, go_sem, v0, v1, v2, v3]) rfl ⟨rfl, ?_⟩
      have hw1 : w.heap.size ≤ g1 := by omega
      exact (((b1.setCell hw1 _).setCell hw1 _).setCell hw1 _).setCell hw1 _
    · have hi1 : (i : Int) < 16 := by omega
      have hi0 : (0 : Int) ≤ (i : Int) := by omega
      go_wp2_with fail
      go_loopw [9] (fun s u => ∃ k : Nat, k ≤ 16 ∧ s = .int .i64 (k : Int) ∧ MuI w a b g1 ga gb gr i k u) (fun s _ => (16 - intOf s).toNat)
      case atStart => exact ⟨0, by omega, rfl, hI⟩
      case round =>
        obtain ⟨k, hk, rfl, hJ⟩ := hrel
        clear hI
        by_cases hk16 : k = 16
        · subst hk16
          have hk1 : ¬ (((16 : Nat) : Int) < 16) := by omega
          have HJ := Lib.hid (hJ.turn LA.out LB.out (by omega)); clear hJ
          go_wp2_with fail
          exact ⟨⟨i + 1, by omega, by go_num, HJ.out⟩, by simp [intOf]; omega⟩
        · have hk1 : (k : Int) < 16 := by omega
          have hk0 : (0 : Int) ≤ (k : Int) := by omega
          obtain ⟨b1, hR, hA, hB, r, t, hr, hV, hn, ht⟩ := hJ
          have HT := Lib.hid ht; clear ht
          have HN := Lib.hid hn; clear hn
          have HR := Lib.hid hR; clear hR
          have Hr := Lib.hid hr; clear hr
          have ca := hA.c i (by rw [LA.out]; omega)
          have cb := hB.c k (by rw [LB.out]; omega)
          have ba := hLA.nth (k := i) (by rw [LA.out]; omega)
          have bb := hLB.nth (k := k) (by rw [LB.out]; omega)
          have bp := mul_le ba.1 ba.2 bb.1 bb.2
          by_cases hik : i + k < 16
          · have hs1 : (i : Int) + k < 16 := by omega
            have cr := hV.c (i + k) (by rw [Hr.out]; omega)
            have fr := hV.f (i + k)
            have br := HN.out (i + k) hik
            go_wp2_with fail
            go_region
            go_wp2_with fail
            exact ⟨⟨k + 1, by omega, by go_num, MuI.put LB.out (by omega) (by omega) (by omega) (by omega) (by omega) b1 HR.out hA hB Hr.out hV HN.out HT.out hik bp.1 (by omega) 0 (by rw [Int.pow_add]; grind) rfl⟩, by simp [intOf]; omega⟩
          · obtain ⟨j, hj⟩ : ∃ j, i + k = j + 16 := ⟨i + k - 16, by omega⟩
            have hs1 : ¬ ((i : Int) + k < 16) := by omega
            have hj1 : (i : Int) + k - 16 = (j : Int) := by omega
            have cr := hV.c j (by rw [Hr.out]; omega)
            have fr := hV.f j
            have br := HN.out j (by omega)
            have HJ := Lib.hid hj; clear hj
            go_wp2_with fail
            go_region
            go_wp2_with fail
            have e : IntKind.u64.wrap (nth r j + IntKind.u64.wrap (38 * nth a i * nth b k)) = nth r j + 38 * (nth a i * nth b k) := by
              rw [Int.mul_assoc]
              generalize nth a i * nth b k = P at *
              simp only [IntKind.wrap_u64]
              omega
            rw [e]
            have hp := pow_turn HJ.out
            exact ⟨⟨k + 1, by omega, by go_num, MuI.put LB.out (by omega) (by omega) (by omega) (by omega) (by omega) b1 HR.out hA hB Hr.out hV HN.out HT.out (by omega) (by omega) (by omega) (65536 ^ j * (2 * (nth a i * nth b k))) (by grind) rfl⟩, by simp [intOf]; omega⟩
end Go.Proofs.YtfdjmdfaidiliaaDoor
namespace Go.Proofs.YtfdjmdfaidiliaaDoor
open Go.RowKit
set_option maxRecDepth 20000

theorem enters_rmul : Enters 47 := enters_of Tryd.func47 (by kernel_rfl) rfl
def wk (N : Int) (q : Nat) : Int := N / 2 ^ (64 * q) % 18446744073709551616
theorem wk_get (N : Int) : ∀ q, q < 4 → (feL N)[q]? = some (.int .u64 (wk N q))
  | 0, _ => by
    show some (Value.int .u64 (w0 N)) = some (.int .u64 (wk N 0))
    rw [show w0 N = wk N 0 by unfold w0 wk; rw [show (2 : Int) ^ (64 * 0) = 1 by decide, Int.ediv_one]]
  | 1, _ => by
    show some (Value.int .u64 (w1 N)) = some (.int .u64 (wk N 1))
    rw [show w1 N = wk N 1 by unfold w1 wk; rw [show (2 : Int) ^ (64 * 1) = 18446744073709551616 by decide]]
  | 2, _ => by
    show some (Value.int .u64 (w2 N)) = some (.int .u64 (wk N 2))
    rw [show w2 N = wk N 2 by unfold w2 wk; rw [show (2 : Int) ^ (64 * 2) = 340282366920938463463374607431768211456 by decide]]
  | 3, _ => by
    show some (Value.int .u64 (w3 N)) = some (.int .u64 (wk N 3))
    rw [show w3 N = wk N 3 by unfold w3 wk; rw [show (2 : Int) ^ (64 * 3) = 6277101735386680763835789423207666416102355444464034512896 by decide]]
  | n + 4, h => absurd h (by omega)
theorem wk_nonneg (N : Int) (q : Nat) : 0 ≤ wk N q := by unfold wk; omega
theorem wk_bit {N : Int} (hN : Num N) (i : Nat) : wk N (i / 64) / 2 ^ (i % 64) % 2 = ((N.toNat / 2 ^ i % 2 : Nat) : Int) := by
  obtain ⟨M, rfl⟩ := Int.eq_ofNat_of_zero_le hN.1
  have h := bit_of (M / 2 ^ (64 * (i / 64))) (i % 64) (by omega)
  rw [Nat.div_div_eq_div_mul, ← Nat.pow_add, show 64 * (i / 64) + i % 64 = i by omega] at h
  rw [Int.toNat_natCast, ← h]
  unfold wk
  simp
set_option maxHeartbeats 8000000 in
theorem rpow_any (X N : Int) (w : World) (hX : Num X) (hN : Num N) : Calls Tryd.prog 48 #[feV X, feV N] w fun e w' => e = .returned (feV (X ^ N.toNat % pp)) ∧ Below w.heap.size w w' := by
  have hM := Lib.hid (Mv.nil w)
  obtain ⟨P, hP⟩ : ∃ P : Nat → Int, P = fun j => X ^ (N.toNat / 2 ^ j) % pp := ⟨_, rfl⟩
  have P0 : Hid (P 256 = 1) := Lib.hid (by rw [hP]; exact pow_start hN)
  have PE : Hid (P 0 = X ^ N.toNat % pp) := Lib.hid (by rw [hP]; exact pow_end X N)
  have PN : Hid (∀ j, Num (P j)) := Lib.hid (by rw [hP]; exact fun j => num_emod_pp _)
  have PA : Hid (∀ j, N.toNat / 2 ^ j % 2 = 0 → P (j + 1) * P (j + 1) % pp = P j) := Lib.hid (by rw [hP]; exact fun j => (pow_step0 X N j).2)
  have PB : Hid (∀ j, N.toNat / 2 ^ j % 2 = 1 → P (j + 1) * P (j + 1) % pp * X % pp = P j) := Lib.hid (by rw [hP]; exact fun j => pow_step1 X N j)
  clear hP
  have HW : Hid (∀ i, wk N (i / 64) / 2 ^ (i % 64) % 2 = ((N.toNat / 2 ^ i % 2 : Nat) : Int)) := Lib.hid fun i => wk_bit hN i
  have HG : Hid (∀ q, q < 4 → (feL N)[q]? = some (.int .u64 (wk N q))) := Lib.hid (wk_get N)
  have WN : Hid (∀ q, 0 ≤ wk N q) := Lib.hid (wk_nonneg N)
  generalize X ^ N.toNat % pp = res at *
  obtain ⟨bt, hbt⟩ : ∃ bt : Nat → Nat, bt = fun j => N.toNat / 2 ^ j % 2 := ⟨_, rfl⟩
  have HB : Hid (∀ i, wk N (i / 64) / 2 ^ (i % 64) % 2 = ((bt i : Nat) : Int)) := Lib.hid (by rw [hbt]; exact HW.out)
  have QA : Hid (∀ j, bt j = 0 → P (j + 1) * P (j + 1) % pp = P j) := Lib.hid (by rw [hbt]; exact PA.out)
  have QB : Hid (∀ j, bt j = 1 → P (j + 1) * P (j + 1) % pp * X % pp = P j) := Lib.hid (by rw [hbt]; exact PB.out)
  have B2 : Hid (∀ j, bt j = 0 ∨ bt j = 1) := Lib.hid (by rw [hbt]; intro j; show N.toNat / 2 ^ j % 2 = 0 ∨ N.toNat / 2 ^ j % 2 = 1; omega)
  clear hbt HW PA PB
  go_enter Tryd.func48, Tryd.ntmps48
  go_upto_region 0 with fail; refine wp_region_lit ?_
  refine wpList_val (run_boxL (vs := feL X) rfl rfl) rfl ?_; (try simp only [Act.put, List.setIfInBounds_toArray, List.set_cons_zero, List.set_cons_succ]); replace hM := Lib.hid (hM.out.new (feL X) 31); generalize w.alloc (.cells (feL X).toArray 31) = a1 at *; generalize w.heap.size = g1 at *
  refine wpList_val (run_boxL (vs := feL N) rfl rfl) rfl ?_; (try simp only [Act.put, List.setIfInBounds_toArray, List.set_cons_zero, List.set_cons_succ]); replace hM := Lib.hid (hM.out.new (feL N) 31); generalize a1.alloc (.cells (feL N).toArray 31) = a2 at *; generalize a1.heap.size = g2 at *
  refine wpList_val (run_alc (vs := zq 4) rfl (by kernel_rfl)) rfl ?_; (try simp only [Act.put, List.setIfInBounds_toArray, List.set_cons_zero, List.set_cons_succ]); replace hM := Lib.hid (hM.out.new (zq 4) 31); generalize a2.alloc (.cells (zq 4).toArray 31) = a3 at *; generalize a2.heap.size = g3 at *
  refine wpList_end ?_
  go_upto_region 1 with fail; refine wp_region_lit ?_
  refine wpList_enter (run_call1 enters_rsmall rfl rfl rfl) rfl (rsmall_any 1 _ (by omega) (by omega)) (fun a4 hb => ?_); (try simp only [Act.put, List.setIfInBounds_toArray, List.set_cons_zero, List.set_cons_succ]); replace hM := Lib.hid (hM.out.below hb); clear hb
  refine wpList_val (run_alc (vs := zq 4) rfl (by kernel_rfl)) rfl ?_; (try simp only [Act.put, List.setIfInBounds_toArray, List.set_cons_zero, List.set_cons_succ]); replace hM := Lib.hid (hM.out.new (zq 4) 31); generalize a4.alloc (.cells (zq 4).toArray 31) = a5 at *; generalize a4.heap.size = g4 at *
  refine wpList_skip (run_stM (vs := feL 1) rfl (szFe _) rfl rfl (oneFe _) ((hM.out.get (i := 0) rfl).there)) rfl rfl ?_; replace hM := Lib.hid (hM.out.put 0 rfl (m := feL 1) rfl); generalize a5.setCells g4 0 (feL 1) = a6 at *
  refine wpList_end ?_
  go_upto_region 2 with fail; refine wp_region_lit ?_
  (repeat ((first | refine wpList_val (run_mv (v := b32 _) rfl rfl) rfl ?_ | refine wpList_val (run_mv (v := b64 _) rfl rfl) rfl ?_ | refine wpList_val (run_mv (v := b8 _) rfl rfl) rfl ?_ | refine wpList_val (run_mv (v := .int _ _) rfl rfl) rfl ?_ | refine wpList_val (run_mv (v := .bool _) rfl rfl) rfl ?_ | refine wpList_val (run_mv (v := .slice (some _) _ _) rfl rfl) rfl ?_ | refine wpList_val (run_mv (v := .slice _ _ _) rfl rfl) rfl ?_ | refine wpList_val (run_mv (v := .pointer (some _)) rfl rfl) rfl ?_ | refine wpList_val (run_mv (v := .agg _) rfl rfl) rfl ?_ | refine wpList_val (run_asg (v := b32 _) rfl rfl) rfl ?_ | refine wpList_val (run_asg (v := b64 _) rfl rfl) rfl ?_ | refine wpList_val (run_asg (v := b8 _) rfl rfl) rfl ?_ | refine wpList_val (run_asg (v := .int _ _) rfl rfl) rfl ?_ | refine wpList_val (run_asg (v := .bool _) rfl rfl) rfl ?_ | refine wpList_val (run_asg (v := .slice (some _) _ _) rfl rfl) rfl ?_ | refine wpList_val (run_asg (v := .slice _ _ _) rfl rfl) rfl ?_ | refine wpList_val (run_asg (v := .pointer (some _)) rfl rfl) rfl ?_ | refine wpList_val (run_asg (v := .agg _) rfl rfl) rfl ?_ | refine wpList_val (run_mv rfl rfl) rfl ?_ | refine wpList_val (run_asg rfl rfl) rfl ?_ | refine wpList_val (run_xor32 rfl rfl rfl) rfl ?_ | refine wpList_val (run_and32 rfl rfl rfl) rfl ?_ | refine wpList_val (run_or32 rfl rfl rfl) rfl ?_ | refine wpList_val (run_add32 rfl rfl rfl) rfl ?_ | refine wpList_val (run_not32 rfl rfl) rfl ?_ | refine wpList_val (run_xor64 rfl rfl rfl) rfl ?_ | refine wpList_val (run_and64 rfl rfl rfl) rfl ?_ | refine wpList_val (run_or64 rfl rfl rfl) rfl ?_ | refine wpList_val (run_add64 rfl rfl rfl) rfl ?_ | refine wpList_val (run_not64 rfl rfl) rfl ?_ | refine wpList_val (run_xor8 rfl rfl rfl) rfl ?_ | refine wpList_val (run_and8 rfl rfl rfl) rfl ?_ | refine wpList_val (run_or8 rfl rfl rfl) rfl ?_ | refine wpList_val (run_add8 rfl rfl rfl) rfl ?_ | refine wpList_val (run_not8 rfl rfl) rfl ?_ | refine wpList_val (run_cv64_32 rfl rfl) rfl ?_ | refine wpList_val (run_cv8_32 rfl rfl) rfl ?_ | refine wpList_val (run_cv8_64 rfl rfl) rfl ?_ | refine wpList_val (run_cv32_8 rfl rfl) rfl ?_ | refine wpList_val (run_cv64_8 rfl rfl) rfl ?_); (try simp only [Act.put, List.setIfInBounds_toArray, List.set_cons_zero, List.set_cons_succ])))
  refine wpList_end ?_
  go_wp2_with fail
  go_loopw [6] (fun s u => ∃ j : Nat, j ≤ 256 ∧ s = .int .i64 ((j : Int) - 1) ∧ Mv w [(g4, feL (P j)), (g3, zq 4), (g2, feL N), (g1, feL X)] u) (fun s _ => (intOf s + 1).toNat)
  case atStart => exact ⟨256, by omega, rfl, by rw [P0.out]; exact hM.out⟩
  case round =>
    obtain ⟨j, hj, rfl, hJ⟩ := hrel
    replace hM := Lib.hid hJ
    clear hJ
    rcases Nat.eq_zero_or_pos j with rfl | hpos
    · have hk1 : ¬ ((0 : Int) ≤ ((0 : Nat) : Int) - 1) := by omega
      rw [PE.out] at hM
      go_upto_region 8 with fail; refine wp_region_lit ?_
      refine wpList_val (run_ldM (vs := feL res) rfl Tryd.underlying31 rfl (szFe _) rfl ((hM.out.get (i := 0) rfl).range)) rfl ?_; (try simp only [Act.put, List.setIfInBounds_toArray, List.set_cons_zero, List.set_cons_succ])
      refine wpList_skip (run_stM (vs := feL res) rfl (szFe _) rfl rfl (oneFe _) ((hM.out.get (i := 1) rfl).there)) rfl rfl ?_; replace hM := Lib.hid (hM.out.put 1 rfl (m := feL res) rfl); generalize wr.setCells g3 0 (feL res) = b1 at *
      refine wpList_end ?_; go_wp2_with fail; refine bodyPost_ret (v := .agg (feL res).toArray) (results_rowB Tryd.results48 rfl Tryd.underlying31 rfl (szFe _) (hM.out.get (i := 1) rfl).range) rfl ⟨rfl, hM.out.bl⟩
    · obtain ⟨i, rfl⟩ : ∃ i, j = i + 1 := ⟨j - 1, by omega⟩
      have hk1 : (0 : Int) ≤ ((i + 1 : Nat) : Int) - 1 := by omega
      have ei : ((i + 1 : Nat) : Int) - 1 = (i : Int) := by omega
      rw [ei] at hk1 ⊢
      clear ei
      have A0 := Lib.hid (QA.out i)
      have A1 := Lib.hid (QB.out i)
      have hPn := PN.out (i + 1)
      have HBi := Lib.hid (HB.out i)
      have hw := WN.out (i / 64)
      have HGi := Lib.hid (HG.out (i / 64) (by omega))
      have h2 := B2.out i
      generalize P (i + 1) = p1 at *
      generalize wk N (i / 64) = wd at *
      generalize bt i = bi at *
      go_upto_region 5 with fail; refine wp_region_lit ?_
      refine wpList_val (run_ldM (vs := feL p1) rfl Tryd.underlying31 rfl (szFe _) rfl ((hM.out.get (i := 0) rfl).range)) rfl ?_; (try simp only [Act.put, List.setIfInBounds_toArray, List.set_cons_zero, List.set_cons_succ])
      refine wpList_val (run_ldM (vs := feL p1) rfl Tryd.underlying31 rfl (szFe _) rfl ((hM.out.get (i := 0) rfl).range)) rfl ?_; (try simp only [Act.put, List.setIfInBounds_toArray, List.set_cons_zero, List.set_cons_succ])
      refine wpList_enter (run_call2 enters_rmul rfl rfl rfl rfl) rfl (refmul_any p1 p1 _ hPn hPn) (fun b1 hb => ?_); (try simp only [Act.put, List.setIfInBounds_toArray, List.set_cons_zero, List.set_cons_succ]); replace hM := Lib.hid (hM.out.below hb); clear hb
      have hsq := num_emod_pp (p1 * p1)
      generalize p1 * p1 % pp = sq1 at *
      refine wpList_skip (run_stM (vs := feL sq1) rfl (szFe _) rfl rfl (oneFe _) ((hM.out.get (i := 0) rfl).there)) rfl rfl ?_; replace hM := Lib.hid (hM.out.put 0 rfl (m := feL sq1) rfl); generalize b1.setCells g4 0 (feL sq1) = b2 at *
      refine wpList_end ?_
      go_upto_region 6 with fail; refine wp_region_lit ?_
      (repeat ((first | refine wpList_val (run_mv (v := b32 _) rfl rfl) rfl ?_ | refine wpList_val (run_mv (v := b64 _) rfl rfl) rfl ?_ | refine wpList_val (run_mv (v := b8 _) rfl rfl) rfl ?_ | refine wpList_val (run_mv (v := .int _ _) rfl rfl) rfl ?_ | refine wpList_val (run_mv (v := .bool _) rfl rfl) rfl ?_ | refine wpList_val (run_mv (v := .slice (some _) _ _) rfl rfl) rfl ?_ | refine wpList_val (run_mv (v := .slice _ _ _) rfl rfl) rfl ?_ | refine wpList_val (run_mv (v := .pointer (some _)) rfl rfl) rfl ?_ | refine wpList_val (run_mv (v := .agg _) rfl rfl) rfl ?_ | refine wpList_val (run_asg (v := b32 _) rfl rfl) rfl ?_ | refine wpList_val (run_asg (v := b64 _) rfl rfl) rfl ?_ | refine wpList_val (run_asg (v := b8 _) rfl rfl) rfl ?_ | refine wpList_val (run_asg (v := .int _ _) rfl rfl) rfl ?_ | refine wpList_val (run_asg (v := .bool _) rfl rfl) rfl ?_ | refine wpList_val (run_asg (v := .slice (some _) _ _) rfl rfl) rfl ?_ | refine wpList_val (run_asg (v := .slice _ _ _) rfl rfl) rfl ?_ | refine wpList_val (run_asg (v := .pointer (some _)) rfl rfl) rfl ?_ | refine wpList_val (run_asg (v := .agg _) rfl rfl) rfl ?_ | refine wpList_val (run_mv rfl rfl) rfl ?_ | refine wpList_val (run_asg rfl rfl) rfl ?_ | refine wpList_val (run_xor32 rfl rfl rfl) rfl ?_ | refine wpList_val (run_and32 rfl rfl rfl) rfl ?_ | refine wpList_val (run_or32 rfl rfl rfl) rfl ?_ | refine wpList_val (run_add32 rfl rfl rfl) rfl ?_ | refine wpList_val (run_not32 rfl rfl) rfl ?_ | refine wpList_val (run_xor64 rfl rfl rfl) rfl ?_ | refine wpList_val (run_and64 rfl rfl rfl) rfl ?_ | refine wpList_val (run_or64 rfl rfl rfl) rfl ?_ | refine wpList_val (run_add64 rfl rfl rfl) rfl ?_ | refine wpList_val (run_not64 rfl rfl) rfl ?_ | refine wpList_val (run_xor8 rfl rfl rfl) rfl ?_ | refine wpList_val (run_and8 rfl rfl rfl) rfl ?_ | refine wpList_val (run_or8 rfl rfl rfl) rfl ?_ | refine wpList_val (run_add8 rfl rfl rfl) rfl ?_ | refine wpList_val (run_not8 rfl rfl) rfl ?_ | refine wpList_val (run_cv64_32 rfl rfl) rfl ?_ | refine wpList_val (run_cv8_32 rfl rfl) rfl ?_ | refine wpList_val (run_cv8_64 rfl rfl) rfl ?_ | refine wpList_val (run_cv32_8 rfl rfl) rfl ?_ | refine wpList_val (run_cv64_8 rfl rfl) rfl ?_); (try simp only [Act.put, List.setIfInBounds_toArray, List.set_cons_zero, List.set_cons_succ])))
      refine wpList_val (run_quoN (a := i) (b := 64) rfl rfl rfl (by omega) (by omega)) rfl ?_; (try simp only [Act.put, List.setIfInBounds_toArray, List.set_cons_zero, List.set_cons_succ])
      refine wpList_val (run_ix0 (i := i / 64) rfl Tryd.underlying31 (by kernel_rfl) rfl rfl (by omega)) rfl ?_; (try simp only [Act.put, List.setIfInBounds_toArray, List.set_cons_zero, List.set_cons_succ])
      refine wpList_val (run_ld64 rfl rfl ((hM.out.get (i := 2) rfl).c _ _ HGi.out)) rfl ?_; (try simp only [Act.put, List.setIfInBounds_toArray, List.set_cons_zero, List.set_cons_succ])
      (repeat ((first | refine wpList_val (run_mv (v := b32 _) rfl rfl) rfl ?_ | refine wpList_val (run_mv (v := b64 _) rfl rfl) rfl ?_ | refine wpList_val (run_mv (v := b8 _) rfl rfl) rfl ?_ | refine wpList_val (run_mv (v := .int _ _) rfl rfl) rfl ?_ | refine wpList_val (run_mv (v := .bool _) rfl rfl) rfl ?_ | refine wpList_val (run_mv (v := .slice (some _) _ _) rfl rfl) rfl ?_ | refine wpList_val (run_mv (v := .slice _ _ _) rfl rfl) rfl ?_ | refine wpList_val (run_mv (v := .pointer (some _)) rfl rfl) rfl ?_ | refine wpList_val (run_mv (v := .agg _) rfl rfl) rfl ?_ | refine wpList_val (run_asg (v := b32 _) rfl rfl) rfl ?_ | refine wpList_val (run_asg (v := b64 _) rfl rfl) rfl ?_ | refine wpList_val (run_asg (v := b8 _) rfl rfl) rfl ?_ | refine wpList_val (run_asg (v := .int _ _) rfl rfl) rfl ?_ | refine wpList_val (run_asg (v := .bool _) rfl rfl) rfl ?_ | refine wpList_val (run_asg (v := .slice (some _) _ _) rfl rfl) rfl ?_ | refine wpList_val (run_asg (v := .slice _ _ _) rfl rfl) rfl ?_ | refine wpList_val (run_asg (v := .pointer (some _)) rfl rfl) rfl ?_ | refine wpList_val (run_asg (v := .agg _) rfl rfl) rfl ?_ | refine wpList_val (run_mv rfl rfl) rfl ?_ | refine wpList_val (run_asg rfl rfl) rfl ?_ | refine wpList_val (run_xor32 rfl rfl rfl) rfl ?_ | refine wpList_val (run_and32 rfl rfl rfl) rfl ?_ | refine wpList_val (run_or32 rfl rfl rfl) rfl ?_ | refine wpList_val (run_add32 rfl rfl rfl) rfl ?_ | refine wpList_val (run_not32 rfl rfl) rfl ?_ | refine wpList_val (run_xor64 rfl rfl rfl) rfl ?_ | refine wpList_val (run_and64 rfl rfl rfl) rfl ?_ | refine wpList_val (run_or64 rfl rfl rfl) rfl ?_ | refine wpList_val (run_add64 rfl rfl rfl) rfl ?_ | refine wpList_val (run_not64 rfl rfl) rfl ?_ | refine wpList_val (run_xor8 rfl rfl rfl) rfl ?_ | refine wpList_val (run_and8 rfl rfl rfl) rfl ?_ | refine wpList_val (run_or8 rfl rfl rfl) rfl ?_ | refine wpList_val (run_add8 rfl rfl rfl) rfl ?_ | refine wpList_val (run_not8 rfl rfl) rfl ?_ | refine wpList_val (run_cv64_32 rfl rfl) rfl ?_ | refine wpList_val (run_cv8_32 rfl rfl) rfl ?_ | refine wpList_val (run_cv8_64 rfl rfl) rfl ?_ | refine wpList_val (run_cv32_8 rfl rfl) rfl ?_ | refine wpList_val (run_cv64_8 rfl rfl) rfl ?_); (try simp only [Act.put, List.setIfInBounds_toArray, List.set_cons_zero, List.set_cons_succ])))
      refine wpList_val (run_remN (a := i) (b := 64) rfl rfl rfl (by omega)) rfl ?_; (try simp only [Act.put, List.setIfInBounds_toArray, List.set_cons_zero, List.set_cons_succ])
      refine wpList_val (run_cviuN (n := i % 64) rfl rfl (by omega)) rfl ?_; (try simp only [Act.put, List.setIfInBounds_toArray, List.set_cons_zero, List.set_cons_succ])
      refine wpList_val (run_shrU (n := i % 64) rfl rfl rfl (by omega)) rfl ?_; (try simp only [Act.put, List.setIfInBounds_toArray, List.set_cons_zero, List.set_cons_succ])
      refine wpList_val (run_remU (b := 2) rfl rfl rfl (Int.ediv_nonneg hw (Int.pow_nonneg (by omega))) (by omega)) rfl ?_; (try simp only [Act.put, List.setIfInBounds_toArray, List.set_cons_zero, List.set_cons_succ])
      rw [HBi.out]
      rcases h2 with rfl | rfl
      · have hv := A0.out rfl
        refine wpList_val (run_eqlb (k := .u64) (c := false) rfl rfl rfl rfl) rfl ?_; (try simp only [Act.put, List.setIfInBounds_toArray, List.set_cons_zero, List.set_cons_succ])
        refine wpList_end ?_
        rw [hv] at hM
        clear hv A0 A1 HBi HGi hw
        go_wp2_with fail
        exact ⟨⟨i, by omega, by go_num, hM.out⟩, by simp [intOf]⟩
      · have hv := A1.out rfl
        refine wpList_val (run_eqlb (k := .u64) (c := true) rfl rfl rfl rfl) rfl ?_; (try simp only [Act.put, List.setIfInBounds_toArray, List.set_cons_zero, List.set_cons_succ])
        refine wpList_end ?_
        go_upto_region 7 with fail; refine wp_region_lit ?_
        refine wpList_val (run_ldM (vs := feL sq1) rfl Tryd.underlying31 rfl (szFe _) rfl ((hM.out.get (i := 0) rfl).range)) rfl ?_; (try simp only [Act.put, List.setIfInBounds_toArray, List.set_cons_zero, List.set_cons_succ])
        refine wpList_val (run_ldM (vs := feL X) rfl Tryd.underlying31 rfl (szFe _) rfl ((hM.out.get (i := 3) rfl).range)) rfl ?_; (try simp only [Act.put, List.setIfInBounds_toArray, List.set_cons_zero, List.set_cons_succ])
        refine wpList_enter (run_call2 enters_rmul rfl rfl rfl rfl) rfl (refmul_any sq1 X _ hsq hX) (fun b3 hb => ?_); (try simp only [Act.put, List.setIfInBounds_toArray, List.set_cons_zero, List.set_cons_succ]); replace hM := Lib.hid (hM.out.below hb); clear hb
        rw [hv]
        refine wpList_skip (run_stM (vs := feL (P i)) rfl (szFe _) rfl rfl (oneFe _) ((hM.out.get (i := 0) rfl).there)) rfl rfl ?_; replace hM := Lib.hid (hM.out.put 0 rfl (m := feL (P i)) rfl); generalize b3.setCells g4 0 (feL (P i)) = b4 at *
        refine wpList_end ?_
        clear hv A0 A1 HBi HGi hw
        go_wp2_with fail
        exact ⟨⟨i, by omega, by go_num, hM.out⟩, by simp [intOf]⟩
theorem enters_rpow : Enters 48 := enters_of Tryd.func48 (by kernel_rfl) rfl
theorem built_pp2 : Tryd.prog.built 31 [(0, .int .u64 18446744073709551595), (1, .int .u64 18446744073709551615), (2, .int .u64 18446744073709551615), (3, .int .u64 9223372036854775807)] = some (feL (pp - 2)).toArray := by kernel_rfl
set_option maxHeartbeats 4000000 in
theorem reven_any (X : Int) (w : World) (hX : Num X) : Calls Tryd.prog 49 #[feV X] w fun e w' => e = .returned (feV (evn X)) ∧ Below w.heap.size w w' := by
  have hM := Lib.hid (Mv.nil w)
  have HE1 : Hid (X % 2 = 1 → evn X = -X % pp) := Lib.hid fun h => if_pos h
  have HE0 : Hid (¬ X % 2 = 1 → evn X = X) := Lib.hid fun h => if_neg h
  have hw : w0 X % 2 = X % 2 := by unfold w0; omega
  have hw0 := (w0_word X).1
  have CN : Hid (∀ u, Calls Tryd.prog 27 #[feV X] u fun e w' => e = .returned (feV (-X % pp)) ∧ Below u.heap.size u w') := Lib.hid fun u => rneg_any X u hX
  generalize evn X = res at *
  go_enter Tryd.func49, Tryd.ntmps49
  go_upto_region 0 with fail; refine wp_region_lit ?_
  refine wpList_val (run_boxL (vs := feL X) rfl rfl) rfl ?_; (try simp only [Act.put, List.setIfInBounds_toArray, List.set_cons_zero, List.set_cons_succ]); replace hM := Lib.hid (hM.out.new (feL X) 31); generalize w.alloc (.cells (feL X).toArray 31) = a1 at *; generalize w.heap.size = g1 at *
  refine wpList_val (run_alc (vs := zq 4) rfl (by kernel_rfl)) rfl ?_; (try simp only [Act.put, List.setIfInBounds_toArray, List.set_cons_zero, List.set_cons_succ]); replace hM := Lib.hid (hM.out.new (zq 4) 31); generalize a1.alloc (.cells (zq 4).toArray 31) = a2 at *; generalize a1.heap.size = g2 at *
  refine wpList_end ?_
  go_upto_region 1 with fail; refine wp_region_lit ?_
  refine wpList_val (run_ix0 (i := 0) rfl Tryd.underlying31 (by kernel_rfl) rfl rfl (by omega)) rfl ?_; (try simp only [Act.put, List.setIfInBounds_toArray, List.set_cons_zero, List.set_cons_succ])
  refine wpList_val (run_ld64 (v := .int .u64 (w0 X)) rfl rfl ((hM.out.get (i := 1) rfl).c 0 _ rfl)) rfl ?_; (try simp only [Act.put, List.setIfInBounds_toArray, List.set_cons_zero, List.set_cons_succ])
  refine wpList_val (run_remU (b := 2) rfl rfl rfl hw0 (by omega)) rfl ?_; (try simp only [Act.put, List.setIfInBounds_toArray, List.set_cons_zero, List.set_cons_succ])
  by_cases h1 : X % 2 = 1
  · have e := HE1.out h1
    subst e
    refine wpList_val (run_eqlb (k := .u64) (c := true) rfl rfl rfl (by rw [hw, h1]; rfl)) rfl ?_; (try simp only [Act.put, List.setIfInBounds_toArray, List.set_cons_zero, List.set_cons_succ])
    refine wpList_end ?_
    clear h1 hw
    go_upto_region 2 with fail; refine wp_region_lit ?_
    refine wpList_val (run_ldM (vs := feL X) rfl Tryd.underlying31 rfl (szFe _) rfl ((hM.out.get (i := 1) rfl).range)) rfl ?_; (try simp only [Act.put, List.setIfInBounds_toArray, List.set_cons_zero, List.set_cons_succ])
    refine wpList_enter (run_call1 enters_rneg rfl rfl rfl) rfl (CN.out _) (fun a3 hb => ?_); (try simp only [Act.put, List.setIfInBounds_toArray, List.set_cons_zero, List.set_cons_succ]); replace hM := Lib.hid (hM.out.below hb); clear hb
    refine wpList_skip (run_stM (vs := feL (-X % pp)) rfl (szFe _) rfl rfl (oneFe _) ((hM.out.get (i := 0) rfl).there)) rfl rfl ?_; replace hM := Lib.hid (hM.out.put 0 rfl (m := feL (-X % pp)) rfl); generalize a3.setCells g2 0 (feL (-X % pp)) = a4 at *
    refine wpList_end ?_; go_wp2_with fail; refine bodyPost_ret (v := .agg (feL (-X % pp)).toArray) (results_rowB Tryd.results49 rfl Tryd.underlying31 rfl (szFe _) (hM.out.get (i := 0) rfl).range) rfl ⟨rfl, hM.out.bl⟩
  · have e := HE0.out h1
    refine wpList_val (run_eqlb (k := .u64) (c := false) rfl rfl rfl (by rw [hw]; simpa using h1)) rfl ?_; (try simp only [Act.put, List.setIfInBounds_toArray, List.set_cons_zero, List.set_cons_succ])
    refine wpList_end ?_
    clear h1 hw
    go_upto_region 3 with fail; refine wp_region_lit ?_
    refine wpList_val (run_ldM (vs := feL X) rfl Tryd.underlying31 rfl (szFe _) rfl ((hM.out.get (i := 1) rfl).range)) rfl ?_; (try simp only [Act.put, List.setIfInBounds_toArray, List.set_cons_zero, List.set_cons_succ])
    refine wpList_skip (run_stM (vs := feL X) rfl (szFe _) rfl rfl (oneFe _) ((hM.out.get (i := 0) rfl).there)) rfl rfl ?_; replace hM := Lib.hid (hM.out.put 0 rfl (m := feL X) rfl); generalize a2.setCells g2 0 (feL X) = a4 at *
    refine wpList_end ?_; go_wp2_with fail; refine bodyPost_ret (v := .agg (feL X).toArray) (results_rowB Tryd.results49 rfl Tryd.underlying31 rfl (szFe _) (hM.out.get (i := 0) rfl).range) rfl ⟨by rw [e], hM.out.bl⟩
theorem enters_reven : Enters 49 := enters_of Tryd.func49 (by kernel_rfl) rfl
end Go.Proofs.YtfdjmdfaidiliaaDoor
