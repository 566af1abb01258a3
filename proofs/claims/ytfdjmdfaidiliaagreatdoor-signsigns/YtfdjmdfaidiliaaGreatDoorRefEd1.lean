import Derived.Test.YtfdjmdfaidiliaaGreatDoorLimbs6
import Derived.Test.YtfdjmdfaidiliaaGreatDoorLy
import Derived.Test.YtfdjmdfaidiliaaGreatDoorEdOps
import Derived.Test.YtfdjmdfaidiliaaGreatDoorGenA
import Derived.Test.YtfdjmdfaidiliaaGreatDoorRootMath
import Derived.Test.YtfdjmdfaidiliaaGreatDoorEdRes
namespace Go.Proofs.YtfdjmdfaidiliaaGreatDoor
open Go.RowKit Go.Sort
set_option maxRecDepth 20000
theorem lb_set : ∀ {m : List Int} {j : Nat}, j < m.length → ∀ x : Int, lb (m.set j x) = lb m + 65536 ^ j * (x - nth m j)
  | [], j, h, _ => by simp at h
  | y :: t, 0, _, x => by simp [lb, nth]; omega
  | y :: t, j + 1, h, x => by
    have e := lb_set (m := t) (j := j) (by simpa using h) x
    rw [List.set_cons_succ, lb, lb, e, show nth (y :: t) (j + 1) = nth t j by simp [nth], Int.pow_succ, Int.mul_add, Int.mul_comm (65536 ^ j) 65536, Int.mul_assoc, Int.add_assoc]
theorem nth_zero (n j : Nat) : nth (List.replicate n 0) j = 0 := by
  simp only [nth, List.getElem?_replicate]; split <;> rfl
structure MuI (w : World) (a b : List Int) (g1 ga gb gr i k : Nat) (u : World) : Prop where
  bl : Below w.heap.size w u
  R : Var4 g1 0 u
  A : LRow ga a u
  B : LRow gb b u
  V : ∃ (r : List Int) (t : Int), r.length = 16 ∧ LRow gr r u ∧ (∀ j, j < 16 → 0 ≤ nth r j ∧ nth r j ≤ (16 * (i : Int) + k) * 163203776550) ∧ lb r + pp * t = lb (a.take i) * lb b + 65536 ^ i * (nth a i * lb (b.take k))
theorem mul_le {x y : Int} (h0 : 0 ≤ x) (h1 : x < 65536) (h2 : 0 ≤ y) (h3 : y < 65536) : 0 ≤ x * y ∧ x * y ≤ 4294836225 := by
  refine ⟨Int.mul_nonneg h0 h2, ?_⟩
  have := Int.mul_le_mul (show x ≤ 65535 by omega) (show y ≤ 65535 by omega) h2 (by omega)
  omega
theorem MuI.put {w u u' : World} {a b r : List Int} {g1 ga gb gr i k j : Nat} {t v : Int} (hb : b.length = 16) (hk : k < 16) (hw : w.heap.size ≤ gr) (h1 : g1 ≠ gr) (h2 : ga ≠ gr) (h3 : gb ≠ gr)
    (bl : Below w.heap.size w u) (R : Var4 g1 0 u) (A : LRow ga a u) (B : LRow gb b u) (hr : r.length = 16) (hV : LRow gr r u) (hn : ∀ j, j < 16 → 0 ≤ nth r j ∧ nth r j ≤ (16 * (i : Int) + k) * 163203776550) (ht : lb r + pp * t = lb (a.take i) * lb b + 65536 ^ i * (nth a i * lb (b.take k)))
    (hj : j < 16) (v0 : 0 ≤ v) (v1 : v ≤ 163203776550) (t' : Int) (hv : 65536 ^ j * v + pp * t' = 65536 ^ i * (nth a i * (65536 ^ k * nth b k)))
    (hu : u' = (u.setCell ⟨gr, j, none⟩ (.int .u64 (nth r j + v))).drew) : MuI w a b g1 ga gb gr i (k + 1) u' := by
  subst hu
  refine ⟨(bl.setCell (p := ⟨gr, j, none⟩) hw _).drew, (R.far (Ne.symm h1) _ _).drew, (A.far (Ne.symm h2) _ _).drew, (B.far (Ne.symm h3) _ _).drew, r.set j (nth r j + v), t + t', by rw [List.length_set, hr], (hV.set (by omega) _).drew, fun q hq => ?_, ?_⟩
  · have h := hn q hq
    have hb2 : (16 * (i : Int) + k) * 163203776550 + 163203776550 = (16 * (i : Int) + (k + 1 : Nat)) * 163203776550 := by rw [Int.natCast_add]; omega
    by_cases e : j = q
    · subst e; rw [nth_set_same (by omega)]; omega
    · rw [qdj e]; omega
  · rw [lb_set (by omega), qbn (l := b) (by omega), show nth r j + v - nth r j = v by omega]
    generalize lb (b.take k) = B' at *
    generalize lb (a.take i) = A' at *
    generalize (65536 : Int) ^ i = M at *
    generalize (65536 : Int) ^ k = K at *
    generalize (65536 : Int) ^ j = J at *
    generalize pp = p at *
    grind
theorem MuI.turn {w u : World} {a b : List Int} {g1 ga gb gr i : Nat} (ha : a.length = 16) (hb : b.length = 16) (hi : i < 16) (h : MuI w a b g1 ga gb gr i 16 u) : MuI w a b g1 ga gb gr (i + 1) 0 u := by
  obtain ⟨bl, R, A, B, r, t, hr, hV, hn, ht⟩ := h
  refine ⟨bl, R, A, B, r, t, hr, hV, fun j hj => ?_, ?_⟩
  · have h := hn j hj
    have e : (16 * (i : Int) + (16 : Nat)) * 163203776550 = (16 * ((i + 1 : Nat) : Int) + (0 : Nat)) * 163203776550 := by rw [Int.natCast_add]; omega
    omega
  · rw [ht, List.take_of_length_le (l := b) (by omega), qbn (by omega), List.take_zero, show lb ([] : List Int) = 0 from rfl, Int.mul_zero, Int.mul_zero, Int.add_zero, Int.add_mul, Int.mul_assoc]
theorem wides_of_nth {m : List Int} (hm : m.length = 16) (h : ∀ j, j < 16 → 0 ≤ nth m j ∧ nth m j < 4611686018427387904) : Wides m := fun b hb => by
  obtain ⟨i, hi, rfl⟩ := List.getElem_of_mem hb
  have e := h i (by omega)
  unfold nth at e
  rwa [List.getElem?_eq_getElem hi, Option.getD_some] at e
theorem pow_turn {i k j : Nat} (h : i + k = j + 16) : (65536 : Int) ^ i * 65536 ^ k = 65536 ^ j * (2 * pp + 38) := by
  rw [← Int.pow_add, h, Int.pow_add, pow16]; rfl
end Go.Proofs.YtfdjmdfaidiliaaGreatDoor
namespace Go.Proofs.YtfdjmdfaidiliaaGreatDoor
open Go.RowKit
set_option maxRecDepth 20000
section
variable {w : World} {ρ : Operand → Value} {o : Oper} {t t' : TypeId} {x y : Operand} {a b : Int}
theorem run_addU (ho : o.op = .binOp .add t x y t') (hx : ρ x = .int .u64 a) (hy : ρ y = .int .u64 b) (h0 : 0 ≤ a + b) (h1 : a + b < 18446744073709551616) : (execOp ρ o).run Tryz.prog w = .ok (.value (.int .u64 (a + b))) w := by
  obtain ⟨dst, op, type, pos, after, guard⟩ := o
  subst ho
  have e : IntKind.u64.wrap (a + b) = a + b := by rw [wrap64]; omega
  go_simp
theorem run_subU (ho : o.op = .binOp .sub t x y t') (hx : ρ x = .int .u64 a) (hy : ρ y = .int .u64 b) (h0 : 0 ≤ a - b) (h1 : a - b < 18446744073709551616) : (execOp ρ o).run Tryz.prog w = .ok (.value (.int .u64 (a - b))) w := by
  obtain ⟨dst, op, type, pos, after, guard⟩ := o
  subst ho
  have e : IntKind.u64.wrap (a - b) = a - b := by rw [wrap64]; omega
  go_simp
theorem run_remU (ho : o.op = .binOp .rem t x y t') (hx : ρ x = .int .u64 a) (hy : ρ y = .int .u64 b) (h0 : 0 ≤ a) (h1 : 0 < b) : (execOp ρ o).run Tryz.prog w = .ok (.value (.int .u64 (a % b))) w := by
  obtain ⟨dst, op, type, pos, after, guard⟩ := o
  subst ho
  have hb : ¬ b = 0 := by omega
  go_simp
  rw [Int.tmod_eq_emod_of_nonneg h0]
theorem run_shrU {n : Nat} (ho : o.op = .binOp .shr t x y t') (hx : ρ x = .int .u64 a) (hy : ρ y = .int .u64 (n : Int)) (hn : n ≤ 64) : (execOp ρ o).run Tryz.prog w = .ok (.value (.int .u64 (a / 2 ^ n))) w := by
  obtain ⟨dst, op, type, pos, after, guard⟩ := o
  subst ho
  have hn0 : (0 : Int) ≤ (n : Int) := by omega
  go_simp
theorem run_stU {g i : Nat} {v : Value} (ho : o.op = .store 45 x y) (hx : ρ x = .pointer (some ⟨g, i, none⟩)) (hy : ρ y = .int .u64 a) (hc : w.cell? ⟨g, i, none⟩ = some v) (hf : w.frozen? ⟨g, i, none⟩ = false) : (execOp ρ o).run Tryz.prog w = .ok .skip (w.setCell ⟨g, i, none⟩ (.int .u64 a)) := by
  obtain ⟨dst, op, type, pos, after, guard⟩ := o
  subst ho
  go_simp
end
abbrev lL (l : List Int) : List Value := l.map (Value.int .u64)
theorem get_nth {l : List Int} {i : Nat} (h : i < l.length) : (lL l)[i]? = some (.int .u64 (nth l i)) := by
  unfold nth
  rw [List.getElem?_map, List.getElem?_eq_getElem h]; rfl
theorem set_lL (l : List Int) (i : Nat) (v : Int) : (lL l).set i (.int .u64 v) = lL (l.set i v) := by rw [← List.map_set]
theorem zq_len (n : Nat) : (zq n).length = n := List.length_replicate
theorem lL_len {l : List Int} {n : Nat} (h : l.length = n) : (lL l).length = (zq n).length := by rw [zq_len, List.length_map, h]
theorem enters_limbsF : Enters 94 := qao Tryz.func94 (by kernel_rfl) rfl
theorem enters_fe : Enters 93 := qao Tryz.func93 (by kernel_rfl) rfl
theorem feV_small {n : Int} (h0 : 0 ≤ n) (h1 : n < 4294967296) : feL n = [.int .u64 n, .int .u64 0, .int .u64 0, .int .u64 0] := by
  have e0 : w0 n = n := by unfold w0; omega
  have e1 : w1 n = 0 := by unfold w1; omega
  have e2 : w2 n = 0 := by unfold w2; omega
  have e3 : w3 n = 0 := by unfold w3; omega
  unfold feL
  rw [e0, e1, e2, e3]
theorem built_small (n : Int) : Tryz.prog.built 47 [(0, .int .u64 n), (1, .int .u64 0), (2, .int .u64 0), (3, .int .u64 0)] = some [.int .u64 n, .int .u64 0, .int .u64 0, .int .u64 0].toArray := by kernel_rfl
set_option maxHeartbeats 4000000 in
theorem rsmall_any (n : Int) (w : World) (h0 : 0 ≤ n) (h1 : n < 4294967296) : Calls Tryz.prog 117 #[.int .u32 n] w fun e w' => e = .returned (feV n) ∧ Below w.heap.size w w' := by
  have hM := Lib.hid (Mv.nil w)
  have HF := Lib.hid (feV_small h0 h1)
  have HB := Lib.hid (built_small n)
  rw [← HF.out] at HB
  go_enter Tryz.func117, Tryz.ntmps117
  go_upto_region 0 with fail; refine wp_region_lit ?_
  refine qaa (qar (vs := zq 4) rfl (by kernel_rfl)) rfl ?_; (try simp only [Act.put, lyy]); replace hM := Lib.hid (hM.out.new (zq 4) 47); generalize w.alloc (.cells (zq 4).toArray 47) = a1 at *; generalize w.heap.size = g1 at *
  refine qac ?_
  go_upto_region 1 with fail; refine wp_region_lit ?_
  refine qaa (qaf (v := .int _ _) rfl rfl) rfl ?_; (try simp only [Act.put, lyy])
  refine qaa (run_cv (k := .u64) rfl Tryz.underlying103 Tryz.underlying45 rfl) rfl ?_; (try simp only [Act.put, lyy])
  rw [show IntKind.u64.wrap n = n by rw [wrap64]; omega]
  refine qaa (run_bld4 rfl rfl rfl rfl rfl HB.out) rfl ?_; (try simp only [Act.put, lyy])
  refine qae (qaq (vs := feL n) rfl (szFe _) rfl rfl (oneFe _) ((hM.out.get (i := 0) rfl).there)) rfl rfl ?_; replace hM := Lib.hid (hM.out.put 0 rfl (m := feL n) rfl); generalize a1.setCells g1 0 (feL n) = a2 at *
  refine qac ?_; go_wp2_with fail; refine bodyPost_ret (v := .agg (feL n).toArray) (qat Tryz.results117 rfl Tryz.underlying47 rfl (szFe _) (hM.out.get (i := 0) rfl).range) rfl ⟨rfl, hM.out.bl⟩
theorem enters_rsmall : Enters 117 := qao Tryz.func117 (by kernel_rfl) rfl
structure AdI (a f : List Int) (k : Nat) (l : List Int) : Prop where
  len : l.length = 16
  bd : ∀ x ∈ l, 0 ≤ x ∧ x ≤ 200000 * (k + 1)
  eq : lb l = lb a + lb (f.take k)
theorem AdI.start {a f : List Int} (ha : a.length = 16) (hL : Limbs a) : AdI a f 0 a := ⟨ha, fun x hx => by have := hL x hx; omega, by simp [lb]⟩
theorem AdI.step {a f : List Int} (hf : f.length = 16) (hb : ∀ x ∈ f, 0 ≤ x ∧ x ≤ 131070) {k : Nat} {l : List Int} (h : AdI a f k l) (hk : k < 16) : AdI a f (k + 1) (l.set k (nth l k + nth f k)) := by
  have hlen := h.len
  have h1 := h.bd _ (nth_mem (show k < l.length by omega))
  have h2 := hb _ (nth_mem (show k < f.length by omega))
  refine ⟨by rw [List.length_set, h.len], fun x hx => ?_, ?_⟩
  · rcases List.mem_or_eq_of_mem_set hx with h3 | h3
    · have := h.bd x h3; omega
    · rw [h3]; omega
  · rw [lb_set (by omega), h.eq, qbn (by omega)]
    rw [show nth l k + nth f k - nth l k = nth f k by omega]
    omega
theorem AdI.wides {a f : List Int} {k : Nat} {l : List Int} (h : AdI a f k l) (hk : k ≤ 16) : Wides l := fun x hx => by have := h.bd x hx; omega
theorem AdI.get {a f : List Int} {k : Nat} {l : List Int} (h : AdI a f k l) (hk : k < 16) : 0 ≤ nth l k ∧ nth l k ≤ 200000 * (k + 1) := h.bd _ (nth_mem (by have := h.len; omega))
set_option maxHeartbeats 8000000 in
theorem radd_any (X Y : Int) (w : World) (hX : Num X) (hY : Num Y) : Calls Tryz.prog 116 #[feV X, feV Y] w fun e w' => e = .returned (feV ((X + Y) % pp)) ∧ Below w.heap.size w w' := by
  have hM := Lib.hid (Mv.nil w)
  have lA := qbs X
  have lB := qbs Y
  have HE : Hid (∀ l, AdI (lzAll X) (lzAll Y) 16 l → lb l = X + Y) := Lib.hid fun l h => by rw [h.eq, List.take_of_length_le (by omega), lb_lzAll hX, lb_lzAll hY]
  have dB := qc5 Y
  have S0 := Lib.hid (AdI.start (f := lzAll Y) lA (qc5 X))
  have SS : Hid (∀ (k : Nat) (l : List Int), AdI (lzAll X) (lzAll Y) k l → k < 16 → AdI (lzAll X) (lzAll Y) (k + 1) (l.set k (nth l k + nth (lzAll Y) k))) := Lib.hid fun k l h hk => h.step lB (fun x hx => by have := dB x hx; omega) hk
  have BB : Hid (∀ k, k < 16 → 0 ≤ nth (lzAll Y) k ∧ nth (lzAll Y) k < 65536) := Lib.hid fun k hk => dB.nth (by omega)
  have CA : Hid (∀ u, Calls Tryz.prog 94 #[feV X] u fun e w' => e = .returned (.agg (lL (lzAll X)).toArray) ∧ Below u.heap.size u w') := Lib.hid fun u => limbs_any X u
  have CB : Hid (∀ u, Calls Tryz.prog 94 #[feV Y] u fun e w' => e = .returned (.agg (lL (lzAll Y)).toArray) ∧ Below u.heap.size u w') := Lib.hid fun u => limbs_any Y u
  clear dB
  generalize lzAll X = A at *
  generalize lzAll Y = B at *
  have SA := Lib.hid (qcf lA)
  have SB := Lib.hid (qcf lB)
  go_enter Tryz.func116, Tryz.ntmps116
  go_upto_region 0 with fail; refine wp_region_lit ?_
  refine qaa (qbf (vs := feL X) rfl rfl) rfl ?_; (try simp only [Act.put, lyy]); replace hM := Lib.hid (hM.out.new (feL X) 47); generalize w.alloc (.cells (feL X).toArray 47) = a1 at *; generalize w.heap.size = g1 at *
  refine qaa (qbf (vs := feL Y) rfl rfl) rfl ?_; (try simp only [Act.put, lyy]); replace hM := Lib.hid (hM.out.new (feL Y) 47); generalize a1.alloc (.cells (feL Y).toArray 47) = a2 at *; generalize a1.heap.size = g2 at *
  refine qaa (qar (vs := zq 4) rfl (by kernel_rfl)) rfl ?_; (try simp only [Act.put, lyy]); replace hM := Lib.hid (hM.out.new (zq 4) 47); generalize a2.alloc (.cells (zq 4).toArray 47) = a3 at *; generalize a2.heap.size = g3 at *
  refine qac ?_
  go_upto_region 1 with fail; refine wp_region_lit ?_
  refine qaa (qah (vs := feL X) rfl Tryz.underlying47 rfl (szFe _) rfl ((hM.out.get (i := 2) rfl).range)) rfl ?_; (try simp only [Act.put, lyy])
  refine qai (qaj enters_limbsF rfl rfl rfl) rfl (CA.out _) (fun a4 hb => ?_); (try simp only [Act.put, lyy]); replace hM := Lib.hid (hM.out.below hb); clear hb
  refine qaa (qar (vs := zq 16) rfl (by kernel_rfl)) rfl ?_; (try simp only [Act.put, lyy]); replace hM := Lib.hid (hM.out.new (zq 16) 115); generalize a4.alloc (.cells (zq 16).toArray 115) = a5 at *; generalize a4.heap.size = g4 at *
  refine qae (qaq (vs := lL A) rfl SA.out rfl rfl (lV_one _) (by rw [lL_len lA]; exact (hM.out.get (i := 0) rfl).there)) rfl rfl ?_
  replace hM := Lib.hid (hM.out.put 0 rfl (m := lL A) (lL_len lA))
  generalize a5.setCells g4 0 (lL A) = a6 at *
  refine qac ?_
  go_upto_region 2 with fail; refine wp_region_lit ?_
  refine qaa (qah (vs := feL Y) rfl Tryz.underlying47 rfl (szFe _) rfl ((hM.out.get (i := 2) rfl).range)) rfl ?_; (try simp only [Act.put, lyy])
  refine qai (qaj enters_limbsF rfl rfl rfl) rfl (CB.out _) (fun a7 hb => ?_); (try simp only [Act.put, lyy]); replace hM := Lib.hid (hM.out.below hb); clear hb
  refine qaa (qar (vs := zq 16) rfl (by kernel_rfl)) rfl ?_; (try simp only [Act.put, lyy]); replace hM := Lib.hid (hM.out.new (zq 16) 115); generalize a7.alloc (.cells (zq 16).toArray 115) = a8 at *; generalize a7.heap.size = g5 at *
  refine qae (qaq (vs := lL B) rfl SB.out rfl rfl (lV_one _) (by rw [lL_len lB]; exact (hM.out.get (i := 0) rfl).there)) rfl rfl ?_
  replace hM := Lib.hid (hM.out.put 0 rfl (m := lL B) (lL_len lB))
  generalize a8.setCells g5 0 (lL B) = a9 at *
  refine qac ?_
  go_upto_region 3 with fail; refine wp_region_lit ?_
  refine qaa (qag (v := .int _ _) rfl rfl) rfl ?_; (try simp only [Act.put, lyy])
  refine qac ?_
  go_wp2_with fail
  go_loopw [7] (fun s u => ∃ (k : Nat) (l : List Int), k ≤ 16 ∧ s = .int .i64 (k : Int) ∧ AdI A B k l ∧ Mv w [(g5, lL B), (g4, lL l), (g3, zq 4), (g2, feL Y), (g1, feL X)] u) (fun s _ => (16 - intOf s).toNat)
  case atStart => exact ⟨0, A, by omega, rfl, S0.out, hM.out⟩
  case round =>
    obtain ⟨k, l, hk, rfl, hA, hJ⟩ := hrel
    replace hM := Lib.hid hJ
    have HA := Lib.hid hA
    have hll := hA.len
    clear hJ hA
    by_cases hlt : k = 16
    · subst hlt
      have hk1 : ¬ (((16 : Nat) : Int) < 16) := by omega
      have hW := Lib.hid (HA.out.wides (Nat.le_refl _))
      have SL := Lib.hid (qcf hll)
      have hv := HE.out l HA.out
      go_upto_region 7 with fail; refine wp_region_lit ?_
      refine qaa (qah (vs := lL l) rfl Tryz.underlying115 rfl SL.out rfl (hM.out.get (i := 1) rfl).range) rfl ?_; (try simp only [Act.put, lyy])
      refine qai (qaj enters_fe rfl rfl rfl) rfl (fe_limbs l _ hll hW.out) (fun b1 hb => ?_); (try simp only [Act.put, lyy]); replace hM := Lib.hid (hM.out.below hb); clear hb
      rw [hv]
      refine qae (qaq (vs := feL ((X + Y) % pp)) rfl (szFe _) rfl rfl (oneFe _) ((hM.out.get (i := 2) rfl).there)) rfl rfl ?_; replace hM := Lib.hid (hM.out.put 2 rfl (m := feL ((X + Y) % pp)) rfl); generalize b1.setCells g3 0 (feL ((X + Y) % pp)) = b2 at *
      refine qac ?_; go_wp2_with fail; refine bodyPost_ret (v := .agg (feL ((X + Y) % pp)).toArray) (qat Tryz.results116 rfl Tryz.underlying47 rfl (szFe _) (hM.out.get (i := 2) rfl).range) rfl ⟨rfl, hM.out.bl⟩
    · have hk1 : (k : Int) < 16 := by omega
      have HN := Lib.hid (SS.out k l HA.out (by omega))
      have hx := HA.out.get (show k < 16 by omega)
      have hy := BB.out k (by omega)
      have GL := Lib.hid (get_nth (l := l) (i := k) (by omega))
      have GB := Lib.hid (get_nth (l := B) (i := k) (by omega))
      generalize nth l k = x at *
      generalize nth B k = y at *
      go_upto_region 6 with fail; refine qau 8 (by kernel_rfl) (by kernel_rfl) ?_
      refine qab _ (fun V hV => qad (qaf (v := .int _ _) rfl rfl)) ?_; (try simp only [Act.put, lyy])
      refine qab _ (fun V hV => qad (qay (i := k) rfl Tryz.underlying115 (by kernel_rfl) rfl rfl (by omega))) ?_; (try simp only [Act.put, lyy])
      refine qab _ (fun V hV => qad (qaz rfl rfl (((hM.out.below hV).get (i := 1) rfl).c k _ GL.out))) ?_; (try simp only [Act.put, lyy])
      refine qab _ (fun V hV => qad (qaf (v := .int _ _) rfl rfl)) ?_; (try simp only [Act.put, lyy])
      refine qab _ (fun V hV => qad (qay (i := k) rfl Tryz.underlying115 (by kernel_rfl) rfl rfl (by omega))) ?_; (try simp only [Act.put, lyy])
      refine qab _ (fun V hV => qad (qaz rfl rfl (((hM.out.below hV).get (i := 0) rfl).c k _ GB.out))) ?_; (try simp only [Act.put, lyy])
      refine qab _ (fun V hV => qad (run_addU rfl rfl rfl (by omega) (by omega))) ?_; (try simp only [Act.put, lyy])
      refine qab _ (fun V hV => qad (qay (i := k) rfl Tryz.underlying115 (by kernel_rfl) rfl rfl (by omega))) ?_; (try simp only [Act.put, lyy])
      refine qav ?_; intro b1 hb; simp only [List.drop_succ_cons, List.drop_zero]
      replace hM := Lib.hid (hM.out.below hb)
      clear hb
      refine qae (run_stU rfl rfl rfl ((hM.out.get (i := 1) rfl).c k _ GL.out) ((hM.out.get (i := 1) rfl).f k)) rfl rfl ?_
      refine qac ?_
      have hM2 : Hid (Mv w [(g5, lL B), (g4, lL (l.set k (x + y))), (g3, zq 4), (g2, feL Y), (g1, feL X)] (b1.setCell ⟨g4, k, none⟩ (.int .u64 (x + y)))) := Lib.hid (by
        have h := hM.out.set 1 rfl (j := k) (by rw [List.length_map]; omega) (.int .u64 (x + y))
        rw [set_lL] at h
        exact h)
      generalize b1.setCell ⟨g4, k, none⟩ (.int .u64 (x + y)) = b2 at *
      clear hM GL GB hx hy
      go_wp2_with fail
      exact ⟨⟨k + 1, l.set k (x + y), by omega, by go_num, HN.out, hM2.out⟩, by simp [intOf]; omega⟩
theorem enters_radd : Enters 116 := qao Tryz.func116 (by kernel_rfl) rfl
end Go.Proofs.YtfdjmdfaidiliaaGreatDoor
namespace Go.Proofs.YtfdjmdfaidiliaaGreatDoor
open Go.RowKit
set_option maxRecDepth 20000
def fpL (i : Nat) : Int := if i = 0 then 130996 else 131070
def fpAll : List Int := (List.range 16).map fpL
theorem fpAll_lb : lb fpAll = 4 * pp := by decide +kernel
theorem fpAll_nth {i : Nat} (h : i < 16) : nth fpAll i = fpL i := by simp [nth, fpAll, h]
def dfAll (B : List Int) : List Int := (List.range 16).map fun i => fpL i - nth B i
theorem dfAll_len (B : List Int) : (dfAll B).length = 16 := by simp [dfAll]
theorem dfAll_nth (B : List Int) {i : Nat} (h : i < 16) : nth (dfAll B) i = fpL i - nth B i := by simp [nth, dfAll, h]
theorem dfAll_take {B : List Int} (hB : B.length = 16) : ∀ k, k ≤ 16 → lb ((dfAll B).take k) = lb (fpAll.take k) - lb (B.take k)
  | 0, _ => by simp [lb]
  | k + 1, h => by
    rw [qbn (by rw [dfAll_len]; omega), dfAll_take hB k (by omega), dfAll_nth B (by omega), qbn (l := fpAll) (by simp [fpAll]; omega), fpAll_nth (by omega), qbn (l := B) (by omega), Int.mul_sub]
    omega
theorem dfAll_lb {B : List Int} (hB : B.length = 16) : lb (dfAll B) = 4 * pp - lb B := by
  have h := dfAll_take hB 16 (Nat.le_refl _)
  rw [List.take_of_length_le (by rw [dfAll_len]; omega), List.take_of_length_le (by simp [fpAll]), List.take_of_length_le (by omega), fpAll_lb] at h
  exact h
theorem dfAll_bd {B : List Int} (hB : B.length = 16) (hL : Limbs B) : ∀ x ∈ dfAll B, 0 ≤ x ∧ x ≤ 131070 := fun x hx => by
  unfold dfAll at hx
  rw [List.mem_map] at hx
  obtain ⟨i, hi, rfl⟩ := hx
  have h := hL.nth (k := i) (by rw [hB]; exact List.mem_range.1 hi)
  unfold fpL
  split <;> omega
set_option maxHeartbeats 8000000 in
theorem rlessF_any (X Y : Int) (w : World) (hX : Num X) (hY : Num Y) : Calls Tryz.prog 122 #[feV X, feV Y] w fun e w' => e = .returned (feV ((X - Y) % pp)) ∧ Below w.heap.size w w' := by
  have hM := Lib.hid (Mv.nil w)
  have lA := qbs X
  have lB := qbs Y
  have lF := dfAll_len (lzAll Y)
  have HE : Hid (∀ l, AdI (lzAll X) (dfAll (lzAll Y)) 16 l → lb l % pp = (X - Y) % pp) := Lib.hid fun l h => by
    rw [h.eq, List.take_of_length_le (by omega), lb_lzAll hX, dfAll_lb lB, lb_lzAll hY, show X + (4 * pp - Y) = X - Y + pp * 4 by omega, Int.add_mul_emod_self_left]
  have dB := qc5 Y
  have dF := dfAll_bd lB dB
  have S0 := Lib.hid (AdI.start (f := dfAll (lzAll Y)) lA (qc5 X))
  have SS : Hid (∀ (k : Nat) (l : List Int), AdI (lzAll X) (dfAll (lzAll Y)) k l → k < 16 → AdI (lzAll X) (dfAll (lzAll Y)) (k + 1) (l.set k (nth l k + (fpL k - nth (lzAll Y) k)))) := Lib.hid fun k l h hk => by
    have := h.step lF dF hk
    rwa [dfAll_nth _ hk] at this
  have BB : Hid (∀ k, k < 16 → 0 ≤ nth (lzAll Y) k ∧ nth (lzAll Y) k < 65536) := Lib.hid fun k hk => dB.nth (by omega)
  have CA : Hid (∀ u, Calls Tryz.prog 94 #[feV X] u fun e w' => e = .returned (.agg (lL (lzAll X)).toArray) ∧ Below u.heap.size u w') := Lib.hid fun u => limbs_any X u
  have CB : Hid (∀ u, Calls Tryz.prog 94 #[feV Y] u fun e w' => e = .returned (.agg (lL (lzAll Y)).toArray) ∧ Below u.heap.size u w') := Lib.hid fun u => limbs_any Y u
  clear dB dF lF
  generalize dfAll (lzAll Y) = F at *
  generalize lzAll X = A at *
  generalize lzAll Y = B at *
  have SA := Lib.hid (qcf lA)
  have SB := Lib.hid (qcf lB)
  go_enter Tryz.func122, Tryz.ntmps122
  go_upto_region 0 with fail; refine wp_region_lit ?_
  refine qaa (qbf (vs := feL X) rfl rfl) rfl ?_; (try simp only [Act.put, lyy]); replace hM := Lib.hid (hM.out.new (feL X) 47); generalize w.alloc (.cells (feL X).toArray 47) = a1 at *; generalize w.heap.size = g1 at *
  refine qaa (qbf (vs := feL Y) rfl rfl) rfl ?_; (try simp only [Act.put, lyy]); replace hM := Lib.hid (hM.out.new (feL Y) 47); generalize a1.alloc (.cells (feL Y).toArray 47) = a2 at *; generalize a1.heap.size = g2 at *
  refine qaa (qar (vs := zq 4) rfl (by kernel_rfl)) rfl ?_; (try simp only [Act.put, lyy]); replace hM := Lib.hid (hM.out.new (zq 4) 47); generalize a2.alloc (.cells (zq 4).toArray 47) = a3 at *; generalize a2.heap.size = g3 at *
  refine qac ?_
  go_upto_region 1 with fail; refine wp_region_lit ?_
  refine qaa (qah (vs := feL X) rfl Tryz.underlying47 rfl (szFe _) rfl ((hM.out.get (i := 2) rfl).range)) rfl ?_; (try simp only [Act.put, lyy])
  refine qai (qaj enters_limbsF rfl rfl rfl) rfl (CA.out _) (fun a4 hb => ?_); (try simp only [Act.put, lyy]); replace hM := Lib.hid (hM.out.below hb); clear hb
  refine qaa (qar (vs := zq 16) rfl (by kernel_rfl)) rfl ?_; (try simp only [Act.put, lyy]); replace hM := Lib.hid (hM.out.new (zq 16) 115); generalize a4.alloc (.cells (zq 16).toArray 115) = a5 at *; generalize a4.heap.size = g4 at *
  refine qae (qaq (vs := lL A) rfl SA.out rfl rfl (lV_one _) (by rw [lL_len lA]; exact (hM.out.get (i := 0) rfl).there)) rfl rfl ?_
  replace hM := Lib.hid (hM.out.put 0 rfl (m := lL A) (lL_len lA))
  generalize a5.setCells g4 0 (lL A) = a6 at *
  refine qac ?_
  go_upto_region 2 with fail; refine wp_region_lit ?_
  refine qaa (qah (vs := feL Y) rfl Tryz.underlying47 rfl (szFe _) rfl ((hM.out.get (i := 2) rfl).range)) rfl ?_; (try simp only [Act.put, lyy])
  refine qai (qaj enters_limbsF rfl rfl rfl) rfl (CB.out _) (fun a7 hb => ?_); (try simp only [Act.put, lyy]); replace hM := Lib.hid (hM.out.below hb); clear hb
  refine qaa (qar (vs := zq 16) rfl (by kernel_rfl)) rfl ?_; (try simp only [Act.put, lyy]); replace hM := Lib.hid (hM.out.new (zq 16) 115); generalize a7.alloc (.cells (zq 16).toArray 115) = a8 at *; generalize a7.heap.size = g5 at *
  refine qae (qaq (vs := lL B) rfl SB.out rfl rfl (lV_one _) (by rw [lL_len lB]; exact (hM.out.get (i := 0) rfl).there)) rfl rfl ?_
  replace hM := Lib.hid (hM.out.put 0 rfl (m := lL B) (lL_len lB))
  generalize a8.setCells g5 0 (lL B) = a9 at *
  refine qac ?_
  have HN0 := Lib.hid (SS.out 0 A S0.out (by omega))
  have hx0 := S0.out.get (show 0 < 16 by omega)
  have hy0 := BB.out 0 (by omega)
  have GL0 := Lib.hid (get_nth (l := A) (i := 0) (by omega))
  have GB0 := Lib.hid (get_nth (l := B) (i := 0) (by omega))
  have F0 : fpL 0 = 130996 := rfl
  rw [F0] at HN0
  clear F0
  generalize nth A 0 = x0 at *
  generalize nth B 0 = y0 at *
  go_upto_region 3 with fail; refine wp_region_lit ?_
  refine qaa (qay (i := 0) rfl Tryz.underlying115 (by kernel_rfl) rfl rfl (by omega)) rfl ?_; (try simp only [Act.put, lyy])
  refine qaa (qaz rfl rfl ((hM.out.get (i := 1) rfl).c 0 _ GL0.out)) rfl ?_; (try simp only [Act.put, lyy])
  refine qaa (qay (i := 0) rfl Tryz.underlying115 (by kernel_rfl) rfl rfl (by omega)) rfl ?_; (try simp only [Act.put, lyy])
  refine qaa (qaz rfl rfl ((hM.out.get (i := 0) rfl).c 0 _ GB0.out)) rfl ?_; (try simp only [Act.put, lyy])
  refine qaa (run_subU (a := 130996) rfl rfl rfl (by omega) (by omega)) rfl ?_; (try simp only [Act.put, lyy])
  refine qaa (run_addU rfl rfl rfl (by omega) (by omega)) rfl ?_; (try simp only [Act.put, lyy])
  refine qaa (qay (i := 0) rfl Tryz.underlying115 (by kernel_rfl) rfl rfl (by omega)) rfl ?_; (try simp only [Act.put, lyy])
  refine qae (run_stU rfl rfl rfl ((hM.out.get (i := 1) rfl).c 0 _ GL0.out) ((hM.out.get (i := 1) rfl).f 0)) rfl rfl ?_
  refine qac ?_
  have hM2 : Hid (Mv w [(g5, lL B), (g4, lL (A.set 0 (x0 + (130996 - y0)))), (g3, zq 4), (g2, feL Y), (g1, feL X)] (a9.setCell ⟨g4, 0, none⟩ (.int .u64 (x0 + (130996 - y0))))) := Lib.hid (by
    have h := hM.out.set 1 rfl (j := 0) (by rw [List.length_map]; omega) (.int .u64 (x0 + (130996 - y0)))
    rw [set_lL] at h
    exact h)
  generalize a9.setCell ⟨g4, 0, none⟩ (.int .u64 (x0 + (130996 - y0))) = a10 at *
  replace hM := hM2
  generalize A.set 0 (x0 + (130996 - y0)) = A1 at *
  clear hM2 GL0 GB0 hx0 hy0
  go_upto_region 4 with fail; refine wp_region_lit ?_
  refine qaa (qag (v := .int _ _) rfl rfl) rfl ?_; (try simp only [Act.put, lyy])
  refine qac ?_
  go_wp2_with fail
  go_loopw [7] (fun s u => ∃ (k : Nat) (l : List Int), k ≤ 16 ∧ 0 < k ∧ s = .int .i64 (k : Int) ∧ AdI A F k l ∧ Mv w [(g5, lL B), (g4, lL l), (g3, zq 4), (g2, feL Y), (g1, feL X)] u) (fun s _ => (16 - intOf s).toNat)
  case atStart => exact ⟨1, A1, by omega, by omega, rfl, HN0.out, hM.out⟩
  case round =>
    obtain ⟨k, l, hk, hk0, rfl, hA, hJ⟩ := hrel
    replace hM := Lib.hid hJ
    have HA := Lib.hid hA
    have hll := hA.len
    clear hJ hA
    by_cases hlt : k = 16
    · subst hlt
      have hk1 : ¬ (((16 : Nat) : Int) < 16) := by omega
      have hW := Lib.hid (HA.out.wides (Nat.le_refl _))
      have SL := Lib.hid (qcf hll)
      have hv := HE.out l HA.out
      go_upto_region 8 with fail; refine wp_region_lit ?_
      refine qaa (qah (vs := lL l) rfl Tryz.underlying115 rfl SL.out rfl (hM.out.get (i := 1) rfl).range) rfl ?_; (try simp only [Act.put, lyy])
      refine qai (qaj enters_fe rfl rfl rfl) rfl (fe_limbs l _ hll hW.out) (fun b1 hb => ?_); (try simp only [Act.put, lyy]); replace hM := Lib.hid (hM.out.below hb); clear hb
      rw [hv]
      refine qae (qaq (vs := feL ((X - Y) % pp)) rfl (szFe _) rfl rfl (oneFe _) ((hM.out.get (i := 2) rfl).there)) rfl rfl ?_; replace hM := Lib.hid (hM.out.put 2 rfl (m := feL ((X - Y) % pp)) rfl); generalize b1.setCells g3 0 (feL ((X - Y) % pp)) = b2 at *
      refine qac ?_; go_wp2_with fail; refine bodyPost_ret (v := .agg (feL ((X - Y) % pp)).toArray) (qat Tryz.results122 rfl Tryz.underlying47 rfl (szFe _) (hM.out.get (i := 2) rfl).range) rfl ⟨rfl, hM.out.bl⟩
    · have hk1 : (k : Int) < 16 := by omega
      have HN := Lib.hid (SS.out k l HA.out (by omega))
      have FK : fpL k = 131070 := if_neg (by omega)
      rw [FK] at HN
      clear FK
      have hx := HA.out.get (show k < 16 by omega)
      have hy := BB.out k (by omega)
      have GL := Lib.hid (get_nth (l := l) (i := k) (by omega))
      have GB := Lib.hid (get_nth (l := B) (i := k) (by omega))
      generalize nth l k = x at *
      generalize nth B k = y at *
      go_upto_region 7 with fail; refine qau 9 (by kernel_rfl) (by kernel_rfl) ?_
      refine qab _ (fun V hV => qad (qaf (v := .int _ _) rfl rfl)) ?_; (try simp only [Act.put, lyy])
      refine qab _ (fun V hV => qad (qay (i := k) rfl Tryz.underlying115 (by kernel_rfl) rfl rfl (by omega))) ?_; (try simp only [Act.put, lyy])
      refine qab _ (fun V hV => qad (qaz rfl rfl (((hM.out.below hV).get (i := 1) rfl).c k _ GL.out))) ?_; (try simp only [Act.put, lyy])
      refine qab _ (fun V hV => qad (qaf (v := .int _ _) rfl rfl)) ?_; (try simp only [Act.put, lyy])
      refine qab _ (fun V hV => qad (qay (i := k) rfl Tryz.underlying115 (by kernel_rfl) rfl rfl (by omega))) ?_; (try simp only [Act.put, lyy])
      refine qab _ (fun V hV => qad (qaz rfl rfl (((hM.out.below hV).get (i := 0) rfl).c k _ GB.out))) ?_; (try simp only [Act.put, lyy])
      refine qab _ (fun V hV => qad (run_subU (a := 131070) rfl rfl rfl (by omega) (by omega))) ?_; (try simp only [Act.put, lyy])
      refine qab _ (fun V hV => qad (run_addU rfl rfl rfl (by omega) (by omega))) ?_; (try simp only [Act.put, lyy])
      refine qab _ (fun V hV => qad (qay (i := k) rfl Tryz.underlying115 (by kernel_rfl) rfl rfl (by omega))) ?_; (try simp only [Act.put, lyy])
      refine qav ?_; intro b1 hb; simp only [List.drop_succ_cons, List.drop_zero]
      replace hM := Lib.hid (hM.out.below hb)
      clear hb
      refine qae (run_stU rfl rfl rfl ((hM.out.get (i := 1) rfl).c k _ GL.out) ((hM.out.get (i := 1) rfl).f k)) rfl rfl ?_
      refine qac ?_
      have hM2 : Hid (Mv w [(g5, lL B), (g4, lL (l.set k (x + (131070 - y)))), (g3, zq 4), (g2, feL Y), (g1, feL X)] (b1.setCell ⟨g4, k, none⟩ (.int .u64 (x + (131070 - y))))) := Lib.hid (by
        have h := hM.out.set 1 rfl (j := k) (by rw [List.length_map]; omega) (.int .u64 (x + (131070 - y)))
        rw [set_lL] at h
        exact h)
      generalize b1.setCell ⟨g4, k, none⟩ (.int .u64 (x + (131070 - y))) = b2 at *
      clear hM GL GB hx hy
      go_wp2_with fail
      exact ⟨⟨k + 1, l.set k (x + (131070 - y)), by omega, by omega, by go_num, HN.out, hM2.out⟩, by simp [intOf]; omega⟩
theorem enters_rlessF : Enters 122 := qao Tryz.func122 (by kernel_rfl) rfl
set_option maxHeartbeats 4000000 in
theorem rsub_any (X Y : Int) (w : World) (hX : Num X) (hY : Num Y) : Calls Tryz.prog 115 #[feV X, feV Y] w fun e w' => e = .returned (feV ((X - Y) % pp)) ∧ Below w.heap.size w w' := by
  have hM := Lib.hid (Mv.nil w)
  go_enter Tryz.func115, Tryz.ntmps115
  go_upto_region 0 with fail; refine wp_region_lit ?_
  refine qaa (qbf (vs := feL X) rfl rfl) rfl ?_; (try simp only [Act.put, lyy]); replace hM := Lib.hid (hM.out.new (feL X) 47); generalize w.alloc (.cells (feL X).toArray 47) = a1 at *; generalize w.heap.size = g1 at *
  refine qaa (qbf (vs := feL Y) rfl rfl) rfl ?_; (try simp only [Act.put, lyy]); replace hM := Lib.hid (hM.out.new (feL Y) 47); generalize a1.alloc (.cells (feL Y).toArray 47) = a2 at *; generalize a1.heap.size = g2 at *
  refine qaa (qar (vs := zq 4) rfl (by kernel_rfl)) rfl ?_; (try simp only [Act.put, lyy]); replace hM := Lib.hid (hM.out.new (zq 4) 47); generalize a2.alloc (.cells (zq 4).toArray 47) = a3 at *; generalize a2.heap.size = g3 at *
  refine qac ?_
  go_upto_region 1 with fail; refine wp_region_lit ?_
  refine qaa (qah (vs := feL X) rfl Tryz.underlying47 rfl (szFe _) rfl ((hM.out.get (i := 2) rfl).range)) rfl ?_; (try simp only [Act.put, lyy])
  refine qaa (qah (vs := feL Y) rfl Tryz.underlying47 rfl (szFe _) rfl ((hM.out.get (i := 1) rfl).range)) rfl ?_; (try simp only [Act.put, lyy])
  refine qai (qam enters_rlessF rfl rfl rfl rfl) rfl (rlessF_any X Y _ hX hY) (fun a4 hb => ?_); (try simp only [Act.put, lyy]); replace hM := Lib.hid (hM.out.below hb); clear hb
  refine qae (qaq (vs := feL ((X - Y) % pp)) rfl (szFe _) rfl rfl (oneFe _) ((hM.out.get (i := 0) rfl).there)) rfl rfl ?_; replace hM := Lib.hid (hM.out.put 0 rfl (m := feL ((X - Y) % pp)) rfl); generalize a4.setCells g3 0 (feL ((X - Y) % pp)) = a5 at *
  refine qac ?_; go_wp2_with fail; refine bodyPost_ret (v := .agg (feL ((X - Y) % pp)).toArray) (qat Tryz.results115 rfl Tryz.underlying47 rfl (szFe _) (hM.out.get (i := 0) rfl).range) rfl ⟨rfl, hM.out.bl⟩
theorem enters_rsub : Enters 115 := qao Tryz.func115 (by kernel_rfl) rfl
end Go.Proofs.YtfdjmdfaidiliaaGreatDoor
namespace Go.Proofs.YtfdjmdfaidiliaaGreatDoor
open Go.RowKit Go.Sort
set_option maxRecDepth 20000
set_option maxHeartbeats 4000000 in
theorem refmul_any (X Y : Int) (w : World) (hX : Num X) (hY : Num Y) :
    Calls Tryz.prog 114 #[feV X, feV Y] w fun e w' => e = .returned (feV (X * Y % pp)) ∧ Below w.heap.size w w' := by
  have b1 : Below w.heap.size w (w.alloc (.cells #[.int .u64 (w0 X), .int .u64 (w1 X), .int .u64 (w2 X), .int .u64 (w3 X)] 47)) := (Below.refl _ _).alloc (Nat.le_refl _) _
  have vX := Var4.new w X
  go_enter Tryz.func114, Tryz.ntmps114
  go_upto_region 1 with fail
  have hs : w.heap.size + 1 = (w.alloc (.cells #[.int .u64 (w0 X), .int .u64 (w1 X), .int .u64 (w2 X), .int .u64 (w3 X)] 47)).heap.size := by simp
  rw [hs]
  have l0 := vX.lt
  generalize w.alloc (.cells #[.int .u64 (w0 X), .int .u64 (w1 X), .int .u64 (w2 X), .int .u64 (w3 X)] 47) = u0 at *
  clear hs
  have vY := Var4.new u0 Y
  have b2 : Below u0.heap.size u0 (u0.alloc (.cells #[.int .u64 (w0 Y), .int .u64 (w1 Y), .int .u64 (w2 Y), .int .u64 (w3 Y)] 47)) := (Below.refl _ _).alloc (Nat.le_refl _) _
  replace vX := vX.below b2
  replace b1 := b1.trans (b2.mono b1.size)
  have hs : u0.heap.size + 1 = (u0.alloc (.cells #[.int .u64 (w0 Y), .int .u64 (w1 Y), .int .u64 (w2 Y), .int .u64 (w3 Y)] 47)).heap.size := by simp
  rw [hs]
  have l1 := vY.lt
  generalize u0.alloc (.cells #[.int .u64 (w0 Y), .int .u64 (w1 Y), .int .u64 (w2 Y), .int .u64 (w3 Y)] 47) = u1 at *
  generalize u0.heap.size = gy at *
  clear hs b2 u0
  have hR := Var4.zero u1
  have b2 : Below u1.heap.size u1 (u1.alloc (.cells #[.int .u64 0, .int .u64 0, .int .u64 0, .int .u64 0] 47)) := (Below.refl _ _).alloc (Nat.le_refl _) _
  replace vX := vX.below b2
  replace vY := vY.below b2
  replace b1 := b1.trans (b2.mono b1.size)
  generalize u1.alloc (.cells #[.int .u64 0, .int .u64 0, .int .u64 0, .int .u64 0] 47) = u0 at *
  generalize u1.heap.size = g1 at *
  clear b2 u1
  have l2 := hR.lt
  obtain ⟨vl, v0, v1, v2, v3, vf0, vf1, vf2, vf3⟩ := vX
  go_wp2_with fail
  refine (limbs_any X _).mono ?_
  rintro e u1 ⟨rfl, hb⟩
  clear vl v0 v1 v2 v3 vf0 vf1 vf2 vf3
  replace vY := vY.below hb
  replace hR := hR.below hb
  replace b1 := b1.trans (hb.mono b1.size)
  replace l2 := Nat.lt_of_lt_of_le l2 hb.size
  clear hb u0
  have HA := Lib.hid (LRow.zero u1)
  have b2 : Below u1.heap.size u1 (u1.alloc (.cells #[.int .u64 0, .int .u64 0, .int .u64 0, .int .u64 0, .int .u64 0, .int .u64 0, .int .u64 0, .int .u64 0, .int .u64 0, .int .u64 0, .int .u64 0, .int .u64 0, .int .u64 0, .int .u64 0, .int .u64 0, .int .u64 0] 115)) := (Below.refl _ _).alloc (Nat.le_refl _) _
  go_upto_region 2 with (refine wpList_store_mid rfl 115 (.tmp 5) (.tmp 11) rfl u1.heap.size 0 ((lzAll X).map (Value.int .u64)).toArray rfl rfl (by simpa [qbs] using HA.out.thereAt) (by simpa using qcf (qbs X)) (lV_one _) ?_)
  replace HA := Lib.hid (HA.out.storeAll (l' := lzAll X) (by rw [qbs]; rfl))
  replace b2 := Below.setCells (Nat.le_refl u1.heap.size) ((lzAll X).map (Value.int .u64)) 0 b2
  replace hR := hR.below b2
  replace vY := vY.below b2
  replace b1 := b1.trans (b2.mono b1.size)
  generalize (u1.alloc (.cells #[.int .u64 0, .int .u64 0, .int .u64 0, .int .u64 0, .int .u64 0, .int .u64 0, .int .u64 0, .int .u64 0, .int .u64 0, .int .u64 0, .int .u64 0, .int .u64 0, .int .u64 0, .int .u64 0, .int .u64 0, .int .u64 0] 115)).setCells u1.heap.size 0 ((lzAll X).map (Value.int .u64)) = u0 at *
  generalize u1.heap.size = ga at *
  clear b2 u1
  have l3 := HA.out.lt
  obtain ⟨vl, v0, v1, v2, v3, vf0, vf1, vf2, vf3⟩ := vY
  go_wp2_with fail
  refine (limbs_any Y _).mono ?_
  rintro e u1 ⟨rfl, hb⟩
  clear vl v0 v1 v2 v3 vf0 vf1 vf2 vf3
  replace HA := Lib.hid (HA.out.below hb)
  replace hR := hR.below hb
  replace b1 := b1.trans (hb.mono b1.size)
  replace l3 := Nat.lt_of_lt_of_le l3 hb.size
  clear hb u0
  have HB := Lib.hid (LRow.zero u1)
  have b2 : Below u1.heap.size u1 (u1.alloc (.cells #[.int .u64 0, .int .u64 0, .int .u64 0, .int .u64 0, .int .u64 0, .int .u64 0, .int .u64 0, .int .u64 0, .int .u64 0, .int .u64 0, .int .u64 0, .int .u64 0, .int .u64 0, .int .u64 0, .int .u64 0, .int .u64 0] 115)) := (Below.refl _ _).alloc (Nat.le_refl _) _
  go_upto_region 3 with (refine wpList_store_mid rfl 115 (.tmp 6) (.tmp 13) rfl u1.heap.size 0 ((lzAll Y).map (Value.int .u64)).toArray rfl rfl (by simpa [qbs] using HB.out.thereAt) (by simpa using qcf (qbs Y)) (lV_one _) ?_)
  replace HB := Lib.hid (HB.out.storeAll (l' := lzAll Y) (by rw [qbs]; rfl))
  replace b2 := Below.setCells (Nat.le_refl u1.heap.size) ((lzAll Y).map (Value.int .u64)) 0 b2
  replace hR := hR.below b2
  replace HA := Lib.hid (HA.out.below b2)
  replace b1 := b1.trans (b2.mono b1.size)
  generalize (u1.alloc (.cells #[.int .u64 0, .int .u64 0, .int .u64 0, .int .u64 0, .int .u64 0, .int .u64 0, .int .u64 0, .int .u64 0, .int .u64 0, .int .u64 0, .int .u64 0, .int .u64 0, .int .u64 0, .int .u64 0, .int .u64 0, .int .u64 0] 115)).setCells u1.heap.size 0 ((lzAll Y).map (Value.int .u64)) = u0 at *
  generalize u1.heap.size = gb at *
  clear b2 u1
  have l4 := HB.out.lt
  have HC := Lib.hid (LRow.zero u0)
  have b2 : Below u0.heap.size u0 (u0.alloc (.cells #[.int .u64 0, .int .u64 0, .int .u64 0, .int .u64 0, .int .u64 0, .int .u64 0, .int .u64 0, .int .u64 0, .int .u64 0, .int .u64 0, .int .u64 0, .int .u64 0, .int .u64 0, .int .u64 0, .int .u64 0, .int .u64 0] 115)) := (Below.refl _ _).alloc (Nat.le_refl _) _
  go_upto_region 4 with (refine wpList_store_mid rfl 115 (.tmp 7) (.tmp 14) rfl u0.heap.size 0 ((List.replicate 16 0).map (Value.int .u64)).toArray rfl rfl (by simpa using HC.out.thereAt) (by simpa using qcf (l := List.replicate 16 0) rfl) (lV_one _) ?_)
  replace HC := Lib.hid (HC.out.storeAll (l' := List.replicate 16 0) rfl)
  replace b2 := Below.setCells (Nat.le_refl u0.heap.size) ((List.replicate 16 0).map (Value.int .u64)) 0 b2
  replace hR := hR.below b2
  replace HA := Lib.hid (HA.out.below b2)
  replace HB := Lib.hid (HB.out.below b2)
  replace b1 := b1.trans (b2.mono b1.size)
  generalize (u0.alloc (.cells #[.int .u64 0, .int .u64 0, .int .u64 0, .int .u64 0, .int .u64 0, .int .u64 0, .int .u64 0, .int .u64 0, .int .u64 0, .int .u64 0, .int .u64 0, .int .u64 0, .int .u64 0, .int .u64 0, .int .u64 0, .int .u64 0] 115)).setCells u0.heap.size 0 ((List.replicate 16 0).map (Value.int .u64)) = u1 at *
  generalize u0.heap.size = gr at *
  clear b2 u0
  have EX : Hid (lb (lzAll X) = X) := Lib.hid (lb_lzAll hX)
  have EY : Hid (lb (lzAll Y) = Y) := Lib.hid (lb_lzAll hY)
  have LA := Lib.hid (qbs X)
  have LB := Lib.hid (qbs Y)
  have hLA := qc5 X
  have hLB := qc5 Y
  generalize lzAll X = a at *
  generalize lzAll Y = b at *
  go_wp2_with fail
  go_loopw [8, 9] (fun s _ u => ∃ i : Nat, i ≤ 16 ∧ s = .int .i64 (i : Int) ∧ MuI w a b g1 ga gb gr i 0 u) (fun s _ _ => (16 - intOf s).toNat)
  case atStart => exact ⟨0, by omega, rfl, b1, hR, HA.out, HB.out, List.replicate 16 0, 0, rfl, HC.out, fun j hj => by rw [nth_zero]; omega, by simp [lb]⟩
  case round =>
    obtain ⟨i, hi, rfl, hI⟩ := hrel
    clear b1 hR HA HB HC
    by_cases hlt : i = 16
    · subst hlt
      have hi1 : ¬ (((16 : Nat) : Int) < 16) := by omega
      obtain ⟨b1, hR, hA, hB, r, t, hr, hV, hn, ht⟩ := hI
      clear hA hB
      have HE : Hid (lb r % pp = X * Y % pp) := Lib.hid (by
        rw [List.take_of_length_le (by rw [LA.out]; omega), EX.out, EY.out, List.take_zero, show lb ([] : List Int) = 0 from rfl, Int.mul_zero, Int.mul_zero, Int.add_zero] at ht
        rw [← ht, Int.add_mul_emod_self_left])
      have HW : Hid (Wides r) := Lib.hid (wides_of_nth hr fun j hj => by have := hn j hj; omega)
      have Hr := Lib.hid hr; clear hr
      have HV := Lib.hid hV; clear hV
      clear hn ht
      go_wp2_with (refine wpList_load_mid rfl 115 (.tmp 7) rfl gr 0 rfl (r.map (Value.int .u64)) (.array 16 45) HV.out.range Tryz.underlying115 rfl (qcf Hr.out) ?_)
      refine (fe_limbs r _ Hr.out HW.out).mono ?_
      rintro e u3 ⟨rfl, hb⟩
      rw [HE.out]
      replace hR := hR.below hb
      replace b1 := b1.trans (hb.mono b1.size)
      clear hb
      obtain ⟨vl, v0, v1, v2, v3, vf0, vf1, vf2, vf3⟩ := hR
      go_wp2_with fail
      refine bodyPost_ret (v := feV (X * Y % pp)) (by simp [results, Tryz.results114, go_sem, v0, v1, v2, v3]) rfl ⟨rfl, ?_⟩
      have hw1 : w.heap.size ≤ g1 := by omega
      exact (((b1.setCell hw1 _).setCell hw1 _).setCell hw1 _).setCell hw1 _
    · have hi1 : (i : Int) < 16 := by omega
      have hi0 : (0 : Int) ≤ (i : Int) := by omega
      go_wp2_with fail
      go_loopw [9] (fun s u => ∃ k : Nat, k ≤ 16 ∧ s = .int .i64 (k : Int) ∧ MuI w a b g1 ga gb gr i k u) (fun s _ => (16 - intOf s).toNat)
      case atStart => exact ⟨0, by omega, rfl, hI⟩
      case round =>
        obtain ⟨k, hk, rfl, hJ⟩ := hrel
        clear hI
        by_cases hk16 : k = 16
        · subst hk16
          have hk1 : ¬ (((16 : Nat) : Int) < 16) := by omega
          have HJ := Lib.hid (hJ.turn LA.out LB.out (by omega)); clear hJ
          go_wp2_with fail
          exact ⟨⟨i + 1, by omega, by go_num, HJ.out⟩, by simp [intOf]; omega⟩
        · have hk1 : (k : Int) < 16 := by omega
          have hk0 : (0 : Int) ≤ (k : Int) := by omega
          obtain ⟨b1, hR, hA, hB, r, t, hr, hV, hn, ht⟩ := hJ
          have HT := Lib.hid ht; clear ht
          have HN := Lib.hid hn; clear hn
          have HR := Lib.hid hR; clear hR
          have Hr := Lib.hid hr; clear hr
          have ca := hA.c i (by rw [LA.out]; omega)
          have cb := hB.c k (by rw [LB.out]; omega)
          have ba := hLA.nth (k := i) (by rw [LA.out]; omega)
          have bb := hLB.nth (k := k) (by rw [LB.out]; omega)
          have bp := mul_le ba.1 ba.2 bb.1 bb.2
          by_cases hik : i + k < 16
          · have hs1 : (i : Int) + k < 16 := by omega
            have cr := hV.c (i + k) (by rw [Hr.out]; omega)
            have fr := hV.f (i + k)
            have br := HN.out (i + k) hik
            go_wp2_with fail
            go_region
            go_wp2_with fail
            exact ⟨⟨k + 1, by omega, by go_num, MuI.put LB.out (by omega) (by omega) (by omega) (by omega) (by omega) b1 HR.out hA hB Hr.out hV HN.out HT.out hik bp.1 (by omega) 0 (by rw [Int.pow_add]; grind) rfl⟩, by simp [intOf]; omega⟩
          · obtain ⟨j, hj⟩ : ∃ j, i + k = j + 16 := ⟨i + k - 16, by omega⟩
            have hs1 : ¬ ((i : Int) + k < 16) := by omega
            have hj1 : (i : Int) + k - 16 = (j : Int) := by omega
            have cr := hV.c j (by rw [Hr.out]; omega)
            have fr := hV.f j
            have br := HN.out j (by omega)
            have HJ := Lib.hid hj; clear hj
            go_wp2_with fail
            go_region
            go_wp2_with fail
            have e : IntKind.u64.wrap (nth r j + IntKind.u64.wrap (38 * nth a i * nth b k)) = nth r j + 38 * (nth a i * nth b k) := by
              rw [Int.mul_assoc]
              generalize nth a i * nth b k = P at *
              simp only [IntKind.wrap_u64]
              omega
            rw [e]
            have hp := pow_turn HJ.out
            exact ⟨⟨k + 1, by omega, by go_num, MuI.put LB.out (by omega) (by omega) (by omega) (by omega) (by omega) b1 HR.out hA hB Hr.out hV HN.out HT.out (by omega) (by omega) (by omega) (65536 ^ j * (2 * (nth a i * nth b k))) (by grind) rfl⟩, by simp [intOf]; omega⟩
end Go.Proofs.YtfdjmdfaidiliaaGreatDoor
namespace Go.Proofs.YtfdjmdfaidiliaaGreatDoor
open Go.RowKit
set_option maxRecDepth 20000
theorem enters_rmul : Enters 114 := qao Tryz.func114 (by kernel_rfl) rfl
def wk (N : Int) (q : Nat) : Int := N / 2 ^ (64 * q) % 18446744073709551616
theorem wk_get (N : Int) : ∀ q, q < 4 → (feL N)[q]? = some (.int .u64 (wk N q))
  | 0, _ => by
    show some (Value.int .u64 (w0 N)) = some (.int .u64 (wk N 0))
    rw [show w0 N = wk N 0 by unfold w0 wk; rw [show (2 : Int) ^ (64 * 0) = 1 by decide, Int.ediv_one]]
  | 1, _ => by
    show some (Value.int .u64 (w1 N)) = some (.int .u64 (wk N 1))
    rw [show w1 N = wk N 1 by unfold w1 wk; rw [show (2 : Int) ^ (64 * 1) = 18446744073709551616 by decide]]
  | 2, _ => by
    show some (Value.int .u64 (w2 N)) = some (.int .u64 (wk N 2))
    rw [show w2 N = wk N 2 by unfold w2 wk; rw [show (2 : Int) ^ (64 * 2) = 340282366920938463463374607431768211456 by decide]]
  | 3, _ => by
    show some (Value.int .u64 (w3 N)) = some (.int .u64 (wk N 3))
    rw [show w3 N = wk N 3 by unfold w3 wk; rw [show (2 : Int) ^ (64 * 3) = 6277101735386680763835789423207666416102355444464034512896 by decide]]
  | n + 4, h => absurd h (by omega)
theorem wk_nonneg (N : Int) (q : Nat) : 0 ≤ wk N q := by unfold wk; omega
theorem wk_bit {N : Int} (hN : Num N) (i : Nat) : wk N (i / 64) / 2 ^ (i % 64) % 2 = ((N.toNat / 2 ^ i % 2 : Nat) : Int) := by
  obtain ⟨M, rfl⟩ := Int.eq_ofNat_of_zero_le hN.1
  have h := bit_of (M / 2 ^ (64 * (i / 64))) (i % 64) (by omega)
  rw [Nat.div_div_eq_div_mul, ← Nat.pow_add, show 64 * (i / 64) + i % 64 = i by omega] at h
  rw [Int.toNat_natCast, ← h]
  unfold wk
  simp
set_option maxHeartbeats 8000000 in
theorem rpow_any (X N : Int) (w : World) (hX : Num X) (hN : Num N) : Calls Tryz.prog 118 #[feV X, feV N] w fun e w' => e = .returned (feV (X ^ N.toNat % pp)) ∧ Below w.heap.size w w' := by
  have hM := Lib.hid (Mv.nil w)
  obtain ⟨P, hP⟩ : ∃ P : Nat → Int, P = fun j => X ^ (N.toNat / 2 ^ j) % pp := ⟨_, rfl⟩
  have P0 : Hid (P 256 = 1) := Lib.hid (by rw [hP]; exact pow_start hN)
  have PE : Hid (P 0 = X ^ N.toNat % pp) := Lib.hid (by rw [hP]; exact pow_end X N)
  have PN : Hid (∀ j, Num (P j)) := Lib.hid (by rw [hP]; exact fun j => qap _)
  have PA : Hid (∀ j, N.toNat / 2 ^ j % 2 = 0 → P (j + 1) * P (j + 1) % pp = P j) := Lib.hid (by rw [hP]; exact fun j => (pow_step0 X N j).2)
  have PB : Hid (∀ j, N.toNat / 2 ^ j % 2 = 1 → P (j + 1) * P (j + 1) % pp * X % pp = P j) := Lib.hid (by rw [hP]; exact fun j => pow_step1 X N j)
  clear hP
  have HW : Hid (∀ i, wk N (i / 64) / 2 ^ (i % 64) % 2 = ((N.toNat / 2 ^ i % 2 : Nat) : Int)) := Lib.hid fun i => wk_bit hN i
  have HG : Hid (∀ q, q < 4 → (feL N)[q]? = some (.int .u64 (wk N q))) := Lib.hid (wk_get N)
  have WN : Hid (∀ q, 0 ≤ wk N q) := Lib.hid (wk_nonneg N)
  generalize X ^ N.toNat % pp = res at *
  obtain ⟨bt, hbt⟩ : ∃ bt : Nat → Nat, bt = fun j => N.toNat / 2 ^ j % 2 := ⟨_, rfl⟩
  have HB : Hid (∀ i, wk N (i / 64) / 2 ^ (i % 64) % 2 = ((bt i : Nat) : Int)) := Lib.hid (by rw [hbt]; exact HW.out)
  have QA : Hid (∀ j, bt j = 0 → P (j + 1) * P (j + 1) % pp = P j) := Lib.hid (by rw [hbt]; exact PA.out)
  have QB : Hid (∀ j, bt j = 1 → P (j + 1) * P (j + 1) % pp * X % pp = P j) := Lib.hid (by rw [hbt]; exact PB.out)
  have B2 : Hid (∀ j, bt j = 0 ∨ bt j = 1) := Lib.hid (by rw [hbt]; intro j; show N.toNat / 2 ^ j % 2 = 0 ∨ N.toNat / 2 ^ j % 2 = 1; omega)
  clear hbt HW PA PB
  go_enter Tryz.func118, Tryz.ntmps118
  go_upto_region 0 with fail; refine wp_region_lit ?_
  refine qaa (qbf (vs := feL X) rfl rfl) rfl ?_; (try simp only [Act.put, lyy]); replace hM := Lib.hid (hM.out.new (feL X) 47); generalize w.alloc (.cells (feL X).toArray 47) = a1 at *; generalize w.heap.size = g1 at *
  refine qaa (qbf (vs := feL N) rfl rfl) rfl ?_; (try simp only [Act.put, lyy]); replace hM := Lib.hid (hM.out.new (feL N) 47); generalize a1.alloc (.cells (feL N).toArray 47) = a2 at *; generalize a1.heap.size = g2 at *
  refine qaa (qar (vs := zq 4) rfl (by kernel_rfl)) rfl ?_; (try simp only [Act.put, lyy]); replace hM := Lib.hid (hM.out.new (zq 4) 47); generalize a2.alloc (.cells (zq 4).toArray 47) = a3 at *; generalize a2.heap.size = g3 at *
  refine qac ?_
  go_upto_region 1 with fail; refine wp_region_lit ?_
  refine qai (qaj enters_rsmall rfl rfl rfl) rfl (rsmall_any 1 _ (by omega) (by omega)) (fun a4 hb => ?_); (try simp only [Act.put, lyy]); replace hM := Lib.hid (hM.out.below hb); clear hb
  refine qaa (qar (vs := zq 4) rfl (by kernel_rfl)) rfl ?_; (try simp only [Act.put, lyy]); replace hM := Lib.hid (hM.out.new (zq 4) 47); generalize a4.alloc (.cells (zq 4).toArray 47) = a5 at *; generalize a4.heap.size = g4 at *
  refine qae (qaq (vs := feL 1) rfl (szFe _) rfl rfl (oneFe _) ((hM.out.get (i := 0) rfl).there)) rfl rfl ?_; replace hM := Lib.hid (hM.out.put 0 rfl (m := feL 1) rfl); generalize a5.setCells g4 0 (feL 1) = a6 at *
  refine qac ?_
  go_upto_region 2 with fail; refine wp_region_lit ?_
  refine qaa (qag (v := .int _ _) rfl rfl) rfl ?_; (try simp only [Act.put, lyy])
  refine qac ?_
  go_wp2_with fail
  go_loopw [6] (fun s u => ∃ j : Nat, j ≤ 256 ∧ s = .int .i64 ((j : Int) - 1) ∧ Mv w [(g4, feL (P j)), (g3, zq 4), (g2, feL N), (g1, feL X)] u) (fun s _ => (intOf s + 1).toNat)
  case atStart => exact ⟨256, by omega, rfl, by rw [P0.out]; exact hM.out⟩
  case round =>
    obtain ⟨j, hj, rfl, hJ⟩ := hrel
    replace hM := Lib.hid hJ
    clear hJ
    rcases Nat.eq_zero_or_pos j with rfl | hpos
    · have hk1 : ¬ ((0 : Int) ≤ ((0 : Nat) : Int) - 1) := by omega
      rw [PE.out] at hM
      go_upto_region 8 with fail; refine wp_region_lit ?_
      refine qaa (qah (vs := feL res) rfl Tryz.underlying47 rfl (szFe _) rfl ((hM.out.get (i := 0) rfl).range)) rfl ?_; (try simp only [Act.put, lyy])
      refine qae (qaq (vs := feL res) rfl (szFe _) rfl rfl (oneFe _) ((hM.out.get (i := 1) rfl).there)) rfl rfl ?_; replace hM := Lib.hid (hM.out.put 1 rfl (m := feL res) rfl); generalize wr.setCells g3 0 (feL res) = b1 at *
      refine qac ?_; go_wp2_with fail; refine bodyPost_ret (v := .agg (feL res).toArray) (qat Tryz.results118 rfl Tryz.underlying47 rfl (szFe _) (hM.out.get (i := 1) rfl).range) rfl ⟨rfl, hM.out.bl⟩
    · obtain ⟨i, rfl⟩ : ∃ i, j = i + 1 := ⟨j - 1, by omega⟩
      have hk1 : (0 : Int) ≤ ((i + 1 : Nat) : Int) - 1 := by omega
      have ei : ((i + 1 : Nat) : Int) - 1 = (i : Int) := by omega
      rw [ei] at hk1 ⊢
      clear ei
      have A0 := Lib.hid (QA.out i)
      have A1 := Lib.hid (QB.out i)
      have hPn := PN.out (i + 1)
      have HBi := Lib.hid (HB.out i)
      have hw := WN.out (i / 64)
      have HGi := Lib.hid (HG.out (i / 64) (by omega))
      have h2 := B2.out i
      generalize P (i + 1) = p1 at *
      generalize wk N (i / 64) = wd at *
      generalize bt i = bi at *
      go_upto_region 5 with fail; refine wp_region_lit ?_
      refine qaa (qah (vs := feL p1) rfl Tryz.underlying47 rfl (szFe _) rfl ((hM.out.get (i := 0) rfl).range)) rfl ?_; (try simp only [Act.put, lyy])
      refine qaa (qah (vs := feL p1) rfl Tryz.underlying47 rfl (szFe _) rfl ((hM.out.get (i := 0) rfl).range)) rfl ?_; (try simp only [Act.put, lyy])
      refine qai (qam enters_rmul rfl rfl rfl rfl) rfl (refmul_any p1 p1 _ hPn hPn) (fun b1 hb => ?_); (try simp only [Act.put, lyy]); replace hM := Lib.hid (hM.out.below hb); clear hb
      have hsq := qap (p1 * p1)
      generalize p1 * p1 % pp = sq1 at *
      refine qae (qaq (vs := feL sq1) rfl (szFe _) rfl rfl (oneFe _) ((hM.out.get (i := 0) rfl).there)) rfl rfl ?_; replace hM := Lib.hid (hM.out.put 0 rfl (m := feL sq1) rfl); generalize b1.setCells g4 0 (feL sq1) = b2 at *
      refine qac ?_
      go_upto_region 6 with fail; refine wp_region_lit ?_
      refine qaa (qaf (v := .int _ _) rfl rfl) rfl ?_; (try simp only [Act.put, lyy])
      refine qaa (run_quoN (a := i) (b := 64) rfl rfl rfl (by omega) (by omega)) rfl ?_; (try simp only [Act.put, lyy])
      refine qaa (qay (i := i / 64) rfl Tryz.underlying47 (by kernel_rfl) rfl rfl (by omega)) rfl ?_; (try simp only [Act.put, lyy])
      refine qaa (qaz rfl rfl ((hM.out.get (i := 2) rfl).c _ _ HGi.out)) rfl ?_; (try simp only [Act.put, lyy])
      refine qaa (qaf (v := .int _ _) rfl rfl) rfl ?_; (try simp only [Act.put, lyy])
      refine qaa (qdf (a := i) (b := 64) rfl rfl rfl (by omega)) rfl ?_; (try simp only [Act.put, lyy])
      refine qaa (run_cviuN (n := i % 64) rfl rfl (by omega)) rfl ?_; (try simp only [Act.put, lyy])
      refine qaa (run_shrU (n := i % 64) rfl rfl rfl (by omega)) rfl ?_; (try simp only [Act.put, lyy])
      refine qaa (run_remU (b := 2) rfl rfl rfl (Int.ediv_nonneg hw (Int.pow_nonneg (by omega))) (by omega)) rfl ?_; (try simp only [Act.put, lyy])
      rw [HBi.out]
      rcases h2 with rfl | rfl
      · have hv := A0.out rfl
        refine qaa (run_eqlb (k := .u64) (c := false) rfl rfl rfl rfl) rfl ?_; (try simp only [Act.put, lyy])
        refine qac ?_
        rw [hv] at hM
        clear hv A0 A1 HBi HGi hw
        go_wp2_with fail
        exact ⟨⟨i, by omega, by go_num, hM.out⟩, by simp [intOf]⟩
      · have hv := A1.out rfl
        refine qaa (run_eqlb (k := .u64) (c := true) rfl rfl rfl rfl) rfl ?_; (try simp only [Act.put, lyy])
        refine qac ?_
        go_upto_region 7 with fail; refine wp_region_lit ?_
        refine qaa (qah (vs := feL sq1) rfl Tryz.underlying47 rfl (szFe _) rfl ((hM.out.get (i := 0) rfl).range)) rfl ?_; (try simp only [Act.put, lyy])
        refine qaa (qah (vs := feL X) rfl Tryz.underlying47 rfl (szFe _) rfl ((hM.out.get (i := 3) rfl).range)) rfl ?_; (try simp only [Act.put, lyy])
        refine qai (qam enters_rmul rfl rfl rfl rfl) rfl (refmul_any sq1 X _ hsq hX) (fun b3 hb => ?_); (try simp only [Act.put, lyy]); replace hM := Lib.hid (hM.out.below hb); clear hb
        rw [hv]
        refine qae (qaq (vs := feL (P i)) rfl (szFe _) rfl rfl (oneFe _) ((hM.out.get (i := 0) rfl).there)) rfl rfl ?_; replace hM := Lib.hid (hM.out.put 0 rfl (m := feL (P i)) rfl); generalize b3.setCells g4 0 (feL (P i)) = b4 at *
        refine qac ?_
        clear hv A0 A1 HBi HGi hw
        go_wp2_with fail
        exact ⟨⟨i, by omega, by go_num, hM.out⟩, by simp [intOf]⟩
theorem enters_rpow : Enters 118 := qao Tryz.func118 (by kernel_rfl) rfl
theorem built_pp2 : Tryz.prog.built 47 [(0, .int .u64 18446744073709551595), (1, .int .u64 18446744073709551615), (2, .int .u64 18446744073709551615), (3, .int .u64 9223372036854775807)] = some (feL (pp - 2)).toArray := by kernel_rfl
set_option maxHeartbeats 4000000 in
theorem rinv_any (X : Int) (w : World) (hX : Num X) : Calls Tryz.prog 100 #[feV X] w fun e w' => e = .returned (feV (X ^ (pp - 2).toNat % pp)) ∧ Below w.heap.size w w' := by
  have hM := Lib.hid (Mv.nil w)
  obtain ⟨q, hq⟩ : ∃ q, q = pp - 2 := ⟨_, rfl⟩
  have HB := Lib.hid built_pp2
  rw [← hq] at HB ⊢
  have hqn : Num q := by rw [hq]; exact num_pp2
  have CP : Hid (∀ u, Calls Tryz.prog 118 #[feV X, feV q] u fun e w' => e = .returned (feV (X ^ q.toNat % pp)) ∧ Below u.heap.size u w') := Lib.hid fun u => rpow_any X q u hX hqn
  clear hq hqn
  generalize X ^ q.toNat % pp = res at *
  go_enter Tryz.func100, Tryz.ntmps100
  go_upto_region 0 with fail; refine wp_region_lit ?_
  refine qaa (qbf (vs := feL X) rfl rfl) rfl ?_; (try simp only [Act.put, lyy]); replace hM := Lib.hid (hM.out.new (feL X) 47); generalize w.alloc (.cells (feL X).toArray 47) = a1 at *; generalize w.heap.size = g1 at *
  refine qaa (qar (vs := zq 4) rfl (by kernel_rfl)) rfl ?_; (try simp only [Act.put, lyy]); replace hM := Lib.hid (hM.out.new (zq 4) 47); generalize a1.alloc (.cells (zq 4).toArray 47) = a2 at *; generalize a1.heap.size = g2 at *
  refine qac ?_
  go_upto_region 1 with fail; refine wp_region_lit ?_
  refine qaa (qah (vs := feL X) rfl Tryz.underlying47 rfl (szFe _) rfl ((hM.out.get (i := 1) rfl).range)) rfl ?_; (try simp only [Act.put, lyy])
  refine qaa (run_bld4 (cells := (feL q).toArray) rfl rfl rfl rfl rfl HB.out) rfl ?_; (try simp only [Act.put, lyy])
  refine qai (qam enters_rpow rfl rfl rfl rfl) rfl (CP.out _) (fun a3 hb => ?_); (try simp only [Act.put, lyy]); replace hM := Lib.hid (hM.out.below hb); clear hb
  refine qae (qaq (vs := feL res) rfl (szFe _) rfl rfl (oneFe _) ((hM.out.get (i := 0) rfl).there)) rfl rfl ?_; replace hM := Lib.hid (hM.out.put 0 rfl (m := feL res) rfl); generalize a3.setCells g2 0 (feL res) = a4 at *
  refine qac ?_; go_wp2_with fail; refine bodyPost_ret (v := .agg (feL res).toArray) (qat Tryz.results100 rfl Tryz.underlying47 rfl (szFe _) (hM.out.get (i := 0) rfl).range) rfl ⟨rfl, hM.out.bl⟩
theorem enters_rinv : Enters 100 := qao Tryz.func100 (by kernel_rfl) rfl
end Go.Proofs.YtfdjmdfaidiliaaGreatDoor
namespace Go.Proofs.YtfdjmdfaidiliaaGreatDoor
open Go.RowKit
set_option maxRecDepth 20000
theorem enters_rcanonF : Enters 64 := qao Tryz.func64 (by kernel_rfl) rfl
end Go.Proofs.YtfdjmdfaidiliaaGreatDoor
namespace Go.Proofs.YtfdjmdfaidiliaaGreatDoor
open Go.RowKit
set_option maxRecDepth 20000
structure Tr where
  x : Int
  y : Int
  z : Int
structure Tr.Rep (W : Tr) (P : Pt) : Prop where
  nz : ¬ Zr W.z
  hx : E W.x (P.x * W.z)
  hy : E W.y (P.y * W.z)
structure Tr.Nm (W : Tr) : Prop where
  x : Num W.x
  y : Num W.y
  z : Num W.z
def trL (W : Tr) : List Value := feL W.x ++ (feL W.y ++ feL W.z)
theorem oneTr (W : Tr) : (trL W).toArray.all (·.oneCell') = true := by kernel_rfl
theorem szTr (W : Tr) : (Tryz.prog.info? 94).map (·.size) = some (trL W).length := by kernel_rfl
section
variable {g : Nat} {u : World} {W : Tr}
theorem tr_x (h : Arr g (trL W) u) : u.rangeAt g (0 + 0) (feL W.x) := h.part 0 4
theorem tr_y (h : Arr g (trL W) u) : u.rangeAt g (0 + 4) (feL W.y) := h.part 4 4
theorem tr_z (h : Arr g (trL W) u) : u.rangeAt g (0 + 8) (feL W.z) := h.part 8 4
end
theorem built_tr (a b c : Int) : Tryz.prog.built 94 [(0, feV a), (1, feV b), (2, feV c)] = some (trL ⟨a, b, c⟩).toArray := by kernel_rfl
theorem run_bld3 {w : World} {ρ : Operand → Value} {o : Oper} {t : TypeId} {x0 x1 x2 : Operand} {i0 i1 i2 : Nat} {v0 v1 v2 : Value} {cells : Array Value} (ho : o.op = .build t #[(i0, x0), (i1, x1), (i2, x2)]) (h0 : ρ x0 = v0) (h1 : ρ x1 = v1) (h2 : ρ x2 = v2) (h : Tryz.prog.built t [(i0, v0), (i1, v1), (i2, v2)] = some cells) : (execOp ρ o).run Tryz.prog w = .ok (.value (.agg cells)) w :=
  run_bld ho (by
    have e : ((#[(i0, x0), (i1, x1), (i2, x2)] : Array (Nat × Operand)).map fun (i, x) => (i, ρ x)).toList = [(i0, v0), (i1, v1), (i2, v2)] := by simp [h0, h1, h2]
    rw [e]; exact h)
def trA (p q : Tr) : Int := p.z * q.z % pp
def tB (p q : Tr) : Int := trA p q * trA p q % pp
def tC (p q : Tr) : Int := p.x * q.x % pp
def tE (p q : Tr) : Int := p.y * q.y % pp
def tF (p q : Tr) : Int := dd * (tC p q * tE p q % pp) % pp
def tG (p q : Tr) : Int := (tB p q - tF p q) % pp
def tH (p q : Tr) : Int := (tB p q + tF p q) % pp
def tX (p q : Tr) : Int := (((p.x + p.y) % pp * ((q.x + q.y) % pp) % pp - tC p q) % pp - tE p q) % pp
def tsum (p q : Tr) : Tr := ⟨trA p q * (tG p q * tX p q % pp) % pp, trA p q * (tH p q * ((tE p q + tC p q) % pp) % pp) % pp, tG p q * tH p q % pp⟩
theorem tsum_nm (p q : Tr) : (tsum p q).Nm := ⟨qap _, qap _, qap _⟩
theorem rep_tsum {W V : Tr} {P Q : Pt} (hW : W.Rep P) (hV : V.Rep Q) (hP : P.On) (hQ : Q.On) : (tsum W V).Rep (padd P Q) := by
  have ea : E (trA W V) (W.z * V.z) := E.rest _
  have eb : E (tB W V) (W.z * V.z * (W.z * V.z)) := (E.rest _).trans (ea.mul ea)
  have ec : E (tC W V) (P.x * Q.x * (W.z * V.z)) := (E.rest _).trans ((hW.hx.mul hV.hx).trans (E.of_eq (by grind)))
  have ee : E (tE W V) (P.y * Q.y * (W.z * V.z)) := (E.rest _).trans ((hW.hy.mul hV.hy).trans (E.of_eq (by grind)))
  have ef : E (tF W V) (prt P Q * (W.z * V.z * (W.z * V.z))) := (E.rest _).trans (((E.rfl' dd).mul ((E.rest _).trans (ec.mul ee))).trans (E.of_eq (by unfold prt; grind)))
  have eg : E (tG W V) ((1 - prt P Q) * (W.z * V.z * (W.z * V.z))) := (E.rest _).trans ((eb.sub ef).trans (E.of_eq (by grind)))
  have eh : E (tH W V) ((1 + prt P Q) * (W.z * V.z * (W.z * V.z))) := (E.rest _).trans ((eb.add ef).trans (E.of_eq (by grind)))
  have ex : E (tX W V) ((P.x * Q.y + P.y * Q.x) * (W.z * V.z)) := by
    refine (E.rest _).trans (((((E.rest _).trans ((((E.rest _).trans (((E.rest _).trans (hW.hx.add hW.hy)).mul ((E.rest _).trans (hV.hx.add hV.hy)))).sub ec)))).sub ee).trans (E.of_eq ?_))
    grind
  have eS : E ((tE W V + tC W V) % pp) ((P.y * Q.y + P.x * Q.x) * (W.z * V.z)) := (E.rest _).trans ((ee.add ec).trans (E.of_eq (by grind)))
  have hA := div_add hP hQ
  have hB := div_sub hP hQ
  have rx : E ((padd P Q).x * (1 + prt P Q)) (P.x * Q.y + P.y * Q.x) := Zr.to_E (padd_x hP hQ)
  have ry : E ((padd P Q).y * (1 - prt P Q)) (P.y * Q.y + P.x * Q.x) := Zr.to_E (padd_y hP hQ)
  have nz := qbo hW.nz hV.nz
  have hz : E (tsum W V).z ((1 - prt P Q) * (W.z * V.z * (W.z * V.z)) * ((1 + prt P Q) * (W.z * V.z * (W.z * V.z)))) := (E.rest _).trans (eg.mul eh)
  have hx : E (tsum W V).x (W.z * V.z * ((1 - prt P Q) * (W.z * V.z * (W.z * V.z)) * ((P.x * Q.y + P.y * Q.x) * (W.z * V.z)))) := (E.rest _).trans (ea.mul ((E.rest _).trans (eg.mul ex)))
  have hy : E (tsum W V).y (W.z * V.z * ((1 + prt P Q) * (W.z * V.z * (W.z * V.z)) * ((P.y * Q.y + P.x * Q.x) * (W.z * V.z)))) := (E.rest _).trans (ea.mul ((E.rest _).trans (eh.mul eS)))
  generalize tsum W V = S at *
  generalize padd P Q = R at *
  generalize prt P Q = e at *
  generalize W.z * V.z = z at *
  refine ⟨fun h => ?_, ?_, ?_⟩
  · exact qbo (qbo hB (qbo nz nz)) (qbo hA (qbo nz nz)) (E.zr hz.symm h)
  · refine hx.trans (E.trans ?_ ((E.rfl' R.x).mul hz).symm)
    refine ((E.rfl' z).mul ((E.rfl' ((1 - e) * (z * z))).mul (rx.symm.mul (E.rfl' z)))).trans (E.of_eq (by grind))
  · refine hy.trans (E.trans ?_ ((E.rfl' R.y).mul hz).symm)
    refine ((E.rfl' z).mul ((E.rfl' ((1 + e) * (z * z))).mul (ry.symm.mul (E.rfl' z)))).trans (E.of_eq (by grind))
def tto (W : Tr) : Pt := ⟨W.x * iv W.z % pp, W.y * iv W.z % pp⟩
theorem tto_eq {W : Tr} {P : Pt} (h : W.Rep P) (hP : P.Ok) : tto W = P := by
  have h1 : W.x * iv W.z % pp = P.x := eq_of_E (qbp _) hP.1 (nar_E h.hx h.nz)
  have h2 : W.y * iv W.z % pp = P.y := eq_of_E (qbp _) hP.2 (nar_E h.hy h.nz)
  unfold tto; rw [h1, h2]
def tof (p : Pt) : Tr := ⟨p.x % pp, p.y % pp, 1⟩
theorem tof_rep (p : Pt) : (tof p).Rep p.can := ⟨one_not, E.of_eq (Int.mul_one _).symm, E.of_eq (Int.mul_one _).symm⟩
theorem tof_nm (p : Pt) : (tof p).Nm := ⟨qap _, qap _, num_1⟩
set_option maxHeartbeats 4000000 in
theorem qce (X Y : Int) (w : World) (hX : Num X) (hY : Num Y) : Calls Tryz.prog 95 #[feV X, feV Y] w fun e w' => e = .returned (feV (X * Y % pp)) ∧ Below w.heap.size w w' := by
  have hM := Lib.hid (Mv.nil w)
  go_enter Tryz.func95, Tryz.ntmps95
  go_upto_region 0 with fail; refine wp_region_lit ?_
  refine qaa (qbf (vs := feL X) rfl rfl) rfl ?_; (try simp only [Act.put, lyy]); replace hM := Lib.hid (hM.out.new (feL X) 47); generalize w.alloc (.cells (feL X).toArray 47) = a1 at *; generalize w.heap.size = g1 at *
  refine qaa (qbf (vs := feL Y) rfl rfl) rfl ?_; (try simp only [Act.put, lyy]); replace hM := Lib.hid (hM.out.new (feL Y) 47); generalize a1.alloc (.cells (feL Y).toArray 47) = a2 at *; generalize a1.heap.size = g2 at *
  refine qaa (qar (vs := zq 4) rfl (by kernel_rfl)) rfl ?_; (try simp only [Act.put, lyy]); replace hM := Lib.hid (hM.out.new (zq 4) 47); generalize a2.alloc (.cells (zq 4).toArray 47) = a3 at *; generalize a2.heap.size = g3 at *
  refine qac ?_
  go_upto_region 1 with fail; refine wp_region_lit ?_
  refine qaa (qah (vs := feL X) rfl Tryz.underlying47 rfl (szFe _) rfl ((hM.out.get (i := 2) rfl).range)) rfl ?_; (try simp only [Act.put, lyy])
  refine qaa (qah (vs := feL Y) rfl Tryz.underlying47 rfl (szFe _) rfl ((hM.out.get (i := 1) rfl).range)) rfl ?_; (try simp only [Act.put, lyy])
  refine qai (qam enters_rmul rfl rfl rfl rfl) rfl (refmul_any X Y _ hX hY) (fun a4 hb => ?_); (try simp only [Act.put, lyy]); replace hM := Lib.hid (hM.out.below hb); clear hb
  refine qae (qaq (vs := feL (X * Y % pp)) rfl (szFe _) rfl rfl (oneFe _) ((hM.out.get (i := 0) rfl).there)) rfl rfl ?_; replace hM := Lib.hid (hM.out.put 0 rfl (m := feL (X * Y % pp)) rfl); generalize a4.setCells g3 0 (feL (X * Y % pp)) = a5 at *
  refine qac ?_; go_wp2_with fail; refine bodyPost_ret (v := .agg (feL (X * Y % pp)).toArray) (qat Tryz.results95 rfl Tryz.underlying47 rfl (szFe _) (hM.out.get (i := 0) rfl).range) rfl ⟨rfl, hM.out.bl⟩
theorem qbj : Enters 95 := qao Tryz.func95 (by kernel_rfl) rfl
set_option maxHeartbeats 4000000 in
theorem eadd_any (X Y : Int) (w : World) (hX : Num X) (hY : Num Y) : Calls Tryz.prog 97 #[feV X, feV Y] w fun e w' => e = .returned (feV ((X + Y) % pp)) ∧ Below w.heap.size w w' := by
  have hM := Lib.hid (Mv.nil w)
  go_enter Tryz.func97, Tryz.ntmps97
  go_upto_region 0 with fail; refine wp_region_lit ?_
  refine qaa (qbf (vs := feL X) rfl rfl) rfl ?_; (try simp only [Act.put, lyy]); replace hM := Lib.hid (hM.out.new (feL X) 47); generalize w.alloc (.cells (feL X).toArray 47) = a1 at *; generalize w.heap.size = g1 at *
  refine qaa (qbf (vs := feL Y) rfl rfl) rfl ?_; (try simp only [Act.put, lyy]); replace hM := Lib.hid (hM.out.new (feL Y) 47); generalize a1.alloc (.cells (feL Y).toArray 47) = a2 at *; generalize a1.heap.size = g2 at *
  refine qaa (qar (vs := zq 4) rfl (by kernel_rfl)) rfl ?_; (try simp only [Act.put, lyy]); replace hM := Lib.hid (hM.out.new (zq 4) 47); generalize a2.alloc (.cells (zq 4).toArray 47) = a3 at *; generalize a2.heap.size = g3 at *
  refine qac ?_
  go_upto_region 1 with fail; refine wp_region_lit ?_
  refine qaa (qah (vs := feL X) rfl Tryz.underlying47 rfl (szFe _) rfl ((hM.out.get (i := 2) rfl).range)) rfl ?_; (try simp only [Act.put, lyy])
  refine qaa (qah (vs := feL Y) rfl Tryz.underlying47 rfl (szFe _) rfl ((hM.out.get (i := 1) rfl).range)) rfl ?_; (try simp only [Act.put, lyy])
  refine qai (qam enters_radd rfl rfl rfl rfl) rfl (radd_any X Y _ hX hY) (fun a4 hb => ?_); (try simp only [Act.put, lyy]); replace hM := Lib.hid (hM.out.below hb); clear hb
  refine qae (qaq (vs := feL ((X + Y) % pp)) rfl (szFe _) rfl rfl (oneFe _) ((hM.out.get (i := 0) rfl).there)) rfl rfl ?_; replace hM := Lib.hid (hM.out.put 0 rfl (m := feL ((X + Y) % pp)) rfl); generalize a4.setCells g3 0 (feL ((X + Y) % pp)) = a5 at *
  refine qac ?_; go_wp2_with fail; refine bodyPost_ret (v := .agg (feL ((X + Y) % pp)).toArray) (qat Tryz.results97 rfl Tryz.underlying47 rfl (szFe _) (hM.out.get (i := 0) rfl).range) rfl ⟨rfl, hM.out.bl⟩
theorem enters_eadd : Enters 97 := qao Tryz.func97 (by kernel_rfl) rfl
set_option maxHeartbeats 4000000 in
theorem esub_any (X Y : Int) (w : World) (hX : Num X) (hY : Num Y) : Calls Tryz.prog 96 #[feV X, feV Y] w fun e w' => e = .returned (feV ((X - Y) % pp)) ∧ Below w.heap.size w w' := by
  have hM := Lib.hid (Mv.nil w)
  go_enter Tryz.func96, Tryz.ntmps96
  go_upto_region 0 with fail; refine wp_region_lit ?_
  refine qaa (qbf (vs := feL X) rfl rfl) rfl ?_; (try simp only [Act.put, lyy]); replace hM := Lib.hid (hM.out.new (feL X) 47); generalize w.alloc (.cells (feL X).toArray 47) = a1 at *; generalize w.heap.size = g1 at *
  refine qaa (qbf (vs := feL Y) rfl rfl) rfl ?_; (try simp only [Act.put, lyy]); replace hM := Lib.hid (hM.out.new (feL Y) 47); generalize a1.alloc (.cells (feL Y).toArray 47) = a2 at *; generalize a1.heap.size = g2 at *
  refine qaa (qar (vs := zq 4) rfl (by kernel_rfl)) rfl ?_; (try simp only [Act.put, lyy]); replace hM := Lib.hid (hM.out.new (zq 4) 47); generalize a2.alloc (.cells (zq 4).toArray 47) = a3 at *; generalize a2.heap.size = g3 at *
  refine qac ?_
  go_upto_region 1 with fail; refine wp_region_lit ?_
  refine qaa (qah (vs := feL X) rfl Tryz.underlying47 rfl (szFe _) rfl ((hM.out.get (i := 2) rfl).range)) rfl ?_; (try simp only [Act.put, lyy])
  refine qaa (qah (vs := feL Y) rfl Tryz.underlying47 rfl (szFe _) rfl ((hM.out.get (i := 1) rfl).range)) rfl ?_; (try simp only [Act.put, lyy])
  refine qai (qam enters_rsub rfl rfl rfl rfl) rfl (rsub_any X Y _ hX hY) (fun a4 hb => ?_); (try simp only [Act.put, lyy]); replace hM := Lib.hid (hM.out.below hb); clear hb
  refine qae (qaq (vs := feL ((X - Y) % pp)) rfl (szFe _) rfl rfl (oneFe _) ((hM.out.get (i := 0) rfl).there)) rfl rfl ?_; replace hM := Lib.hid (hM.out.put 0 rfl (m := feL ((X - Y) % pp)) rfl); generalize a4.setCells g3 0 (feL ((X - Y) % pp)) = a5 at *
  refine qac ?_; go_wp2_with fail; refine bodyPost_ret (v := .agg (feL ((X - Y) % pp)).toArray) (qat Tryz.results96 rfl Tryz.underlying47 rfl (szFe _) (hM.out.get (i := 0) rfl).range) rfl ⟨rfl, hM.out.bl⟩
theorem enters_esub : Enters 96 := qao Tryz.func96 (by kernel_rfl) rfl
set_option maxHeartbeats 4000000 in
theorem eone_any (w : World) : Calls Tryz.prog 98 #[] w fun e w' => e = .returned (feV 1) ∧ Below w.heap.size w w' := by
  have hM := Lib.hid (Mv.nil w)
  go_enter Tryz.func98, Tryz.ntmps98
  go_upto_region 0 with fail; refine wp_region_lit ?_
  refine qaa (qar (vs := zq 4) rfl (by kernel_rfl)) rfl ?_; (try simp only [Act.put, List.setIfInBounds_toArray, List.set_cons_zero]); replace hM := Lib.hid (hM.out.new (zq 4) 47); generalize w.alloc (.cells (zq 4).toArray 47) = a1 at *; generalize w.heap.size = g1 at *
  refine qac ?_
  go_upto_region 1 with fail; refine wp_region_lit ?_
  refine qai (qaj enters_rsmall rfl rfl rfl) rfl (rsmall_any 1 _ (by omega) (by omega)) (fun a2 hb => ?_); (try simp only [Act.put, lyy]); replace hM := Lib.hid (hM.out.below hb); clear hb
  refine qae (qaq (vs := feL 1) rfl (szFe _) rfl rfl (oneFe _) ((hM.out.get (i := 0) rfl).there)) rfl rfl ?_; replace hM := Lib.hid (hM.out.put 0 rfl (m := feL 1) rfl); generalize a2.setCells g1 0 (feL 1) = a3 at *
  refine qac ?_; go_wp2_with fail; refine bodyPost_ret (v := .agg (feL 1).toArray) (qat Tryz.results98 rfl Tryz.underlying47 rfl (szFe _) (hM.out.get (i := 0) rfl).range) rfl ⟨rfl, hM.out.bl⟩
theorem enters_eone : Enters 98 := qao Tryz.func98 (by kernel_rfl) rfl
theorem built_dd : Tryz.prog.built 47 [(0, .int .u64 8496970652267935907), (1, .int .u64 31536524315187371), (2, .int .u64 10144147576115030168), (3, .int .u64 5909686906226998899)] = some (feL dd).toArray := by kernel_rfl
set_option maxHeartbeats 4000000 in
theorem edd_any (w : World) : Calls Tryz.prog 99 #[] w fun e w' => e = .returned (feV dd) ∧ Below w.heap.size w w' := by
  have hM := Lib.hid (Mv.nil w)
  obtain ⟨q, hq⟩ : ∃ q, q = dd := ⟨_, rfl⟩
  have HB := Lib.hid built_dd
  rw [← hq] at HB ⊢
  clear hq
  go_enter Tryz.func99, Tryz.ntmps99
  go_upto_region 0 with fail; refine wp_region_lit ?_
  refine qaa (qar (vs := zq 4) rfl (by kernel_rfl)) rfl ?_; (try simp only [Act.put, List.setIfInBounds_toArray, List.set_cons_zero]); replace hM := Lib.hid (hM.out.new (zq 4) 47); generalize w.alloc (.cells (zq 4).toArray 47) = a1 at *; generalize w.heap.size = g1 at *
  refine qac ?_
  go_upto_region 1 with fail; refine wp_region_lit ?_
  refine qaa (run_bld4 (cells := (feL q).toArray) rfl rfl rfl rfl rfl HB.out) rfl ?_; (try simp only [Act.put, lyy])
  refine qae (qaq (vs := feL q) rfl (szFe _) rfl rfl (oneFe _) ((hM.out.get (i := 0) rfl).there)) rfl rfl ?_; replace hM := Lib.hid (hM.out.put 0 rfl (m := feL q) rfl); generalize a1.setCells g1 0 (feL q) = a3 at *
  refine qac ?_; go_wp2_with fail; refine bodyPost_ret (v := .agg (feL q).toArray) (qat Tryz.results99 rfl Tryz.underlying47 rfl (szFe _) (hM.out.get (i := 0) rfl).range) rfl ⟨rfl, hM.out.bl⟩
theorem enters_edd : Enters 99 := qao Tryz.func99 (by kernel_rfl) rfl
set_option maxHeartbeats 8000000 in
theorem eon_any (p : Pt) (w : World) (hp : p.Nm) : Calls Tryz.prog 65 #[.agg (ptL p).toArray] w fun e w' => e = .returned (.bool (onB p)) ∧ Below w.heap.size w w' := by
  have hM := Lib.hid (Mv.nil w)
  have HB : Hid (onB p = ((p.y * p.y % pp - p.x * p.x % pp) % pp == (1 + dd * (p.x * p.x % pp * (p.y * p.y % pp) % pp) % pp) % pp)) := Lib.hid rfl
  generalize onB p = ob at *
  go_enter Tryz.func65, Tryz.ntmps65
  go_upto_region 0 with fail; refine wp_region_lit ?_
  refine qaa (qbf (vs := ptL p) rfl rfl) rfl ?_; (try simp only [Act.put, lyy]); replace hM := Lib.hid (hM.out.new (ptL p) 49); generalize w.alloc (.cells (ptL p).toArray 49) = a1 at *; generalize w.heap.size = g1 at *
  refine qaa (qag (v := .bool _) rfl rfl) rfl ?_; (try simp only [Act.put, lyy])
  refine qac ?_
  go_upto_region 1 with fail; refine wp_region_lit ?_
  refine qaa (qbh (s := 3) (k := 0) rfl Tryz.underlying49 rfl (by kernel_rfl) rfl rfl) rfl ?_; (try simp only [Act.put, lyy])
  refine qaa (qah (vs := feL p.x) rfl Tryz.underlying47 rfl (szFe _) rfl (pt_x (hM.out.get (i := 0) rfl))) rfl ?_; (try simp only [Act.put, lyy])
  refine qaa (qbh (s := 3) (k := 0) rfl Tryz.underlying49 rfl (by kernel_rfl) rfl rfl) rfl ?_; (try simp only [Act.put, lyy])
  refine qaa (qah (vs := feL p.x) rfl Tryz.underlying47 rfl (szFe _) rfl (pt_x (hM.out.get (i := 0) rfl))) rfl ?_; (try simp only [Act.put, lyy])
  refine qai (qam qbj rfl rfl rfl rfl) rfl (qce p.x p.x _ hp.1 hp.1) (fun a2 hb => ?_); (try simp only [Act.put, lyy]); replace hM := Lib.hid (hM.out.below hb); clear hb
  have hx := qap (p.x * p.x)
  generalize p.x * p.x % pp = xx at *
  refine qaa (qar (vs := zq 4) rfl (by kernel_rfl)) rfl ?_; (try simp only [Act.put, lyy]); replace hM := Lib.hid (hM.out.new (zq 4) 47); generalize a2.alloc (.cells (zq 4).toArray 47) = a3 at *; generalize a2.heap.size = g2 at *
  refine qae (qaq (vs := feL xx) rfl (szFe _) rfl rfl (oneFe _) ((hM.out.get (i := 0) rfl).there)) rfl rfl ?_; replace hM := Lib.hid (hM.out.put 0 rfl (m := feL xx) rfl); generalize a3.setCells g2 0 (feL xx) = a4 at *
  refine qac ?_
  go_upto_region 2 with fail; refine wp_region_lit ?_
  refine qaa (qbh (s := 3) (k := 4) rfl Tryz.underlying49 rfl (by kernel_rfl) rfl rfl) rfl ?_; (try simp only [Act.put, lyy])
  refine qaa (qah (vs := feL p.y) rfl Tryz.underlying47 rfl (szFe _) rfl (pt_y (hM.out.get (i := 1) rfl))) rfl ?_; (try simp only [Act.put, lyy])
  refine qaa (qbh (s := 3) (k := 4) rfl Tryz.underlying49 rfl (by kernel_rfl) rfl rfl) rfl ?_; (try simp only [Act.put, lyy])
  refine qaa (qah (vs := feL p.y) rfl Tryz.underlying47 rfl (szFe _) rfl (pt_y (hM.out.get (i := 1) rfl))) rfl ?_; (try simp only [Act.put, lyy])
  refine qai (qam qbj rfl rfl rfl rfl) rfl (qce p.y p.y _ hp.2 hp.2) (fun a5 hb => ?_); (try simp only [Act.put, lyy]); replace hM := Lib.hid (hM.out.below hb); clear hb
  have hy := qap (p.y * p.y)
  generalize p.y * p.y % pp = yy at *
  refine qaa (qar (vs := zq 4) rfl (by kernel_rfl)) rfl ?_; (try simp only [Act.put, lyy]); replace hM := Lib.hid (hM.out.new (zq 4) 47); generalize a5.alloc (.cells (zq 4).toArray 47) = a6 at *; generalize a5.heap.size = g3 at *
  refine qae (qaq (vs := feL yy) rfl (szFe _) rfl rfl (oneFe _) ((hM.out.get (i := 0) rfl).there)) rfl rfl ?_; replace hM := Lib.hid (hM.out.put 0 rfl (m := feL yy) rfl); generalize a6.setCells g3 0 (feL yy) = a7 at *
  refine qac ?_
  go_upto_region 3 with fail; refine qau 11 (by kernel_rfl) (by kernel_rfl) ?_
  refine qab _ (fun V hV => qad (qah (vs := feL yy) rfl Tryz.underlying47 rfl (szFe _) rfl (((hM.out.below hV).get (i := 0) rfl).range))) ?_; (try simp only [Act.put, lyy])
  refine qab _ (fun V hV => qad (qah (vs := feL xx) rfl Tryz.underlying47 rfl (szFe _) rfl (((hM.out.below hV).get (i := 1) rfl).range))) ?_; (try simp only [Act.put, lyy])
  refine qab _ (fun V hV => qak (qam enters_esub rfl rfl rfl rfl) (esub_any yy xx V hy hx)) ?_; (try simp only [Act.put, lyy])
  refine qab _ (fun V hV => qak (qbz enters_eone rfl rfl) (eone_any V)) ?_; (try simp only [Act.put, lyy])
  refine qab _ (fun V hV => qak (qbz enters_edd rfl rfl) (edd_any V)) ?_; (try simp only [Act.put, lyy])
  refine qab _ (fun V hV => qad (qah (vs := feL xx) rfl Tryz.underlying47 rfl (szFe _) rfl (((hM.out.below hV).get (i := 1) rfl).range))) ?_; (try simp only [Act.put, lyy])
  refine qab _ (fun V hV => qad (qah (vs := feL yy) rfl Tryz.underlying47 rfl (szFe _) rfl (((hM.out.below hV).get (i := 0) rfl).range))) ?_; (try simp only [Act.put, lyy])
  refine qab _ (fun V hV => qak (qam qbj rfl rfl rfl rfl) (qce xx yy V hx hy)) ?_; (try simp only [Act.put, lyy])
  refine qab _ (fun V hV => qak (qam qbj rfl rfl rfl rfl) (qce dd (xx * yy % pp) V num_dd (qap _))) ?_; (try simp only [Act.put, lyy])
  refine qab _ (fun V hV => qak (qam enters_eadd rfl rfl rfl rfl) (eadd_any 1 (dd * (xx * yy % pp) % pp) V num_1 (qap _))) ?_; (try simp only [Act.put, lyy])
  refine qab _ (fun V hV => qad (run_eqFeO (c := ob) (qap _) (qap _) rfl rfl rfl HB.out.symm)) ?_; (try simp only [Act.put, lyy])
  refine qav ?_; intro a8 hb; simp only [List.drop_succ_cons, List.drop_zero]
  replace hM := Lib.hid (hM.out.below hb)
  refine qaa (qag (v := .bool _) rfl rfl) rfl ?_; (try simp only [Act.put, lyy])
  refine qac ?_
  go_wp2_with fail
  go_ret
  exact ⟨rfl, hM.out.bl⟩
theorem enters_eon : Enters 65 := qao Tryz.func65 (by kernel_rfl) rfl
set_option maxHeartbeats 4000000 in
theorem enone_any (w : World) : Calls Tryz.prog 66 #[] w fun e w' => e = .returned (.agg (ptL nonePt).toArray) ∧ Below w.heap.size w w' := by
  have hM := Lib.hid (Mv.nil w)
  go_enter Tryz.func66, Tryz.ntmps66
  go_upto_region 0 with fail; refine wp_region_lit ?_
  refine qaa (qar (vs := zq 8) rfl (by kernel_rfl)) rfl ?_; (try simp only [Act.put, List.setIfInBounds_toArray, List.set_cons_zero]); replace hM := Lib.hid (hM.out.new (zq 8) 49); generalize w.alloc (.cells (zq 8).toArray 49) = a1 at *; generalize w.heap.size = g1 at *
  refine qac ?_
  go_upto_region 1 with fail; refine wp_region_lit ?_
  refine qai (qbz enters_eone rfl rfl) rfl (eone_any _) (fun a2 hb => ?_); (try simp only [Act.put, lyy]); replace hM := Lib.hid (hM.out.below hb); clear hb
  refine qaa (run_bld1 rfl rfl (built_pt1 1)) rfl ?_; (try simp only [Act.put, lyy])
  refine qae (qaq (vs := ptL nonePt) rfl (szPt _) rfl rfl (onePt _) ((hM.out.get (i := 0) rfl).there)) rfl rfl ?_; replace hM := Lib.hid (hM.out.put 0 rfl (m := ptL nonePt) rfl); generalize a2.setCells g1 0 (ptL nonePt) = a3 at *
  refine qac ?_; go_wp2_with fail; refine bodyPost_ret (v := .agg (ptL nonePt).toArray) (qat Tryz.results66 rfl Tryz.underlying49 rfl (szPt _) (hM.out.get (i := 0) rfl).range) rfl ⟨rfl, hM.out.bl⟩
theorem enters_enone : Enters 66 := qao Tryz.func66 (by kernel_rfl) rfl
set_option maxHeartbeats 4000000 in
theorem eof_any (p : Pt) (w : World) (hp : p.Nm) : Calls Tryz.prog 67 #[.agg (ptL p).toArray] w fun e w' => e = .returned (.agg (trL (tof p)).toArray) ∧ Below w.heap.size w w' := by
  have hM := Lib.hid (Mv.nil w)
  go_enter Tryz.func67, Tryz.ntmps67
  go_upto_region 0 with fail; refine wp_region_lit ?_
  refine qaa (qbf (vs := ptL p) rfl rfl) rfl ?_; (try simp only [Act.put, lyy]); replace hM := Lib.hid (hM.out.new (ptL p) 49); generalize w.alloc (.cells (ptL p).toArray 49) = a1 at *; generalize w.heap.size = g1 at *
  refine qaa (qar (vs := zq 12) rfl (by kernel_rfl)) rfl ?_; (try simp only [Act.put, lyy]); replace hM := Lib.hid (hM.out.new (zq 12) 94); generalize a1.alloc (.cells (zq 12).toArray 94) = a2 at *; generalize a1.heap.size = g2 at *
  refine qac ?_
  go_upto_region 1 with fail; refine qau 8 (by kernel_rfl) (by kernel_rfl) ?_
  refine qab _ (fun V hV => qad (qbh (s := 3) (k := 0) rfl Tryz.underlying49 rfl (by kernel_rfl) rfl rfl)) ?_; (try simp only [Act.put, lyy])
  refine qab _ (fun V hV => qad (qah (vs := feL p.x) rfl Tryz.underlying47 rfl (szFe _) rfl (pt_x ((hM.out.below hV).get (i := 1) rfl)))) ?_; (try simp only [Act.put, lyy])
  refine qab _ (fun V hV => qak (qaj enters_rcanonF rfl rfl rfl) (refcanon_any p.x V hp.1)) ?_; (try simp only [Act.put, lyy])
  refine qab _ (fun V hV => qad (qbh (s := 3) (k := 4) rfl Tryz.underlying49 rfl (by kernel_rfl) rfl rfl)) ?_; (try simp only [Act.put, lyy])
  refine qab _ (fun V hV => qad (qah (vs := feL p.y) rfl Tryz.underlying47 rfl (szFe _) rfl (pt_y ((hM.out.below hV).get (i := 1) rfl)))) ?_; (try simp only [Act.put, lyy])
  refine qab _ (fun V hV => qak (qaj enters_rcanonF rfl rfl rfl) (refcanon_any p.y V hp.2)) ?_; (try simp only [Act.put, lyy])
  refine qab _ (fun V hV => qak (qbz enters_eone rfl rfl) (eone_any V)) ?_; (try simp only [Act.put, lyy])
  refine qab _ (fun V hV => qad (run_bld3 rfl rfl rfl rfl (built_tr (p.x % pp) (p.y % pp) 1))) ?_; (try simp only [Act.put, lyy])
  refine qav ?_; intro a3 hb; simp only [List.drop_succ_cons, List.drop_zero]
  replace hM := Lib.hid (hM.out.below hb)
  clear hb
  refine qae (qaq (vs := trL (tof p)) rfl (szTr _) rfl rfl (oneTr _) ((hM.out.get (i := 0) rfl).there)) rfl rfl ?_; replace hM := Lib.hid (hM.out.put 0 rfl (m := trL (tof p)) rfl); generalize a3.setCells g2 0 (trL (tof p)) = a4 at *
  refine qac ?_; go_wp2_with fail; refine bodyPost_ret (v := .agg (trL (tof p)).toArray) (qat Tryz.results67 rfl Tryz.underlying94 rfl (szTr _) (hM.out.get (i := 0) rfl).range) rfl ⟨rfl, hM.out.bl⟩
theorem enters_eof : Enters 67 := qao Tryz.func67 (by kernel_rfl) rfl
set_option maxHeartbeats 4000000 in
theorem eto_any (W : Tr) (w : World) (hW : W.Nm) : Calls Tryz.prog 69 #[.agg (trL W).toArray] w fun e w' => e = .returned (.agg (ptL (tto W)).toArray) ∧ Below w.heap.size w w' := by
  have hM := Lib.hid (Mv.nil w)
  obtain ⟨iz, hiz⟩ : ∃ iz, iz = W.z ^ (pp - 2).toNat % pp := ⟨_, rfl⟩
  have HN : Hid (tto W = ⟨W.x * iz % pp, W.y * iz % pp⟩) := Lib.hid (by rw [hiz]; rfl)
  have hin : Num iz := by rw [hiz]; exact qap _
  have HI : Hid (∀ u, Calls Tryz.prog 100 #[feV W.z] u fun e w' => e = .returned (feV iz) ∧ Below u.heap.size u w') := Lib.hid fun u => by rw [hiz]; exact rinv_any W.z u hW.z
  clear hiz
  generalize tto W = R at *
  go_enter Tryz.func69, Tryz.ntmps69
  go_upto_region 0 with fail; refine wp_region_lit ?_
  refine qaa (qbf (vs := trL W) rfl rfl) rfl ?_; (try simp only [Act.put, lyy]); replace hM := Lib.hid (hM.out.new (trL W) 94); generalize w.alloc (.cells (trL W).toArray 94) = a1 at *; generalize w.heap.size = g1 at *
  refine qaa (qar (vs := zq 8) rfl (by kernel_rfl)) rfl ?_; (try simp only [Act.put, lyy]); replace hM := Lib.hid (hM.out.new (zq 8) 49); generalize a1.alloc (.cells (zq 8).toArray 49) = a2 at *; generalize a1.heap.size = g2 at *
  refine qac ?_
  go_upto_region 1 with fail; refine wp_region_lit ?_
  refine qaa (qbh (s := 3) (k := 8) rfl Tryz.underlying94 rfl (by kernel_rfl) rfl rfl) rfl ?_; (try simp only [Act.put, lyy])
  refine qaa (qah (vs := feL W.z) rfl Tryz.underlying47 rfl (szFe _) rfl (tr_z (hM.out.get (i := 1) rfl))) rfl ?_; (try simp only [Act.put, lyy])
  refine qai (qaj enters_rinv rfl rfl rfl) rfl (HI.out _) (fun a3 hb => ?_); (try simp only [Act.put, lyy]); replace hM := Lib.hid (hM.out.below hb); clear hb
  refine qaa (qar (vs := zq 4) rfl (by kernel_rfl)) rfl ?_; (try simp only [Act.put, lyy]); replace hM := Lib.hid (hM.out.new (zq 4) 47); generalize a3.alloc (.cells (zq 4).toArray 47) = a4 at *; generalize a3.heap.size = g3 at *
  refine qae (qaq (vs := feL iz) rfl (szFe _) rfl rfl (oneFe _) ((hM.out.get (i := 0) rfl).there)) rfl rfl ?_; replace hM := Lib.hid (hM.out.put 0 rfl (m := feL iz) rfl); generalize a4.setCells g3 0 (feL iz) = a5 at *
  refine qac ?_
  go_upto_region 2 with fail; refine qau 9 (by kernel_rfl) (by kernel_rfl) ?_
  refine qab _ (fun V hV => qad (qbh (s := 3) (k := 0) rfl Tryz.underlying94 rfl (by kernel_rfl) rfl rfl)) ?_; (try simp only [Act.put, lyy])
  refine qab _ (fun V hV => qad (qah (vs := feL W.x) rfl Tryz.underlying47 rfl (szFe _) rfl (tr_x ((hM.out.below hV).get (i := 2) rfl)))) ?_; (try simp only [Act.put, lyy])
  refine qab _ (fun V hV => qad (qah (vs := feL iz) rfl Tryz.underlying47 rfl (szFe _) rfl (((hM.out.below hV).get (i := 0) rfl).range))) ?_; (try simp only [Act.put, lyy])
  refine qab _ (fun V hV => qak (qam qbj rfl rfl rfl rfl) (qce W.x iz V hW.x hin)) ?_; (try simp only [Act.put, lyy])
  refine qab _ (fun V hV => qad (qbh (s := 3) (k := 4) rfl Tryz.underlying94 rfl (by kernel_rfl) rfl rfl)) ?_; (try simp only [Act.put, lyy])
  refine qab _ (fun V hV => qad (qah (vs := feL W.y) rfl Tryz.underlying47 rfl (szFe _) rfl (tr_y ((hM.out.below hV).get (i := 2) rfl)))) ?_; (try simp only [Act.put, lyy])
  refine qab _ (fun V hV => qad (qah (vs := feL iz) rfl Tryz.underlying47 rfl (szFe _) rfl (((hM.out.below hV).get (i := 0) rfl).range))) ?_; (try simp only [Act.put, lyy])
  refine qab _ (fun V hV => qak (qam qbj rfl rfl rfl rfl) (qce W.y iz V hW.y hin)) ?_; (try simp only [Act.put, lyy])
  refine qab _ (fun V hV => qad (run_bld2 rfl rfl rfl (built_pt (W.x * iz % pp) (W.y * iz % pp)))) ?_; (try simp only [Act.put, lyy])
  refine qav ?_; intro a6 hb; simp only [List.drop_succ_cons, List.drop_zero]
  replace hM := Lib.hid (hM.out.below hb)
  clear hb
  refine qae (qaq (vs := ptL ⟨W.x * iz % pp, W.y * iz % pp⟩) rfl (szPt _) rfl rfl (onePt _) ((hM.out.get (i := 1) rfl).there)) rfl rfl ?_; replace hM := Lib.hid (hM.out.put 1 rfl (m := ptL ⟨W.x * iz % pp, W.y * iz % pp⟩) rfl); generalize a6.setCells g2 0 (ptL ⟨W.x * iz % pp, W.y * iz % pp⟩) = a7 at *
  refine qac ?_; go_wp2_with fail; refine bodyPost_ret (v := .agg (ptL ⟨W.x * iz % pp, W.y * iz % pp⟩).toArray) (qat Tryz.results69 rfl Tryz.underlying49 rfl (szPt _) (hM.out.get (i := 1) rfl).range) rfl ⟨by rw [HN.out], hM.out.bl⟩
theorem enters_eto : Enters 69 := qao Tryz.func69 (by kernel_rfl) rfl
set_option maxHeartbeats 16000000 in
theorem esum_any (p q : Tr) (w : World) (hp : p.Nm) (hq : q.Nm) : Calls Tryz.prog 68 #[.agg (trL p).toArray, .agg (trL q).toArray] w fun e w' => e = .returned (.agg (trL (tsum p q)).toArray) ∧ Below w.heap.size w w' := by
  have hM := Lib.hid (Mv.nil w)
  have E1 : Hid (p.z * q.z % pp = trA p q) := Lib.hid rfl
  have E2 : Hid (trA p q * trA p q % pp = tB p q) := Lib.hid rfl
  have E3 : Hid (p.x * q.x % pp = tC p q) := Lib.hid rfl
  have E4 : Hid (p.y * q.y % pp = tE p q) := Lib.hid rfl
  have E5 : Hid (dd * (tC p q * tE p q % pp) % pp = tF p q) := Lib.hid rfl
  have E6 : Hid ((tB p q - tF p q) % pp = tG p q) := Lib.hid rfl
  have E7 : Hid ((tB p q + tF p q) % pp = tH p q) := Lib.hid rfl
  have E8 : Hid ((((p.x + p.y) % pp * ((q.x + q.y) % pp) % pp - tC p q) % pp - tE p q) % pp = tX p q) := Lib.hid rfl
  have E9 : Hid (tsum p q = ⟨trA p q * (tG p q * tX p q % pp) % pp, trA p q * (tH p q * ((tE p q + tC p q) % pp) % pp) % pp, tG p q * tH p q % pp⟩) := Lib.hid rfl
  have n1 : Num (trA p q) := qap _
  have n2 : Num (tB p q) := qap _
  have n3 : Num (tC p q) := qap _
  have n4 : Num (tE p q) := qap _
  have n5 : Num (tF p q) := qap _
  have n6 : Num (tG p q) := qap _
  have n7 : Num (tH p q) := qap _
  have n8 : Num (tX p q) := qap _
  generalize tsum p q = R at *
  generalize tX p q = xx at *
  generalize tG p q = gg at *
  generalize tH p q = hh at *
  generalize tF p q = ff at *
  generalize tB p q = bb at *
  generalize trA p q = aa at *
  generalize tC p q = cc at *
  generalize tE p q = ee at *
  go_enter Tryz.func68, Tryz.ntmps68
  go_upto_region 0 with fail; refine wp_region_lit ?_
  refine qaa (qbf (vs := trL p) rfl rfl) rfl ?_; (try simp only [Act.put, lyy]); replace hM := Lib.hid (hM.out.new (trL p) 94); generalize w.alloc (.cells (trL p).toArray 94) = a1 at *; generalize w.heap.size = g1 at *
  refine qaa (qbf (vs := trL q) rfl rfl) rfl ?_; (try simp only [Act.put, lyy]); replace hM := Lib.hid (hM.out.new (trL q) 94); generalize a1.alloc (.cells (trL q).toArray 94) = a2 at *; generalize a1.heap.size = g2 at *
  refine qaa (qar (vs := zq 12) rfl (by kernel_rfl)) rfl ?_; (try simp only [Act.put, lyy]); replace hM := Lib.hid (hM.out.new (zq 12) 94); generalize a2.alloc (.cells (zq 12).toArray 94) = a3 at *; generalize a2.heap.size = g3 at *
  refine qac ?_
  go_upto_region 1 with fail; refine wp_region_lit ?_
  refine qaa (qbh (s := 3) (k := 8) rfl Tryz.underlying94 rfl (by kernel_rfl) rfl rfl) rfl ?_; (try simp only [Act.put, lyy])
  refine qaa (qah (vs := feL p.z) rfl Tryz.underlying47 rfl (szFe _) rfl (tr_z (hM.out.get (i := 2) rfl))) rfl ?_; (try simp only [Act.put, lyy])
  refine qaa (qbh (s := 3) (k := 8) rfl Tryz.underlying94 rfl (by kernel_rfl) rfl rfl) rfl ?_; (try simp only [Act.put, lyy])
  refine qaa (qah (vs := feL q.z) rfl Tryz.underlying47 rfl (szFe _) rfl (tr_z (hM.out.get (i := 1) rfl))) rfl ?_; (try simp only [Act.put, lyy])
  refine qai (qam qbj rfl rfl rfl rfl) rfl (qce p.z q.z _ hp.z hq.z) (fun b1 hb => ?_); (try simp only [Act.put, lyy]); replace hM := Lib.hid (hM.out.below hb); clear hb
  rw [E1.out]
  refine qaa (qar (vs := zq 4) rfl (by kernel_rfl)) rfl ?_; (try simp only [Act.put, lyy]); replace hM := Lib.hid (hM.out.new (zq 4) 47); generalize b1.alloc (.cells (zq 4).toArray 47) = b2 at *; generalize b1.heap.size = g4 at *
  refine qae (qaq (vs := feL aa) rfl (szFe _) rfl rfl (oneFe _) ((hM.out.get (i := 0) rfl).there)) rfl rfl ?_; replace hM := Lib.hid (hM.out.put 0 rfl (m := feL aa) rfl); generalize b2.setCells g4 0 (feL aa) = b3 at *
  refine qac ?_
  go_upto_region 2 with fail; refine wp_region_lit ?_
  refine qaa (qah (vs := feL aa) rfl Tryz.underlying47 rfl (szFe _) rfl ((hM.out.get (i := 0) rfl).range)) rfl ?_; (try simp only [Act.put, lyy])
  refine qaa (qah (vs := feL aa) rfl Tryz.underlying47 rfl (szFe _) rfl ((hM.out.get (i := 0) rfl).range)) rfl ?_; (try simp only [Act.put, lyy])
  refine qai (qam qbj rfl rfl rfl rfl) rfl (qce aa aa _ n1 n1) (fun b4 hb => ?_); (try simp only [Act.put, lyy]); replace hM := Lib.hid (hM.out.below hb); clear hb
  rw [E2.out]
  refine qaa (qar (vs := zq 4) rfl (by kernel_rfl)) rfl ?_; (try simp only [Act.put, lyy]); replace hM := Lib.hid (hM.out.new (zq 4) 47); generalize b4.alloc (.cells (zq 4).toArray 47) = b5 at *; generalize b4.heap.size = g5 at *
  refine qae (qaq (vs := feL bb) rfl (szFe _) rfl rfl (oneFe _) ((hM.out.get (i := 0) rfl).there)) rfl rfl ?_; replace hM := Lib.hid (hM.out.put 0 rfl (m := feL bb) rfl); generalize b5.setCells g5 0 (feL bb) = b6 at *
  refine qac ?_
  go_upto_region 3 with fail; refine wp_region_lit ?_
  refine qaa (qbh (s := 3) (k := 0) rfl Tryz.underlying94 rfl (by kernel_rfl) rfl rfl) rfl ?_; (try simp only [Act.put, lyy])
  refine qaa (qah (vs := feL p.x) rfl Tryz.underlying47 rfl (szFe _) rfl (tr_x (hM.out.get (i := 4) rfl))) rfl ?_; (try simp only [Act.put, lyy])
  refine qaa (qbh (s := 3) (k := 0) rfl Tryz.underlying94 rfl (by kernel_rfl) rfl rfl) rfl ?_; (try simp only [Act.put, lyy])
  refine qaa (qah (vs := feL q.x) rfl Tryz.underlying47 rfl (szFe _) rfl (tr_x (hM.out.get (i := 3) rfl))) rfl ?_; (try simp only [Act.put, lyy])
  refine qai (qam qbj rfl rfl rfl rfl) rfl (qce p.x q.x _ hp.x hq.x) (fun b7 hb => ?_); (try simp only [Act.put, lyy]); replace hM := Lib.hid (hM.out.below hb); clear hb
  rw [E3.out]
  refine qaa (qar (vs := zq 4) rfl (by kernel_rfl)) rfl ?_; (try simp only [Act.put, lyy]); replace hM := Lib.hid (hM.out.new (zq 4) 47); generalize b7.alloc (.cells (zq 4).toArray 47) = b8 at *; generalize b7.heap.size = g6 at *
  refine qae (qaq (vs := feL cc) rfl (szFe _) rfl rfl (oneFe _) ((hM.out.get (i := 0) rfl).there)) rfl rfl ?_; replace hM := Lib.hid (hM.out.put 0 rfl (m := feL cc) rfl); generalize b8.setCells g6 0 (feL cc) = b9 at *
  refine qac ?_
  go_upto_region 4 with fail; refine wp_region_lit ?_
  refine qaa (qbh (s := 3) (k := 4) rfl Tryz.underlying94 rfl (by kernel_rfl) rfl rfl) rfl ?_; (try simp only [Act.put, lyy])
  refine qaa (qah (vs := feL p.y) rfl Tryz.underlying47 rfl (szFe _) rfl (tr_y (hM.out.get (i := 5) rfl))) rfl ?_; (try simp only [Act.put, lyy])
  refine qaa (qbh (s := 3) (k := 4) rfl Tryz.underlying94 rfl (by kernel_rfl) rfl rfl) rfl ?_; (try simp only [Act.put, lyy])
  refine qaa (qah (vs := feL q.y) rfl Tryz.underlying47 rfl (szFe _) rfl (tr_y (hM.out.get (i := 4) rfl))) rfl ?_; (try simp only [Act.put, lyy])
  refine qai (qam qbj rfl rfl rfl rfl) rfl (qce p.y q.y _ hp.y hq.y) (fun c1 hb => ?_); (try simp only [Act.put, lyy]); replace hM := Lib.hid (hM.out.below hb); clear hb
  rw [E4.out]
  refine qaa (qar (vs := zq 4) rfl (by kernel_rfl)) rfl ?_; (try simp only [Act.put, lyy]); replace hM := Lib.hid (hM.out.new (zq 4) 47); generalize c1.alloc (.cells (zq 4).toArray 47) = c2 at *; generalize c1.heap.size = g7 at *
  refine qae (qaq (vs := feL ee) rfl (szFe _) rfl rfl (oneFe _) ((hM.out.get (i := 0) rfl).there)) rfl rfl ?_; replace hM := Lib.hid (hM.out.put 0 rfl (m := feL ee) rfl); generalize c2.setCells g7 0 (feL ee) = c3 at *
  refine qac ?_
  go_upto_region 5 with fail; refine wp_region_sow1 5 47 (by kernel_rfl) rfl (by kernel_rfl) (alcFe) ?_
  refine qab _ (fun V hV => qak (qbz enters_edd rfl rfl) (edd_any V)) ?_; (try simp only [Act.put, lyy])
  refine qab _ (fun V hV => qad (qah (vs := feL cc) rfl Tryz.underlying47 rfl (szFe _) rfl (((hM.out.below hV).get (i := 1) rfl).range))) ?_; (try simp only [Act.put, lyy])
  refine qab _ (fun V hV => qad (qah (vs := feL ee) rfl Tryz.underlying47 rfl (szFe _) rfl (((hM.out.below hV).get (i := 0) rfl).range))) ?_; (try simp only [Act.put, lyy])
  refine qab _ (fun V hV => qak (qam qbj rfl rfl rfl rfl) (qce cc ee V n3 n4)) ?_; (try simp only [Act.put, lyy])
  refine qab _ (fun V hV => qak (qam qbj rfl rfl rfl rfl) (qce dd (cc * ee % pp) V num_dd (qap _))) ?_; (try simp only [Act.put, lyy])
  refine qav ?_; intro g8 c4 hpb s1; simp only [List.drop_succ_cons, List.drop_zero, List.setIfInBounds_toArray, List.set_cons_zero, List.set_cons_succ]; replace hM := Lib.hid (hM.out.sow hpb s1); clear hpb s1
  rw [E5.out]
  refine qae (qaq (vs := feL ff) rfl (szFe _) rfl rfl (oneFe _) ((hM.out.get (i := 0) rfl).there)) rfl rfl ?_; replace hM := Lib.hid (hM.out.put 0 rfl (m := feL ff) rfl); generalize c4.setCells g8 0 (feL ff) = c5 at *
  refine qac ?_
  go_upto_region 6 with fail; refine wp_region_lit ?_
  refine qaa (qah (vs := feL bb) rfl Tryz.underlying47 rfl (szFe _) rfl ((hM.out.get (i := 3) rfl).range)) rfl ?_; (try simp only [Act.put, lyy])
  refine qaa (qah (vs := feL ff) rfl Tryz.underlying47 rfl (szFe _) rfl ((hM.out.get (i := 0) rfl).range)) rfl ?_; (try simp only [Act.put, lyy])
  refine qai (qam enters_esub rfl rfl rfl rfl) rfl (esub_any bb ff _ n2 n5) (fun c6 hb => ?_); (try simp only [Act.put, lyy]); replace hM := Lib.hid (hM.out.below hb); clear hb
  rw [E6.out]
  refine qaa (qar (vs := zq 4) rfl (by kernel_rfl)) rfl ?_; (try simp only [Act.put, lyy]); replace hM := Lib.hid (hM.out.new (zq 4) 47); generalize c6.alloc (.cells (zq 4).toArray 47) = c7 at *; generalize c6.heap.size = g9 at *
  refine qae (qaq (vs := feL gg) rfl (szFe _) rfl rfl (oneFe _) ((hM.out.get (i := 0) rfl).there)) rfl rfl ?_; replace hM := Lib.hid (hM.out.put 0 rfl (m := feL gg) rfl); generalize c7.setCells g9 0 (feL gg) = c8 at *
  refine qac ?_
  go_upto_region 7 with fail; refine wp_region_lit ?_
  refine qaa (qah (vs := feL bb) rfl Tryz.underlying47 rfl (szFe _) rfl ((hM.out.get (i := 4) rfl).range)) rfl ?_; (try simp only [Act.put, lyy])
  refine qaa (qah (vs := feL ff) rfl Tryz.underlying47 rfl (szFe _) rfl ((hM.out.get (i := 1) rfl).range)) rfl ?_; (try simp only [Act.put, lyy])
  refine qai (qam enters_eadd rfl rfl rfl rfl) rfl (eadd_any bb ff _ n2 n5) (fun d1 hb => ?_); (try simp only [Act.put, lyy]); replace hM := Lib.hid (hM.out.below hb); clear hb
  rw [E7.out]
  refine qaa (qar (vs := zq 4) rfl (by kernel_rfl)) rfl ?_; (try simp only [Act.put, lyy]); replace hM := Lib.hid (hM.out.new (zq 4) 47); generalize d1.alloc (.cells (zq 4).toArray 47) = d2 at *; generalize d1.heap.size = g10 at *
  refine qae (qaq (vs := feL hh) rfl (szFe _) rfl rfl (oneFe _) ((hM.out.get (i := 0) rfl).there)) rfl rfl ?_; replace hM := Lib.hid (hM.out.put 0 rfl (m := feL hh) rfl); generalize d2.setCells g10 0 (feL hh) = d3 at *
  refine qac ?_
  go_upto_region 8 with fail; refine wp_region_sow1 15 47 (by kernel_rfl) rfl (by kernel_rfl) (alcFe) ?_
  refine qab _ (fun V hV => qad (qbh (s := 3) (k := 0) rfl Tryz.underlying94 rfl (by kernel_rfl) rfl rfl)) ?_; (try simp only [Act.put, lyy])
  refine qab _ (fun V hV => qad (qah (vs := feL p.x) rfl Tryz.underlying47 rfl (szFe _) rfl (tr_x ((hM.out.below hV).get (i := 9) rfl)))) ?_; (try simp only [Act.put, lyy])
  refine qab _ (fun V hV => qad (qbh (s := 3) (k := 4) rfl Tryz.underlying94 rfl (by kernel_rfl) rfl rfl)) ?_; (try simp only [Act.put, lyy])
  refine qab _ (fun V hV => qad (qah (vs := feL p.y) rfl Tryz.underlying47 rfl (szFe _) rfl (tr_y ((hM.out.below hV).get (i := 9) rfl)))) ?_; (try simp only [Act.put, lyy])
  refine qab _ (fun V hV => qak (qam enters_eadd rfl rfl rfl rfl) (eadd_any p.x p.y V hp.x hp.y)) ?_; (try simp only [Act.put, lyy])
  refine qab _ (fun V hV => qad (qbh (s := 3) (k := 0) rfl Tryz.underlying94 rfl (by kernel_rfl) rfl rfl)) ?_; (try simp only [Act.put, lyy])
  refine qab _ (fun V hV => qad (qah (vs := feL q.x) rfl Tryz.underlying47 rfl (szFe _) rfl (tr_x ((hM.out.below hV).get (i := 8) rfl)))) ?_; (try simp only [Act.put, lyy])
  refine qab _ (fun V hV => qad (qbh (s := 3) (k := 4) rfl Tryz.underlying94 rfl (by kernel_rfl) rfl rfl)) ?_; (try simp only [Act.put, lyy])
  refine qab _ (fun V hV => qad (qah (vs := feL q.y) rfl Tryz.underlying47 rfl (szFe _) rfl (tr_y ((hM.out.below hV).get (i := 8) rfl)))) ?_; (try simp only [Act.put, lyy])
  refine qab _ (fun V hV => qak (qam enters_eadd rfl rfl rfl rfl) (eadd_any q.x q.y V hq.x hq.y)) ?_; (try simp only [Act.put, lyy])
  refine qab _ (fun V hV => qak (qam qbj rfl rfl rfl rfl) (qce ((p.x + p.y) % pp) ((q.x + q.y) % pp) V (qap _) (qap _))) ?_; (try simp only [Act.put, lyy])
  refine qab _ (fun V hV => qad (qah (vs := feL cc) rfl Tryz.underlying47 rfl (szFe _) rfl (((hM.out.below hV).get (i := 4) rfl).range))) ?_; (try simp only [Act.put, lyy])
  refine qab _ (fun V hV => qak (qam enters_esub rfl rfl rfl rfl) (esub_any ((p.x + p.y) % pp * ((q.x + q.y) % pp) % pp) cc V (qap _) n3)) ?_; (try simp only [Act.put, lyy])
  refine qab _ (fun V hV => qad (qah (vs := feL ee) rfl Tryz.underlying47 rfl (szFe _) rfl (((hM.out.below hV).get (i := 3) rfl).range))) ?_; (try simp only [Act.put, lyy])
  refine qab _ (fun V hV => qak (qam enters_esub rfl rfl rfl rfl) (esub_any (((p.x + p.y) % pp * ((q.x + q.y) % pp) % pp - cc) % pp) ee V (qap _) n4)) ?_; (try simp only [Act.put, lyy])
  refine qav ?_; intro g11 d4 hpb s1; simp only [List.drop_succ_cons, List.drop_zero, List.setIfInBounds_toArray, List.set_cons_zero, List.set_cons_succ]; replace hM := Lib.hid (hM.out.sow hpb s1); clear hpb s1
  rw [E8.out]
  refine qae (qaq (vs := feL xx) rfl (szFe _) rfl rfl (oneFe _) ((hM.out.get (i := 0) rfl).there)) rfl rfl ?_; replace hM := Lib.hid (hM.out.put 0 rfl (m := feL xx) rfl); generalize d4.setCells g11 0 (feL xx) = d5 at *
  refine qac ?_
  go_upto_region 9 with fail; refine qau 16 (by kernel_rfl) (by kernel_rfl) ?_
  refine qab _ (fun V hV => qad (qah (vs := feL aa) rfl Tryz.underlying47 rfl (szFe _) rfl (((hM.out.below hV).get (i := 7) rfl).range))) ?_; (try simp only [Act.put, lyy])
  refine qab _ (fun V hV => qad (qah (vs := feL gg) rfl Tryz.underlying47 rfl (szFe _) rfl (((hM.out.below hV).get (i := 2) rfl).range))) ?_; (try simp only [Act.put, lyy])
  refine qab _ (fun V hV => qad (qah (vs := feL xx) rfl Tryz.underlying47 rfl (szFe _) rfl (((hM.out.below hV).get (i := 0) rfl).range))) ?_; (try simp only [Act.put, lyy])
  refine qab _ (fun V hV => qak (qam qbj rfl rfl rfl rfl) (qce gg xx V n6 n8)) ?_; (try simp only [Act.put, lyy])
  refine qab _ (fun V hV => qak (qam qbj rfl rfl rfl rfl) (qce aa (gg * xx % pp) V n1 (qap _))) ?_; (try simp only [Act.put, lyy])
  refine qab _ (fun V hV => qad (qah (vs := feL aa) rfl Tryz.underlying47 rfl (szFe _) rfl (((hM.out.below hV).get (i := 7) rfl).range))) ?_; (try simp only [Act.put, lyy])
  refine qab _ (fun V hV => qad (qah (vs := feL hh) rfl Tryz.underlying47 rfl (szFe _) rfl (((hM.out.below hV).get (i := 1) rfl).range))) ?_; (try simp only [Act.put, lyy])
  refine qab _ (fun V hV => qad (qah (vs := feL ee) rfl Tryz.underlying47 rfl (szFe _) rfl (((hM.out.below hV).get (i := 4) rfl).range))) ?_; (try simp only [Act.put, lyy])
  refine qab _ (fun V hV => qad (qah (vs := feL cc) rfl Tryz.underlying47 rfl (szFe _) rfl (((hM.out.below hV).get (i := 5) rfl).range))) ?_; (try simp only [Act.put, lyy])
  refine qab _ (fun V hV => qak (qam enters_eadd rfl rfl rfl rfl) (eadd_any ee cc V n4 n3)) ?_; (try simp only [Act.put, lyy])
  refine qab _ (fun V hV => qak (qam qbj rfl rfl rfl rfl) (qce hh ((ee + cc) % pp) V n7 (qap _))) ?_; (try simp only [Act.put, lyy])
  refine qab _ (fun V hV => qak (qam qbj rfl rfl rfl rfl) (qce aa (hh * ((ee + cc) % pp) % pp) V n1 (qap _))) ?_; (try simp only [Act.put, lyy])
  refine qab _ (fun V hV => qad (qah (vs := feL gg) rfl Tryz.underlying47 rfl (szFe _) rfl (((hM.out.below hV).get (i := 2) rfl).range))) ?_; (try simp only [Act.put, lyy])
  refine qab _ (fun V hV => qad (qah (vs := feL hh) rfl Tryz.underlying47 rfl (szFe _) rfl (((hM.out.below hV).get (i := 1) rfl).range))) ?_; (try simp only [Act.put, lyy])
  refine qab _ (fun V hV => qak (qam qbj rfl rfl rfl rfl) (qce gg hh V n6 n7)) ?_; (try simp only [Act.put, lyy])
  refine qab _ (fun V hV => qad (run_bld3 rfl rfl rfl rfl (built_tr (aa * (gg * xx % pp) % pp) (aa * (hh * ((ee + cc) % pp) % pp) % pp) (gg * hh % pp)))) ?_; (try simp only [Act.put, lyy])
  refine qav ?_; intro d6 hb; simp only [List.drop_succ_cons, List.drop_zero]
  replace hM := Lib.hid (hM.out.below hb)
  clear hb
  refine qae (qaq (vs := trL ⟨aa * (gg * xx % pp) % pp, aa * (hh * ((ee + cc) % pp) % pp) % pp, gg * hh % pp⟩) rfl (szTr _) rfl rfl (oneTr _) ((hM.out.get (i := 8) rfl).there)) rfl rfl ?_; replace hM := Lib.hid (hM.out.put 8 rfl (m := trL ⟨aa * (gg * xx % pp) % pp, aa * (hh * ((ee + cc) % pp) % pp) % pp, gg * hh % pp⟩) rfl); generalize d6.setCells g3 0 (trL ⟨aa * (gg * xx % pp) % pp, aa * (hh * ((ee + cc) % pp) % pp) % pp, gg * hh % pp⟩) = d7 at *
  refine qac ?_; go_wp2_with fail; refine bodyPost_ret (v := .agg (trL ⟨aa * (gg * xx % pp) % pp, aa * (hh * ((ee + cc) % pp) % pp) % pp, gg * hh % pp⟩).toArray) (qat Tryz.results68 rfl Tryz.underlying94 rfl (szTr _) (hM.out.get (i := 8) rfl).range) rfl ⟨by rw [E9.out], hM.out.bl⟩
theorem enters_esum : Enters 68 := qao Tryz.func68 (by kernel_rfl) rfl
theorem built_bx : Tryz.prog.built 47 [(0, .int .u64 14507833142362363162), (1, .int .u64 7578651490590762930), (2, .int .u64 13881468655802702940), (3, .int .u64 2407515759118799870)] = some (feL bs.x).toArray := by kernel_rfl
theorem built_by : Tryz.prog.built 47 [(0, .int .u64 7378697629483820632), (1, .int .u64 7378697629483820646), (2, .int .u64 7378697629483820646), (3, .int .u64 7378697629483820646)] = some (feL bs.y).toArray := by kernel_rfl
set_option maxHeartbeats 4000000 in
theorem ebase_any (w : World) : Calls Tryz.prog 37 #[] w fun e w' => e = .returned (.agg (ptL bs).toArray) ∧ Below w.heap.size w w' := by
  have hM := Lib.hid (Mv.nil w)
  have HX := Lib.hid built_bx
  have HY := Lib.hid built_by
  have HP := Lib.hid (built_pt bs.x bs.y)
  have HE : Hid (ptL ⟨bs.x, bs.y⟩ = ptL bs) := Lib.hid rfl
  rw [HE.out] at HP
  clear HE
  generalize bs = b at *
  go_enter Tryz.func37, Tryz.ntmps37
  go_upto_region 0 with fail; refine wp_region_lit ?_
  refine qaa (qar (vs := zq 8) rfl (by kernel_rfl)) rfl ?_; (try simp only [Act.put, List.setIfInBounds_toArray, List.set_cons_zero]); replace hM := Lib.hid (hM.out.new (zq 8) 49); generalize w.alloc (.cells (zq 8).toArray 49) = a1 at *; generalize w.heap.size = g1 at *
  refine qac ?_
  go_upto_region 1 with fail; refine wp_region_lit ?_
  refine qaa (run_bld4 (cells := (feL b.x).toArray) rfl rfl rfl rfl rfl HX.out) rfl ?_; (try simp only [Act.put, lyy])
  refine qaa (run_bld4 (cells := (feL b.y).toArray) rfl rfl rfl rfl rfl HY.out) rfl ?_; (try simp only [Act.put, lyy])
  refine qaa (run_bld2 (cells := (ptL b).toArray) rfl rfl rfl HP.out) rfl ?_; (try simp only [Act.put, lyy])
  refine qae (qaq (vs := ptL b) rfl (szPt _) rfl rfl (onePt _) ((hM.out.get (i := 0) rfl).there)) rfl rfl ?_; replace hM := Lib.hid (hM.out.put 0 rfl (m := ptL b) rfl); generalize a1.setCells g1 0 (ptL b) = a2 at *
  refine qac ?_; go_wp2_with fail; refine bodyPost_ret (v := .agg (ptL b).toArray) (qat Tryz.results37 rfl Tryz.underlying49 rfl (szPt _) (hM.out.get (i := 0) rfl).range) rfl ⟨rfl, hM.out.bl⟩
theorem enters_ebase : Enters 37 := qao Tryz.func37 (by kernel_rfl) rfl
end Go.Proofs.YtfdjmdfaidiliaaGreatDoor
