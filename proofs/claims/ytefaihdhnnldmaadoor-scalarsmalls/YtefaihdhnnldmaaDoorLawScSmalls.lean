/- The law ScalarSmalls, walked. -/
import Derived.Test.YtefaihdhnnldmaaDoorScKnown
import Derived.Test.YtefaihdhnnldmaaDoorGenA
namespace Go.Proofs.YtefaihdhnnldmaaDoor
open Go.RowKit
set_option maxRecDepth 20000

theorem run_cvSi {w : World} {ρ : Operand → Value} {o : Oper} {x : Operand} {n : Nat} (ho : o.op = .convert 22 3 x) (hx : ρ x = .int .u16 (n : Int)) (h1 : n < 65536) : (execOp ρ o).run Tryd.prog w = .ok (.value (.int .i64 (n : Int))) w := by
  rw [run_cv ho Tryd.underlying22 Tryd.underlying3 hx, i64_fit (by omega) (by omega)]
theorem run_cvS8 {w : World} {ρ : Operand → Value} {o : Oper} {x : Operand} {n : Nat} (ho : o.op = .convert 22 5 x) (hx : ρ x = .int .u16 (n : Int)) : (execOp ρ o).run Tryd.prog w = .ok (.value (b8 (BitVec.ofNat 8 n))) w := by
  rw [run_cv ho Tryd.underlying22 Tryd.underlying5 hx]
  have e : IntKind.u8.wrap (n : Int) = ((BitVec.ofNat 8 n).toNat : Int) := by rw [wrap8, BitVec.toNat_ofNat]; omega
  rw [e]; rfl
theorem run_shrS {w : World} {ρ : Operand → Value} {o : Oper} {x y : Operand} {t t' : TypeId} {n : Nat} (ho : o.op = .binOp .shr t x y t') (hx : ρ x = .int .u16 (n : Int)) (hy : ρ y = .int .u64 8) (hn : n < 65536) : (execOp ρ o).run Tryd.prog w = .ok (.value (.int .u16 ((n / 256 : Nat) : Int))) w := by
  obtain ⟨dst, op, type, pos, after, guard⟩ := o
  subst ho
  have e : ((n : Int) / 2 ^ 8) = ((n / 256 : Nat) : Int) := by omega
  have e2 : IntKind.u16.wrap ((n / 256 : Nat) : Int) = ((n / 256 : Nat) : Int) := by
    have : n / 256 < 65536 := by omega
    simp [IntKind.wrap, IntKind.signed, IntKind.bits]
    omega
  go_simp
theorem run_bldS2 {w : World} {ρ : Operand → Value} {o : Oper} {t : TypeId} {x0 x1 : Operand} {i0 i1 : Nat} {v0 v1 : Value} {cells : Array Value} (ho : o.op = .build t #[(i0, x0), (i1, x1)]) (h0 : ρ x0 = v0) (h1 : ρ x1 = v1) (h : Tryd.prog.built t [(i0, v0), (i1, v1)] = some cells) : (execOp ρ o).run Tryd.prog w = .ok (.value (.agg cells)) w :=
  run_bld ho (by
    have e : ((#[(i0, x0), (i1, x1)] : Array (Nat × Operand)).map fun (i, x) => (i, ρ x)).toList = [(i0, v0), (i1, v1)] := by simp [h0, h1]
    rw [e]; exact h)
theorem run_bldS5 {w : World} {ρ : Operand → Value} {o : Oper} {t : TypeId} {x0 x1 x2 x3 x4 : Operand} {v0 v1 v2 v3 v4 : Value} {cells : Array Value} (ho : o.op = .build t #[(0, x0), (1, x1), (2, x2), (3, x3), (4, x4)]) (h0 : ρ x0 = v0) (h1 : ρ x1 = v1) (h2 : ρ x2 = v2) (h3 : ρ x3 = v3) (h4 : ρ x4 = v4) (h : Tryd.prog.built t [(0, v0), (1, v1), (2, v2), (3, v3), (4, v4)] = some cells) : (execOp ρ o).run Tryd.prog w = .ok (.value (.agg cells)) w :=
  run_bld ho (by
    have e : ((#[(0, x0), (1, x1), (2, x2), (3, x3), (4, x4)] : Array (Nat × Operand)).map fun (i, x) => (i, ρ x)).toList = [(0, v0), (1, v1), (2, v2), (3, v3), (4, v4)] := by simp [h0, h1, h2, h3, h4]
    rw [e]; exact h)
def kS (n : Nat) : List (BitVec 8) := BitVec.ofNat 8 n :: BitVec.ofNat 8 (n / 256) :: List.replicate 30 0
def kS5 (n : Nat) : List (BitVec 8) := BitVec.ofNat 8 n :: BitVec.ofNat 8 (n / 2 ^ 8) :: BitVec.ofNat 8 (n / 2 ^ 16) :: BitVec.ofNat 8 (n / 2 ^ 24) :: BitVec.ofNat 8 (n / 2 ^ 32) :: List.replicate 27 0
theorem built_S2 (x y : BitVec 8) : Tryd.prog.built 24 [(0, b8 x), (1, b8 y)] = some ((x :: y :: List.replicate 30 0).map b8).toArray := by kernel_rfl
theorem built_S5 (x y z u v : BitVec 8) : Tryd.prog.built 24 [(0, b8 x), (1, b8 y), (2, b8 z), (3, b8 u), (4, b8 v)] = some ((x :: y :: z :: u :: v :: List.replicate 27 0).map b8).toArray := by kernel_rfl
theorem leB_zeros (k : Nat) : leB (List.replicate k 0) = 0 := by
  induction k with
  | zero => rfl
  | succ k ih => rw [List.replicate_succ, leB, ih]; rfl
theorem leB_kS {n : Nat} (h : n < 65536) : leB (kS n) = n := by
  unfold kS
  rw [leB, leB, leB_zeros, BitVec.toNat_ofNat, BitVec.toNat_ofNat]
  omega
theorem leB_kS5 {n : Nat} (h : n < 2 ^ 40) : leB (kS5 n) = n := by
  unfold kS5
  rw [leB, leB, leB, leB, leB, leB_zeros, BitVec.toNat_ofNat, BitVec.toNat_ofNat, BitVec.toNat_ofNat, BitVec.toNat_ofNat, BitVec.toNat_ofNat]
  omega
theorem sk_kS5 {n : Nat} (h : n < 2 ^ 40) : sk (n % ell) = kS5 n := by
  have h1 : 2 ^ 40 < ell := by decide +kernel
  rw [Nat.mod_eq_of_lt (Nat.lt_trans h h1)]
  have e := leB_kS5 h
  have h2 := sk_of (l := kS5 n) rfl
  rwa [e] at h2
set_option maxHeartbeats 8000000 in
theorem scalarSmalls_any (a b c : Nat) (w : World) (ha : a ≤ 65535) (hb : b ≤ 65535) (hc : c ≤ 65535) (hG : SG w) : Calls Tryd.prog 3 #[.int .u16 (a : Int), .int .u16 (b : Int), .int .u16 (c : Int)] w fun e w' => e = .returned (.bool true) ∧ Below w.heap.size w w' := by
  have HG := Lib.hid hG; clear hG
  have hab : a * b ≤ 65535 * 65535 := Nat.mul_le_mul ha hb
  obtain ⟨n, hn⟩ : ∃ n, n = a * b + c := ⟨_, rfl⟩
  have hn2 : n < 2 ^ 40 := by omega
  have CM : Hid (∀ u : World, SG u → Calls Tryd.prog 8 #[.agg ((kS a).map b8).toArray, .agg ((kS b).map b8).toArray, .agg ((kS c).map b8).toArray] u fun e w' => e = .returned (.agg ((kS5 n).map b8).toArray) ∧ Below u.heap.size u w') := Lib.hid fun u h => by
    have h := smad_any (kS a) (kS b) (kS c) u rfl rfl rfl h
    rw [leB_kS (by omega), leB_kS (by omega), leB_kS (by omega), ← hn, sk_kS5 hn2] at h
    exact h
  have lX : (kS5 n).length = 32 := rfl
  have BA : Hid (Tryd.prog.built 24 [(0, b8 (BitVec.ofNat 8 a)), (1, b8 (BitVec.ofNat 8 (a / 256)))] = some ((kS a).map b8).toArray) := Lib.hid (built_S2 _ _)
  have BB : Hid (Tryd.prog.built 24 [(0, b8 (BitVec.ofNat 8 b)), (1, b8 (BitVec.ofNat 8 (b / 256)))] = some ((kS b).map b8).toArray) := Lib.hid (built_S2 _ _)
  have BC : Hid (Tryd.prog.built 24 [(0, b8 (BitVec.ofNat 8 c)), (1, b8 (BitVec.ofNat 8 (c / 256)))] = some ((kS c).map b8).toArray) := Lib.hid (built_S2 _ _)
  have BX : Hid (Tryd.prog.built 24 [(0, b8 (BitVec.ofNat 8 n)), (1, b8 (BitVec.ofNat 8 (n / 2 ^ 8))), (2, b8 (BitVec.ofNat 8 (n / 2 ^ 16))), (3, b8 (BitVec.ofNat 8 (n / 2 ^ 24))), (4, b8 (BitVec.ofNat 8 (n / 2 ^ 32)))] = some ((kS5 n).map b8).toArray) := Lib.hid (built_S5 _ _ _ _ _)
  generalize kS5 n = X at *
  generalize kS a = A at *
  generalize kS b = B at *
  generalize kS c = C at *
  have SX := Lib.hid (szKy lX)
  have LX : Hid ((X.map b8).length = (z8 32).length) := Lib.hid (by rw [z8_32, List.length_map, lX])
  have hM := Lib.hid (Mv.nil w)
  go_enter Tryd.func3, Tryd.ntmps3
  go_upto_region 0 with fail; refine wp_region_lit ?_
  refine wpList_val (run_asg (v := .bool false) rfl rfl) rfl ?_; (try simp only [Act.put, List.setIfInBounds_toArray, List.set_cons_zero, List.set_cons_succ])
  refine wpList_end ?_
  go_upto_region 1 with fail; refine wp_region_lit ?_
  refine wpList_val (run_mv (v := .int _ _) rfl rfl) rfl ?_; (try simp only [Act.put, List.setIfInBounds_toArray, List.set_cons_zero, List.set_cons_succ])
  refine wpList_val (run_cvSi (n := a) rfl rfl (by omega)) rfl ?_; (try simp only [Act.put, List.setIfInBounds_toArray, List.set_cons_zero, List.set_cons_succ])
  refine wpList_val (run_mv (v := .int _ _) rfl rfl) rfl ?_; (try simp only [Act.put, List.setIfInBounds_toArray, List.set_cons_zero, List.set_cons_succ])
  refine wpList_val (run_cvSi (n := b) rfl rfl (by omega)) rfl ?_; (try simp only [Act.put, List.setIfInBounds_toArray, List.set_cons_zero, List.set_cons_succ])
  refine wpList_val (run_mulN (a := a) (b := b) rfl rfl rfl (by omega)) rfl ?_; (try simp only [Act.put, List.setIfInBounds_toArray, List.set_cons_zero, List.set_cons_succ])
  refine wpList_val (run_mv (v := .int _ _) rfl rfl) rfl ?_; (try simp only [Act.put, List.setIfInBounds_toArray, List.set_cons_zero, List.set_cons_succ])
  refine wpList_val (run_cvSi (n := c) rfl rfl (by omega)) rfl ?_; (try simp only [Act.put, List.setIfInBounds_toArray, List.set_cons_zero, List.set_cons_succ])
  refine wpList_val (run_addN (a := a * b) (b := c) rfl rfl rfl (by omega)) rfl ?_; (try simp only [Act.put, List.setIfInBounds_toArray, List.set_cons_zero, List.set_cons_succ])
  rw [← hn]
  clear hn hab
  refine wpList_val (run_asg (v := .int .i64 (n : Int)) rfl rfl) rfl ?_; (try simp only [Act.put, List.setIfInBounds_toArray, List.set_cons_zero, List.set_cons_succ])
  refine wpList_end ?_
  go_upto_region 2 with fail; refine wp_region_lit ?_
  refine wpList_val (run_mv (v := .int _ _) rfl rfl) rfl ?_; (try simp only [Act.put, List.setIfInBounds_toArray, List.set_cons_zero, List.set_cons_succ])
  refine wpList_val (run_cvS8 (n := a) rfl rfl) rfl ?_; (try simp only [Act.put, List.setIfInBounds_toArray, List.set_cons_zero, List.set_cons_succ])
  refine wpList_val (run_mv (v := .int _ _) rfl rfl) rfl ?_; (try simp only [Act.put, List.setIfInBounds_toArray, List.set_cons_zero, List.set_cons_succ])
  refine wpList_val (run_shrS (n := a) rfl rfl rfl (by omega)) rfl ?_; (try simp only [Act.put, List.setIfInBounds_toArray, List.set_cons_zero, List.set_cons_succ])
  refine wpList_val (run_cvS8 (n := a / 256) rfl rfl) rfl ?_; (try simp only [Act.put, List.setIfInBounds_toArray, List.set_cons_zero, List.set_cons_succ])
  refine wpList_val (run_bldS2 rfl rfl rfl BA.out) rfl ?_; (try simp only [Act.put, List.setIfInBounds_toArray, List.set_cons_zero, List.set_cons_succ])
  refine wpList_val (run_mv (v := .int _ _) rfl rfl) rfl ?_; (try simp only [Act.put, List.setIfInBounds_toArray, List.set_cons_zero, List.set_cons_succ])
  refine wpList_val (run_cvS8 (n := b) rfl rfl) rfl ?_; (try simp only [Act.put, List.setIfInBounds_toArray, List.set_cons_zero, List.set_cons_succ])
  refine wpList_val (run_mv (v := .int _ _) rfl rfl) rfl ?_; (try simp only [Act.put, List.setIfInBounds_toArray, List.set_cons_zero, List.set_cons_succ])
  refine wpList_val (run_shrS (n := b) rfl rfl rfl (by omega)) rfl ?_; (try simp only [Act.put, List.setIfInBounds_toArray, List.set_cons_zero, List.set_cons_succ])
  refine wpList_val (run_cvS8 (n := b / 256) rfl rfl) rfl ?_; (try simp only [Act.put, List.setIfInBounds_toArray, List.set_cons_zero, List.set_cons_succ])
  refine wpList_val (run_bldS2 rfl rfl rfl BB.out) rfl ?_; (try simp only [Act.put, List.setIfInBounds_toArray, List.set_cons_zero, List.set_cons_succ])
  refine wpList_val (run_mv (v := .int _ _) rfl rfl) rfl ?_; (try simp only [Act.put, List.setIfInBounds_toArray, List.set_cons_zero, List.set_cons_succ])
  refine wpList_val (run_cvS8 (n := c) rfl rfl) rfl ?_; (try simp only [Act.put, List.setIfInBounds_toArray, List.set_cons_zero, List.set_cons_succ])
  refine wpList_val (run_mv (v := .int _ _) rfl rfl) rfl ?_; (try simp only [Act.put, List.setIfInBounds_toArray, List.set_cons_zero, List.set_cons_succ])
  refine wpList_val (run_shrS (n := c) rfl rfl rfl (by omega)) rfl ?_; (try simp only [Act.put, List.setIfInBounds_toArray, List.set_cons_zero, List.set_cons_succ])
  refine wpList_val (run_cvS8 (n := c / 256) rfl rfl) rfl ?_; (try simp only [Act.put, List.setIfInBounds_toArray, List.set_cons_zero, List.set_cons_succ])
  refine wpList_val (run_bldS2 rfl rfl rfl BC.out) rfl ?_; (try simp only [Act.put, List.setIfInBounds_toArray, List.set_cons_zero, List.set_cons_succ])
  refine wpList_enter (run_call3 enters_smad rfl rfl rfl rfl rfl) rfl (CM.out _ (HG.out.below hM.out.bl)) (fun a1 hb => ?_); (try simp only [Act.put, List.setIfInBounds_toArray, List.set_cons_zero, List.set_cons_succ]); replace hM := Lib.hid (hM.out.below hb); clear hb
  refine wpList_val (run_alc (vs := z8 32) rfl (by kernel_rfl)) rfl ?_; (try simp only [Act.put, List.setIfInBounds_toArray, List.set_cons_zero, List.set_cons_succ]); replace hM := Lib.hid (hM.out.new (z8 32) 24); generalize a1.alloc (.cells (z8 32).toArray 24) = a2 at *; generalize a1.heap.size = g1 at *
  refine wpList_skip (run_stM (vs := X.map b8) rfl SX.out rfl rfl (one8s _) (by rw [LX.out]; exact (hM.out.get (i := 0) rfl).there)) rfl rfl ?_; replace hM := Lib.hid (hM.out.put 0 rfl (m := X.map b8) (LX.out))
  refine wpList_end ?_
  generalize a2.setCells g1 0 (X.map b8) = a3 at *
  go_upto_region 3 with fail; refine wp_region_lit ?_
  refine wpList_enter (run_call0 enters_known8 rfl rfl) rfl (known8_any _ (HG.out.below hM.out.bl)) (fun a4 hb => ?_); (try simp only [Act.put, List.setIfInBounds_toArray, List.set_cons_zero, List.set_cons_succ]); replace hM := Lib.hid (hM.out.below hb); clear hb
  refine wpList_val (run_mv (v := .bool true) rfl rfl) rfl ?_; (try simp only [Act.put, List.setIfInBounds_toArray, List.set_cons_zero, List.set_cons_succ])
  refine wpList_valG (run_ldM (vs := X.map b8) rfl Tryd.underlying24 rfl SX.out rfl (hM.out.get (i := 0) rfl).range) rfl ?_; (try simp only [Act.put, List.setIfInBounds_toArray, List.set_cons_zero, List.set_cons_succ])
  refine wpList_valG (run_mv (v := .int _ _) rfl rfl) rfl ?_; (try simp only [Act.put, List.setIfInBounds_toArray, List.set_cons_zero, List.set_cons_succ])
  refine wpList_valG (run_cvi_8 (n := n) rfl rfl) rfl ?_; (try simp only [Act.put, List.setIfInBounds_toArray, List.set_cons_zero, List.set_cons_succ])
  refine wpList_valG (run_mv (v := .int _ _) rfl rfl) rfl ?_; (try simp only [Act.put, List.setIfInBounds_toArray, List.set_cons_zero, List.set_cons_succ])
  refine wpList_valG (run_shri (n := n) (k := 8) rfl rfl rfl (by omega)) rfl ?_; (try simp only [Act.put, List.setIfInBounds_toArray, List.set_cons_zero, List.set_cons_succ])
  refine wpList_valG (run_cvi_8 (n := n / 2 ^ 8) rfl rfl) rfl ?_; (try simp only [Act.put, List.setIfInBounds_toArray, List.set_cons_zero, List.set_cons_succ])
  refine wpList_valG (run_mv (v := .int _ _) rfl rfl) rfl ?_; (try simp only [Act.put, List.setIfInBounds_toArray, List.set_cons_zero, List.set_cons_succ])
  refine wpList_valG (run_shri (n := n) (k := 16) rfl rfl rfl (by omega)) rfl ?_; (try simp only [Act.put, List.setIfInBounds_toArray, List.set_cons_zero, List.set_cons_succ])
  refine wpList_valG (run_cvi_8 (n := n / 2 ^ 16) rfl rfl) rfl ?_; (try simp only [Act.put, List.setIfInBounds_toArray, List.set_cons_zero, List.set_cons_succ])
  refine wpList_valG (run_mv (v := .int _ _) rfl rfl) rfl ?_; (try simp only [Act.put, List.setIfInBounds_toArray, List.set_cons_zero, List.set_cons_succ])
  refine wpList_valG (run_shri (n := n) (k := 24) rfl rfl rfl (by omega)) rfl ?_; (try simp only [Act.put, List.setIfInBounds_toArray, List.set_cons_zero, List.set_cons_succ])
  refine wpList_valG (run_cvi_8 (n := n / 2 ^ 24) rfl rfl) rfl ?_; (try simp only [Act.put, List.setIfInBounds_toArray, List.set_cons_zero, List.set_cons_succ])
  refine wpList_valG (run_mv (v := .int _ _) rfl rfl) rfl ?_; (try simp only [Act.put, List.setIfInBounds_toArray, List.set_cons_zero, List.set_cons_succ])
  refine wpList_valG (run_shri (n := n) (k := 32) rfl rfl rfl (by omega)) rfl ?_; (try simp only [Act.put, List.setIfInBounds_toArray, List.set_cons_zero, List.set_cons_succ])
  refine wpList_valG (run_cvi_8 (n := n / 2 ^ 32) rfl rfl) rfl ?_; (try simp only [Act.put, List.setIfInBounds_toArray, List.set_cons_zero, List.set_cons_succ])
  refine wpList_valG (run_bldS5 rfl rfl rfl rfl rfl rfl BX.out) rfl ?_; (try simp only [Act.put, List.setIfInBounds_toArray, List.set_cons_zero, List.set_cons_succ])
  refine wpList_valG (run_eqKyB (c := true) lX lX rfl rfl rfl (by simp)) rfl ?_; (try simp only [Act.put, List.setIfInBounds_toArray, List.set_cons_zero, List.set_cons_succ])
  refine wpList_val (run_pick (b := true) (v := .bool true) rfl rfl rfl) rfl ?_; (try simp only [Act.put, List.setIfInBounds_toArray, List.set_cons_zero, List.set_cons_succ])
  refine wpList_val (run_asg (v := .bool true) rfl rfl) rfl ?_; (try simp only [Act.put, List.setIfInBounds_toArray, List.set_cons_zero, List.set_cons_succ])
  refine wpList_end ?_
  go_wp2_with fail
  go_ret
  exact ⟨rfl, hM.out.bl⟩
end Go.Proofs.YtefaihdhnnldmaaDoor
