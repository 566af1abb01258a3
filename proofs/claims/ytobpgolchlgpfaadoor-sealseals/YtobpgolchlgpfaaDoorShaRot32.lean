/- What math/bits.RotateLeft32 and sha.turned32 do, to the right. -/
import Derived.Test.YtobpgolchlgpfaaDoorMem
namespace Go.Proofs.YtobpgolchlgpfaaDoor
open Go.RowKit
set_option maxRecDepth 20000

/-- Turned right. -/
def ror32 (x : BitVec 32) (n : Nat) : BitVec 32 := x <<< (32 - n) ||| x >>> n
theorem rot_and32 (m : Nat) (h1 : 0 < m) (h2 : m < 32) : bits .and .u64 (IntKind.u64.wrap (-(m : Int))) 31 = ((32 - m : Nat) : Int) := by
  rw [wrap64, show (-(m : Int)) % 18446744073709551616 = ((18446744073709551616 - m : Nat) : Int) by omega, show (31 : Int) = ((31 : Nat) : Int) by rfl, u64_and_nat _ _ (by omega) (by omega)]
  have e : (18446744073709551616 - m) &&& 31 = (18446744073709551616 - m) % 32 := Nat.and_two_pow_sub_one_eq_mod _ 5
  rw [e]; omega
section
variable {w : World} {ρ : Operand → Value} {o : Oper} {t t' : TypeId} {x y : Operand}
theorem run_rotand32 {m : Nat} (ho : o.op = .binOp .and t x y t') (hx : ρ x = .int .u64 (IntKind.u64.wrap (-(m : Int)))) (hy : ρ y = .int .u64 31) (h1 : 0 < m) (h2 : m < 32) : (execOp ρ o).run Tryd.prog w = .ok (.value (.int .u64 ((32 - m : Nat) : Int))) w := by
  obtain ⟨dst, op, type, pos, after, guard⟩ := o
  subst ho
  rw [← rot_and32 m h1 h2]
  generalize IntKind.u64.wrap (-(m : Int)) = z at *
  go_simp
theorem run_rotsub32 {m : Nat} (ho : o.op = .binOp .sub t x y t') (hx : ρ x = .int .u64 32) (hy : ρ y = .int .u64 ((32 - m : Nat) : Int)) (h1 : 0 < m) (h2 : m < 32) : (execOp ρ o).run Tryd.prog w = .ok (.value (.int .u64 (m : Int))) w := by
  obtain ⟨dst, op, type, pos, after, guard⟩ := o
  subst ho
  have e : IntKind.u64.wrap (32 - ((32 - m : Nat) : Int)) = (m : Int) := by rw [wrap64]; omega
  generalize ((32 - m : Nat) : Int) = z at *
  go_simp
  try exact e
end
set_option maxHeartbeats 400000 in
theorem rot32_any (x : BitVec 32) (m : Nat) (w : World) (h1 : 0 < m) (h2 : m < 32) :
    Calls Tryd.prog 78 #[b32 x, .int .i64 (-(m : Int))] w fun e w' => e = .returned (b32 (ror32 x m)) ∧ w' = w := by
  go_enter Tryd.func78, Tryd.ntmps78
  go_upto_region 1 with fail; refine wp_region_lit ?_
  refine wpList_val (run_mv (v := .int _ _) rfl rfl) rfl ?_; (try simp only [Act.put, List.setIfInBounds_toArray, List.set_cons_zero, List.set_cons_succ])
  refine wpList_val (run_cv rfl Tryd.underlying3 Tryd.underlying25 rfl) rfl ?_; (try simp only [Act.put, List.setIfInBounds_toArray, List.set_cons_zero, List.set_cons_succ])
  refine wpList_val (run_rotand32 rfl rfl rfl h1 h2) rfl ?_; (try simp only [Act.put, List.setIfInBounds_toArray, List.set_cons_zero, List.set_cons_succ])
  refine wpList_val (run_asg (v := .int _ _) rfl rfl) rfl ?_; (try simp only [Act.put, List.setIfInBounds_toArray, List.set_cons_zero, List.set_cons_succ])
  refine wpList_end ?_
  go_upto_region 2 with fail; refine wp_region_lit ?_
  refine wpList_val (run_mv (v := b32 _) rfl rfl) rfl ?_; (try simp only [Act.put, List.setIfInBounds_toArray, List.set_cons_zero, List.set_cons_succ]); refine wpList_val (run_mv (v := .int _ _) rfl rfl) rfl ?_; (try simp only [Act.put, List.setIfInBounds_toArray, List.set_cons_zero, List.set_cons_succ])
  refine wpList_val (run_shl32 rfl rfl rfl (by omega)) rfl ?_; (try simp only [Act.put, List.setIfInBounds_toArray, List.set_cons_zero, List.set_cons_succ])
  refine wpList_val (run_mv (v := b32 _) rfl rfl) rfl ?_; (try simp only [Act.put, List.setIfInBounds_toArray, List.set_cons_zero, List.set_cons_succ]); refine wpList_val (run_mv (v := .int _ _) rfl rfl) rfl ?_; (try simp only [Act.put, List.setIfInBounds_toArray, List.set_cons_zero, List.set_cons_succ])
  refine wpList_val (run_rotsub32 rfl rfl rfl h1 h2) rfl ?_; (try simp only [Act.put, List.setIfInBounds_toArray, List.set_cons_zero, List.set_cons_succ])
  refine wpList_val (run_shr32 rfl rfl rfl (by omega)) rfl ?_; (try simp only [Act.put, List.setIfInBounds_toArray, List.set_cons_zero, List.set_cons_succ])
  refine wpList_val (run_or32 rfl rfl rfl) rfl ?_; (try simp only [Act.put, List.setIfInBounds_toArray, List.set_cons_zero, List.set_cons_succ]); refine wpList_val (run_asg (v := b32 _) rfl rfl) rfl ?_; (try simp only [Act.put, List.setIfInBounds_toArray, List.set_cons_zero, List.set_cons_succ])
  refine wpList_end ?_
  go_wp2_with fail
  go_ret
  exact ⟨rfl, rfl⟩
theorem enters_rot32 : Enters 78 := enters_of Tryd.func78 (by kernel_rfl) rfl
set_option maxHeartbeats 400000 in
theorem turned32_any (x : BitVec 32) (m n : Nat) (w : World) (h1 : 0 < m) (h2 : m < 32) (h3 : 0 < n) (h4 : n < 32) :
    Calls Tryd.prog 77 #[b32 x, .int .i64 (m : Int), .int .i64 (n : Int)] w fun e w' => e = .returned (b32 (ror32 x m ^^^ ror32 x n)) ∧ w' = w := by
  go_enter Tryd.func77, Tryd.ntmps77
  go_upto_region 1 with fail; refine wp_region_lit ?_
  refine wpList_val (run_mv (v := b32 _) rfl rfl) rfl ?_; (try simp only [Act.put, List.setIfInBounds_toArray, List.set_cons_zero, List.set_cons_succ]); refine wpList_val (run_mv (v := .int _ _) rfl rfl) rfl ?_; (try simp only [Act.put, List.setIfInBounds_toArray, List.set_cons_zero, List.set_cons_succ])
  refine wpList_val (run_neg rfl rfl (by omega) (by omega)) rfl ?_; (try simp only [Act.put, List.setIfInBounds_toArray, List.set_cons_zero, List.set_cons_succ])
  refine wpList_still (run_call2 enters_rot32 rfl rfl rfl rfl) rfl (rot32_any x m w h1 h2) ?_; (try simp only [Act.put, List.setIfInBounds_toArray, List.set_cons_zero, List.set_cons_succ])
  refine wpList_val (run_mv (v := b32 _) rfl rfl) rfl ?_; (try simp only [Act.put, List.setIfInBounds_toArray, List.set_cons_zero, List.set_cons_succ]); refine wpList_val (run_mv (v := .int _ _) rfl rfl) rfl ?_; (try simp only [Act.put, List.setIfInBounds_toArray, List.set_cons_zero, List.set_cons_succ])
  refine wpList_val (run_neg rfl rfl (by omega) (by omega)) rfl ?_; (try simp only [Act.put, List.setIfInBounds_toArray, List.set_cons_zero, List.set_cons_succ])
  refine wpList_still (run_call2 enters_rot32 rfl rfl rfl rfl) rfl (rot32_any x n w h3 h4) ?_; (try simp only [Act.put, List.setIfInBounds_toArray, List.set_cons_zero, List.set_cons_succ])
  refine wpList_val (run_xor32 rfl rfl rfl) rfl ?_; (try simp only [Act.put, List.setIfInBounds_toArray, List.set_cons_zero, List.set_cons_succ]); refine wpList_val (run_asg (v := b32 _) rfl rfl) rfl ?_; (try simp only [Act.put, List.setIfInBounds_toArray, List.set_cons_zero, List.set_cons_succ])
  refine wpList_end ?_
  go_wp2_with fail
  go_ret
  exact ⟨rfl, rfl⟩
theorem enters_turned32 : Enters 77 := enters_of Tryd.func77 (by kernel_rfl) rfl
end Go.Proofs.YtobpgolchlgpfaaDoor
