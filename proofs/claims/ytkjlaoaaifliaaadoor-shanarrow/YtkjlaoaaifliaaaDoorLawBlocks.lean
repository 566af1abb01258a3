/- What keywardlaw03.ShaBlocks answers: the walk. -/
import Derived.Test.YtkjlaoaaifliaaaDoorLawNumbers
import Derived.Test.YtkjlaoaaifliaaaDoorEqArr64
import Derived.Test.YtkjlaoaaifliaaaDoorLateG
namespace Go.Proofs.YtkjlaoaaifliaaaDoor
open Go.RowKit

theorem calls_eq {f : FuncId} {args : Array Value} {w : World} {v : Value} (h : Calls Tryd.prog f args w fun e w' => e = .returned v ∧ Below w.heap.size w w') : Calls Tryd.prog f args w fun e w' => ∃ v', e = .returned v' ∧ (v' = v ∧ Below w.heap.size w w') :=
  h.mono fun _ _ ⟨h1, h2⟩ => ⟨v, h1, rfl, h2⟩
/-- The lengths. -/
def ks : List Nat := [0, 1, 55, 56, 64, 111, 112, 128]
theorem ks_le (i : Nat) (h : i < 8) : ks.getD i 0 ≤ 128 := by
  rcases (show i = 0 ∨ i = 1 ∨ i = 2 ∨ i = 3 ∨ i = 4 ∨ i = 5 ∨ i = 6 ∨ i = 7 by omega) with rfl | rfl | rfl | rfl | rfl | rfl | rfl | rfl <;> decide
theorem sl_zero {g k : Nat} {u : World} (h : Arr g (z8 k) u) : Sl (.slice (some ⟨g, 0, none⟩) k k) (List.replicate k 0) u := by
  have := Sl.arr (l := List.replicate k 0) h (c := k) (by simp)
  rwa [List.length_replicate] at this
section
variable {w : World} {ρ : Operand → Value} {o : Oper} {x y : Operand} {t t' : TypeId}
theorem run_ldi {g i : Nat} {v : Value} (ho : o.op = .load 3 x) (hx : ρ x = .pointer (some ⟨g, i, none⟩)) (hc : w.cell? ⟨g, i, none⟩ = some v) : (execOp ρ o).run Tryd.prog w = .ok (.value v) w := by
  obtain ⟨dst, op, type, pos, after, guard⟩ := o
  subst ho
  go_simp
theorem run_eql0 {b : Bool} {a c : Int} (ho : o.op = .binOp .eql t x y t') (hx : ρ x = .int .i64 a) (hy : ρ y = .int .i64 c) (hb : (a == c) = b) : (execOp ρ o).run Tryd.prog w = .ok (.value (.bool b)) w := by
  rw [run_eql ho hx hy, hb]
end
set_option maxRecDepth 100000 in
set_option maxHeartbeats 2000000 in
theorem blocks_any (n : Int) (w : World) (h0 : 0 ≤ n) (_h1 : n ≤ 255) (hT : Tabs w) : Calls Tryd.prog 3 #[.int .u8 n] w fun e w' => e = .returned (.bool true) ∧ Below w.heap.size w w' := by
  obtain ⟨m, rfl⟩ := Int.eq_ofNat_of_zero_le h0
  have HT := Lib.hid hT; clear hT
  go_enter Tryd.func3, Tryd.ntmps3
  go_upto_region 1 with fail; refine wp_region_lit ?_
  refine wpList_val (run_bsl (cells := (ks.map fun k : Nat => Value.int .i64 k).toArray) (z := .int .i64 0) rfl Tryd.underlying22 (by kernel_rfl) (by omega) (by omega) (by kernel_rfl)) rfl ?_; (try simp only [Act.put, List.setIfInBounds_toArray, List.set_cons_zero, List.set_cons_succ])
  (repeat ((first | refine wpList_val (run_mv (v := b32 _) rfl rfl) rfl ?_ | refine wpList_val (run_mv (v := b64 _) rfl rfl) rfl ?_ | refine wpList_val (run_mv (v := b8 _) rfl rfl) rfl ?_ | refine wpList_val (run_mv (v := .int _ _) rfl rfl) rfl ?_ | refine wpList_val (run_mv (v := .bool _) rfl rfl) rfl ?_ | refine wpList_val (run_mv (v := .slice (some _) _ _) rfl rfl) rfl ?_ | refine wpList_val (run_mv (v := .slice _ _ _) rfl rfl) rfl ?_ | refine wpList_val (run_mv (v := .pointer (some _)) rfl rfl) rfl ?_ | refine wpList_val (run_mv (v := .agg _) rfl rfl) rfl ?_ | refine wpList_val (run_asg (v := b32 _) rfl rfl) rfl ?_ | refine wpList_val (run_asg (v := b64 _) rfl rfl) rfl ?_ | refine wpList_val (run_asg (v := b8 _) rfl rfl) rfl ?_ | refine wpList_val (run_asg (v := .int _ _) rfl rfl) rfl ?_ | refine wpList_val (run_asg (v := .bool _) rfl rfl) rfl ?_ | refine wpList_val (run_asg (v := .slice (some _) _ _) rfl rfl) rfl ?_ | refine wpList_val (run_asg (v := .slice _ _ _) rfl rfl) rfl ?_ | refine wpList_val (run_asg (v := .pointer (some _)) rfl rfl) rfl ?_ | refine wpList_val (run_asg (v := .agg _) rfl rfl) rfl ?_ | refine wpList_val (run_mv rfl rfl) rfl ?_ | refine wpList_val (run_asg rfl rfl) rfl ?_ | refine wpList_val (run_xor32 rfl rfl rfl) rfl ?_ | refine wpList_val (run_and32 rfl rfl rfl) rfl ?_ | refine wpList_val (run_or32 rfl rfl rfl) rfl ?_ | refine wpList_val (run_add32 rfl rfl rfl) rfl ?_ | refine wpList_val (run_not32 rfl rfl) rfl ?_ | refine wpList_val (run_xor64 rfl rfl rfl) rfl ?_ | refine wpList_val (run_and64 rfl rfl rfl) rfl ?_ | refine wpList_val (run_or64 rfl rfl rfl) rfl ?_ | refine wpList_val (run_add64 rfl rfl rfl) rfl ?_ | refine wpList_val (run_not64 rfl rfl) rfl ?_ | refine wpList_val (run_xor8 rfl rfl rfl) rfl ?_ | refine wpList_val (run_and8 rfl rfl rfl) rfl ?_ | refine wpList_val (run_or8 rfl rfl rfl) rfl ?_ | refine wpList_val (run_add8 rfl rfl rfl) rfl ?_ | refine wpList_val (run_not8 rfl rfl) rfl ?_ | refine wpList_val (run_cv64_32 rfl rfl) rfl ?_ | refine wpList_val (run_cv8_32 rfl rfl) rfl ?_ | refine wpList_val (run_cv8_64 rfl rfl) rfl ?_ | refine wpList_val (run_cv32_8 rfl rfl) rfl ?_ | refine wpList_val (run_cv64_8 rfl rfl) rfl ?_); (try simp only [Act.put, List.setIfInBounds_toArray, List.set_cons_zero, List.set_cons_succ])))
  refine wpList_val (run_rem8 rfl rfl rfl h0 (by omega)) rfl ?_; (try simp only [Act.put, List.setIfInBounds_toArray, List.set_cons_zero, List.set_cons_succ])
  rw [show ((m : Int) % 8) = ((m % 8 : Nat) : Int) by omega]
  have hi : m % 8 < 8 := Nat.mod_lt _ (by omega)
  generalize m % 8 = i at *
  refine wpList_val (run_ixs rfl Tryd.underlying22 (by kernel_rfl) rfl rfl hi) rfl ?_; (try simp only [Act.put, List.setIfInBounds_toArray, List.set_cons_zero, List.set_cons_succ])
  rw [Nat.zero_add]
  have A1 := Arr.new w (ks.map fun k : Nat => Value.int .i64 k) 3
  refine wpList_val (run_ldi rfl rfl (A1.c i _ (get_map (fun k : Nat => Value.int .i64 k) 0 hi))) rfl ?_; (try simp only [Act.put, List.setIfInBounds_toArray, List.set_cons_zero, List.set_cons_succ])
  clear A1
  refine wpList_val (run_asg (v := .int .i64 ((ks.getD i 0 : Nat) : Int)) rfl rfl) rfl ?_; (try simp only [Act.put, List.setIfInBounds_toArray, List.set_cons_zero, List.set_cons_succ])
  refine wpList_end ?_
  have hk := ks_le i hi
  generalize ks.getD i 0 = k at *
  have bl : Below w.heap.size w (w.alloc (.cells (ks.map fun k : Nat => Value.int .i64 k).toArray 3)) := (Below.refl _ _).alloc (Nat.le_refl _) _
  generalize w.alloc (.cells (ks.map fun k : Nat => Value.int .i64 k).toArray 3) = u0 at *
  go_upto_region 2 with fail; refine wp_region_lit ?_
  (repeat ((first | refine wpList_val (run_mv (v := b32 _) rfl rfl) rfl ?_ | refine wpList_val (run_mv (v := b64 _) rfl rfl) rfl ?_ | refine wpList_val (run_mv (v := b8 _) rfl rfl) rfl ?_ | refine wpList_val (run_mv (v := .int _ _) rfl rfl) rfl ?_ | refine wpList_val (run_mv (v := .bool _) rfl rfl) rfl ?_ | refine wpList_val (run_mv (v := .slice (some _) _ _) rfl rfl) rfl ?_ | refine wpList_val (run_mv (v := .slice _ _ _) rfl rfl) rfl ?_ | refine wpList_val (run_mv (v := .pointer (some _)) rfl rfl) rfl ?_ | refine wpList_val (run_mv (v := .agg _) rfl rfl) rfl ?_ | refine wpList_val (run_asg (v := b32 _) rfl rfl) rfl ?_ | refine wpList_val (run_asg (v := b64 _) rfl rfl) rfl ?_ | refine wpList_val (run_asg (v := b8 _) rfl rfl) rfl ?_ | refine wpList_val (run_asg (v := .int _ _) rfl rfl) rfl ?_ | refine wpList_val (run_asg (v := .bool _) rfl rfl) rfl ?_ | refine wpList_val (run_asg (v := .slice (some _) _ _) rfl rfl) rfl ?_ | refine wpList_val (run_asg (v := .slice _ _ _) rfl rfl) rfl ?_ | refine wpList_val (run_asg (v := .pointer (some _)) rfl rfl) rfl ?_ | refine wpList_val (run_asg (v := .agg _) rfl rfl) rfl ?_ | refine wpList_val (run_mv rfl rfl) rfl ?_ | refine wpList_val (run_asg rfl rfl) rfl ?_ | refine wpList_val (run_xor32 rfl rfl rfl) rfl ?_ | refine wpList_val (run_and32 rfl rfl rfl) rfl ?_ | refine wpList_val (run_or32 rfl rfl rfl) rfl ?_ | refine wpList_val (run_add32 rfl rfl rfl) rfl ?_ | refine wpList_val (run_not32 rfl rfl) rfl ?_ | refine wpList_val (run_xor64 rfl rfl rfl) rfl ?_ | refine wpList_val (run_and64 rfl rfl rfl) rfl ?_ | refine wpList_val (run_or64 rfl rfl rfl) rfl ?_ | refine wpList_val (run_add64 rfl rfl rfl) rfl ?_ | refine wpList_val (run_not64 rfl rfl) rfl ?_ | refine wpList_val (run_xor8 rfl rfl rfl) rfl ?_ | refine wpList_val (run_and8 rfl rfl rfl) rfl ?_ | refine wpList_val (run_or8 rfl rfl rfl) rfl ?_ | refine wpList_val (run_add8 rfl rfl rfl) rfl ?_ | refine wpList_val (run_not8 rfl rfl) rfl ?_ | refine wpList_val (run_cv64_32 rfl rfl) rfl ?_ | refine wpList_val (run_cv8_32 rfl rfl) rfl ?_ | refine wpList_val (run_cv8_64 rfl rfl) rfl ?_ | refine wpList_val (run_cv32_8 rfl rfl) rfl ?_ | refine wpList_val (run_cv64_8 rfl rfl) rfl ?_); (try simp only [Act.put, List.setIfInBounds_toArray, List.set_cons_zero, List.set_cons_succ])))
  refine wpList_val (run_mk8 rfl rfl rfl (by omega)) rfl ?_; (try simp only [Act.put, List.setIfInBounds_toArray, List.set_cons_zero, List.set_cons_succ])
  (repeat ((first | refine wpList_val (run_mv (v := b32 _) rfl rfl) rfl ?_ | refine wpList_val (run_mv (v := b64 _) rfl rfl) rfl ?_ | refine wpList_val (run_mv (v := b8 _) rfl rfl) rfl ?_ | refine wpList_val (run_mv (v := .int _ _) rfl rfl) rfl ?_ | refine wpList_val (run_mv (v := .bool _) rfl rfl) rfl ?_ | refine wpList_val (run_mv (v := .slice (some _) _ _) rfl rfl) rfl ?_ | refine wpList_val (run_mv (v := .slice _ _ _) rfl rfl) rfl ?_ | refine wpList_val (run_mv (v := .pointer (some _)) rfl rfl) rfl ?_ | refine wpList_val (run_mv (v := .agg _) rfl rfl) rfl ?_ | refine wpList_val (run_asg (v := b32 _) rfl rfl) rfl ?_ | refine wpList_val (run_asg (v := b64 _) rfl rfl) rfl ?_ | refine wpList_val (run_asg (v := b8 _) rfl rfl) rfl ?_ | refine wpList_val (run_asg (v := .int _ _) rfl rfl) rfl ?_ | refine wpList_val (run_asg (v := .bool _) rfl rfl) rfl ?_ | refine wpList_val (run_asg (v := .slice (some _) _ _) rfl rfl) rfl ?_ | refine wpList_val (run_asg (v := .slice _ _ _) rfl rfl) rfl ?_ | refine wpList_val (run_asg (v := .pointer (some _)) rfl rfl) rfl ?_ | refine wpList_val (run_asg (v := .agg _) rfl rfl) rfl ?_ | refine wpList_val (run_mv rfl rfl) rfl ?_ | refine wpList_val (run_asg rfl rfl) rfl ?_ | refine wpList_val (run_xor32 rfl rfl rfl) rfl ?_ | refine wpList_val (run_and32 rfl rfl rfl) rfl ?_ | refine wpList_val (run_or32 rfl rfl rfl) rfl ?_ | refine wpList_val (run_add32 rfl rfl rfl) rfl ?_ | refine wpList_val (run_not32 rfl rfl) rfl ?_ | refine wpList_val (run_xor64 rfl rfl rfl) rfl ?_ | refine wpList_val (run_and64 rfl rfl rfl) rfl ?_ | refine wpList_val (run_or64 rfl rfl rfl) rfl ?_ | refine wpList_val (run_add64 rfl rfl rfl) rfl ?_ | refine wpList_val (run_not64 rfl rfl) rfl ?_ | refine wpList_val (run_xor8 rfl rfl rfl) rfl ?_ | refine wpList_val (run_and8 rfl rfl rfl) rfl ?_ | refine wpList_val (run_or8 rfl rfl rfl) rfl ?_ | refine wpList_val (run_add8 rfl rfl rfl) rfl ?_ | refine wpList_val (run_not8 rfl rfl) rfl ?_ | refine wpList_val (run_cv64_32 rfl rfl) rfl ?_ | refine wpList_val (run_cv8_32 rfl rfl) rfl ?_ | refine wpList_val (run_cv8_64 rfl rfl) rfl ?_ | refine wpList_val (run_cv32_8 rfl rfl) rfl ?_ | refine wpList_val (run_cv64_8 rfl rfl) rfl ?_); (try simp only [Act.put, List.setIfInBounds_toArray, List.set_cons_zero, List.set_cons_succ])))
  refine wpList_end ?_
  have S1 : Hid (Sl (.slice (some ⟨u0.heap.size, 0, none⟩) k k) (List.replicate k 0) (u0.alloc (.cells (z8 k).toArray 5))) := Lib.hid (sl_zero (Arr.new u0 (z8 k) 5))
  replace bl := bl.alloc bl.size (.cells (z8 k).toArray 5)
  generalize u0.alloc (.cells (z8 k).toArray 5) = u1 at *
  generalize u0.heap.size = g0 at *
  clear u0
  have HLen : Hid ((List.replicate k (0 : BitVec 8)).length < 1152921504606846976) := Lib.hid (by rw [List.length_replicate]; omega)
  generalize hl : List.replicate k (0 : BitVec 8) = l at *
  have HL := Lib.hid hl; clear hl
  go_upto_region 3 with fail; refine wp_region_lit ?_
  (repeat ((first | refine wpList_val (run_mv (v := b32 _) rfl rfl) rfl ?_ | refine wpList_val (run_mv (v := b64 _) rfl rfl) rfl ?_ | refine wpList_val (run_mv (v := b8 _) rfl rfl) rfl ?_ | refine wpList_val (run_mv (v := .int _ _) rfl rfl) rfl ?_ | refine wpList_val (run_mv (v := .bool _) rfl rfl) rfl ?_ | refine wpList_val (run_mv (v := .slice (some _) _ _) rfl rfl) rfl ?_ | refine wpList_val (run_mv (v := .slice _ _ _) rfl rfl) rfl ?_ | refine wpList_val (run_mv (v := .pointer (some _)) rfl rfl) rfl ?_ | refine wpList_val (run_mv (v := .agg _) rfl rfl) rfl ?_ | refine wpList_val (run_asg (v := b32 _) rfl rfl) rfl ?_ | refine wpList_val (run_asg (v := b64 _) rfl rfl) rfl ?_ | refine wpList_val (run_asg (v := b8 _) rfl rfl) rfl ?_ | refine wpList_val (run_asg (v := .int _ _) rfl rfl) rfl ?_ | refine wpList_val (run_asg (v := .bool _) rfl rfl) rfl ?_ | refine wpList_val (run_asg (v := .slice (some _) _ _) rfl rfl) rfl ?_ | refine wpList_val (run_asg (v := .slice _ _ _) rfl rfl) rfl ?_ | refine wpList_val (run_asg (v := .pointer (some _)) rfl rfl) rfl ?_ | refine wpList_val (run_asg (v := .agg _) rfl rfl) rfl ?_ | refine wpList_val (run_mv rfl rfl) rfl ?_ | refine wpList_val (run_asg rfl rfl) rfl ?_ | refine wpList_val (run_xor32 rfl rfl rfl) rfl ?_ | refine wpList_val (run_and32 rfl rfl rfl) rfl ?_ | refine wpList_val (run_or32 rfl rfl rfl) rfl ?_ | refine wpList_val (run_add32 rfl rfl rfl) rfl ?_ | refine wpList_val (run_not32 rfl rfl) rfl ?_ | refine wpList_val (run_xor64 rfl rfl rfl) rfl ?_ | refine wpList_val (run_and64 rfl rfl rfl) rfl ?_ | refine wpList_val (run_or64 rfl rfl rfl) rfl ?_ | refine wpList_val (run_add64 rfl rfl rfl) rfl ?_ | refine wpList_val (run_not64 rfl rfl) rfl ?_ | refine wpList_val (run_xor8 rfl rfl rfl) rfl ?_ | refine wpList_val (run_and8 rfl rfl rfl) rfl ?_ | refine wpList_val (run_or8 rfl rfl rfl) rfl ?_ | refine wpList_val (run_add8 rfl rfl rfl) rfl ?_ | refine wpList_val (run_not8 rfl rfl) rfl ?_ | refine wpList_val (run_cv64_32 rfl rfl) rfl ?_ | refine wpList_val (run_cv8_32 rfl rfl) rfl ?_ | refine wpList_val (run_cv8_64 rfl rfl) rfl ?_ | refine wpList_val (run_cv32_8 rfl rfl) rfl ?_ | refine wpList_val (run_cv64_8 rfl rfl) rfl ?_); (try simp only [Act.put, List.setIfInBounds_toArray, List.set_cons_zero, List.set_cons_succ])))
  refine wpList_enter (run_call1 enters_sum32 rfl rfl rfl) rfl (sum32_any _ l _ S1.out HLen.out (HT.out.below bl)) (fun u2 hb => ?_); (try simp only [Act.put, List.setIfInBounds_toArray, List.set_cons_zero, List.set_cons_succ])
  replace S1 := Lib.hid (S1.out.below hb)
  replace bl := bl.trans (hb.mono bl.size)
  clear hb
  refine wpList_val (run_alc (vs := z8 32) rfl (by kernel_rfl)) rfl ?_; (try simp only [Act.put, List.setIfInBounds_toArray, List.set_cons_zero, List.set_cons_succ]); have A1 := Arr.new u2 (z8 32) 25; have hb : Below u2.heap.size u2 (u2.alloc (.cells (z8 32).toArray 25)) := (Below.refl _ _).alloc (Nat.le_refl _) _; generalize hG : (u2.alloc (.cells (z8 32).toArray 25)) = a1 at *; clear hG; refine wpList_skip (run_stA rfl (size_d32 (sum_len32 l)) rfl rfl (one8 _) (by rw [List.length_map, sum_len32]; exact A1.there)) rfl rfl ?_; refine wpList_end ?_; have H32 := Lib.hid (A1.put (l' := (sum32 l).map b8) (by rw [List.length_map, sum_len32]; rfl)); replace hb := below_setCells (Nat.le_refl u2.heap.size) ((sum32 l).map b8) 0 hb; generalize a1.setCells u2.heap.size 0 ((sum32 l).map b8) = u3 at *; clear A1
  replace S1 := Lib.hid (S1.out.below hb)
  replace bl := bl.trans (hb.mono bl.size)
  clear hb
  go_upto_region 4 with fail; refine wp_region_lit ?_
  (repeat ((first | refine wpList_val (run_mv (v := b32 _) rfl rfl) rfl ?_ | refine wpList_val (run_mv (v := b64 _) rfl rfl) rfl ?_ | refine wpList_val (run_mv (v := b8 _) rfl rfl) rfl ?_ | refine wpList_val (run_mv (v := .int _ _) rfl rfl) rfl ?_ | refine wpList_val (run_mv (v := .bool _) rfl rfl) rfl ?_ | refine wpList_val (run_mv (v := .slice (some _) _ _) rfl rfl) rfl ?_ | refine wpList_val (run_mv (v := .slice _ _ _) rfl rfl) rfl ?_ | refine wpList_val (run_mv (v := .pointer (some _)) rfl rfl) rfl ?_ | refine wpList_val (run_mv (v := .agg _) rfl rfl) rfl ?_ | refine wpList_val (run_asg (v := b32 _) rfl rfl) rfl ?_ | refine wpList_val (run_asg (v := b64 _) rfl rfl) rfl ?_ | refine wpList_val (run_asg (v := b8 _) rfl rfl) rfl ?_ | refine wpList_val (run_asg (v := .int _ _) rfl rfl) rfl ?_ | refine wpList_val (run_asg (v := .bool _) rfl rfl) rfl ?_ | refine wpList_val (run_asg (v := .slice (some _) _ _) rfl rfl) rfl ?_ | refine wpList_val (run_asg (v := .slice _ _ _) rfl rfl) rfl ?_ | refine wpList_val (run_asg (v := .pointer (some _)) rfl rfl) rfl ?_ | refine wpList_val (run_asg (v := .agg _) rfl rfl) rfl ?_ | refine wpList_val (run_mv rfl rfl) rfl ?_ | refine wpList_val (run_asg rfl rfl) rfl ?_ | refine wpList_val (run_xor32 rfl rfl rfl) rfl ?_ | refine wpList_val (run_and32 rfl rfl rfl) rfl ?_ | refine wpList_val (run_or32 rfl rfl rfl) rfl ?_ | refine wpList_val (run_add32 rfl rfl rfl) rfl ?_ | refine wpList_val (run_not32 rfl rfl) rfl ?_ | refine wpList_val (run_xor64 rfl rfl rfl) rfl ?_ | refine wpList_val (run_and64 rfl rfl rfl) rfl ?_ | refine wpList_val (run_or64 rfl rfl rfl) rfl ?_ | refine wpList_val (run_add64 rfl rfl rfl) rfl ?_ | refine wpList_val (run_not64 rfl rfl) rfl ?_ | refine wpList_val (run_xor8 rfl rfl rfl) rfl ?_ | refine wpList_val (run_and8 rfl rfl rfl) rfl ?_ | refine wpList_val (run_or8 rfl rfl rfl) rfl ?_ | refine wpList_val (run_add8 rfl rfl rfl) rfl ?_ | refine wpList_val (run_not8 rfl rfl) rfl ?_ | refine wpList_val (run_cv64_32 rfl rfl) rfl ?_ | refine wpList_val (run_cv8_32 rfl rfl) rfl ?_ | refine wpList_val (run_cv8_64 rfl rfl) rfl ?_ | refine wpList_val (run_cv32_8 rfl rfl) rfl ?_ | refine wpList_val (run_cv64_8 rfl rfl) rfl ?_); (try simp only [Act.put, List.setIfInBounds_toArray, List.set_cons_zero, List.set_cons_succ])))
  refine wpList_enter (run_call1 enters_sum64 rfl rfl rfl) rfl (sum64_any _ l _ S1.out HLen.out (HT.out.below bl)) (fun u4 hb => ?_); (try simp only [Act.put, List.setIfInBounds_toArray, List.set_cons_zero, List.set_cons_succ])
  replace bl := bl.trans (hb.mono bl.size)
  replace H32 := Lib.hid (H32.out.below hb)
  clear hb S1
  refine wpList_val (run_alc (vs := z8 64) rfl (by kernel_rfl)) rfl ?_; (try simp only [Act.put, List.setIfInBounds_toArray, List.set_cons_zero, List.set_cons_succ]); have A1 := Arr.new u4 (z8 64) 28; have hb : Below u4.heap.size u4 (u4.alloc (.cells (z8 64).toArray 28)) := (Below.refl _ _).alloc (Nat.le_refl _) _; generalize hG : (u4.alloc (.cells (z8 64).toArray 28)) = a1 at *; clear hG; refine wpList_skip (run_stA rfl (size_d64 (sum_len64 l)) rfl rfl (one8 _) (by rw [List.length_map, sum_len64]; exact A1.there)) rfl rfl ?_; refine wpList_end ?_; have H64 := Lib.hid (A1.put (l' := (sum64 l).map b8) (by rw [List.length_map, sum_len64]; rfl)); replace hb := below_setCells (Nat.le_refl u4.heap.size) ((sum64 l).map b8) 0 hb; generalize a1.setCells u4.heap.size 0 ((sum64 l).map b8) = u5 at *; clear A1
  replace bl := bl.trans (hb.mono bl.size)
  replace H32 := Lib.hid (H32.out.below hb)
  clear hb
  go_upto_region 5 with fail; refine wp_region_lit ?_
  (repeat ((first | refine wpList_val (run_mv (v := b32 _) rfl rfl) rfl ?_ | refine wpList_val (run_mv (v := b64 _) rfl rfl) rfl ?_ | refine wpList_val (run_mv (v := b8 _) rfl rfl) rfl ?_ | refine wpList_val (run_mv (v := .int _ _) rfl rfl) rfl ?_ | refine wpList_val (run_mv (v := .bool _) rfl rfl) rfl ?_ | refine wpList_val (run_mv (v := .slice (some _) _ _) rfl rfl) rfl ?_ | refine wpList_val (run_mv (v := .slice _ _ _) rfl rfl) rfl ?_ | refine wpList_val (run_mv (v := .pointer (some _)) rfl rfl) rfl ?_ | refine wpList_val (run_mv (v := .agg _) rfl rfl) rfl ?_ | refine wpList_val (run_asg (v := b32 _) rfl rfl) rfl ?_ | refine wpList_val (run_asg (v := b64 _) rfl rfl) rfl ?_ | refine wpList_val (run_asg (v := b8 _) rfl rfl) rfl ?_ | refine wpList_val (run_asg (v := .int _ _) rfl rfl) rfl ?_ | refine wpList_val (run_asg (v := .bool _) rfl rfl) rfl ?_ | refine wpList_val (run_asg (v := .slice (some _) _ _) rfl rfl) rfl ?_ | refine wpList_val (run_asg (v := .slice _ _ _) rfl rfl) rfl ?_ | refine wpList_val (run_asg (v := .pointer (some _)) rfl rfl) rfl ?_ | refine wpList_val (run_asg (v := .agg _) rfl rfl) rfl ?_ | refine wpList_val (run_mv rfl rfl) rfl ?_ | refine wpList_val (run_asg rfl rfl) rfl ?_ | refine wpList_val (run_xor32 rfl rfl rfl) rfl ?_ | refine wpList_val (run_and32 rfl rfl rfl) rfl ?_ | refine wpList_val (run_or32 rfl rfl rfl) rfl ?_ | refine wpList_val (run_add32 rfl rfl rfl) rfl ?_ | refine wpList_val (run_not32 rfl rfl) rfl ?_ | refine wpList_val (run_xor64 rfl rfl rfl) rfl ?_ | refine wpList_val (run_and64 rfl rfl rfl) rfl ?_ | refine wpList_val (run_or64 rfl rfl rfl) rfl ?_ | refine wpList_val (run_add64 rfl rfl rfl) rfl ?_ | refine wpList_val (run_not64 rfl rfl) rfl ?_ | refine wpList_val (run_xor8 rfl rfl rfl) rfl ?_ | refine wpList_val (run_and8 rfl rfl rfl) rfl ?_ | refine wpList_val (run_or8 rfl rfl rfl) rfl ?_ | refine wpList_val (run_add8 rfl rfl rfl) rfl ?_ | refine wpList_val (run_not8 rfl rfl) rfl ?_ | refine wpList_val (run_cv64_32 rfl rfl) rfl ?_ | refine wpList_val (run_cv8_32 rfl rfl) rfl ?_ | refine wpList_val (run_cv8_64 rfl rfl) rfl ?_ | refine wpList_val (run_cv32_8 rfl rfl) rfl ?_ | refine wpList_val (run_cv64_8 rfl rfl) rfl ?_); (try simp only [Act.put, List.setIfInBounds_toArray, List.set_cons_zero, List.set_cons_succ])))
  by_cases h00 : k = 0
  · subst h00
    refine wpList_val (run_eql0 (b := true) rfl rfl rfl rfl) rfl ?_; (try simp only [Act.put, List.setIfInBounds_toArray, List.set_cons_zero, List.set_cons_succ])
    refine wpList_end ?_
    replace HL : Hid (l = []) := Lib.hid HL.out.symm
    rw [HL.out, nil32] at H32
    rw [HL.out, nil64] at H64
    go_upto_region 6 with fail; refine wp_region_lit ?_
    refine wpList_enter (run_call0 enters_known rfl rfl) rfl (known_any _ (HT.out.below bl)) (fun u6 hb => ?_); (try simp only [Act.put, List.setIfInBounds_toArray, List.set_cons_zero, List.set_cons_succ])
    replace bl := bl.trans (hb.mono bl.size)
    replace H32 := Lib.hid (H32.out.below hb)
    replace H64 := Lib.hid (H64.out.below hb)
    clear hb
    refine wpList_val (run_mv (v := .bool true) rfl rfl) rfl ?_; (try simp only [Act.put, List.setIfInBounds_toArray, List.set_cons_zero, List.set_cons_succ])
    refine wpList_valG (run_ix0 (i := 0) rfl Tryd.underlying25 (by kernel_rfl) rfl rfl (by omega)) rfl ?_; (try simp only [Act.put, List.setIfInBounds_toArray, List.set_cons_zero, List.set_cons_succ])
    refine wpList_valG (run_ld8 (v := b8 227#8) rfl rfl (H32.out.c 0 _ rfl)) rfl ?_; (try simp only [Act.put, List.setIfInBounds_toArray, List.set_cons_zero, List.set_cons_succ])
    refine wpList_valG (run_eq8 rfl rfl rfl rfl) rfl ?_; (try simp only [Act.put, List.setIfInBounds_toArray, List.set_cons_zero, List.set_cons_succ])
    refine wpList_val (run_pick (b := true) (v := .bool true) rfl rfl rfl) rfl ?_; (try simp only [Act.put, List.setIfInBounds_toArray, List.set_cons_zero, List.set_cons_succ])
    refine wpList_val (run_mv (v := .bool true) rfl rfl) rfl ?_; (try simp only [Act.put, List.setIfInBounds_toArray, List.set_cons_zero, List.set_cons_succ])
    refine wpList_valG (run_ix0 (i := 1) rfl Tryd.underlying25 (by kernel_rfl) rfl rfl (by omega)) rfl ?_; (try simp only [Act.put, List.setIfInBounds_toArray, List.set_cons_zero, List.set_cons_succ])
    refine wpList_valG (run_ld8 (v := b8 176#8) rfl rfl (H32.out.c 1 _ rfl)) rfl ?_; (try simp only [Act.put, List.setIfInBounds_toArray, List.set_cons_zero, List.set_cons_succ])
    refine wpList_valG (run_eq8 rfl rfl rfl rfl) rfl ?_; (try simp only [Act.put, List.setIfInBounds_toArray, List.set_cons_zero, List.set_cons_succ])
    refine wpList_val (run_pick (b := true) (v := .bool true) rfl rfl rfl) rfl ?_; (try simp only [Act.put, List.setIfInBounds_toArray, List.set_cons_zero, List.set_cons_succ])
    refine wpList_val (run_mv (v := .bool true) rfl rfl) rfl ?_; (try simp only [Act.put, List.setIfInBounds_toArray, List.set_cons_zero, List.set_cons_succ])
    refine wpList_valG (run_ix0 (i := 2) rfl Tryd.underlying25 (by kernel_rfl) rfl rfl (by omega)) rfl ?_; (try simp only [Act.put, List.setIfInBounds_toArray, List.set_cons_zero, List.set_cons_succ])
    refine wpList_valG (run_ld8 (v := b8 196#8) rfl rfl (H32.out.c 2 _ rfl)) rfl ?_; (try simp only [Act.put, List.setIfInBounds_toArray, List.set_cons_zero, List.set_cons_succ])
    refine wpList_valG (run_eq8 rfl rfl rfl rfl) rfl ?_; (try simp only [Act.put, List.setIfInBounds_toArray, List.set_cons_zero, List.set_cons_succ])
    refine wpList_val (run_pick (b := true) (v := .bool true) rfl rfl rfl) rfl ?_; (try simp only [Act.put, List.setIfInBounds_toArray, List.set_cons_zero, List.set_cons_succ])
    refine wpList_val (run_mv (v := .bool true) rfl rfl) rfl ?_; (try simp only [Act.put, List.setIfInBounds_toArray, List.set_cons_zero, List.set_cons_succ])
    refine wpList_valG (run_ix0 (i := 31) rfl Tryd.underlying25 (by kernel_rfl) rfl rfl (by omega)) rfl ?_; (try simp only [Act.put, List.setIfInBounds_toArray, List.set_cons_zero, List.set_cons_succ])
    refine wpList_valG (run_ld8 (v := b8 85#8) rfl rfl (H32.out.c 31 _ rfl)) rfl ?_; (try simp only [Act.put, List.setIfInBounds_toArray, List.set_cons_zero, List.set_cons_succ])
    refine wpList_valG (run_eq8 rfl rfl rfl rfl) rfl ?_; (try simp only [Act.put, List.setIfInBounds_toArray, List.set_cons_zero, List.set_cons_succ])
    refine wpList_val (run_pick (b := true) (v := .bool true) rfl rfl rfl) rfl ?_; (try simp only [Act.put, List.setIfInBounds_toArray, List.set_cons_zero, List.set_cons_succ])
    refine wpList_val (run_mv (v := .bool true) rfl rfl) rfl ?_; (try simp only [Act.put, List.setIfInBounds_toArray, List.set_cons_zero, List.set_cons_succ])
    refine wpList_valG (run_ix0 (i := 0) rfl Tryd.underlying28 (by kernel_rfl) rfl rfl (by omega)) rfl ?_; (try simp only [Act.put, List.setIfInBounds_toArray, List.set_cons_zero, List.set_cons_succ])
    refine wpList_valG (run_ld8 (v := b8 207#8) rfl rfl (H64.out.c 0 _ rfl)) rfl ?_; (try simp only [Act.put, List.setIfInBounds_toArray, List.set_cons_zero, List.set_cons_succ])
    refine wpList_valG (run_eq8 rfl rfl rfl rfl) rfl ?_; (try simp only [Act.put, List.setIfInBounds_toArray, List.set_cons_zero, List.set_cons_succ])
    refine wpList_val (run_pick (b := true) (v := .bool true) rfl rfl rfl) rfl ?_; (try simp only [Act.put, List.setIfInBounds_toArray, List.set_cons_zero, List.set_cons_succ])
    refine wpList_val (run_mv (v := .bool true) rfl rfl) rfl ?_; (try simp only [Act.put, List.setIfInBounds_toArray, List.set_cons_zero, List.set_cons_succ])
    refine wpList_valG (run_ix0 (i := 1) rfl Tryd.underlying28 (by kernel_rfl) rfl rfl (by omega)) rfl ?_; (try simp only [Act.put, List.setIfInBounds_toArray, List.set_cons_zero, List.set_cons_succ])
    refine wpList_valG (run_ld8 (v := b8 131#8) rfl rfl (H64.out.c 1 _ rfl)) rfl ?_; (try simp only [Act.put, List.setIfInBounds_toArray, List.set_cons_zero, List.set_cons_succ])
    refine wpList_valG (run_eq8 rfl rfl rfl rfl) rfl ?_; (try simp only [Act.put, List.setIfInBounds_toArray, List.set_cons_zero, List.set_cons_succ])
    refine wpList_val (run_pick (b := true) (v := .bool true) rfl rfl rfl) rfl ?_; (try simp only [Act.put, List.setIfInBounds_toArray, List.set_cons_zero, List.set_cons_succ])
    refine wpList_val (run_mv (v := .bool true) rfl rfl) rfl ?_; (try simp only [Act.put, List.setIfInBounds_toArray, List.set_cons_zero, List.set_cons_succ])
    refine wpList_valG (run_ix0 (i := 2) rfl Tryd.underlying28 (by kernel_rfl) rfl rfl (by omega)) rfl ?_; (try simp only [Act.put, List.setIfInBounds_toArray, List.set_cons_zero, List.set_cons_succ])
    refine wpList_valG (run_ld8 (v := b8 225#8) rfl rfl (H64.out.c 2 _ rfl)) rfl ?_; (try simp only [Act.put, List.setIfInBounds_toArray, List.set_cons_zero, List.set_cons_succ])
    refine wpList_valG (run_eq8 rfl rfl rfl rfl) rfl ?_; (try simp only [Act.put, List.setIfInBounds_toArray, List.set_cons_zero, List.set_cons_succ])
    refine wpList_val (run_pick (b := true) (v := .bool true) rfl rfl rfl) rfl ?_; (try simp only [Act.put, List.setIfInBounds_toArray, List.set_cons_zero, List.set_cons_succ])
    refine wpList_val (run_mv (v := .bool true) rfl rfl) rfl ?_; (try simp only [Act.put, List.setIfInBounds_toArray, List.set_cons_zero, List.set_cons_succ])
    refine wpList_valG (run_ix0 (i := 63) rfl Tryd.underlying28 (by kernel_rfl) rfl rfl (by omega)) rfl ?_; (try simp only [Act.put, List.setIfInBounds_toArray, List.set_cons_zero, List.set_cons_succ])
    refine wpList_valG (run_ld8 (v := b8 62#8) rfl rfl (H64.out.c 63 _ rfl)) rfl ?_; (try simp only [Act.put, List.setIfInBounds_toArray, List.set_cons_zero, List.set_cons_succ])
    refine wpList_valG (run_eq8 rfl rfl rfl rfl) rfl ?_; (try simp only [Act.put, List.setIfInBounds_toArray, List.set_cons_zero, List.set_cons_succ])
    refine wpList_val (run_pick (b := true) (v := .bool true) rfl rfl rfl) rfl ?_; (try simp only [Act.put, List.setIfInBounds_toArray, List.set_cons_zero, List.set_cons_succ])
    refine wpList_val (run_asg (v := .bool true) rfl rfl) rfl ?_; (try simp only [Act.put, List.setIfInBounds_toArray, List.set_cons_zero, List.set_cons_succ])
    refine wpList_end ?_
    go_wp2_with fail
    go_ret
    exact ⟨rfl, bl⟩
  · refine wpList_val (run_eql0 (b := false) rfl rfl rfl (by simp; omega)) rfl ?_; (try simp only [Act.put, List.setIfInBounds_toArray, List.set_cons_zero, List.set_cons_succ])
    refine wpList_end ?_
    go_upto_region 7 with fail
    have hs32 := sum_len32 l
    have hs64 := sum_len64 l
    refine wp_region_noPanic ?_; refine wp_region_late (S := fun _ V => Below u5.heap.size u5 V) (by kernel_rfl) ((Below.refl _ _).drew) (fun hS => ?_)
    have b0 : Below w.heap.size w u5.drew := bl.drew
    refine wpAnyL_call (R := fun v w => v = .bool true ∧ Below u5.drew.heap.size u5.drew w) 0 (by kernel_rfl) rfl rfl rfl (run_call0 enters_known rfl rfl) (calls_eq (known_any _ (HT.out.below b0))) (fun v w h => hS.trans (h.2.mono hS.size)) (fun v u6 h => ?_); obtain ⟨rfl, hb⟩ := h; replace hS := hS.trans (hb.mono hS.size); (try simp only [Act.put, List.setIfInBounds_toArray, List.set_cons_zero, List.set_cons_succ])
    replace b0 := b0.trans (hb.mono b0.size)
    clear hb
    refine wpAnyL_take 1 rfl rfl (by kernel_rfl) (by kernel_rfl) (by kernel_rfl) (fun _ _ _ h => h) rfl (fun V hV => run_mv (v := .bool true) rfl rfl) hS ?_; (try simp only [Act.put, List.setIfInBounds_toArray, List.set_cons_zero, List.set_cons_succ])
    refine wpAnyL_take 5 rfl rfl (by kernel_rfl) (by kernel_rfl) (by kernel_rfl) (fun _ _ _ h => h) rfl (fun V hV => run_ldA rfl Tryd.underlying25 (size_d32 hs32) rfl (H32.out.below hV).range) hS ?_; (try simp only [Act.put, List.setIfInBounds_toArray, List.set_cons_zero, List.set_cons_succ])
    refine wpAnyL_take 2 rfl rfl (by kernel_rfl) (by kernel_rfl) (by kernel_rfl) (fun _ _ _ h => h) rfl (fun V hV => run_mv (v := .int _ _) rfl rfl) hS ?_; (try simp only [Act.put, List.setIfInBounds_toArray, List.set_cons_zero, List.set_cons_succ])
    refine wpAnyL_val 3 (by kernel_rfl) rfl rfl rfl (run_mk8 rfl rfl rfl (by omega)) (hS.alloc hS.size _) ?_; (try simp only [Act.put, List.setIfInBounds_toArray, List.set_cons_zero, List.set_cons_succ])
    have S2 : Hid (Sl (.slice (some ⟨u6.heap.size, 0, none⟩) k k) l (u6.alloc (.cells (z8 k).toArray 5))) := Lib.hid (by rw [← HL.out]; exact sl_zero (Arr.new u6 (z8 k) 5))
    replace b0 := b0.alloc b0.size (.cells (z8 k).toArray 5)
    replace hS := hS.alloc hS.size (.cells (z8 k).toArray 5)
    generalize u6.alloc (.cells (z8 k).toArray 5) = u7 at *
    refine wpAnyL_call (R := fun v w => v = .agg ((sum32 l).map b8).toArray ∧ Below u7.heap.size u7 w) 4 (by kernel_rfl) rfl rfl rfl (run_call1 enters_sum32 rfl rfl rfl) (calls_eq (sum32_any _ l _ S2.out HLen.out (HT.out.below b0))) (fun v w h => hS.trans (h.2.mono hS.size)) (fun v u8 h => ?_); obtain ⟨rfl, hb⟩ := h; replace hS := hS.trans (hb.mono hS.size); (try simp only [Act.put, List.setIfInBounds_toArray, List.set_cons_zero, List.set_cons_succ])
    replace b0 := b0.trans (hb.mono b0.size)
    clear hb S2
    refine wpAnyL_take 6 rfl rfl (by kernel_rfl) (by kernel_rfl) (by kernel_rfl) (fun _ _ _ h => h) rfl (fun V hV => run_eqKey hs32 rfl rfl rfl) hS ?_; (try simp only [Act.put, List.setIfInBounds_toArray, List.set_cons_zero, List.set_cons_succ])
    refine wpAnyL_take 7 rfl rfl (by kernel_rfl) (by kernel_rfl) (by kernel_rfl) (fun _ _ _ h => h) rfl (fun V hV => run_pick (b := true) (v := .bool true) rfl rfl rfl) hS ?_; (try simp only [Act.put, List.setIfInBounds_toArray, List.set_cons_zero, List.set_cons_succ])
    refine wpAnyL_take 8 rfl rfl (by kernel_rfl) (by kernel_rfl) (by kernel_rfl) (fun _ _ _ h => h) rfl (fun V hV => run_mv (v := .bool true) rfl rfl) hS ?_; (try simp only [Act.put, List.setIfInBounds_toArray, List.set_cons_zero, List.set_cons_succ])
    refine wpAnyL_take 12 rfl rfl (by kernel_rfl) (by kernel_rfl) (by kernel_rfl) (fun _ _ _ h => h) rfl (fun V hV => run_ldA rfl Tryd.underlying28 (size_d64 hs64) rfl (H64.out.below hV).range) hS ?_; (try simp only [Act.put, List.setIfInBounds_toArray, List.set_cons_zero, List.set_cons_succ])
    refine wpAnyL_take 9 rfl rfl (by kernel_rfl) (by kernel_rfl) (by kernel_rfl) (fun _ _ _ h => h) rfl (fun V hV => run_mv (v := .int _ _) rfl rfl) hS ?_; (try simp only [Act.put, List.setIfInBounds_toArray, List.set_cons_zero, List.set_cons_succ])
    refine wpAnyL_val 10 (by kernel_rfl) rfl rfl rfl (run_mk8 rfl rfl rfl (by omega)) (hS.alloc hS.size _) ?_; (try simp only [Act.put, List.setIfInBounds_toArray, List.set_cons_zero, List.set_cons_succ])
    have S2 : Hid (Sl (.slice (some ⟨u8.heap.size, 0, none⟩) k k) l (u8.alloc (.cells (z8 k).toArray 5))) := Lib.hid (by rw [← HL.out]; exact sl_zero (Arr.new u8 (z8 k) 5))
    replace b0 := b0.alloc b0.size (.cells (z8 k).toArray 5)
    replace hS := hS.alloc hS.size (.cells (z8 k).toArray 5)
    generalize u8.alloc (.cells (z8 k).toArray 5) = u9 at *
    refine wpAnyL_call (R := fun v w => v = .agg ((sum64 l).map b8).toArray ∧ Below u9.heap.size u9 w) 11 (by kernel_rfl) rfl rfl rfl (run_call1 enters_sum64 rfl rfl rfl) (calls_eq (sum64_any _ l _ S2.out HLen.out (HT.out.below b0))) (fun v w h => hS.trans (h.2.mono hS.size)) (fun v u10 h => ?_); obtain ⟨rfl, hb⟩ := h; replace hS := hS.trans (hb.mono hS.size); (try simp only [Act.put, List.setIfInBounds_toArray, List.set_cons_zero, List.set_cons_succ])
    replace b0 := b0.trans (hb.mono b0.size)
    clear hb S2
    refine wpAnyL_take 13 rfl rfl (by kernel_rfl) (by kernel_rfl) (by kernel_rfl) (fun _ _ _ h => h) rfl (fun V hV => run_eqSig hs64 rfl rfl rfl) hS ?_; (try simp only [Act.put, List.setIfInBounds_toArray, List.set_cons_zero, List.set_cons_succ])
    refine wpAnyL_take 14 rfl rfl (by kernel_rfl) (by kernel_rfl) (by kernel_rfl) (fun _ _ _ h => h) rfl (fun V hV => run_pick (b := true) (v := .bool true) rfl rfl rfl) hS ?_; (try simp only [Act.put, List.setIfInBounds_toArray, List.set_cons_zero, List.set_cons_succ])
    refine wpAnyL_take 15 rfl rfl (by kernel_rfl) (by kernel_rfl) (by kernel_rfl) (fun _ _ _ h => h) rfl (fun V hV => run_asg (v := .bool true) rfl rfl) hS ?_; (try simp only [Act.put, List.setIfInBounds_toArray, List.set_cons_zero, List.set_cons_succ])
    refine wpAnyL_done (by kernel_rfl) ?_ _; refine NoPanic.normal ?_
    go_wp2_with fail
    go_ret
    exact ⟨rfl, b0⟩
end Go.Proofs.YtkjlaoaaifliaaaDoor
