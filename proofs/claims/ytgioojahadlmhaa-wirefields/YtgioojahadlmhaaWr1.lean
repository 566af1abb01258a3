/- What keywardref10's number, key, sig and truth answer. -/
import Derived.Test.YtgioojahadlmhaaCatL
import Derived.Test.YtgioojahadlmhaaFlB
namespace Go.Proofs.Ytgioojahadlmhaa
open Go.RowKit
set_option maxRecDepth 20000

section
variable {w : World} {ρ : Operand → Value} {o : Oper} {x y : Operand} {t t' : TypeId}
theorem run_minI {a b : Int} (ts : Array TypeId) (ho : o.op = .call { callee := .builtin .min, args := #[x, y], argTypes := ts }) (hx : ρ x = .int .i64 a) (hy : ρ y = .int .i64 b) : (execOp ρ o).run Try.prog w = .ok (.value (.int .i64 (min a b))) w := by
  unfold execOp
  have h := run_min_int2 (P := Try.prog) (w := w) ts o.type .i64 .i64 a b
  have e : (if b < a then b else a) = min a b := by split <;> omega
  rw [e] at h
  simp [ho, resolve, invoke, builtin, hx, hy, h, Result.andThen]
theorem run_maxI {a b : Int} (ts : Array TypeId) (ho : o.op = .call { callee := .builtin .max, args := #[x, y], argTypes := ts }) (hx : ρ x = .int .i64 a) (hy : ρ y = .int .i64 b) : (execOp ρ o).run Try.prog w = .ok (.value (.int .i64 (max a b))) w := by
  unfold execOp
  have h := run_max_int2 (P := Try.prog) (w := w) ts o.type .i64 .i64 a b
  have e : (if b > a then b else a) = max a b := by split <;> omega
  rw [e] at h
  simp [ho, resolve, invoke, builtin, hx, hy, h, Result.andThen]
end
/-- Seven bits a byte, the lowest first. -/
def viF : Nat → Nat → List (BitVec 8)
  | 0, n => [BitVec.ofNat 8 n]
  | k + 1, n => if n ≤ 127 then [BitVec.ofNat 8 n] else BitVec.ofNat 8 (n % 128 + 128) :: viF k (n / 128)
def clN (n : Int) : Nat := (max 0 (min n 1099511627776)).toNat
/-- A number's bytes. -/
def viB (n : Int) : List (BitVec 8) := viF 5 (clN n)
theorem viF_len : ∀ k n, (viF k n).length ≤ k + 1
  | 0, _ => by simp [viF]
  | k + 1, n => by
    rw [viF]; split
    · simp
    · have := viF_len k (n / 128); simp; omega
theorem viB_len (n : Int) : (viB n).length ≤ 6 := viF_len 5 _
theorem viF_pos (k n : Nat) : 0 < (viF k n).length := by
  cases k with
  | zero => simp [viF]
  | succ k => rw [viF]; split <;> simp
theorem clN_le (n : Int) : clN n ≤ 1099511627776 := by unfold clN; omega
/-- What is left to be told. -/
structure NuI (n : Nat) (pre : List (BitVec 8)) (m : Nat) : Prop where
  ex : ∃ k, viF 5 n = pre ++ viF k m ∧ m < 128 ^ (k + 1) ∧ pre.length + k ≤ 5
theorem NuI.start {n : Nat} (h : n ≤ 1099511627776) : NuI n [] n := ⟨5, rfl, by omega, by simp⟩
theorem NuI.step {n m : Nat} {pre : List (BitVec 8)} (h : NuI n pre m) (hm : 127 < m) : NuI n (pre ++ [BitVec.ofNat 8 (m % 128 + 128)]) (m / 128) := by
  obtain ⟨k, e, h1, h2⟩ := h.ex
  cases k with
  | zero => omega
  | succ k =>
    refine ⟨k, ?_, ?_, by rw [List.length_append]; simp; omega⟩
    · rw [e, viF, if_neg (by omega), List.append_assoc]; rfl
    · rw [Nat.pow_succ] at h1
      exact Nat.div_lt_of_lt_mul (by rwa [Nat.mul_comm] at h1)
theorem NuI.done {n m : Nat} {pre : List (BitVec 8)} (h : NuI n pre m) (hm : m ≤ 127) : viF 5 n = pre ++ [BitVec.ofNat 8 m] := by
  obtain ⟨k, e, _, _⟩ := h.ex
  cases k with
  | zero => exact e
  | succ k => rw [e, viF, if_pos hm]
theorem NuI.len {n m : Nat} {pre : List (BitVec 8)} (h : NuI n pre m) : pre.length ≤ 5 := by obtain ⟨k, _, _, h2⟩ := h.ex; omega
theorem NuI.le {n m : Nat} {pre : List (BitVec 8)} (h : NuI n pre m) : m < 4398046511104 := by
  obtain ⟨k, _, h1, h2⟩ := h.ex
  have : 128 ^ (k + 1) ≤ 128 ^ 6 := Nat.pow_le_pow_right (by omega) (by omega)
  omega
set_option maxHeartbeats 4000000 in
theorem number10_any (n : Int) (w : World) : Calls Try.prog 58 #[.int .i64 n] w fun e w' => ∃ v', e = .returned v' ∧ S5 w v' (viB n) w' := by
  have EC : Hid (max 0 (min n 1099511627776) = ((clN n : Nat) : Int)) := Lib.hid (by unfold clN; omega)
  have EV : Hid (viB n = viF 5 (clN n)) := Lib.hid rfl
  have N0 := Lib.hid (NuI.start (clN_le n))
  generalize viB n = out at *
  generalize clN n = c at *
  go_enter Try.func58, Try.ntmps58
  go_upto_region 0 with fail; refine wp_region_lit ?_
  refine wpList_val (run_asg (v := .slice none 0 0) rfl rfl) rfl ?_; (try simp only [Act.put, List.setIfInBounds_toArray, List.set_cons_zero, List.set_cons_succ])
  refine wpList_end ?_
  go_upto_region 1 with fail; refine wp_region_lit ?_
  refine wpList_val (run_mv (v := .int .i64 n) rfl rfl) rfl ?_; (try simp only [Act.put, List.setIfInBounds_toArray, List.set_cons_zero, List.set_cons_succ])
  refine wpList_val (run_minI _ rfl rfl rfl) rfl ?_; (try simp only [Act.put, List.setIfInBounds_toArray, List.set_cons_zero, List.set_cons_succ])
  refine wpList_val (run_maxI _ rfl rfl rfl) rfl ?_; (try simp only [Act.put, List.setIfInBounds_toArray, List.set_cons_zero, List.set_cons_succ])
  rw [EC.out]
  refine wpList_val (run_asg (v := .int .i64 (c : Int)) rfl rfl) rfl ?_; (try simp only [Act.put, List.setIfInBounds_toArray, List.set_cons_zero])
  refine wpList_end ?_
  go_upto_region 2 with fail; refine wp_region_lit ?_
  refine wpList_val (run_asg (v := .slice none 0 0) rfl rfl) rfl ?_; (try simp only [Act.put, List.setIfInBounds_toArray, List.set_cons_zero, List.set_cons_succ])
  refine wpList_end ?_
  have hI : Hid (S5 w (.slice none 0 0) [] w) := Lib.hid (S5.none w)
  go_wp2_with fail
  go_loopw [0, 3] (fun s0 s3 u => ∃ (m : Nat) (pre : List (BitVec 8)), s0 = .int .i64 (m : Int) ∧ NuI c pre m ∧ S5 w s3 pre u) (fun s0 _ _ => (intOf s0).toNat)
  case atStart => exact ⟨c, [], rfl, N0.out, hI.out⟩
  case round =>
    obtain ⟨m, pre, rfl, hN, hJ⟩ := hrel
    replace hI := Lib.hid hJ
    have HN := Lib.hid hN
    have hpl := hN.len
    have hml := hN.le
    clear hJ hN
    by_cases hlt : 127 < m
    · have hk1 : (127 : Int) < (m : Int) := by omega
      have NX := Lib.hid (HN.out.step hlt)
      go_upto_region 4 with fail; refine wp_region_lit ?_
      refine wpList_val (run_mv (v := u3) rfl rfl) rfl ?_; (try simp only [Act.put, List.setIfInBounds_toArray, List.set_cons_zero, List.set_cons_succ])
      refine wpList_val (run_mv (v := .int _ _) rfl rfl) rfl ?_; (try simp only [Act.put, List.setIfInBounds_toArray, List.set_cons_zero, List.set_cons_succ])
      refine wpList_val (run_remN (a := m) (b := 128) rfl rfl rfl (by omega)) rfl ?_; (try simp only [Act.put, List.setIfInBounds_toArray, List.set_cons_zero, List.set_cons_succ])
      refine wpList_val (run_addN (a := m % 128) (b := 128) rfl rfl rfl (by omega)) rfl ?_; (try simp only [Act.put, List.setIfInBounds_toArray, List.set_cons_zero, List.set_cons_succ])
      refine wpList_val (run_cvi_8 (n := m % 128 + 128) rfl rfl) rfl ?_; (try simp only [Act.put, List.setIfInBounds_toArray, List.set_cons_zero, List.set_cons_succ])
      generalize BitVec.ofNat 8 (m % 128 + 128) = x at *
      refine wpList_val (run_bsl (cells := #[b8 (x)]) (z := .int .u8 0) rfl Try.underlying22 (by kernel_rfl) (by omega) (by omega) (by kernel_rfl)) rfl ?_; (try simp only [Act.put, List.setIfInBounds_toArray, List.set_cons_zero, List.set_cons_succ]); have hb2 : Below wr.heap.size wr (wr.alloc (.cells #[b8 (x)] 5)) := (Below.refl _ _).alloc (Nat.le_refl _) _; have A2 : Hid (Arr wr.heap.size ([x].map b8) (wr.alloc (.cells #[b8 (x)] 5))) := Lib.hid (Arr.new wr _ _); replace hI := Lib.hid (hI.out.below hb2); clear hb2; generalize wr.alloc (.cells #[b8 (x)] 5) = ua at *; refine wpList_app (f := b8) (fun _ => rfl) (l := pre) (m := [x]) (bw := 1) (z := .int .u8 0) rfl rfl Try.underlying22 (by kernel_rfl) rfl (by omega) rfl hI.out.O rfl A2.out.range (by show pre.length + 1 ≤ _; omega) hI.out.bl.size (fun v5 z5 h3 hb3 => ?_); (try simp only [Act.put, List.setIfInBounds_toArray, List.set_cons_zero, List.set_cons_succ]); replace hI : Hid (S5 _ v5 (pre ++ [x]) z5) := Lib.hid ⟨hI.out.bl.trans hb3, by rw [List.length_append]; exact h3⟩; clear h3 hb3 A2; clear ua; refine wpList_val (run_asg (v := v5) rfl rfl) rfl ?_; (try simp only [Act.put, List.setIfInBounds_toArray, List.set_cons_zero, List.set_cons_succ]); refine wpList_end ?_
      go_upto_region 5 with fail; refine wp_region_lit ?_
      refine wpList_val (run_mv (v := .int _ _) rfl rfl) rfl ?_; (try simp only [Act.put, List.setIfInBounds_toArray, List.set_cons_zero, List.set_cons_succ])
      refine wpList_val (run_quoN (a := m) (b := 128) rfl rfl rfl (by omega) (by omega)) rfl ?_; (try simp only [Act.put, List.setIfInBounds_toArray, List.set_cons_zero, List.set_cons_succ])
      refine wpList_val (run_asg (v := .int .i64 ((m / 128 : Nat) : Int)) rfl rfl) rfl ?_; (try simp only [Act.put, List.setIfInBounds_toArray, List.set_cons_zero])
      refine wpList_end ?_
      go_wp2_with fail
      exact ⟨⟨m / 128, pre ++ [x], rfl, NX.out, hI.out⟩, by simp [intOf]; omega⟩
    · have hk1 : ¬ ((127 : Int) < (m : Int)) := by omega
      have EO := Lib.hid (HN.out.done (by omega))
      go_upto_region 6 with fail; refine wp_region_lit ?_
      refine wpList_val (run_mv (v := u3) rfl rfl) rfl ?_; (try simp only [Act.put, List.setIfInBounds_toArray, List.set_cons_zero, List.set_cons_succ])
      refine wpList_val (run_mv (v := .int _ _) rfl rfl) rfl ?_; (try simp only [Act.put, List.setIfInBounds_toArray, List.set_cons_zero, List.set_cons_succ])
      refine wpList_val (run_cvi_8 (n := m) rfl rfl) rfl ?_; (try simp only [Act.put, List.setIfInBounds_toArray, List.set_cons_zero, List.set_cons_succ])
      generalize BitVec.ofNat 8 m = x at *
      refine wpList_val (run_bsl (cells := #[b8 (x)]) (z := .int .u8 0) rfl Try.underlying22 (by kernel_rfl) (by omega) (by omega) (by kernel_rfl)) rfl ?_; (try simp only [Act.put, List.setIfInBounds_toArray, List.set_cons_zero, List.set_cons_succ]); have hb2 : Below wr.heap.size wr (wr.alloc (.cells #[b8 (x)] 5)) := (Below.refl _ _).alloc (Nat.le_refl _) _; have A2 : Hid (Arr wr.heap.size ([x].map b8) (wr.alloc (.cells #[b8 (x)] 5))) := Lib.hid (Arr.new wr _ _); replace hI := Lib.hid (hI.out.below hb2); clear hb2; generalize wr.alloc (.cells #[b8 (x)] 5) = ua at *; refine wpList_app (f := b8) (fun _ => rfl) (l := pre) (m := [x]) (bw := 1) (z := .int .u8 0) rfl rfl Try.underlying22 (by kernel_rfl) rfl (by omega) rfl hI.out.O rfl A2.out.range (by show pre.length + 1 ≤ _; omega) hI.out.bl.size (fun v5 z5 h3 hb3 => ?_); (try simp only [Act.put, List.setIfInBounds_toArray, List.set_cons_zero, List.set_cons_succ]); replace hI : Hid (S5 _ v5 (pre ++ [x]) z5) := Lib.hid ⟨hI.out.bl.trans hb3, by rw [List.length_append]; exact h3⟩; clear h3 hb3 A2; clear ua; refine wpList_val (run_asg (v := v5) rfl rfl) rfl ?_; (try simp only [Act.put, List.setIfInBounds_toArray, List.set_cons_zero, List.set_cons_succ]); refine wpList_end ?_
      go_upto_region 7 with fail; refine wp_region_lit ?_
      refine wpList_val (run_mv (v := v5) rfl rfl) rfl ?_; (try simp only [Act.put, List.setIfInBounds_toArray, List.set_cons_zero, List.set_cons_succ])
      refine wpList_val (run_asg (v := v5) rfl rfl) rfl ?_; (try simp only [Act.put, List.setIfInBounds_toArray, List.set_cons_zero, List.set_cons_succ])
      refine wpList_end ?_
      go_wp2_with fail
      exact bodyPost_ret (results_tmp Try.results58 _ _ _) rfl ⟨_, rfl, by rw [EV.out, EO.out]; exact hI.out⟩
theorem enters_number10 : Enters 58 := enters_of Try.func58 (by kernel_rfl) rfl
end Go.Proofs.Ytgioojahadlmhaa
