/- What the reference's hidden and Block do. -/
import Derived.Test.YtobpgolchlgpfaaDoorS5
import Derived.Test.YtobpgolchlgpfaaDoorAesB1
import Derived.Test.YtobpgolchlgpfaaDoorAesBox
import Derived.Test.YtobpgolchlgpfaaDoorAesMath
import Derived.Test.YtobpgolchlgpfaaDoorAppW
import Derived.Test.YtobpgolchlgpfaaDoorAesKey
import Derived.Test.YtobpgolchlgpfaaDoorAesHid
import Derived.Test.YtobpgolchlgpfaaDoorAesCi
namespace Go.Proofs.YtobpgolchlgpfaaDoor
open Go.RowKit
set_option maxRecDepth 20000

def stepX (x : Nat) : Nat := if 255 < x * 2 then x * 2 ^^^ 283 else x * 2
def tmsI : Nat → Nat → Nat → Nat → Nat
  | 0, _, _, o => o
  | n + 1, x, y, o => tmsI n (stepX x) (y / 2) (if y % 2 = 1 then o ^^^ x else o)
/-- Two bytes, as polynomials, multiplied. -/
def tms (a b : BitVec 8) : BitVec 8 := BitVec.ofNat 8 (tmsI 8 a.toNat b.toNat 0)
theorem stepX_lt : ∀ x, x < 256 → stepX x < 256 := by decide +kernel
set_option maxHeartbeats 2000000 in
theorem times_any (a b : BitVec 8) (w : World) : Calls Tryd.prog 53 #[b8 a, b8 b] w fun e w' => e = .returned (b8 (tms a b)) ∧ w' = w := by
  have ha := a.isLt
  have hb := b.isLt
  obtain ⟨R, hR⟩ : ∃ R, R = tmsI 8 a.toNat b.toNat 0 := ⟨_, rfl⟩
  have ER : Hid (tms a b = BitVec.ofNat 8 R) := Lib.hid (by rw [hR]; rfl)
  have E8 : Hid (tmsI 8 a.toNat b.toNat 0 = R) := Lib.hid hR.symm
  clear hR
  go_enter Tryd.func53, Tryd.ntmps53
  go_upto_region 1 with fail; refine wp_region_lit ?_
  refine wpList_val (run_mv (v := b8 _) rfl rfl) rfl ?_; (try simp only [Act.put, List.setIfInBounds_toArray, List.set_cons_zero, List.set_cons_succ])
  refine wpList_val (run_cv8n rfl rfl (by omega) (by omega)) rfl ?_; (try simp only [Act.put, List.setIfInBounds_toArray, List.set_cons_zero, List.set_cons_succ])
  refine wpList_val (run_asg (v := .int _ _) rfl rfl) rfl ?_; (try simp only [Act.put, List.setIfInBounds_toArray, List.set_cons_zero, List.set_cons_succ])
  refine wpList_end ?_
  go_upto_region 2 with fail; refine wp_region_lit ?_
  refine wpList_val (run_mv (v := b8 _) rfl rfl) rfl ?_; (try simp only [Act.put, List.setIfInBounds_toArray, List.set_cons_zero, List.set_cons_succ])
  refine wpList_val (run_cv8n rfl rfl (by omega) (by omega)) rfl ?_; (try simp only [Act.put, List.setIfInBounds_toArray, List.set_cons_zero, List.set_cons_succ])
  refine wpList_val (run_asg (v := .int _ _) rfl rfl) rfl ?_; (try simp only [Act.put, List.setIfInBounds_toArray, List.set_cons_zero, List.set_cons_succ])
  refine wpList_end ?_
  go_wp2_with fail
  go_loopw [5, 6, 7, 8] (fun s5 s6 s7 s8 u => ∃ n x y o : Nat, n ≤ 8 ∧ x < 256 ∧ y < 256 ∧ o < 256 ∧ s5 = .int .i64 (x : Int) ∧ s6 = .int .i64 (y : Int) ∧ s7 = .int .i64 (o : Int) ∧ s8 = .int .i64 ((8 : Int) - n) ∧ tmsI n x y o = R ∧ u = w) (fun _ _ _ s _ => (8 - intOf s).toNat)
  case atStart => exact ⟨8, a.toNat, b.toNat, 0, by omega, ha, hb, by omega, rfl, rfl, rfl, rfl, E8.out, rfl⟩
  case round =>
    obtain ⟨n, x, y, o, hn, hx, hy, ho, rfl, rfl, rfl, rfl, he, rfl⟩ := hrel
    have HE := Lib.hid he
    clear he
    by_cases hlt : n = 0
    · subst hlt
      have hk1 : ¬ (((8 : Int) - ((0 : Nat) : Int)) < 8) := by omega
      obtain rfl : o = R := HE.out
      go_upto_region 13 with fail; refine wp_region_lit ?_
      refine wpList_val (run_mv (v := .int _ _) rfl rfl) rfl ?_; (try simp only [Act.put, List.setIfInBounds_toArray, List.set_cons_zero, List.set_cons_succ])
      refine wpList_val (run_cvi_8 rfl rfl) rfl ?_; (try simp only [Act.put, List.setIfInBounds_toArray, List.set_cons_zero, List.set_cons_succ])
      refine wpList_val (run_asg (v := b8 _) rfl rfl) rfl ?_; (try simp only [Act.put, List.setIfInBounds_toArray, List.set_cons_zero, List.set_cons_succ])
      refine wpList_end ?_
      go_wp2_with fail
      go_ret
      exact ⟨by rw [ER.out]; rfl, rfl⟩
    · obtain ⟨n, rfl⟩ : ∃ m, n = m + 1 := ⟨n - 1, by omega⟩
      have hk1 : ((8 : Int) - ((n + 1 : Nat) : Int)) < 8 := by omega
      rw [tmsI] at HE
      have hsx := stepX_lt x hx
      have HSX : Hid (stepX x = if 255 < x * 2 then x * 2 ^^^ 283 else x * 2) := Lib.hid rfl
      generalize stepX x = x2 at *
      have hox : o ^^^ x < 256 := Nat.xor_lt_two_pow (n := 8) ho hx
      go_upto_region 7 with fail; refine wp_region_lit ?_
      refine wpList_val (run_mv (v := .int _ _) rfl rfl) rfl ?_; (try simp only [Act.put, List.setIfInBounds_toArray, List.set_cons_zero, List.set_cons_succ])
      refine wpList_val (run_remN (b := 2) rfl rfl rfl (by omega)) rfl ?_; (try simp only [Act.put, List.setIfInBounds_toArray, List.set_cons_zero, List.set_cons_succ])
      by_cases hy2 : y % 2 = 1
      · rw [if_pos hy2] at HE
        refine wpList_val (run_eqlb (c := true) rfl rfl rfl (by rw [hy2]; rfl)) rfl ?_; (try simp only [Act.put, List.setIfInBounds_toArray, List.set_cons_zero, List.set_cons_succ])
        refine wpList_end ?_
        go_upto_region 8 with fail; refine wp_region_lit ?_
        refine wpList_val (run_mv (v := .int _ _) rfl rfl) rfl ?_; (try simp only [Act.put, List.setIfInBounds_toArray, List.set_cons_zero, List.set_cons_succ]); refine wpList_val (run_mv (v := .int _ _) rfl rfl) rfl ?_; (try simp only [Act.put, List.setIfInBounds_toArray, List.set_cons_zero, List.set_cons_succ])
        refine wpList_val (run_xori rfl rfl rfl (by omega) (by omega)) rfl ?_; (try simp only [Act.put, List.setIfInBounds_toArray, List.set_cons_zero, List.set_cons_succ])
        refine wpList_val (run_asg (v := .int _ _) rfl rfl) rfl ?_; (try simp only [Act.put, List.setIfInBounds_toArray, List.set_cons_zero, List.set_cons_succ])
        refine wpList_end ?_
        generalize o ^^^ x = o' at *
        go_upto_region 9 with fail; refine wp_region_lit ?_; refine wpList_val (run_mv (v := .int _ _) rfl rfl) rfl ?_; (try simp only [Act.put, List.setIfInBounds_toArray, List.set_cons_zero, List.set_cons_succ]); refine wpList_val (run_quoN (b := 2) rfl rfl rfl (by omega) (by omega)) rfl ?_; (try simp only [Act.put, List.setIfInBounds_toArray, List.set_cons_zero, List.set_cons_succ]); refine wpList_val (run_asg (v := .int _ _) rfl rfl) rfl ?_; (try simp only [Act.put, List.setIfInBounds_toArray, List.set_cons_zero, List.set_cons_succ]); refine wpList_end ?_; go_upto_region 10 with fail; refine wp_region_lit ?_; refine wpList_val (run_mv (v := .int _ _) rfl rfl) rfl ?_; (try simp only [Act.put, List.setIfInBounds_toArray, List.set_cons_zero, List.set_cons_succ]); refine wpList_val (run_mulN (b := 2) rfl rfl rfl (by omega)) rfl ?_; (try simp only [Act.put, List.setIfInBounds_toArray, List.set_cons_zero, List.set_cons_succ]); refine wpList_val (run_asg (v := .int _ _) rfl rfl) rfl ?_; (try simp only [Act.put, List.setIfInBounds_toArray, List.set_cons_zero, List.set_cons_succ]); refine wpList_end ?_; go_upto_region 11 with fail; refine wp_region_lit ?_; refine wpList_val (run_mv (v := .int _ _) rfl rfl) rfl ?_; (try simp only [Act.put, List.setIfInBounds_toArray, List.set_cons_zero, List.set_cons_succ]); by_cases hx2 : 255 < x * 2; (focus (rw [if_pos hx2] at HSX; refine wpList_val (run_gtrb (c := true) rfl rfl rfl (decide_eq_true (by omega))) rfl ?_; (try simp only [Act.put, List.setIfInBounds_toArray, List.set_cons_zero, List.set_cons_succ]); refine wpList_end ?_; go_upto_region 12 with fail; refine wp_region_lit ?_; refine wpList_val (run_mv (v := .int _ _) rfl rfl) rfl ?_; (try simp only [Act.put, List.setIfInBounds_toArray, List.set_cons_zero, List.set_cons_succ]); refine wpList_val (run_xori (b := 283) rfl rfl rfl (by omega) (by omega)) rfl ?_; (try simp only [Act.put, List.setIfInBounds_toArray, List.set_cons_zero, List.set_cons_succ]); rw [← HSX.out]; refine wpList_val (run_asg (v := .int _ _) rfl rfl) rfl ?_; (try simp only [Act.put, List.setIfInBounds_toArray, List.set_cons_zero, List.set_cons_succ]); refine wpList_end ?_; go_wp2_with fail; go_roundw; (case rel => exact ⟨n, x2, y / 2, o', by omega, hsx, by omega, hox, rfl, rfl, rfl, by go_num, HE.out, trivial⟩); (case measure => simp [intOf]; omega))); (rw [if_neg hx2] at HSX; refine wpList_val (run_gtrb (c := false) rfl rfl rfl (decide_eq_false (by omega))) rfl ?_; (try simp only [Act.put, List.setIfInBounds_toArray, List.set_cons_zero, List.set_cons_succ]); refine wpList_end ?_; rw [← HSX.out]; go_wp2_with fail; go_roundw; (case rel => exact ⟨n, x2, y / 2, o', by omega, hsx, by omega, hox, rfl, rfl, rfl, by go_num, HE.out, trivial⟩); (case measure => simp [intOf]; omega))
      · rw [if_neg hy2] at HE
        refine wpList_val (run_eqlb (c := false) rfl rfl rfl (by rw [beq_eq_false_iff_ne]; omega)) rfl ?_; (try simp only [Act.put, List.setIfInBounds_toArray, List.set_cons_zero, List.set_cons_succ])
        refine wpList_end ?_
        generalize hoo : o = o' at *
        go_upto_region 9 with fail; refine wp_region_lit ?_; refine wpList_val (run_mv (v := .int _ _) rfl rfl) rfl ?_; (try simp only [Act.put, List.setIfInBounds_toArray, List.set_cons_zero, List.set_cons_succ]); refine wpList_val (run_quoN (b := 2) rfl rfl rfl (by omega) (by omega)) rfl ?_; (try simp only [Act.put, List.setIfInBounds_toArray, List.set_cons_zero, List.set_cons_succ]); refine wpList_val (run_asg (v := .int _ _) rfl rfl) rfl ?_; (try simp only [Act.put, List.setIfInBounds_toArray, List.set_cons_zero, List.set_cons_succ]); refine wpList_end ?_; go_upto_region 10 with fail; refine wp_region_lit ?_; refine wpList_val (run_mv (v := .int _ _) rfl rfl) rfl ?_; (try simp only [Act.put, List.setIfInBounds_toArray, List.set_cons_zero, List.set_cons_succ]); refine wpList_val (run_mulN (b := 2) rfl rfl rfl (by omega)) rfl ?_; (try simp only [Act.put, List.setIfInBounds_toArray, List.set_cons_zero, List.set_cons_succ]); refine wpList_val (run_asg (v := .int _ _) rfl rfl) rfl ?_; (try simp only [Act.put, List.setIfInBounds_toArray, List.set_cons_zero, List.set_cons_succ]); refine wpList_end ?_; go_upto_region 11 with fail; refine wp_region_lit ?_; refine wpList_val (run_mv (v := .int _ _) rfl rfl) rfl ?_; (try simp only [Act.put, List.setIfInBounds_toArray, List.set_cons_zero, List.set_cons_succ]); by_cases hx2 : 255 < x * 2; (focus (rw [if_pos hx2] at HSX; refine wpList_val (run_gtrb (c := true) rfl rfl rfl (decide_eq_true (by omega))) rfl ?_; (try simp only [Act.put, List.setIfInBounds_toArray, List.set_cons_zero, List.set_cons_succ]); refine wpList_end ?_; go_upto_region 12 with fail; refine wp_region_lit ?_; refine wpList_val (run_mv (v := .int _ _) rfl rfl) rfl ?_; (try simp only [Act.put, List.setIfInBounds_toArray, List.set_cons_zero, List.set_cons_succ]); refine wpList_val (run_xori (b := 283) rfl rfl rfl (by omega) (by omega)) rfl ?_; (try simp only [Act.put, List.setIfInBounds_toArray, List.set_cons_zero, List.set_cons_succ]); rw [← HSX.out]; refine wpList_val (run_asg (v := .int _ _) rfl rfl) rfl ?_; (try simp only [Act.put, List.setIfInBounds_toArray, List.set_cons_zero, List.set_cons_succ]); refine wpList_end ?_; go_wp2_with fail; go_roundw; (case rel => exact ⟨n, x2, y / 2, o', by omega, hsx, by omega, ho, rfl, rfl, rfl, by go_num, HE.out, trivial⟩); (case measure => simp [intOf]; omega))); (rw [if_neg hx2] at HSX; refine wpList_val (run_gtrb (c := false) rfl rfl rfl (decide_eq_false (by omega))) rfl ?_; (try simp only [Act.put, List.setIfInBounds_toArray, List.set_cons_zero, List.set_cons_succ]); refine wpList_end ?_; rw [← HSX.out]; go_wp2_with fail; go_roundw; (case rel => exact ⟨n, x2, y / 2, o', by omega, hsx, by omega, ho, rfl, rfl, rfl, by go_num, HE.out, trivial⟩); (case measure => simp [intOf]; omega))
theorem enters_times : Enters 53 := enters_of Tryd.func53 (by kernel_rfl) rfl
set_option maxHeartbeats 400000 in
theorem turned_any (x : BitVec 8) (n : Nat) (w : World) (hn : n < 8) : Calls Tryd.prog 66 #[b8 x, .int .u64 (n : Int)] w fun e w' => e = .returned (b8 (rotB x n)) ∧ w' = w := by
  go_enter Tryd.func66, Tryd.ntmps66
  go_upto_region 1 with fail; refine wp_region_lit ?_
  refine wpList_val (run_mv (v := b8 _) rfl rfl) rfl ?_; (try simp only [Act.put, List.setIfInBounds_toArray, List.set_cons_zero, List.set_cons_succ]); refine wpList_val (run_mv (v := .int _ _) rfl rfl) rfl ?_; (try simp only [Act.put, List.setIfInBounds_toArray, List.set_cons_zero, List.set_cons_succ])
  refine wpList_val (run_shl8 rfl rfl rfl (by omega)) rfl ?_; (try simp only [Act.put, List.setIfInBounds_toArray, List.set_cons_zero, List.set_cons_succ])
  refine wpList_val (run_mv (v := b8 _) rfl rfl) rfl ?_; (try simp only [Act.put, List.setIfInBounds_toArray, List.set_cons_zero, List.set_cons_succ]); refine wpList_val (run_mv (v := .int _ _) rfl rfl) rfl ?_; (try simp only [Act.put, List.setIfInBounds_toArray, List.set_cons_zero, List.set_cons_succ])
  refine wpList_val (run_subu (a := 8) rfl rfl rfl (by omega) (by omega)) rfl ?_; (try simp only [Act.put, List.setIfInBounds_toArray, List.set_cons_zero, List.set_cons_succ])
  refine wpList_val (run_shr8 rfl rfl rfl (by omega)) rfl ?_; (try simp only [Act.put, List.setIfInBounds_toArray, List.set_cons_zero, List.set_cons_succ])
  refine wpList_val (run_or8 rfl rfl rfl) rfl ?_; (try simp only [Act.put, List.setIfInBounds_toArray, List.set_cons_zero, List.set_cons_succ]); refine wpList_val (run_asg (v := b8 _) rfl rfl) rfl ?_; (try simp only [Act.put, List.setIfInBounds_toArray, List.set_cons_zero, List.set_cons_succ])
  refine wpList_end ?_
  go_wp2_with fail
  go_ret
  exact ⟨rfl, rfl⟩
theorem enters_turned : Enters 66 := enters_of Tryd.func66 (by kernel_rfl) rfl
/-- The last of the first bytes whose product with b is 1. -/
def rbI (b : BitVec 8) : Nat → BitVec 8
  | 0 => 0
  | n + 1 => if tms (BitVec.ofNat 8 (n + 1)) b = 1 then BitVec.ofNat 8 (n + 1) else rbI b n
def rbx (i : BitVec 8) : BitVec 8 := i ^^^ rotB i 1 ^^^ rotB i 2 ^^^ rotB i 3 ^^^ rotB i 4 ^^^ 99
set_option maxRecDepth 20000 in
set_option maxHeartbeats 2000000 in
theorem rbox_any (b : BitVec 8) (w : World) : Calls Tryd.prog 52 #[b8 b] w fun e w' => e = .returned (b8 (rbx (rbI b 255))) ∧ w' = w := by
  obtain ⟨F, hF⟩ : ∃ F : Nat → BitVec 8, F = rbI b := ⟨_, rfl⟩
  have E0 : Hid (0 = F 0) := Lib.hid (by rw [hF]; rfl)
  have ES : Hid (∀ n, F (n + 1) = if tms (BitVec.ofNat 8 (n + 1)) b = 1 then BitVec.ofNat 8 (n + 1) else F n) := Lib.hid fun n => by rw [hF]; rfl
  have EX : Hid (rbx (rbI b 255) = F 255 ^^^ rotB (F 255) 1 ^^^ rotB (F 255) 2 ^^^ rotB (F 255) 3 ^^^ rotB (F 255) 4 ^^^ 99) := Lib.hid (by rw [hF, rbx])
  clear hF
  go_enter Tryd.func52, Tryd.ntmps52
  go_upto_region 1 with fail; refine wp_region_lit ?_
  refine wpList_val (run_asg (v := b8 0) rfl rfl) rfl ?_; (try simp only [Act.put, List.setIfInBounds_toArray, List.set_cons_zero, List.set_cons_succ])
  rw [E0.out]
  refine wpList_end ?_
  go_wp2_with fail
  go_loopw [3, 4] (fun s3 s4 u => ∃ n : Nat, n ≤ 255 ∧ s3 = b8 (F n) ∧ s4 = .int .i64 ((n + 1 : Nat) : Int) ∧ u = w) (fun _ s _ => (256 - intOf s).toNat)
  case atStart => exact ⟨0, by omega, rfl, rfl, rfl⟩
  case round =>
    obtain ⟨n, hn, rfl, rfl, rfl⟩ := hrel
    by_cases hlt : n = 255
    · subst hlt
      have hk1 : ¬ (((255 + 1 : Nat) : Int) < 256) := by omega
      generalize F 255 = i at *
      go_upto_region 7 with fail; refine wp_region_lit ?_
      refine wpList_val (run_mv (v := b8 _) rfl rfl) rfl ?_; (try simp only [Act.put, List.setIfInBounds_toArray, List.set_cons_zero, List.set_cons_succ]); refine wpList_val (run_mv (v := b8 _) rfl rfl) rfl ?_; (try simp only [Act.put, List.setIfInBounds_toArray, List.set_cons_zero, List.set_cons_succ])
      refine wpList_still (run_call2 enters_turned rfl rfl rfl rfl) rfl (turned_any i 1 _ (by omega)) ?_; (try simp only [Act.put, List.setIfInBounds_toArray, List.set_cons_zero, List.set_cons_succ])
      refine wpList_val (run_xor8 rfl rfl rfl) rfl ?_; (try simp only [Act.put, List.setIfInBounds_toArray, List.set_cons_zero, List.set_cons_succ]); refine wpList_val (run_mv (v := b8 _) rfl rfl) rfl ?_; (try simp only [Act.put, List.setIfInBounds_toArray, List.set_cons_zero, List.set_cons_succ])
      refine wpList_still (run_call2 enters_turned rfl rfl rfl rfl) rfl (turned_any i 2 _ (by omega)) ?_; (try simp only [Act.put, List.setIfInBounds_toArray, List.set_cons_zero, List.set_cons_succ])
      refine wpList_val (run_xor8 rfl rfl rfl) rfl ?_; (try simp only [Act.put, List.setIfInBounds_toArray, List.set_cons_zero, List.set_cons_succ]); refine wpList_val (run_mv (v := b8 _) rfl rfl) rfl ?_; (try simp only [Act.put, List.setIfInBounds_toArray, List.set_cons_zero, List.set_cons_succ])
      refine wpList_still (run_call2 enters_turned rfl rfl rfl rfl) rfl (turned_any i 3 _ (by omega)) ?_; (try simp only [Act.put, List.setIfInBounds_toArray, List.set_cons_zero, List.set_cons_succ])
      refine wpList_val (run_xor8 rfl rfl rfl) rfl ?_; (try simp only [Act.put, List.setIfInBounds_toArray, List.set_cons_zero, List.set_cons_succ]); refine wpList_val (run_mv (v := b8 _) rfl rfl) rfl ?_; (try simp only [Act.put, List.setIfInBounds_toArray, List.set_cons_zero, List.set_cons_succ])
      refine wpList_still (run_call2 enters_turned rfl rfl rfl rfl) rfl (turned_any i 4 _ (by omega)) ?_; (try simp only [Act.put, List.setIfInBounds_toArray, List.set_cons_zero, List.set_cons_succ])
      refine wpList_val (run_xor8 rfl rfl rfl) rfl ?_; (try simp only [Act.put, List.setIfInBounds_toArray, List.set_cons_zero, List.set_cons_succ])
      refine wpList_val (run_xor8 (b := 99) rfl rfl rfl) rfl ?_; (try simp only [Act.put, List.setIfInBounds_toArray, List.set_cons_zero, List.set_cons_succ])
      refine wpList_val (run_asg (v := b8 _) rfl rfl) rfl ?_; (try simp only [Act.put, List.setIfInBounds_toArray, List.set_cons_zero, List.set_cons_succ])
      refine wpList_end ?_
      go_wp2_with fail
      go_ret
      exact ⟨by rw [EX.out]; rfl, rfl⟩
    · have hk1 : ((n + 1 : Nat) : Int) < 256 := by omega
      have HN := Lib.hid (ES.out n)
      go_upto_region 5 with fail; refine wp_region_lit ?_
      refine wpList_val (run_mv (v := .int _ _) rfl rfl) rfl ?_; (try simp only [Act.put, List.setIfInBounds_toArray, List.set_cons_zero, List.set_cons_succ])
      refine wpList_val (run_cvi_8 rfl rfl) rfl ?_; (try simp only [Act.put, List.setIfInBounds_toArray, List.set_cons_zero, List.set_cons_succ])
      refine wpList_val (run_mv (v := b8 _) rfl rfl) rfl ?_; (try simp only [Act.put, List.setIfInBounds_toArray, List.set_cons_zero, List.set_cons_succ])
      refine wpList_still (run_call2 enters_times rfl rfl rfl rfl) rfl (times_any _ b _) ?_; (try simp only [Act.put, List.setIfInBounds_toArray, List.set_cons_zero, List.set_cons_succ])
      by_cases h1 : tms (BitVec.ofNat 8 (n + 1)) b = 1
      · rw [if_pos h1] at HN
        refine wpList_val (run_eqv8 (b := 1) (c := true) rfl rfl rfl (decide_eq_true h1)) rfl ?_; (try simp only [Act.put, List.setIfInBounds_toArray, List.set_cons_zero, List.set_cons_succ])
        refine wpList_end ?_
        go_upto_region 6 with fail; refine wp_region_lit ?_
        refine wpList_val (run_mv (v := .int _ _) rfl rfl) rfl ?_; (try simp only [Act.put, List.setIfInBounds_toArray, List.set_cons_zero, List.set_cons_succ])
        refine wpList_val (run_cvi_8 rfl rfl) rfl ?_; (try simp only [Act.put, List.setIfInBounds_toArray, List.set_cons_zero, List.set_cons_succ])
        rw [← HN.out]
        refine wpList_val (run_asg (v := b8 _) rfl rfl) rfl ?_; (try simp only [Act.put, List.setIfInBounds_toArray, List.set_cons_zero, List.set_cons_succ])
        refine wpList_end ?_
        go_wp2_with fail
        go_roundw
        case rel => exact ⟨n + 1, by omega, rfl, by go_num, trivial⟩
        case measure => simp [intOf]; omega
      · rw [if_neg h1] at HN
        refine wpList_val (run_eqv8 (b := 1) (c := false) rfl rfl rfl (decide_eq_false h1)) rfl ?_; (try simp only [Act.put, List.setIfInBounds_toArray, List.set_cons_zero, List.set_cons_succ])
        refine wpList_end ?_
        go_wp2_with fail
        go_roundw
        case rel => exact ⟨n + 1, by omega, by rw [HN.out], by go_num, trivial⟩
        case measure => simp [intOf]; omega
theorem enters_rbox : Enters 52 := enters_of Tryd.func52 (by kernel_rfl) rfl
end Go.Proofs.YtobpgolchlgpfaaDoor
namespace Go.Proofs.YtobpgolchlgpfaaDoor
set_option maxRecDepth 20000

theorem rbx_all : ∀ i, i < 256 → rbx (rbI (BitVec.ofNat 8 i) 255) = bx (BitVec.ofNat 8 i) := by decide +kernel
theorem rbx_eq (b : BitVec 8) : rbx (rbI b 255) = bx b := all8 (P := fun b => rbx (rbI b 255) = bx b) rbx_all b
theorem tms1 (x : BitVec 8) : tms 1 x = x := all8 (P := fun x => tms 1 x = x) (by decide +kernel) x
theorem tms2 (x : BitVec 8) : tms 2 x = dbl x := all8 (P := fun x => tms 2 x = dbl x) (by decide +kernel) x
theorem tms3 (x : BitVec 8) : tms 3 x = tri x := all8 (P := fun x => tms 3 x = tri x) (by decide +kernel) x
theorem tms9 (x : BitVec 8) : tms 9 x = dbl (dbl (dbl x)) ^^^ x := all8 (P := fun x => tms 9 x = dbl (dbl (dbl x)) ^^^ x) (by decide +kernel) x
theorem tms11 (x : BitVec 8) : tms 11 x = dbl (dbl (dbl x)) ^^^ dbl x ^^^ x := all8 (P := fun x => tms 11 x = dbl (dbl (dbl x)) ^^^ dbl x ^^^ x) (by decide +kernel) x
theorem tms13 (x : BitVec 8) : tms 13 x = dbl (dbl (dbl x)) ^^^ dbl (dbl x) ^^^ x := all8 (P := fun x => tms 13 x = dbl (dbl (dbl x)) ^^^ dbl (dbl x) ^^^ x) (by decide +kernel) x
theorem tms14 (x : BitVec 8) : tms 14 x = dbl (dbl (dbl x)) ^^^ dbl (dbl x) ^^^ dbl x := all8 (P := fun x => tms 14 x = dbl (dbl (dbl x)) ^^^ dbl (dbl x) ^^^ dbl x) (by decide +kernel) x
theorem tms_pow : ∀ j, j < 7 → tms ((1 : BitVec 8) <<< j) 2 = (1 : BitVec 8) <<< (j + 1) := by decide +kernel
/-- A column's sum, term by term. -/
def mxI (by' s : List (BitVec 8)) (i : Nat) : Nat → BitVec 8
  | 0 => 0
  | k + 1 => mxI by' s i k ^^^ tms (by'.getD ((k + 4 - i % 4) % 4) 0) (s.getD (i / 4 * 4 + k) 0)
def mxB (by' s : List (BitVec 8)) : List (BitVec 8) := tab 16 fun i => mxI by' s i 4
theorem mxI_four (by' s : List (BitVec 8)) (i : Nat) : mxI by' s i 4 = tms (by'.getD ((0 + 4 - i % 4) % 4) 0) (s.getD (i / 4 * 4 + 0) 0) ^^^ tms (by'.getD ((1 + 4 - i % 4) % 4) 0) (s.getD (i / 4 * 4 + 1) 0) ^^^ tms (by'.getD ((2 + 4 - i % 4) % 4) 0) (s.getD (i / 4 * 4 + 2) 0) ^^^ tms (by'.getD ((3 + 4 - i % 4) % 4) 0) (s.getD (i / 4 * 4 + 3) 0) := by
  simp only [mxI]
  congr 3
  exact BitVec.zero_xor
theorem col_four (s : List (BitVec 8)) (c : Nat) : col s c = [s.getD (c * 4 + 0) 0, s.getD (c * 4 + 1) 0, s.getD (c * 4 + 2) 0, s.getD (c * 4 + 3) 0] := by
  rw [Nat.mul_comm c 4]; rfl
theorem xrot (p q r s : BitVec 8) : p ^^^ q ^^^ r ^^^ s = q ^^^ r ^^^ s ^^^ p := by
  rw [BitVec.xor_comm (q ^^^ r ^^^ s) p, BitVec.xor_assoc, BitVec.xor_assoc, BitVec.xor_assoc q r s]
theorem mix_eq (s : List (BitVec 8)) : mxB [2, 3, 1, 1] s = mixB s := tab_congr fun i hi => by
  rw [mxI_four, col_four, mixW_four]
  generalize s.getD (i / 4 * 4 + 0) 0 = a, s.getD (i / 4 * 4 + 1) 0 = b, s.getD (i / 4 * 4 + 2) 0 = c, s.getD (i / 4 * 4 + 3) 0 = d
  have h4 : i % 4 = 0 ∨ i % 4 = 1 ∨ i % 4 = 2 ∨ i % 4 = 3 := by omega
  rcases h4 with h | h | h | h <;> rw [h]
  · show tms 2 a ^^^ tms 3 b ^^^ tms 1 c ^^^ tms 1 d = dbl a ^^^ tri b ^^^ c ^^^ d
    rw [tms1, tms1, tms2, tms3]
  · show tms 1 a ^^^ tms 2 b ^^^ tms 3 c ^^^ tms 1 d = dbl b ^^^ tri c ^^^ d ^^^ a
    rw [tms1, tms1, tms2, tms3, xrot]
  · show tms 1 a ^^^ tms 1 b ^^^ tms 2 c ^^^ tms 3 d = dbl c ^^^ tri d ^^^ a ^^^ b
    rw [tms1, tms1, tms2, tms3, xrot, xrot]
  · show tms 3 a ^^^ tms 1 b ^^^ tms 1 c ^^^ tms 2 d = dbl d ^^^ tri a ^^^ b ^^^ c
    rw [tms1, tms1, tms2, tms3, xrot (dbl d)]
/-- One place of what takes a mixing back. -/
theorem unmix1 (a b c d : BitVec 8) : dbl (a ^^^ dbl (dbl (a ^^^ c))) ^^^ tri (b ^^^ dbl (dbl (b ^^^ d))) ^^^ (c ^^^ dbl (dbl (c ^^^ a))) ^^^ (d ^^^ dbl (dbl (d ^^^ b))) = tms 14 a ^^^ tms 11 b ^^^ tms 13 c ^^^ tms 9 d := by
  rw [tms14, tms11, tms13, tms9]
  simp only [tri, dbl_xor]
  generalize dbl (dbl (dbl a)) = a3, dbl (dbl (dbl b)) = b3, dbl (dbl (dbl c)) = c3, dbl (dbl (dbl d)) = d3
  generalize dbl (dbl a) = a2, dbl (dbl b) = b2, dbl (dbl c) = c2, dbl (dbl d) = d2
  generalize dbl a = a1, dbl b = b1
  apply BitVec.eq_of_getLsbD_eq
  intro i _
  simp only [BitVec.getLsbD_xor]
  generalize b.getLsbD i = b, c.getLsbD i = c, d.getLsbD i = d, a1.getLsbD i = a1, b1.getLsbD i = b1, a2.getLsbD i = a2, b2.getLsbD i = b2, c2.getLsbD i = c2, d2.getLsbD i = d2, a3.getLsbD i = a3, b3.getLsbD i = b3, c3.getLsbD i = c3, d3.getLsbD i = d3
  revert b c d a1 b1 a2 b2 c2 d2 a3 b3 c3 d3
  decide +kernel
theorem unmix_eq (s : List (BitVec 8)) : mxB [14, 11, 13, 9] s = unmixB s := tab_congr fun i hi => by
  rw [mxI_four, col_four, unmixW_four, BitVec.xor_comm (s.getD (i / 4 * 4 + 0) 0) (s.getD (i / 4 * 4 + 2) 0), mixW_four]
  generalize s.getD (i / 4 * 4 + 0) 0 = a, s.getD (i / 4 * 4 + 1) 0 = b, s.getD (i / 4 * 4 + 2) 0 = c, s.getD (i / 4 * 4 + 3) 0 = d
  have e1 := unmix1 a b c d
  have e2 := unmix1 b c d a
  have e3 := unmix1 c d a b
  have e4 := unmix1 d a b c
  rw [BitVec.xor_comm a c, BitVec.xor_comm d b] at e1
  rw [BitVec.xor_comm d b, BitVec.xor_comm a c] at e2
  rw [BitVec.xor_comm d b, BitVec.xor_comm a c] at e3
  rw [BitVec.xor_comm d b, BitVec.xor_comm a c] at e4
  have h4 : i % 4 = 0 ∨ i % 4 = 1 ∨ i % 4 = 2 ∨ i % 4 = 3 := by omega
  rcases h4 with h | h | h | h <;> rw [h]
  · exact e1.symm
  · show tms 9 a ^^^ tms 14 b ^^^ tms 11 c ^^^ tms 13 d = _
    rw [xrot]; exact e2.symm
  · show tms 13 a ^^^ tms 9 b ^^^ tms 14 c ^^^ tms 11 d = _
    rw [xrot, xrot]; exact e3.symm
  · show tms 11 a ^^^ tms 13 b ^^^ tms 9 c ^^^ tms 14 d = _
    rw [xrot, xrot, xrot]; exact e4.symm
theorem turnI_1 : ∀ i, i < 16 → (i + 4 * (i % 4)) % 16 = turnI 1 i := by decide +kernel
/-- All boxes, in order. -/
def bxL : List (BitVec 8) := tab 256 fun i => bx (BitVec.ofNat 8 i)
theorem bxL_len : bxL.length = 256 := tab_len _ _
theorem bxL_get (x : BitVec 8) : bxL.getD x.toNat 0 = bx x := by
  rw [bxL, tab_get _ x.isLt, BitVec.ofNat_toNat, BitVec.setWidth_eq]
end Go.Proofs.YtobpgolchlgpfaaDoor
namespace Go.Proofs.YtobpgolchlgpfaaDoor
open Go.RowKit
set_option maxRecDepth 20000

theorem tab_succ (k : Nat) (f : Nat → BitVec 8) : tab (k + 1) f = tab k f ++ [f k] := by simp [tab, List.range_succ]
/-- A slice that holds something: where it lies, and what is read of it from now on. -/
theorem Sl.rd {v : Value} {l : List (BitVec 8)} {w : World} (h : Sl v l w) (hn : 0 < l.length) : ∃ g f c, v = .slice (some ⟨g, f, none⟩) l.length c ∧ ∀ V, Below w.heap.size w V → ∀ i, i < l.length → V.cell? ⟨g, f + i, none⟩ = some (b8 (l.getD i 0)) := by
  obtain ⟨g, f, c, e, hg, hr⟩ := h.adr hn
  exact ⟨g, f, c, e, fun V hV i hi => rangeAt_below hr hg hV _ _ (get_map b8 0 hi)⟩
set_option maxRecDepth 20000 in
set_option maxHeartbeats 2000000 in
theorem boxes_any (w : World) : Calls Tryd.prog 33 #[] w fun e w' => ∃ v', e = .returned v' ∧ S5 w v' bxL w' := by
  obtain ⟨f, hf⟩ : ∃ f : Nat → BitVec 8, f = fun i => bx (BitVec.ofNat 8 i) := ⟨_, rfl⟩
  have EF : Hid (∀ i, bx (BitVec.ofNat 8 i) = f i) := Lib.hid fun i => by rw [hf]
  have EX : Hid (bxL = tab 256 f) := Lib.hid (by rw [hf]; rfl)
  clear hf
  have hI : Hid (S5 w (.slice none 0 0) (tab 0 f) w) := Lib.hid (S5.none w)
  go_enter Tryd.func33, Tryd.ntmps33
  go_upto_region 1 with fail; refine wp_region_lit ?_
  refine wpList_val (run_asg (v := .slice none 0 0) rfl rfl) rfl ?_; (try simp only [Act.put, List.setIfInBounds_toArray, List.set_cons_zero, List.set_cons_succ])
  refine wpList_end ?_
  go_wp2_with fail
  go_loopw [1, 2] (fun s1 s2 u => ∃ k : Nat, k ≤ 256 ∧ s2 = .int .i64 (k : Int) ∧ S5 w s1 (tab k f) u) (fun _ s _ => (256 - intOf s).toNat)
  case atStart => exact ⟨0, by omega, rfl, hI.out⟩
  case round =>
    obtain ⟨k, hk, rfl, hJ⟩ := hrel
    replace hI := Lib.hid hJ
    clear hJ
    have htl := tab_len k f
    by_cases hlt : k = 256
    · subst hlt
      have hk1 : ¬ (((256 : Nat) : Int) < 256) := by omega
      generalize tab 256 f = r at *
      go_upto_region 6 with fail; refine wp_region_lit ?_
      refine wpList_val (run_mv (v := u1) rfl rfl) rfl ?_; (try simp only [Act.put, List.setIfInBounds_toArray, List.set_cons_zero, List.set_cons_succ])
      refine wpList_val (run_asg (v := u1) rfl rfl) rfl ?_; (try simp only [Act.put, List.setIfInBounds_toArray, List.set_cons_zero])
      refine wpList_end ?_
      go_wp2_with fail
      refine bodyPost_ret (results_tmp Tryd.results33 _ _ _) rfl ⟨_, rfl, ?_⟩
      rw [EX.out]; exact hI.out
    · have hk1 : (k : Int) < 256 := by omega
      have HT := Lib.hid (tab_succ k f)
      generalize tab k f = T at *
      go_upto_region 5 with fail; refine wp_region_lit ?_
      refine wpList_val (run_mv (v := u1) rfl rfl) rfl ?_; (try simp only [Act.put, List.setIfInBounds_toArray, List.set_cons_zero, List.set_cons_succ])
      refine wpList_val (run_mv (v := .int _ _) rfl rfl) rfl ?_; (try simp only [Act.put, List.setIfInBounds_toArray, List.set_cons_zero, List.set_cons_succ])
      refine wpList_val (run_cvi_8 rfl rfl) rfl ?_; (try simp only [Act.put, List.setIfInBounds_toArray, List.set_cons_zero, List.set_cons_succ])
      refine wpList_still (run_call1 enters_rbox rfl rfl rfl) rfl (rbox_any _ _) ?_; (try simp only [Act.put, List.setIfInBounds_toArray, List.set_cons_zero, List.set_cons_succ])
      rw [rbx_eq, EF.out]
      generalize f k = x at *
      refine wpList_val (run_bsl (cells := #[b8 (x)]) (z := .int .u8 0) rfl Tryd.underlying30 (by kernel_rfl) (by omega) (by omega) (by kernel_rfl)) rfl ?_; (try simp only [Act.put, List.setIfInBounds_toArray, List.set_cons_zero, List.set_cons_succ]); have hb2 : Below wr.heap.size wr (wr.alloc (.cells #[b8 (x)] 5)) := (Below.refl _ _).alloc (Nat.le_refl _) _; have A2 : Hid (Arr wr.heap.size ([x].map b8) (wr.alloc (.cells #[b8 (x)] 5))) := Lib.hid (Arr.new wr _ _); replace hI := Lib.hid (hI.out.below hb2); clear hb2; generalize wr.alloc (.cells #[b8 (x)] 5) = ua at *; refine wpList_app (f := b8) (fun _ => rfl) (l := T) (m := [x]) (bw := 1) (z := .int .u8 0) rfl rfl Tryd.underlying30 (by kernel_rfl) rfl (by omega) rfl hI.out.O rfl A2.out.range (by show T.length + 1 ≤ _; omega) hI.out.bl.size (fun v2 c2 h3 hb3 => ?_); (try simp only [Act.put, List.setIfInBounds_toArray, List.set_cons_zero, List.set_cons_succ]); replace hI : Hid (S5 _ v2 (T ++ [x]) c2) := Lib.hid ⟨hI.out.bl.trans hb3, by rw [List.length_append]; exact h3⟩; clear h3 hb3 A2; clear ua; refine wpList_val (run_asg (v := v2) rfl rfl) rfl ?_; (try simp only [Act.put, List.setIfInBounds_toArray, List.set_cons_zero, List.set_cons_succ]); refine wpList_end ?_
      rw [← HT.out] at hI
      go_wp2_with fail
      go_roundw
      case rel => exact ⟨k + 1, by omega, by go_num, hI.out⟩
      case measure => simp [intOf]; omega
theorem enters_boxes : Enters 33 := enters_of Tryd.func33 (by kernel_rfl) rfl
set_option maxRecDepth 20000 in
set_option maxHeartbeats 2000000 in
theorem rof_any (b : List (BitVec 8)) (w : World) (hl : b.length = 16) : Calls Tryd.prog 36 #[.agg (b.map b8).toArray] w fun e w' => ∃ v', e = .returned v' ∧ S5 w v' b w' := by
  have hM := Lib.hid (Ms.nil w)
  obtain ⟨f, hf⟩ : ∃ f : Nat → BitVec 8, f = fun i => b.getD i 0 := ⟨_, rfl⟩
  have EF : Hid (∀ i, b.getD i 0 = f i) := Lib.hid fun i => by rw [hf]
  have EX : Hid (b = tab 16 f) := Lib.hid (by rw [hf, tab_self hl])
  clear hf
  go_enter Tryd.func36, Tryd.ntmps36
  go_upto_region 0 with fail; refine wp_region_lit ?_
  refine wpList_val (run_box rfl rfl) rfl ?_; (try simp only [Act.put, List.setIfInBounds_toArray, List.set_cons_zero, List.set_cons_succ]); replace hM := Lib.hid (hM.out.new (b) 23); generalize w.alloc (.cells ((b).map b8).toArray 23) = a1 at *; generalize w.heap.size = g1 at *
  refine wpList_val (run_asg (v := .slice none 0 0) rfl rfl) rfl ?_; (try simp only [Act.put, List.setIfInBounds_toArray, List.set_cons_zero, List.set_cons_succ])
  refine wpList_end ?_
  have hI : Hid (S5 a1 (.slice none 0 0) (tab 0 f) a1) := Lib.hid (S5.none a1)
  go_upto_region 1 with fail; refine wp_region_lit ?_
  refine wpList_val (run_asg (v := .slice none 0 0) rfl rfl) rfl ?_; (try simp only [Act.put, List.setIfInBounds_toArray, List.set_cons_zero, List.set_cons_succ])
  refine wpList_end ?_
  go_wp2_with fail
  go_loopw [3, 4] (fun s1 s2 u => ∃ k : Nat, k ≤ 16 ∧ s2 = .int .i64 (k : Int) ∧ S5 a1 s1 (tab k f) u) (fun _ s _ => (16 - intOf s).toNat)
  case atStart => exact ⟨0, by omega, rfl, hI.out⟩
  case round =>
    obtain ⟨k, hk, rfl, hJ⟩ := hrel
    replace hI := Lib.hid hJ
    clear hJ
    have htl := tab_len k f
    by_cases hlt : k = 16
    · subst hlt
      have hk1 : ¬ (((16 : Nat) : Int) < 16) := by omega
      generalize tab 16 f = r at *
      go_upto_region 6 with fail; refine wp_region_lit ?_
      refine wpList_val (run_mv (v := u3) rfl rfl) rfl ?_; (try simp only [Act.put, List.setIfInBounds_toArray, List.set_cons_zero, List.set_cons_succ])
      refine wpList_val (run_asg (v := u3) rfl rfl) rfl ?_; (try simp only [Act.put, List.setIfInBounds_toArray, List.set_cons_zero, List.set_cons_succ])
      refine wpList_end ?_
      go_wp2_with fail
      refine bodyPost_ret (results_tmp Tryd.results36 _ _ _) rfl ⟨_, rfl, ?_⟩
      rw [EX.out]; exact hI.out.mono hM.out.bl
    · have hk1 : (k : Int) < 16 := by omega
      have HT := Lib.hid (tab_succ k f)
      generalize tab k f = T at *
      have C1 := Lib.hid (((hM.out.below hI.out.bl).get (i := 0) rfl).get8 (i := k) (by omega))
      rw [EF.out] at C1
      generalize f k = x at *
      go_upto_region 5 with fail; refine wp_region_lit ?_
      refine wpList_val (run_mv (v := u3) rfl rfl) rfl ?_; (try simp only [Act.put, List.setIfInBounds_toArray, List.set_cons_zero, List.set_cons_succ])
      refine wpList_val (run_mv (v := .int _ _) rfl rfl) rfl ?_; (try simp only [Act.put, List.setIfInBounds_toArray, List.set_cons_zero, List.set_cons_succ])
      refine wpList_val (run_ix0 rfl Tryd.underlying23 (by kernel_rfl) rfl rfl (by omega)) rfl ?_; (try simp only [Act.put, List.setIfInBounds_toArray, List.set_cons_zero, List.set_cons_succ])
      refine wpList_val (run_ld8 rfl rfl C1.out) rfl ?_; (try simp only [Act.put, List.setIfInBounds_toArray, List.set_cons_zero, List.set_cons_succ])
      refine wpList_val (run_bsl (cells := #[b8 (x)]) (z := .int .u8 0) rfl Tryd.underlying30 (by kernel_rfl) (by omega) (by omega) (by kernel_rfl)) rfl ?_; (try simp only [Act.put, List.setIfInBounds_toArray, List.set_cons_zero, List.set_cons_succ]); have hb2 : Below wr.heap.size wr (wr.alloc (.cells #[b8 (x)] 5)) := (Below.refl _ _).alloc (Nat.le_refl _) _; have A2 : Hid (Arr wr.heap.size ([x].map b8) (wr.alloc (.cells #[b8 (x)] 5))) := Lib.hid (Arr.new wr _ _); replace hI := Lib.hid (hI.out.below hb2); clear hb2; generalize wr.alloc (.cells #[b8 (x)] 5) = ua at *; refine wpList_app (f := b8) (fun _ => rfl) (l := T) (m := [x]) (bw := 1) (z := .int .u8 0) rfl rfl Tryd.underlying30 (by kernel_rfl) rfl (by omega) rfl hI.out.O rfl A2.out.range (by show T.length + 1 ≤ _; omega) hI.out.bl.size (fun v2 c2 h3 hb3 => ?_); (try simp only [Act.put, List.setIfInBounds_toArray, List.set_cons_zero, List.set_cons_succ]); replace hI : Hid (S5 _ v2 (T ++ [x]) c2) := Lib.hid ⟨hI.out.bl.trans hb3, by rw [List.length_append]; exact h3⟩; clear h3 hb3 A2; clear ua; refine wpList_val (run_asg (v := v2) rfl rfl) rfl ?_; (try simp only [Act.put, List.setIfInBounds_toArray, List.set_cons_zero, List.set_cons_succ]); refine wpList_end ?_
      rw [← HT.out] at hI
      go_wp2_with fail
      go_roundw
      case rel => exact ⟨k + 1, by omega, by go_num, hI.out⟩
      case measure => simp [intOf]; omega
theorem enters_rof : Enters 36 := enters_of Tryd.func36 (by kernel_rfl) rfl
set_option maxRecDepth 20000 in
set_option maxHeartbeats 2000000 in
theorem xored_any (v : Value) (s : List (BitVec 8)) (vw : Value) (W : List (BitVec 8)) (r : Nat) (w : World) (hv : Sl v s w) (hl : s.length = 16) (hw : Sl vw W w) (hW : W.length = 240) (hr : r < 15) : Calls Tryd.prog 54 #[v, vw, .int .i64 (r : Int)] w fun e w' => ∃ v', e = .returned v' ∧ S5 w v' (xorB s (rkey W r)) w' := by
  obtain ⟨g, o, c, rfl, hrd⟩ := hv.rd (by omega)
  have HR := Lib.hid hrd
  obtain ⟨g', o', c', rfl, hrd'⟩ := hw.rd (by omega)
  have HR' := Lib.hid hrd'
  clear hrd hv hrd' hw
  obtain ⟨f, hf⟩ : ∃ f : Nat → BitVec 8, f = fun i => s.getD i 0 ^^^ W.getD (16 * r + i) 0 := ⟨_, rfl⟩
  have EF : Hid (∀ i, s.getD i 0 ^^^ W.getD (16 * r + i) 0 = f i) := Lib.hid fun i => by rw [hf]
  have EX : Hid (xorB s (rkey W r) = tab 16 f) := Lib.hid (by
    rw [hf]; exact tab_congr fun i hi => by rw [rkey, tab_get _ hi])
  clear hf
  have hI : Hid (S5 w (.slice none 0 0) (tab 0 f) w) := Lib.hid (S5.none w)
  go_enter Tryd.func54, Tryd.ntmps54
  go_upto_region 1 with fail; refine wp_region_lit ?_
  refine wpList_val (run_asg (v := .slice none 0 0) rfl rfl) rfl ?_; (try simp only [Act.put, List.setIfInBounds_toArray, List.set_cons_zero, List.set_cons_succ])
  refine wpList_end ?_
  go_wp2_with fail
  go_loopw [7, 8] (fun s1 s2 u => ∃ k : Nat, k ≤ 16 ∧ s2 = .int .i64 (k : Int) ∧ S5 w s1 (tab k f) u) (fun _ z _ => (16 - intOf z).toNat)
  case atStart => exact ⟨0, by omega, rfl, hI.out⟩
  case round =>
    obtain ⟨k, hk, rfl, hJ⟩ := hrel
    replace hI := Lib.hid hJ
    clear hJ
    have htl := tab_len k f
    by_cases hlt : k = 16
    · subst hlt
      have hk1 : ¬ (((16 : Nat) : Int) < 16) := by omega
      generalize tab 16 f = q at *
      go_upto_region 6 with fail; refine wp_region_lit ?_
      refine wpList_val (run_mv (v := u7) rfl rfl) rfl ?_; (try simp only [Act.put, List.setIfInBounds_toArray, List.set_cons_zero, List.set_cons_succ])
      refine wpList_val (run_asg (v := u7) rfl rfl) rfl ?_; (try simp only [Act.put, List.setIfInBounds_toArray, List.set_cons_zero, List.set_cons_succ])
      refine wpList_end ?_
      go_wp2_with fail
      refine bodyPost_ret (results_tmp Tryd.results54 _ _ _) rfl ⟨_, rfl, ?_⟩
      rw [EX.out]; exact hI.out
    · have hk1 : (k : Int) < 16 := by omega
      have HT := Lib.hid (tab_succ k f)
      have EJ := Lib.hid (EF.out k)
      generalize tab k f = T at *
      generalize f k = x at *
      have C1 : Hid (∀ V, Below wr.heap.size wr V → V.cell? ⟨g, o + k, none⟩ = some (b8 (s.getD k 0))) := Lib.hid fun V hV => HR.out V (hI.out.below hV).bl k (by omega)
      have C2 : Hid (∀ V, Below wr.heap.size wr V → V.cell? ⟨g', o' + (16 * r + k), none⟩ = some (b8 (W.getD (16 * r + k) 0))) := Lib.hid fun V hV => HR'.out V (hI.out.below hV).bl (16 * r + k) (by omega)
      go_upto_region 5 with fail
      refine wp_region_noPanic ?_; refine wp_region_late (S := Till 14 (fun V => Below wr.heap.size wr V)) (by kernel_rfl) (.inr (Below.refl _ _).drew) (fun _ => ?_); have hS : Below wr.heap.size wr wr.drew := (Below.refl _ _).drew
      generalize wr.drew = c1 at *
      refine wpAnyD_take 0 rfl rfl (by kernel_rfl) (by kernel_rfl) (by kernel_rfl) (by kernel_rfl) (by kernel_rfl) (fun _ _ _ h => h) rfl (fun V hV => run_mv (v := u7) rfl rfl) hS ?_; (try simp only [Act.put, List.setIfInBounds_toArray, List.set_cons_zero, List.set_cons_succ])
      refine wpAnyD_take 1 rfl rfl (by kernel_rfl) (by kernel_rfl) (by kernel_rfl) (by kernel_rfl) (by kernel_rfl) (fun _ _ _ h => h) rfl (fun V hV => run_mv (v := .slice (some _) _ _) rfl rfl) hS ?_; (try simp only [Act.put, List.setIfInBounds_toArray, List.set_cons_zero, List.set_cons_succ])
      refine wpAnyD_take 2 rfl rfl (by kernel_rfl) (by kernel_rfl) (by kernel_rfl) (by kernel_rfl) (by kernel_rfl) (fun _ _ _ h => h) rfl (fun V hV => run_mv (v := .int _ _) rfl rfl) hS ?_; (try simp only [Act.put, List.setIfInBounds_toArray, List.set_cons_zero, List.set_cons_succ])
      refine wpAnyD_take 3 rfl rfl (by kernel_rfl) (by kernel_rfl) (by kernel_rfl) (by kernel_rfl) (by kernel_rfl) (fun _ _ _ h => h) rfl (fun V hV => run_ixs rfl Tryd.underlying30 (by kernel_rfl) rfl rfl (by omega)) hS ?_; (try simp only [Act.put, List.setIfInBounds_toArray, List.set_cons_zero, List.set_cons_succ])
      refine wpAnyD_take 4 rfl rfl (by kernel_rfl) (by kernel_rfl) (by kernel_rfl) (by kernel_rfl) (by kernel_rfl) (fun _ _ _ h => h) rfl (fun V hV => run_ld8 rfl rfl (C1.out V hV)) hS ?_; (try simp only [Act.put, List.setIfInBounds_toArray, List.set_cons_zero, List.set_cons_succ])
      refine wpAnyD_take 5 rfl rfl (by kernel_rfl) (by kernel_rfl) (by kernel_rfl) (by kernel_rfl) (by kernel_rfl) (fun _ _ _ h => h) rfl (fun V hV => run_mv (v := .slice (some _) _ _) rfl rfl) hS ?_; (try simp only [Act.put, List.setIfInBounds_toArray, List.set_cons_zero, List.set_cons_succ])
      refine wpAnyD_take 6 rfl rfl (by kernel_rfl) (by kernel_rfl) (by kernel_rfl) (by kernel_rfl) (by kernel_rfl) (fun _ _ _ h => h) rfl (fun V hV => run_mv (v := .int _ _) rfl rfl) hS ?_; (try simp only [Act.put, List.setIfInBounds_toArray, List.set_cons_zero, List.set_cons_succ])
      refine wpAnyD_take 7 rfl rfl (by kernel_rfl) (by kernel_rfl) (by kernel_rfl) (by kernel_rfl) (by kernel_rfl) (fun _ _ _ h => h) rfl (fun V hV => run_mulN (a := 16) rfl rfl rfl (by omega)) hS ?_; (try simp only [Act.put, List.setIfInBounds_toArray, List.set_cons_zero, List.set_cons_succ])
      refine wpAnyD_take 8 rfl rfl (by kernel_rfl) (by kernel_rfl) (by kernel_rfl) (by kernel_rfl) (by kernel_rfl) (fun _ _ _ h => h) rfl (fun V hV => run_mv (v := .int _ _) rfl rfl) hS ?_; (try simp only [Act.put, List.setIfInBounds_toArray, List.set_cons_zero, List.set_cons_succ])
      refine wpAnyD_take 9 rfl rfl (by kernel_rfl) (by kernel_rfl) (by kernel_rfl) (by kernel_rfl) (by kernel_rfl) (fun _ _ _ h => h) rfl (fun V hV => run_addN rfl rfl rfl (by omega)) hS ?_; (try simp only [Act.put, List.setIfInBounds_toArray, List.set_cons_zero, List.set_cons_succ])
      refine wpAnyD_take 10 rfl rfl (by kernel_rfl) (by kernel_rfl) (by kernel_rfl) (by kernel_rfl) (by kernel_rfl) (fun _ _ _ h => h) rfl (fun V hV => run_ixs rfl Tryd.underlying30 (by kernel_rfl) rfl rfl (by omega)) hS ?_; (try simp only [Act.put, List.setIfInBounds_toArray, List.set_cons_zero, List.set_cons_succ])
      refine wpAnyD_take 11 rfl rfl (by kernel_rfl) (by kernel_rfl) (by kernel_rfl) (by kernel_rfl) (by kernel_rfl) (fun _ _ _ h => h) rfl (fun V hV => run_ld8 rfl rfl (C2.out V hV)) hS ?_; (try simp only [Act.put, List.setIfInBounds_toArray, List.set_cons_zero, List.set_cons_succ])
      refine wpAnyD_take 12 rfl rfl (by kernel_rfl) (by kernel_rfl) (by kernel_rfl) (by kernel_rfl) (by kernel_rfl) (fun _ _ _ h => h) rfl (fun V hV => run_xor8 rfl rfl rfl) hS ?_; (try simp only [Act.put, List.setIfInBounds_toArray, List.set_cons_zero, List.set_cons_succ])
      rw [EJ.out]
      clear C1 C2
      refine wpAnyD_val 13 (by kernel_rfl) rfl rfl rfl (run_bsl (cells := #[b8 (x)]) (z := .int .u8 0) rfl Tryd.underlying30 (by kernel_rfl) (by omega) (by omega) (by kernel_rfl)) (.inr (hS.alloc hS.size _)) ?_; (try simp only [Act.put, List.setIfInBounds_toArray, List.set_cons_zero, List.set_cons_succ]); replace hI := Lib.hid (hI.out.below hS); have hb2 : Below c1.heap.size c1 (c1.alloc (.cells #[b8 (x)] 5)) := (Below.refl _ _).alloc (Nat.le_refl _) _; have A2 : Hid (Arr c1.heap.size ([x].map b8) (c1.alloc (.cells #[b8 (x)] 5))) := Lib.hid (Arr.new c1 _ _); replace hI := Lib.hid (hI.out.below hb2); clear hb2 hS; generalize c1.alloc (.cells #[b8 (x)] 5) = ua at *; refine wpAnyD_app (f := b8) (fun _ => rfl) (l := T) (m := [x]) (bw := 1) (z := .int .u8 0) 14 (by kernel_rfl) rfl rfl rfl rfl rfl Tryd.underlying30 (by kernel_rfl) rfl (by omega) rfl hI.out.O rfl A2.out.range (by show T.length + 1 ≤ _; omega) hI.out.bl.size (fun v2 c2 h3 hb3 => ?_); (try simp only [Act.put, List.setIfInBounds_toArray, List.set_cons_zero, List.set_cons_succ]); replace hI : Hid (S5 _ v2 (T ++ [x]) c2) := Lib.hid ⟨hI.out.bl.trans hb3, by rw [List.length_append]; exact h3⟩; clear h3 hb3 A2; clear ua; refine wpAnyD_val 15 (by kernel_rfl) rfl rfl rfl (run_asg (v := v2) rfl rfl) (.inl rfl) ?_; (try simp only [Act.put, List.setIfInBounds_toArray, List.set_cons_zero, List.set_cons_succ]); refine wpAnyL_done (by kernel_rfl) ?_ _; refine NoPanic.normal ?_
      rw [← HT.out] at hI
      go_wp2_with fail
      go_roundw
      case rel => exact ⟨k + 1, by omega, by go_num, hI.out⟩
      case measure => simp [intOf]; omega
theorem enters_xored : Enters 54 := enters_of Tryd.func54 (by kernel_rfl) rfl
set_option maxRecDepth 20000 in
set_option maxHeartbeats 4000000 in
theorem mixed_any (v : Value) (s : List (BitVec 8)) (vb : Value) (B : List (BitVec 8)) (w : World) (hv : Sl v s w) (hl : s.length = 16) (hb : Sl vb B w) (hB : B.length = 4) : Calls Tryd.prog 55 #[v, vb] w fun e w' => ∃ v', e = .returned v' ∧ S5 w v' (mxB B s) w' := by
  obtain ⟨g, o, c, rfl, hrd⟩ := hv.rd (by omega)
  have HR := Lib.hid hrd
  obtain ⟨g', o', c', rfl, hrd'⟩ := hb.rd (by omega)
  have HR' := Lib.hid hrd'
  clear hrd hv hrd' hb
  obtain ⟨q, hq⟩ : ∃ q : Nat → Nat → BitVec 8, q = mxI B s := ⟨_, rfl⟩
  have E0 : Hid (∀ i, 0 = q i 0) := Lib.hid fun i => by rw [hq]; rfl
  have EQ : Hid (∀ i k, q i (k + 1) = q i k ^^^ tms (B.getD ((k + 4 - i % 4) % 4) 0) (s.getD (i / 4 * 4 + k) 0)) := Lib.hid fun i k => by rw [hq]; rfl
  obtain ⟨f, hf⟩ : ∃ f : Nat → BitVec 8, f = fun i => q i 4 := ⟨_, rfl⟩
  have EF : Hid (∀ i, q i 4 = f i) := Lib.hid fun i => by rw [hf]
  have EX : Hid (mxB B s = tab 16 f) := Lib.hid (by rw [hf, hq]; rfl)
  clear hf hq
  have hI : Hid (S5 w (.slice none 0 0) (tab 0 f) w) := Lib.hid (S5.none w)
  go_enter Tryd.func55, Tryd.ntmps55
  go_upto_region 1 with fail; refine wp_region_lit ?_
  refine wpList_val (run_asg (v := .slice none 0 0) rfl rfl) rfl ?_; (try simp only [Act.put, List.setIfInBounds_toArray, List.set_cons_zero, List.set_cons_succ])
  refine wpList_end ?_
  go_wp2_with fail
  go_loopw [5, 6] (fun s1 s2 u => ∃ k : Nat, k ≤ 16 ∧ s2 = .int .i64 (k : Int) ∧ S5 w s1 (tab k f) u) (fun _ z _ => (16 - intOf z).toNat)
  case atStart => exact ⟨0, by omega, rfl, hI.out⟩
  case round =>
    obtain ⟨i, hi, rfl, hJ⟩ := hrel
    replace hI := Lib.hid hJ
    clear hJ
    have htl := tab_len i f
    by_cases hlt : i = 16
    · subst hlt
      have hk1 : ¬ (((16 : Nat) : Int) < 16) := by omega
      generalize tab 16 f = r at *
      go_upto_region 11 with fail; refine wp_region_lit ?_
      refine wpList_val (run_mv (v := u5) rfl rfl) rfl ?_; (try simp only [Act.put, List.setIfInBounds_toArray, List.set_cons_zero, List.set_cons_succ])
      refine wpList_val (run_asg (v := u5) rfl rfl) rfl ?_; (try simp only [Act.put, List.setIfInBounds_toArray, List.set_cons_zero, List.set_cons_succ])
      refine wpList_end ?_
      go_wp2_with fail
      refine bodyPost_ret (results_tmp Tryd.results55 _ _ _) rfl ⟨_, rfl, ?_⟩
      rw [EX.out]; exact hI.out
    · have hk1 : (i : Int) < 16 := by omega
      have HT := Lib.hid (tab_succ i f)
      have EJ := Lib.hid (EF.out i)
      have EK := Lib.hid (EQ.out i)
      generalize tab i f = T at *
      generalize f i = x at *
      go_upto_region 5 with fail; refine wp_region_lit ?_
      refine wpList_val (run_asg (v := b8 0) rfl rfl) rfl ?_; (try simp only [Act.put, List.setIfInBounds_toArray, List.set_cons_zero, List.set_cons_succ])
      rw [E0.out i]
      generalize q i = p at *
      refine wpList_end ?_
      generalize hvv : u5 = vv at *
      clear hvv
      go_wp2_with fail
      go_loopw [7, 8] (fun s7 s8 u => ∃ k : Nat, k ≤ 4 ∧ s8 = .int .i64 (k : Int) ∧ s7 = b8 (p k) ∧ S5 w vv T u) (fun _ z _ => (4 - intOf z).toNat)
      case atStart => exact ⟨0, by omega, rfl, rfl, hI.out⟩
      case round =>
        obtain ⟨k, hk, rfl, rfl, hJ⟩ := hrel
        replace hI := Lib.hid hJ
        clear hJ
        by_cases hk4 : k = 4
        · subst hk4
          have hk2 : ¬ (((4 : Nat) : Int) < 4) := by omega
          rw [EJ.out]
          go_upto_region 10 with fail; refine wp_region_lit ?_
          refine wpList_val (run_mv (v := vv) rfl rfl) rfl ?_; (try simp only [Act.put, List.setIfInBounds_toArray, List.set_cons_zero, List.set_cons_succ])
          refine wpList_val (run_mv (v := b8 _) rfl rfl) rfl ?_; (try simp only [Act.put, List.setIfInBounds_toArray, List.set_cons_zero, List.set_cons_succ])
          refine wpList_val (run_bsl (cells := #[b8 (x)]) (z := .int .u8 0) rfl Tryd.underlying30 (by kernel_rfl) (by omega) (by omega) (by kernel_rfl)) rfl ?_; (try simp only [Act.put, List.setIfInBounds_toArray, List.set_cons_zero, List.set_cons_succ]); have hb2 : Below wr.heap.size wr (wr.alloc (.cells #[b8 (x)] 5)) := (Below.refl _ _).alloc (Nat.le_refl _) _; have A2 : Hid (Arr wr.heap.size ([x].map b8) (wr.alloc (.cells #[b8 (x)] 5))) := Lib.hid (Arr.new wr _ _); replace hI := Lib.hid (hI.out.below hb2); clear hb2; generalize wr.alloc (.cells #[b8 (x)] 5) = ua at *; refine wpList_app (f := b8) (fun _ => rfl) (l := T) (m := [x]) (bw := 1) (z := .int .u8 0) rfl rfl Tryd.underlying30 (by kernel_rfl) rfl (by omega) rfl hI.out.O rfl A2.out.range (by show T.length + 1 ≤ _; omega) hI.out.bl.size (fun v2 c2 h3 hb3 => ?_); (try simp only [Act.put, List.setIfInBounds_toArray, List.set_cons_zero, List.set_cons_succ]); replace hI : Hid (S5 _ v2 (T ++ [x]) c2) := Lib.hid ⟨hI.out.bl.trans hb3, by rw [List.length_append]; exact h3⟩; clear h3 hb3 A2; clear ua; refine wpList_val (run_asg (v := v2) rfl rfl) rfl ?_; (try simp only [Act.put, List.setIfInBounds_toArray, List.set_cons_zero, List.set_cons_succ]); refine wpList_end ?_
          rw [← HT.out] at hI
          go_wp2_with fail
          go_roundw
          case rel => exact ⟨i + 1, by omega, by go_num, hI.out⟩
          case measure => simp [intOf]; omega
        · have hk2 : (k : Int) < 4 := by omega
          have C1 : Hid (∀ V, Below wr.heap.size wr V → V.cell? ⟨g', o' + (k + 4 - i % 4) % 4, none⟩ = some (b8 (B.getD ((k + 4 - i % 4) % 4) 0))) := Lib.hid fun V hV => HR'.out V (hI.out.below hV).bl _ (by omega)
          have C2 : Hid (∀ V, Below wr.heap.size wr V → V.cell? ⟨g, o + (i / 4 * 4 + k), none⟩ = some (b8 (s.getD (i / 4 * 4 + k) 0))) := Lib.hid fun V hV => HR.out V (hI.out.below hV).bl _ (by omega)
          have EK2 := Lib.hid (EK.out k)
          go_upto_region 9 with fail; refine wp_region_calm 20 (by kernel_rfl) (by kernel_rfl) ?_
          refine wpCalm_step _ (fun V hV => calm_run (run_mv (v := b8 _) rfl rfl)) ?_; (try simp only [Act.put, List.setIfInBounds_toArray, List.set_cons_zero, List.set_cons_succ]); refine wpCalm_step _ (fun V hV => calm_run (run_mv (v := .slice (some _) _ _) rfl rfl)) ?_; (try simp only [Act.put, List.setIfInBounds_toArray, List.set_cons_zero, List.set_cons_succ]); refine wpCalm_step _ (fun V hV => calm_run (run_mv (v := .int _ _) rfl rfl)) ?_; (try simp only [Act.put, List.setIfInBounds_toArray, List.set_cons_zero, List.set_cons_succ])
          refine wpCalm_step _ (fun V hV => calm_run (run_addN (b := 4) rfl rfl rfl (by omega))) ?_; (try simp only [Act.put, List.setIfInBounds_toArray, List.set_cons_zero, List.set_cons_succ])
          refine wpCalm_step _ (fun V hV => calm_run (run_mv (v := .int _ _) rfl rfl)) ?_; (try simp only [Act.put, List.setIfInBounds_toArray, List.set_cons_zero, List.set_cons_succ])
          refine wpCalm_step _ (fun V hV => calm_run (run_remN (b := 4) rfl rfl rfl (by omega))) ?_; (try simp only [Act.put, List.setIfInBounds_toArray, List.set_cons_zero, List.set_cons_succ])
          refine wpCalm_step _ (fun V hV => calm_run (run_subN rfl rfl rfl (by omega) (by omega))) ?_; (try simp only [Act.put, List.setIfInBounds_toArray, List.set_cons_zero, List.set_cons_succ])
          refine wpCalm_step _ (fun V hV => calm_run (run_remN (b := 4) rfl rfl rfl (by omega))) ?_; (try simp only [Act.put, List.setIfInBounds_toArray, List.set_cons_zero, List.set_cons_succ])
          refine wpCalm_step _ (fun V hV => calm_run (run_ixs rfl Tryd.underlying30 (by kernel_rfl) rfl rfl (by omega))) ?_; (try simp only [Act.put, List.setIfInBounds_toArray, List.set_cons_zero, List.set_cons_succ])
          refine wpCalm_step _ (fun V hV => calm_run (run_ld8 rfl rfl (C1.out V hV))) ?_; (try simp only [Act.put, List.setIfInBounds_toArray, List.set_cons_zero, List.set_cons_succ])
          refine wpCalm_step _ (fun V hV => calm_run (run_mv (v := .slice (some _) _ _) rfl rfl)) ?_; (try simp only [Act.put, List.setIfInBounds_toArray, List.set_cons_zero, List.set_cons_succ]); refine wpCalm_step _ (fun V hV => calm_run (run_mv (v := .int _ _) rfl rfl)) ?_; (try simp only [Act.put, List.setIfInBounds_toArray, List.set_cons_zero, List.set_cons_succ])
          refine wpCalm_step _ (fun V hV => calm_run (run_quoN (b := 4) rfl rfl rfl (by omega) (by omega))) ?_; (try simp only [Act.put, List.setIfInBounds_toArray, List.set_cons_zero, List.set_cons_succ])
          refine wpCalm_step _ (fun V hV => calm_run (run_mulN (b := 4) rfl rfl rfl (by omega))) ?_; (try simp only [Act.put, List.setIfInBounds_toArray, List.set_cons_zero, List.set_cons_succ])
          refine wpCalm_step _ (fun V hV => calm_run (run_mv (v := .int _ _) rfl rfl)) ?_; (try simp only [Act.put, List.setIfInBounds_toArray, List.set_cons_zero, List.set_cons_succ])
          refine wpCalm_step _ (fun V hV => calm_run (run_addN rfl rfl rfl (by omega))) ?_; (try simp only [Act.put, List.setIfInBounds_toArray, List.set_cons_zero, List.set_cons_succ])
          refine wpCalm_step _ (fun V hV => calm_run (run_ixs rfl Tryd.underlying30 (by kernel_rfl) rfl rfl (by omega))) ?_; (try simp only [Act.put, List.setIfInBounds_toArray, List.set_cons_zero, List.set_cons_succ])
          refine wpCalm_step _ (fun V hV => calm_run (run_ld8 rfl rfl (C2.out V hV))) ?_; (try simp only [Act.put, List.setIfInBounds_toArray, List.set_cons_zero, List.set_cons_succ])
          refine wpCalm_step _ (fun V hV => calm_still (run_call2 enters_times rfl rfl rfl rfl) (times_any _ _ V)) ?_; (try simp only [Act.put, List.setIfInBounds_toArray, List.set_cons_zero, List.set_cons_succ])
          refine wpCalm_step _ (fun V hV => calm_run (run_xor8 rfl rfl rfl)) ?_; (try simp only [Act.put, List.setIfInBounds_toArray, List.set_cons_zero, List.set_cons_succ])
          refine wpCalm_done ?_; intro c1 hb; simp only [List.drop_succ_cons, List.drop_zero]
          replace hI := Lib.hid (hI.out.below hb)
          clear hb C1 C2
          rw [← EK2.out]
          refine wpList_val (run_asg (v := b8 _) rfl rfl) rfl ?_; (try simp only [Act.put, List.setIfInBounds_toArray, List.set_cons_zero, List.set_cons_succ])
          refine wpList_end ?_
          go_wp2_with fail
          go_roundw
          case rel => exact ⟨k + 1, by omega, by go_num, rfl, hI.out⟩
          case measure => simp [intOf]; omega
theorem enters_mixed : Enters 55 := enters_of Tryd.func55 (by kernel_rfl) rfl
end Go.Proofs.YtobpgolchlgpfaaDoor
namespace Go.Proofs.YtobpgolchlgpfaaDoor
open Go.RowKit
set_option maxRecDepth 20000

/-- A slice of four bytes, written down. -/
theorem sl_four (u : World) (a b c d : BitVec 8) (t : TypeId) : Sl (.slice (some ⟨u.heap.size, 0, none⟩) 4 4) [a, b, c, d] (u.alloc (.cells #[b8 a, b8 b, b8 c, b8 d] t)) :=
  Sl.arr (l := [a, b, c, d]) (Arr.new u ([a, b, c, d].map b8) t) (c := 4) (Nat.le_refl _)
theorem list4 {t : List (BitVec 8)} (h : t.length = 4) : t = [t.getD 0 0, t.getD 1 0, t.getD 2 0, t.getD 3 0] := by
  obtain ⟨a, b, c, d, rfl⟩ := four h; rfl
/-- What grows, and four bytes beside it. -/
structure ExI (r : World) (v : Value) (l : List (BitVec 8)) (g : Nat) (t : List (BitVec 8)) (u : World) : Prop where
  I : S5 r v l u
  A : Arr g (t.map b8) u
  ne : v.ownBlock ≠ some g
theorem ExI.below {r u u' : World} {v : Value} {l t : List (BitVec 8)} {g : Nat} (i : ExI r v l g t u) (hb : Below u.heap.size u u') : ExI r v l g t u' := ⟨i.I.below hb, i.A.below hb, i.ne⟩
theorem ExI.new {r u : World} {v : Value} {l : List (BitVec 8)} (i : S5 r v l u) (t : List (BitVec 8)) (ty : TypeId) : ExI r v l u.heap.size t (u.alloc (.cells (t.map b8).toArray ty)) :=
  ⟨i.below ((Below.refl _ _).alloc (Nat.le_refl _) _), Arr.new8 _ _ _, fun h => absurd (i.O.lt _ h).2 (Nat.lt_irrefl _)⟩
def tA (x0 x1 x2 x3 : BitVec 8) (i : Nat) : List (BitVec 8) := if i % 8 = 0 then [bx x1 ^^^ (1 : BitVec 8) <<< ((i - 1) / 8), bx x2, bx x3, bx x0] else [x0, x1, x2, x3]
theorem tW_tA (x0 x1 x2 x3 : BitVec 8) (i : Nat) : tW [x0, x1, x2, x3] i = if i % 8 = 4 then [bx x0, bx x1, bx x2, bx x3] else tA x0 x1 x2 x3 i := by
  unfold tW tA
  by_cases h0 : i % 8 = 0
  · rw [if_pos h0, if_neg (by omega), if_pos h0, show (i - 1) / 8 = i / 8 - 1 by omega]; rfl
  · rw [if_neg h0, if_neg h0]; rfl
theorem tA_len (x0 x1 x2 x3 : BitVec 8) (i : Nat) : (tA x0 x1 x2 x3 i).length = 4 := by unfold tA; split <;> rfl
set_option maxRecDepth 20000 in
set_option maxHeartbeats 8000000 in
theorem expanded_any (vb : Value) (key : List (BitVec 8)) (w : World) (hb : Sl vb bxL w) (hK : key.length = 32) : Calls Tryd.prog 34 #[vb, .agg (key.map b8).toArray] w fun e w' => ∃ v', e = .returned v' ∧ S5 w v' (sched key) w' := by
  have hM := Lib.hid (Ms.nil w)
  obtain ⟨g, o, c, rfl, hrd⟩ := hb.rd (by rw [bxL_len]; omega)
  rw [bxL_len]
  have HR : Hid (∀ V L, Ms w L V → ∀ x : BitVec 8, V.cell? ⟨g, o + x.toNat, none⟩ = some (b8 (bx x))) := Lib.hid fun V _ h x => by
    rw [hrd V h.bl x.toNat (by rw [bxL_len]; exact x.isLt), bxL_get]
  clear hrd hb
  obtain ⟨f, hf⟩ : ∃ f : Nat → BitVec 8, f = kF key := ⟨_, rfl⟩
  have EK : Hid (∀ j, j < 32 → key.getD j 0 = f j) := Lib.hid fun j hj => by rw [hf]; exact (kF_key hK hj).symm
  have ES : Hid (∀ i k, 8 ≤ i → i < 60 → k < 4 → f (4 * i + k) = f (4 * i - 32 + k) ^^^ (tW (tab 4 fun m => f (4 * (i - 1) + m)) i).getD k 0) := Lib.hid fun i k h1 h2 h3 => by rw [hf]; exact kF_step hK h1 h2 h3
  have EA : Hid (sched key = tab 240 f) := Lib.hid (by rw [hf, kF_all hK])
  clear hf
  go_enter Tryd.func34, Tryd.ntmps34
  go_upto_region 0 with fail; refine wp_region_lit ?_
  refine wpList_val (run_box rfl rfl) rfl ?_; (try simp only [Act.put, List.setIfInBounds_toArray, List.set_cons_zero, List.set_cons_succ]); replace hM := Lib.hid (hM.out.new (key) 29); generalize w.alloc (.cells ((key).map b8).toArray 29) = a1 at *; generalize w.heap.size = g1 at *
  refine wpList_val (run_asg (v := .slice none 0 0) rfl rfl) rfl ?_; (try simp only [Act.put, List.setIfInBounds_toArray, List.set_cons_zero, List.set_cons_succ])
  refine wpList_end ?_
  have hI : Hid (S5 a1 (.slice none 0 0) (tab 0 f) a1) := Lib.hid (S5.none a1)
  go_upto_region 1 with fail; refine wp_region_lit ?_
  refine wpList_val (run_asg (v := .slice none 0 0) rfl rfl) rfl ?_; (try simp only [Act.put, List.setIfInBounds_toArray, List.set_cons_zero, List.set_cons_succ])
  refine wpList_end ?_
  go_wp2_with fail
  go_loopw [5, 6] (fun s1 s2 u => ∃ k : Nat, k ≤ 32 ∧ s2 = .int .i64 (k : Int) ∧ S5 a1 s1 (tab k f) u) (fun _ s _ => (32 - intOf s).toNat)
  case atStart => exact ⟨0, by omega, rfl, hI.out⟩
  case round =>
    obtain ⟨k, hk, rfl, hJ⟩ := hrel
    replace hI := Lib.hid hJ
    clear hJ
    have htl := tab_len k f
    by_cases hlt : k = 32
    · subst hlt
      have hk1 : ¬ (((32 : Nat) : Int) < 32) := by omega
      go_upto_region 6 with fail; refine wp_region_lit ?_
      refine wpList_val (run_asg (v := b8 1) rfl rfl) rfl ?_; (try simp only [Act.put, List.setIfInBounds_toArray, List.set_cons_zero, List.set_cons_succ])
      refine wpList_end ?_
      replace hI : Hid (S5 a1 u5 (tab (4 * 8) f) wr) := hI
      rw [show (1 : BitVec 8) = (1 : BitVec 8) <<< ((8 - 1) / 8) from rfl]
      go_upto_region 7 with fail
      clear hk1 hk htl
      generalize hvv : u5 = vv at *
      clear hvv
      go_wp2_with fail
      go_loopw [5, 7, 8] (fun s5 s7 s8 u => ∃ i : Nat, 8 ≤ i ∧ i ≤ 60 ∧ s8 = .int .i64 (i : Int) ∧ s7 = b8 ((1 : BitVec 8) <<< ((i - 1) / 8)) ∧ S5 a1 s5 (tab (4 * i) f) u) (fun _ _ s _ => (60 - intOf s).toNat)
      case atStart => exact ⟨8, by omega, by omega, rfl, rfl, hI.out⟩
      case round =>
        obtain ⟨i, h8, h60, rfl, rfl, hJ⟩ := hrel
        replace hI := Lib.hid hJ
        clear hJ
        have htl := tab_len (4 * i) f
        by_cases hlt : i = 60
        · subst hlt
          have hk1 : ¬ (((60 : Nat) : Int) < 60) := by omega
          rw [show 4 * 60 = 240 from rfl] at hI
          generalize tab 240 f = q at *
          go_upto_region 20 with fail; refine wp_region_lit ?_
          refine wpList_val (run_mv (v := u5) rfl rfl) rfl ?_; (try simp only [Act.put, List.setIfInBounds_toArray, List.set_cons_zero, List.set_cons_succ])
          refine wpList_val (run_asg (v := u5) rfl rfl) rfl ?_; (try simp only [Act.put, List.setIfInBounds_toArray, List.set_cons_zero, List.set_cons_succ])
          refine wpList_end ?_
          go_wp2_with fail
          refine bodyPost_ret (results_tmp Tryd.results34 _ _ _) rfl ⟨_, rfl, ?_⟩
          rw [EA.out]; exact hI.out.mono hM.out.bl
        · have hk1 : (i : Int) < 60 := by omega
          have HTG : Hid (∀ j, j < 4 * i → (tab (4 * i) f).getD j 0 = f j) := Lib.hid fun j hj => tab_get _ hj
          have HTS : Hid (∀ k, tab (4 * i + (k + 1)) f = tab (4 * i + k) f ++ [f (4 * i + k)]) := Lib.hid fun k => tab_succ _ _
          have HTL : Hid (∀ k, (tab (4 * i + k) f).length = 4 * i + k) := Lib.hid fun k => tab_len _ _
          have HTK : Hid (∀ k j, j < 4 * i + k → (tab (4 * i + k) f).getD j 0 = f j) := Lib.hid fun k j hj => tab_get _ hj
          have HS : Hid (∀ k, k < 4 → f (4 * i - 32 + k) ^^^ (tW [f (4 * i - 4), f (4 * i - 3), f (4 * i - 2), f (4 * i - 1)] i).getD k 0 = f (4 * i + k)) := Lib.hid fun k hk => by
            have Et : (tab 4 fun m => f (4 * (i - 1) + m)) = [f (4 * i - 4), f (4 * i - 3), f (4 * i - 2), f (4 * i - 1)] := by
              show [f (4 * (i - 1) + 0), f (4 * (i - 1) + 1), f (4 * (i - 1) + 2), f (4 * (i - 1) + 3)] = _
              rw [show 4 * (i - 1) + 0 = 4 * i - 4 by omega, show 4 * (i - 1) + 1 = 4 * i - 3 by omega, show 4 * (i - 1) + 2 = 4 * i - 2 by omega, show 4 * (i - 1) + 3 = 4 * i - 1 by omega]
            rw [← Et]; exact (ES.out i k h8 (by omega) hk).symm
          obtain ⟨gw, cw, rfl, -, -, AW⟩ := own_arr hI.out.O (by omega)
          have CW : Hid (∀ V, Below wr.heap.size wr V → ∀ j, j < 4 * i → V.cell? ⟨gw, 0 + j, none⟩ = some (b8 (f j))) := Lib.hid fun V hV j hj => by
            rw [Nat.zero_add, (AW.below hV).get8 (by omega), HTG.out j hj]
          clear AW
          rw [htl]
          replace hI : Hid (S5 a1 (.slice (some ⟨gw, 0, none⟩) (4 * i) cw) (tab (4 * i) f) wr) := Lib.hid (by have := hI.out; rw [htl] at this; exact this)
          go_upto_region 10 with fail; refine wp_region_calm 24 (by kernel_rfl) (by kernel_rfl) ?_
          refine wpCalm_step _ (fun V hV => calm_run (run_mv (v := .slice (some _) _ _) rfl rfl)) ?_; (try simp only [Act.put, List.setIfInBounds_toArray, List.set_cons_zero, List.set_cons_succ]); refine wpCalm_step _ (fun V hV => calm_run (run_mv (v := .int _ _) rfl rfl)) ?_; (try simp only [Act.put, List.setIfInBounds_toArray, List.set_cons_zero, List.set_cons_succ])
          refine wpCalm_step _ (fun V hV => calm_run (run_mulN (a := 4) rfl rfl rfl (by omega))) ?_; (try simp only [Act.put, List.setIfInBounds_toArray, List.set_cons_zero, List.set_cons_succ])
          refine wpCalm_step _ (fun V hV => calm_run (run_subN (b := 4) rfl rfl rfl (by omega) (by omega))) ?_; (try simp only [Act.put, List.setIfInBounds_toArray, List.set_cons_zero, List.set_cons_succ])
          refine wpCalm_step _ (fun V hV => calm_run (run_ixs rfl Tryd.underlying30 (by kernel_rfl) rfl rfl (by omega))) ?_; (try simp only [Act.put, List.setIfInBounds_toArray, List.set_cons_zero, List.set_cons_succ])
          refine wpCalm_step _ (fun V hV => calm_run (run_ld8 rfl rfl (CW.out V hV (4 * i - 4) (by omega)))) ?_; (try simp only [Act.put, List.setIfInBounds_toArray, List.set_cons_zero, List.set_cons_succ])
          refine wpCalm_step _ (fun V hV => calm_run (run_mv (v := .slice (some _) _ _) rfl rfl)) ?_; (try simp only [Act.put, List.setIfInBounds_toArray, List.set_cons_zero, List.set_cons_succ]); refine wpCalm_step _ (fun V hV => calm_run (run_mv (v := .int _ _) rfl rfl)) ?_; (try simp only [Act.put, List.setIfInBounds_toArray, List.set_cons_zero, List.set_cons_succ])
          refine wpCalm_step _ (fun V hV => calm_run (run_mulN (a := 4) rfl rfl rfl (by omega))) ?_; (try simp only [Act.put, List.setIfInBounds_toArray, List.set_cons_zero, List.set_cons_succ])
          refine wpCalm_step _ (fun V hV => calm_run (run_subN (b := 3) rfl rfl rfl (by omega) (by omega))) ?_; (try simp only [Act.put, List.setIfInBounds_toArray, List.set_cons_zero, List.set_cons_succ])
          refine wpCalm_step _ (fun V hV => calm_run (run_ixs rfl Tryd.underlying30 (by kernel_rfl) rfl rfl (by omega))) ?_; (try simp only [Act.put, List.setIfInBounds_toArray, List.set_cons_zero, List.set_cons_succ])
          refine wpCalm_step _ (fun V hV => calm_run (run_ld8 rfl rfl (CW.out V hV (4 * i - 3) (by omega)))) ?_; (try simp only [Act.put, List.setIfInBounds_toArray, List.set_cons_zero, List.set_cons_succ])
          refine wpCalm_step _ (fun V hV => calm_run (run_mv (v := .slice (some _) _ _) rfl rfl)) ?_; (try simp only [Act.put, List.setIfInBounds_toArray, List.set_cons_zero, List.set_cons_succ]); refine wpCalm_step _ (fun V hV => calm_run (run_mv (v := .int _ _) rfl rfl)) ?_; (try simp only [Act.put, List.setIfInBounds_toArray, List.set_cons_zero, List.set_cons_succ])
          refine wpCalm_step _ (fun V hV => calm_run (run_mulN (a := 4) rfl rfl rfl (by omega))) ?_; (try simp only [Act.put, List.setIfInBounds_toArray, List.set_cons_zero, List.set_cons_succ])
          refine wpCalm_step _ (fun V hV => calm_run (run_subN (b := 2) rfl rfl rfl (by omega) (by omega))) ?_; (try simp only [Act.put, List.setIfInBounds_toArray, List.set_cons_zero, List.set_cons_succ])
          refine wpCalm_step _ (fun V hV => calm_run (run_ixs rfl Tryd.underlying30 (by kernel_rfl) rfl rfl (by omega))) ?_; (try simp only [Act.put, List.setIfInBounds_toArray, List.set_cons_zero, List.set_cons_succ])
          refine wpCalm_step _ (fun V hV => calm_run (run_ld8 rfl rfl (CW.out V hV (4 * i - 2) (by omega)))) ?_; (try simp only [Act.put, List.setIfInBounds_toArray, List.set_cons_zero, List.set_cons_succ])
          refine wpCalm_step _ (fun V hV => calm_run (run_mv (v := .slice (some _) _ _) rfl rfl)) ?_; (try simp only [Act.put, List.setIfInBounds_toArray, List.set_cons_zero, List.set_cons_succ]); refine wpCalm_step _ (fun V hV => calm_run (run_mv (v := .int _ _) rfl rfl)) ?_; (try simp only [Act.put, List.setIfInBounds_toArray, List.set_cons_zero, List.set_cons_succ])
          refine wpCalm_step _ (fun V hV => calm_run (run_mulN (a := 4) rfl rfl rfl (by omega))) ?_; (try simp only [Act.put, List.setIfInBounds_toArray, List.set_cons_zero, List.set_cons_succ])
          refine wpCalm_step _ (fun V hV => calm_run (run_subN (b := 1) rfl rfl rfl (by omega) (by omega))) ?_; (try simp only [Act.put, List.setIfInBounds_toArray, List.set_cons_zero, List.set_cons_succ])
          refine wpCalm_step _ (fun V hV => calm_run (run_ixs rfl Tryd.underlying30 (by kernel_rfl) rfl rfl (by omega))) ?_; (try simp only [Act.put, List.setIfInBounds_toArray, List.set_cons_zero, List.set_cons_succ])
          refine wpCalm_step _ (fun V hV => calm_run (run_ld8 rfl rfl (CW.out V hV (4 * i - 1) (by omega)))) ?_; (try simp only [Act.put, List.setIfInBounds_toArray, List.set_cons_zero, List.set_cons_succ])
          refine wpCalm_done ?_; intro c1 hb; simp only [List.drop_succ_cons, List.drop_zero]
          replace hI := Lib.hid (hI.out.below hb)
          clear hb CW
          generalize f (4 * i - 4) = x0 at *
          generalize f (4 * i - 3) = x1 at *
          generalize f (4 * i - 2) = x2 at *
          generalize f (4 * i - 1) = x3 at *
          refine wpList_val (run_bsl (cells := #[b8 x0, b8 x1, b8 x2, b8 x3]) (z := .int .u8 0) rfl Tryd.underlying30 (by kernel_rfl) (by omega) (by omega) (by kernel_rfl)) rfl ?_; (try simp only [Act.put, List.setIfInBounds_toArray, List.set_cons_zero, List.set_cons_succ])
          have hE : Hid (ExI a1 (.slice (some ⟨gw, 0, none⟩) (4 * i) cw) (tab (4 * i) f) c1.heap.size [x0, x1, x2, x3] (c1.alloc (.cells #[b8 x0, b8 x1, b8 x2, b8 x3] 5))) := Lib.hid (ExI.new hI.out [x0, x1, x2, x3] 5)
          generalize c1.alloc (.cells #[b8 x0, b8 x1, b8 x2, b8 x3] 5) = c2 at *
          generalize c1.heap.size = gt at *
          refine wpList_val (run_asg (v := .slice (some _) _ _) rfl rfl) rfl ?_; (try simp only [Act.put, List.setIfInBounds_toArray, List.set_cons_zero, List.set_cons_succ])
          refine wpList_end ?_
          clear hI
          go_upto_region 11 with fail; refine wp_region_lit ?_
          refine wpList_val (run_mv (v := .int _ _) rfl rfl) rfl ?_; (try simp only [Act.put, List.setIfInBounds_toArray, List.set_cons_zero, List.set_cons_succ])
          refine wpList_val (run_remN (b := 8) rfl rfl rfl (by omega)) rfl ?_; (try simp only [Act.put, List.setIfInBounds_toArray, List.set_cons_zero, List.set_cons_succ])
          refine wpList_val (run_eqlb (c := decide (i % 8 = 0)) rfl rfl rfl (by rw [Bool.eq_iff_iff]; simp; omega)) rfl ?_; (try simp only [Act.put, List.setIfInBounds_toArray, List.set_cons_zero, List.set_cons_succ])
          refine wpList_end ?_
          go_upto_if 52 with fail
          go_cut [7, 9] (fun s7 s9 u => ∃ gt, s7 = b8 ((1 : BitVec 8) <<< (i / 8)) ∧ s9 = .slice (some ⟨gt, 0, none⟩) 4 4 ∧ ExI a1 (.slice (some ⟨gw, 0, none⟩) (4 * i) cw) (tab (4 * i) f) gt (tA x0 x1 x2 x3 i) u)
          case first =>
            by_cases h0 : i % 8 = 0
            · rw [decide_eq_true h0]
              have EA1 : Hid (tA x0 x1 x2 x3 i = [bx x1 ^^^ (1 : BitVec 8) <<< ((i - 1) / 8), bx x2, bx x3, bx x0]) := Lib.hid (by rw [tA, if_pos h0])
              have CT : Hid (∀ V, Below c2.heap.size c2 V → ∀ j, j < 4 → V.cell? ⟨gt, 0 + j, none⟩ = some (b8 ([x0, x1, x2, x3].getD j 0))) := Lib.hid fun V hV j hj => by rw [Nat.zero_add]; exact (hE.out.A.below hV).get8 hj
              have CB : Hid (∀ V, Below c2.heap.size c2 V → ∀ x : BitVec 8, V.cell? ⟨g, o + x.toNat, none⟩ = some (b8 (bx x))) := Lib.hid fun V hV x => HR.out V _ (hM.out.below (hE.out.below hV).I.bl) x
              have EP := Lib.hid (tms_pow ((i - 1) / 8) (by omega))
              have hp8 : (i - 1) / 8 + 1 = i / 8 := by omega
              rw [hp8] at EP
              generalize (1 : BitVec 8) <<< ((i - 1) / 8) = p at *
              have hl0 := x0.isLt
              have hl1 := x1.isLt
              have hl2 := x2.isLt
              have hl3 := x3.isLt
              go_upto_region 12 with fail
              refine wp_region_noPanic ?_; refine wp_region_late (S := fun _ V => Below c2.heap.size c2 V) (by kernel_rfl) ((Below.refl _ _).drew) (fun hS => ?_)
              generalize c2.drew = c3 at *
              refine wpAnyL_take 0 rfl rfl (by kernel_rfl) (by kernel_rfl) (by kernel_rfl) (fun _ _ _ h => h) rfl (fun V hV => run_mv (v := .slice (some _) _ _) rfl rfl) hS ?_; (try simp only [Act.put, List.setIfInBounds_toArray, List.set_cons_zero, List.set_cons_succ])
              refine wpAnyL_take 1 rfl rfl (by kernel_rfl) (by kernel_rfl) (by kernel_rfl) (fun _ _ _ h => h) rfl (fun V hV => run_mv (v := .slice (some _) _ _) rfl rfl) hS ?_; (try simp only [Act.put, List.setIfInBounds_toArray, List.set_cons_zero, List.set_cons_succ])
              refine wpAnyL_take 2 rfl rfl (by kernel_rfl) (by kernel_rfl) (by kernel_rfl) (fun _ _ _ h => h) rfl (fun V hV => run_ixs (i := 1) rfl Tryd.underlying30 (by kernel_rfl) rfl rfl (by omega)) hS ?_; (try simp only [Act.put, List.setIfInBounds_toArray, List.set_cons_zero, List.set_cons_succ])
              refine wpAnyL_take 3 rfl rfl (by kernel_rfl) (by kernel_rfl) (by kernel_rfl) (fun _ _ _ h => h) rfl (fun V hV => run_ld8 (v := b8 x1) rfl rfl (CT.out V hV 1 (by omega))) hS ?_; (try simp only [Act.put, List.setIfInBounds_toArray, List.set_cons_zero, List.set_cons_succ])
              refine wpAnyL_take 4 rfl rfl (by kernel_rfl) (by kernel_rfl) (by kernel_rfl) (fun _ _ _ h => h) rfl (fun V hV => run_ixs rfl Tryd.underlying30 (by kernel_rfl) rfl rfl hl1) hS ?_; (try simp only [Act.put, List.setIfInBounds_toArray, List.set_cons_zero, List.set_cons_succ])
              refine wpAnyL_take 5 rfl rfl (by kernel_rfl) (by kernel_rfl) (by kernel_rfl) (fun _ _ _ h => h) rfl (fun V hV => run_ld8 rfl rfl (CB.out V hV x1)) hS ?_; (try simp only [Act.put, List.setIfInBounds_toArray, List.set_cons_zero, List.set_cons_succ])
              refine wpAnyL_take 6 rfl rfl (by kernel_rfl) (by kernel_rfl) (by kernel_rfl) (fun _ _ _ h => h) rfl (fun V hV => run_mv (v := b8 p) rfl rfl) hS ?_; (try simp only [Act.put, List.setIfInBounds_toArray, List.set_cons_zero, List.set_cons_succ])
              refine wpAnyL_take 7 rfl rfl (by kernel_rfl) (by kernel_rfl) (by kernel_rfl) (fun _ _ _ h => h) rfl (fun V hV => run_xor8 rfl rfl rfl) hS ?_; (try simp only [Act.put, List.setIfInBounds_toArray, List.set_cons_zero, List.set_cons_succ])
              refine wpAnyL_take 8 rfl rfl (by kernel_rfl) (by kernel_rfl) (by kernel_rfl) (fun _ _ _ h => h) rfl (fun V hV => run_mv (v := .slice (some _) _ _) rfl rfl) hS ?_; (try simp only [Act.put, List.setIfInBounds_toArray, List.set_cons_zero, List.set_cons_succ])
              refine wpAnyL_take 9 rfl rfl (by kernel_rfl) (by kernel_rfl) (by kernel_rfl) (fun _ _ _ h => h) rfl (fun V hV => run_mv (v := .slice (some _) _ _) rfl rfl) hS ?_; (try simp only [Act.put, List.setIfInBounds_toArray, List.set_cons_zero, List.set_cons_succ])
              refine wpAnyL_take 10 rfl rfl (by kernel_rfl) (by kernel_rfl) (by kernel_rfl) (fun _ _ _ h => h) rfl (fun V hV => run_ixs (i := 2) rfl Tryd.underlying30 (by kernel_rfl) rfl rfl (by omega)) hS ?_; (try simp only [Act.put, List.setIfInBounds_toArray, List.set_cons_zero, List.set_cons_succ])
              refine wpAnyL_take 11 rfl rfl (by kernel_rfl) (by kernel_rfl) (by kernel_rfl) (fun _ _ _ h => h) rfl (fun V hV => run_ld8 (v := b8 x2) rfl rfl (CT.out V hV 2 (by omega))) hS ?_; (try simp only [Act.put, List.setIfInBounds_toArray, List.set_cons_zero, List.set_cons_succ])
              refine wpAnyL_take 12 rfl rfl (by kernel_rfl) (by kernel_rfl) (by kernel_rfl) (fun _ _ _ h => h) rfl (fun V hV => run_ixs rfl Tryd.underlying30 (by kernel_rfl) rfl rfl hl2) hS ?_; (try simp only [Act.put, List.setIfInBounds_toArray, List.set_cons_zero, List.set_cons_succ])
              refine wpAnyL_take 13 rfl rfl (by kernel_rfl) (by kernel_rfl) (by kernel_rfl) (fun _ _ _ h => h) rfl (fun V hV => run_ld8 rfl rfl (CB.out V hV x2)) hS ?_; (try simp only [Act.put, List.setIfInBounds_toArray, List.set_cons_zero, List.set_cons_succ])
              refine wpAnyL_take 14 rfl rfl (by kernel_rfl) (by kernel_rfl) (by kernel_rfl) (fun _ _ _ h => h) rfl (fun V hV => run_mv (v := .slice (some _) _ _) rfl rfl) hS ?_; (try simp only [Act.put, List.setIfInBounds_toArray, List.set_cons_zero, List.set_cons_succ])
              refine wpAnyL_take 15 rfl rfl (by kernel_rfl) (by kernel_rfl) (by kernel_rfl) (fun _ _ _ h => h) rfl (fun V hV => run_mv (v := .slice (some _) _ _) rfl rfl) hS ?_; (try simp only [Act.put, List.setIfInBounds_toArray, List.set_cons_zero, List.set_cons_succ])
              refine wpAnyL_take 16 rfl rfl (by kernel_rfl) (by kernel_rfl) (by kernel_rfl) (fun _ _ _ h => h) rfl (fun V hV => run_ixs (i := 3) rfl Tryd.underlying30 (by kernel_rfl) rfl rfl (by omega)) hS ?_; (try simp only [Act.put, List.setIfInBounds_toArray, List.set_cons_zero, List.set_cons_succ])
              refine wpAnyL_take 17 rfl rfl (by kernel_rfl) (by kernel_rfl) (by kernel_rfl) (fun _ _ _ h => h) rfl (fun V hV => run_ld8 (v := b8 x3) rfl rfl (CT.out V hV 3 (by omega))) hS ?_; (try simp only [Act.put, List.setIfInBounds_toArray, List.set_cons_zero, List.set_cons_succ])
              refine wpAnyL_take 18 rfl rfl (by kernel_rfl) (by kernel_rfl) (by kernel_rfl) (fun _ _ _ h => h) rfl (fun V hV => run_ixs rfl Tryd.underlying30 (by kernel_rfl) rfl rfl hl3) hS ?_; (try simp only [Act.put, List.setIfInBounds_toArray, List.set_cons_zero, List.set_cons_succ])
              refine wpAnyL_take 19 rfl rfl (by kernel_rfl) (by kernel_rfl) (by kernel_rfl) (fun _ _ _ h => h) rfl (fun V hV => run_ld8 rfl rfl (CB.out V hV x3)) hS ?_; (try simp only [Act.put, List.setIfInBounds_toArray, List.set_cons_zero, List.set_cons_succ])
              refine wpAnyL_take 20 rfl rfl (by kernel_rfl) (by kernel_rfl) (by kernel_rfl) (fun _ _ _ h => h) rfl (fun V hV => run_mv (v := .slice (some _) _ _) rfl rfl) hS ?_; (try simp only [Act.put, List.setIfInBounds_toArray, List.set_cons_zero, List.set_cons_succ])
              refine wpAnyL_take 21 rfl rfl (by kernel_rfl) (by kernel_rfl) (by kernel_rfl) (fun _ _ _ h => h) rfl (fun V hV => run_mv (v := .slice (some _) _ _) rfl rfl) hS ?_; (try simp only [Act.put, List.setIfInBounds_toArray, List.set_cons_zero, List.set_cons_succ])
              refine wpAnyL_take 22 rfl rfl (by kernel_rfl) (by kernel_rfl) (by kernel_rfl) (fun _ _ _ h => h) rfl (fun V hV => run_ixs (i := 0) rfl Tryd.underlying30 (by kernel_rfl) rfl rfl (by omega)) hS ?_; (try simp only [Act.put, List.setIfInBounds_toArray, List.set_cons_zero, List.set_cons_succ])
              refine wpAnyL_take 23 rfl rfl (by kernel_rfl) (by kernel_rfl) (by kernel_rfl) (fun _ _ _ h => h) rfl (fun V hV => run_ld8 (v := b8 x0) rfl rfl (CT.out V hV 0 (by omega))) hS ?_; (try simp only [Act.put, List.setIfInBounds_toArray, List.set_cons_zero, List.set_cons_succ])
              refine wpAnyL_take 24 rfl rfl (by kernel_rfl) (by kernel_rfl) (by kernel_rfl) (fun _ _ _ h => h) rfl (fun V hV => run_ixs rfl Tryd.underlying30 (by kernel_rfl) rfl rfl hl0) hS ?_; (try simp only [Act.put, List.setIfInBounds_toArray, List.set_cons_zero, List.set_cons_succ])
              refine wpAnyL_take 25 rfl rfl (by kernel_rfl) (by kernel_rfl) (by kernel_rfl) (fun _ _ _ h => h) rfl (fun V hV => run_ld8 rfl rfl (CB.out V hV x0)) hS ?_; (try simp only [Act.put, List.setIfInBounds_toArray, List.set_cons_zero, List.set_cons_succ])
              refine wpAnyL_val 26 (by kernel_rfl) rfl rfl rfl (run_bsl (cells := #[b8 (bx x1 ^^^ p), b8 (bx x2), b8 (bx x3), b8 (bx x0)]) (z := .int .u8 0) rfl Tryd.underlying30 (by kernel_rfl) (by omega) (by omega) (by kernel_rfl)) (hS.alloc hS.size _) ?_; (try simp only [Act.put, List.setIfInBounds_toArray, List.set_cons_zero, List.set_cons_succ])
              replace hE : Hid (ExI a1 (.slice (some ⟨gw, 0, none⟩) (4 * i) cw) (tab (4 * i) f) c3.heap.size (tA x0 x1 x2 x3 i) (c3.alloc (.cells #[b8 (bx x1 ^^^ p), b8 (bx x2), b8 (bx x3), b8 (bx x0)] 5))) := Lib.hid (by rw [EA1.out]; exact ExI.new (hE.out.below hS).I [bx x1 ^^^ p, bx x2, bx x3, bx x0] 5)
              replace hS := hS.alloc hS.size (.cells #[b8 (bx x1 ^^^ p), b8 (bx x2), b8 (bx x3), b8 (bx x0)] 5)
              generalize c3.alloc (.cells #[b8 (bx x1 ^^^ p), b8 (bx x2), b8 (bx x3), b8 (bx x0)] 5) = c4 at *
              generalize c3.heap.size = gt2 at *
              refine wpAnyL_take 27 rfl rfl (by kernel_rfl) (by kernel_rfl) (by kernel_rfl) (fun _ _ _ h => h) rfl (fun V hV => run_asg (v := .slice (some _) _ _) rfl rfl) hS ?_; (try simp only [Act.put, List.setIfInBounds_toArray, List.set_cons_zero, List.set_cons_succ])
              refine wpAnyL_done (by kernel_rfl) ?_ _; refine NoPanic.normal ?_
              clear hS CT CB
              go_upto_region 13 with fail; refine wp_region_lit ?_
              refine wpList_val (run_mv (v := b8 _) rfl rfl) rfl ?_; (try simp only [Act.put, List.setIfInBounds_toArray, List.set_cons_zero, List.set_cons_succ])
              refine wpList_still (run_call2 (b := b8 2) enters_times rfl rfl rfl rfl) rfl (times_any p 2 _) ?_; (try simp only [Act.put, List.setIfInBounds_toArray, List.set_cons_zero, List.set_cons_succ])
              rw [EP.out]
              refine wpList_val (run_asg (v := b8 _) rfl rfl) rfl ?_; (try simp only [Act.put, List.setIfInBounds_toArray, List.set_cons_zero, List.set_cons_succ])
              refine wpList_end ?_
              go_wp2_with fail
              go_meet
              exact ⟨gt2, rfl, rfl, hE.out⟩
            · rw [decide_eq_false h0]
              have EA1 : Hid (tA x0 x1 x2 x3 i = [x0, x1, x2, x3]) := Lib.hid (by rw [tA, if_neg h0])
              have hp8 : (i - 1) / 8 = i / 8 := by omega
              rw [hp8]
              go_wp2_with fail
              go_meet
              exact ⟨gt, rfl, rfl, by rw [EA1.out]; exact hE.out⟩
          case rest =>
            obtain ⟨gt1, rfl, rfl, hc⟩ := hcut
            replace hE := Lib.hid hc
            clear hc
            generalize hw' : wc = c5 at *
            clear hw'
            go_upto_region 14 with fail; refine wp_region_lit ?_
            refine wpList_val (run_mv (v := .int _ _) rfl rfl) rfl ?_; (try simp only [Act.put, List.setIfInBounds_toArray, List.set_cons_zero, List.set_cons_succ])
            refine wpList_val (run_remN (b := 8) rfl rfl rfl (by omega)) rfl ?_; (try simp only [Act.put, List.setIfInBounds_toArray, List.set_cons_zero, List.set_cons_succ])
            refine wpList_val (run_eqlb (c := decide (i % 8 = 4)) rfl rfl rfl (by rw [Bool.eq_iff_iff]; simp; omega)) rfl ?_; (try simp only [Act.put, List.setIfInBounds_toArray, List.set_cons_zero, List.set_cons_succ])
            refine wpList_end ?_
            go_upto_if 84 with fail
            go_cut [9] (fun s9 u => ∃ gt, s9 = .slice (some ⟨gt, 0, none⟩) 4 4 ∧ ExI a1 (.slice (some ⟨gw, 0, none⟩) (4 * i) cw) (tab (4 * i) f) gt (tW [x0, x1, x2, x3] i) u)
            case first =>
              by_cases h4 : i % 8 = 4
              · rw [decide_eq_true h4]
                have EA1 : Hid (tW [x0, x1, x2, x3] i = [bx x0, bx x1, bx x2, bx x3]) := Lib.hid (by rw [tW_tA, if_pos h4])
                have EA2 : Hid (tA x0 x1 x2 x3 i = [x0, x1, x2, x3]) := Lib.hid (by rw [tA, if_neg (by omega)])
                rw [EA2.out] at hE
                have CT : Hid (∀ V, Below c5.heap.size c5 V → ∀ j, j < 4 → V.cell? ⟨gt1, 0 + j, none⟩ = some (b8 ([x0, x1, x2, x3].getD j 0))) := Lib.hid fun V hV j hj => by rw [Nat.zero_add]; exact (hE.out.A.below hV).get8 hj
                have CB : Hid (∀ V, Below c5.heap.size c5 V → ∀ x : BitVec 8, V.cell? ⟨g, o + x.toNat, none⟩ = some (b8 (bx x))) := Lib.hid fun V hV x => HR.out V _ (hM.out.below (hE.out.below hV).I.bl) x
                have hl0 := x0.isLt
                have hl1 := x1.isLt
                have hl2 := x2.isLt
                have hl3 := x3.isLt
                go_upto_region 15 with fail; refine wp_region_calm 24 (by kernel_rfl) (by kernel_rfl) ?_
                refine wpCalm_step _ (fun V hV => calm_run (run_mv (v := .slice (some _) _ _) rfl rfl)) ?_; (try simp only [Act.put, List.setIfInBounds_toArray, List.set_cons_zero, List.set_cons_succ]); refine wpCalm_step _ (fun V hV => calm_run (run_mv (v := .slice (some _) _ _) rfl rfl)) ?_; (try simp only [Act.put, List.setIfInBounds_toArray, List.set_cons_zero, List.set_cons_succ])
                refine wpCalm_step _ (fun V hV => calm_run (run_ixs (i := 0) rfl Tryd.underlying30 (by kernel_rfl) rfl rfl (by omega))) ?_; (try simp only [Act.put, List.setIfInBounds_toArray, List.set_cons_zero, List.set_cons_succ])
                refine wpCalm_step _ (fun V hV => calm_run (run_ld8 (v := b8 x0) rfl rfl (CT.out V hV 0 (by omega)))) ?_; (try simp only [Act.put, List.setIfInBounds_toArray, List.set_cons_zero, List.set_cons_succ])
                refine wpCalm_step _ (fun V hV => calm_run (run_ixs rfl Tryd.underlying30 (by kernel_rfl) rfl rfl hl0)) ?_; (try simp only [Act.put, List.setIfInBounds_toArray, List.set_cons_zero, List.set_cons_succ])
                refine wpCalm_step _ (fun V hV => calm_run (run_ld8 rfl rfl (CB.out V hV x0))) ?_; (try simp only [Act.put, List.setIfInBounds_toArray, List.set_cons_zero, List.set_cons_succ])
                refine wpCalm_step _ (fun V hV => calm_run (run_mv (v := .slice (some _) _ _) rfl rfl)) ?_; (try simp only [Act.put, List.setIfInBounds_toArray, List.set_cons_zero, List.set_cons_succ]); refine wpCalm_step _ (fun V hV => calm_run (run_mv (v := .slice (some _) _ _) rfl rfl)) ?_; (try simp only [Act.put, List.setIfInBounds_toArray, List.set_cons_zero, List.set_cons_succ])
                refine wpCalm_step _ (fun V hV => calm_run (run_ixs (i := 1) rfl Tryd.underlying30 (by kernel_rfl) rfl rfl (by omega))) ?_; (try simp only [Act.put, List.setIfInBounds_toArray, List.set_cons_zero, List.set_cons_succ])
                refine wpCalm_step _ (fun V hV => calm_run (run_ld8 (v := b8 x1) rfl rfl (CT.out V hV 1 (by omega)))) ?_; (try simp only [Act.put, List.setIfInBounds_toArray, List.set_cons_zero, List.set_cons_succ])
                refine wpCalm_step _ (fun V hV => calm_run (run_ixs rfl Tryd.underlying30 (by kernel_rfl) rfl rfl hl1)) ?_; (try simp only [Act.put, List.setIfInBounds_toArray, List.set_cons_zero, List.set_cons_succ])
                refine wpCalm_step _ (fun V hV => calm_run (run_ld8 rfl rfl (CB.out V hV x1))) ?_; (try simp only [Act.put, List.setIfInBounds_toArray, List.set_cons_zero, List.set_cons_succ])
                refine wpCalm_step _ (fun V hV => calm_run (run_mv (v := .slice (some _) _ _) rfl rfl)) ?_; (try simp only [Act.put, List.setIfInBounds_toArray, List.set_cons_zero, List.set_cons_succ]); refine wpCalm_step _ (fun V hV => calm_run (run_mv (v := .slice (some _) _ _) rfl rfl)) ?_; (try simp only [Act.put, List.setIfInBounds_toArray, List.set_cons_zero, List.set_cons_succ])
                refine wpCalm_step _ (fun V hV => calm_run (run_ixs (i := 2) rfl Tryd.underlying30 (by kernel_rfl) rfl rfl (by omega))) ?_; (try simp only [Act.put, List.setIfInBounds_toArray, List.set_cons_zero, List.set_cons_succ])
                refine wpCalm_step _ (fun V hV => calm_run (run_ld8 (v := b8 x2) rfl rfl (CT.out V hV 2 (by omega)))) ?_; (try simp only [Act.put, List.setIfInBounds_toArray, List.set_cons_zero, List.set_cons_succ])
                refine wpCalm_step _ (fun V hV => calm_run (run_ixs rfl Tryd.underlying30 (by kernel_rfl) rfl rfl hl2)) ?_; (try simp only [Act.put, List.setIfInBounds_toArray, List.set_cons_zero, List.set_cons_succ])
                refine wpCalm_step _ (fun V hV => calm_run (run_ld8 rfl rfl (CB.out V hV x2))) ?_; (try simp only [Act.put, List.setIfInBounds_toArray, List.set_cons_zero, List.set_cons_succ])
                refine wpCalm_step _ (fun V hV => calm_run (run_mv (v := .slice (some _) _ _) rfl rfl)) ?_; (try simp only [Act.put, List.setIfInBounds_toArray, List.set_cons_zero, List.set_cons_succ]); refine wpCalm_step _ (fun V hV => calm_run (run_mv (v := .slice (some _) _ _) rfl rfl)) ?_; (try simp only [Act.put, List.setIfInBounds_toArray, List.set_cons_zero, List.set_cons_succ])
                refine wpCalm_step _ (fun V hV => calm_run (run_ixs (i := 3) rfl Tryd.underlying30 (by kernel_rfl) rfl rfl (by omega))) ?_; (try simp only [Act.put, List.setIfInBounds_toArray, List.set_cons_zero, List.set_cons_succ])
                refine wpCalm_step _ (fun V hV => calm_run (run_ld8 (v := b8 x3) rfl rfl (CT.out V hV 3 (by omega)))) ?_; (try simp only [Act.put, List.setIfInBounds_toArray, List.set_cons_zero, List.set_cons_succ])
                refine wpCalm_step _ (fun V hV => calm_run (run_ixs rfl Tryd.underlying30 (by kernel_rfl) rfl rfl hl3)) ?_; (try simp only [Act.put, List.setIfInBounds_toArray, List.set_cons_zero, List.set_cons_succ])
                refine wpCalm_step _ (fun V hV => calm_run (run_ld8 rfl rfl (CB.out V hV x3))) ?_; (try simp only [Act.put, List.setIfInBounds_toArray, List.set_cons_zero, List.set_cons_succ])
                refine wpCalm_done ?_; intro c3 hb; simp only [List.drop_succ_cons, List.drop_zero]
                replace hE := Lib.hid (hE.out.below hb)
                clear hb CT CB
                refine wpList_val (run_bsl (cells := #[b8 (bx x0), b8 (bx x1), b8 (bx x2), b8 (bx x3)]) (z := .int .u8 0) rfl Tryd.underlying30 (by kernel_rfl) (by omega) (by omega) (by kernel_rfl)) rfl ?_; (try simp only [Act.put, List.setIfInBounds_toArray, List.set_cons_zero, List.set_cons_succ])
                replace hE : Hid (ExI a1 (.slice (some ⟨gw, 0, none⟩) (4 * i) cw) (tab (4 * i) f) c3.heap.size (tW [x0, x1, x2, x3] i) (c3.alloc (.cells #[b8 (bx x0), b8 (bx x1), b8 (bx x2), b8 (bx x3)] 5))) := Lib.hid (by rw [EA1.out]; exact ExI.new hE.out.I [bx x0, bx x1, bx x2, bx x3] 5)
                generalize c3.alloc (.cells #[b8 (bx x0), b8 (bx x1), b8 (bx x2), b8 (bx x3)] 5) = c4 at *
                generalize c3.heap.size = gt2 at *
                refine wpList_val (run_asg (v := .slice (some _) _ _) rfl rfl) rfl ?_; (try simp only [Act.put, List.setIfInBounds_toArray, List.set_cons_zero, List.set_cons_succ])
                refine wpList_end ?_
                go_wp2_with fail
                go_meet
                exact ⟨gt2, rfl, hE.out⟩
              · rw [decide_eq_false h4]
                have EA1 : Hid (tW [x0, x1, x2, x3] i = tA x0 x1 x2 x3 i) := Lib.hid (by rw [tW_tA, if_neg h4])
                go_wp2_with fail
                go_meet
                exact ⟨gt1, rfl, by rw [EA1.out]; exact hE.out⟩
            case rest =>
              obtain ⟨gt2, rfl, hc⟩ := hcut
              replace hE := Lib.hid hc
              clear hc
              generalize hw' : wc = c6 at *
              clear hw'
              have hwl : (tW [x0, x1, x2, x3] i).length = 4 := tW_len i rfl
              generalize tW [x0, x1, x2, x3] i = tw at *
              go_wp2_with fail
              go_loopw [5, 10] (fun s5 s10 u => ∃ k : Nat, k ≤ 4 ∧ s10 = .int .i64 (k : Int) ∧ ExI a1 s5 (tab (4 * i + k) f) gt2 tw u) (fun _ s _ => (4 - intOf s).toNat)
              case atStart => exact ⟨0, by omega, rfl, hE.out⟩
              case round =>
                obtain ⟨k, hk, rfl, hJ⟩ := hrel
                replace hE := Lib.hid hJ
                clear hJ
                by_cases hk4 : k = 4
                · subst hk4
                  have hk2 : ¬ (((4 : Nat) : Int) < 4) := by omega
                  replace hI : Hid (S5 a1 u5 (tab (4 * (i + 1)) f) wr) := Lib.hid hE.out.I
                  go_wp2_with fail
                  go_roundw
                  case rel => exact ⟨i + 1, by omega, by omega, by go_num, by rw [Nat.add_sub_cancel], hI.out⟩
                  case measure => simp [intOf]; omega
                · have hk2 : (k : Int) < 4 := by omega
                  have hlk := HTL.out k
                  obtain ⟨gv, cv, rfl, -, -, AW⟩ := own_arr hE.out.I.O (by omega)
                  have CW : Hid (∀ V, Below wr.heap.size wr V → V.cell? ⟨gv, 0 + (4 * i - 32 + k), none⟩ = some (b8 (f (4 * i - 32 + k)))) := Lib.hid fun V hV => by
                    rw [Nat.zero_add, (AW.below hV).get8 (by omega), HTK.out k _ (by omega)]
                  have CT : Hid (∀ V, Below wr.heap.size wr V → V.cell? ⟨gt2, 0 + k, none⟩ = some (b8 (tw.getD k 0))) := Lib.hid fun V hV => by
                    rw [Nat.zero_add]; exact (hE.out.A.below hV).get8 (by omega)
                  have EJ := Lib.hid (HS.out k (by omega))
                  have ET := Lib.hid (HTS.out k)
                  clear AW
                  generalize hTk : tab (4 * i + k) f = Tk at *
                  clear hTk
                  generalize f (4 * i + k) = x at *
                  go_upto_region 19 with fail
                  refine wp_region_noPanic ?_; refine wp_region_late (S := Till 15 (fun V => Below wr.heap.size wr V)) (by kernel_rfl) (.inr (Below.refl _ _).drew) (fun _ => ?_); have hS : Below wr.heap.size wr wr.drew := (Below.refl _ _).drew
                  generalize wr.drew = d1 at *
                  refine wpAnyD_take 0 rfl rfl (by kernel_rfl) (by kernel_rfl) (by kernel_rfl) (by kernel_rfl) (by kernel_rfl) (fun _ _ _ h => h) rfl (fun V hV => run_mv (v := .slice (some _) _ _) rfl rfl) hS ?_; (try simp only [Act.put, List.setIfInBounds_toArray, List.set_cons_zero, List.set_cons_succ])
                  refine wpAnyD_take 1 rfl rfl (by kernel_rfl) (by kernel_rfl) (by kernel_rfl) (by kernel_rfl) (by kernel_rfl) (fun _ _ _ h => h) rfl (fun V hV => run_mv (v := .slice (some _) _ _) rfl rfl) hS ?_; (try simp only [Act.put, List.setIfInBounds_toArray, List.set_cons_zero, List.set_cons_succ])
                  refine wpAnyD_take 2 rfl rfl (by kernel_rfl) (by kernel_rfl) (by kernel_rfl) (by kernel_rfl) (by kernel_rfl) (fun _ _ _ h => h) rfl (fun V hV => run_mv (v := .int _ _) rfl rfl) hS ?_; (try simp only [Act.put, List.setIfInBounds_toArray, List.set_cons_zero, List.set_cons_succ])
                  refine wpAnyD_take 3 rfl rfl (by kernel_rfl) (by kernel_rfl) (by kernel_rfl) (by kernel_rfl) (by kernel_rfl) (fun _ _ _ h => h) rfl (fun V hV => run_mulN (a := 4) rfl rfl rfl (by omega)) hS ?_; (try simp only [Act.put, List.setIfInBounds_toArray, List.set_cons_zero, List.set_cons_succ])
                  refine wpAnyD_take 4 rfl rfl (by kernel_rfl) (by kernel_rfl) (by kernel_rfl) (by kernel_rfl) (by kernel_rfl) (fun _ _ _ h => h) rfl (fun V hV => run_subN (b := 32) rfl rfl rfl (by omega) (by omega)) hS ?_; (try simp only [Act.put, List.setIfInBounds_toArray, List.set_cons_zero, List.set_cons_succ])
                  refine wpAnyD_take 5 rfl rfl (by kernel_rfl) (by kernel_rfl) (by kernel_rfl) (by kernel_rfl) (by kernel_rfl) (fun _ _ _ h => h) rfl (fun V hV => run_mv (v := .int _ _) rfl rfl) hS ?_; (try simp only [Act.put, List.setIfInBounds_toArray, List.set_cons_zero, List.set_cons_succ])
                  refine wpAnyD_take 6 rfl rfl (by kernel_rfl) (by kernel_rfl) (by kernel_rfl) (by kernel_rfl) (by kernel_rfl) (fun _ _ _ h => h) rfl (fun V hV => run_addN rfl rfl rfl (by omega)) hS ?_; (try simp only [Act.put, List.setIfInBounds_toArray, List.set_cons_zero, List.set_cons_succ])
                  refine wpAnyD_take 7 rfl rfl (by kernel_rfl) (by kernel_rfl) (by kernel_rfl) (by kernel_rfl) (by kernel_rfl) (fun _ _ _ h => h) rfl (fun V hV => run_ixs rfl Tryd.underlying30 (by kernel_rfl) rfl rfl (by omega)) hS ?_; (try simp only [Act.put, List.setIfInBounds_toArray, List.set_cons_zero, List.set_cons_succ])
                  refine wpAnyD_take 8 rfl rfl (by kernel_rfl) (by kernel_rfl) (by kernel_rfl) (by kernel_rfl) (by kernel_rfl) (fun _ _ _ h => h) rfl (fun V hV => run_ld8 rfl rfl (CW.out V hV)) hS ?_; (try simp only [Act.put, List.setIfInBounds_toArray, List.set_cons_zero, List.set_cons_succ])
                  refine wpAnyD_take 9 rfl rfl (by kernel_rfl) (by kernel_rfl) (by kernel_rfl) (by kernel_rfl) (by kernel_rfl) (fun _ _ _ h => h) rfl (fun V hV => run_mv (v := .slice (some _) _ _) rfl rfl) hS ?_; (try simp only [Act.put, List.setIfInBounds_toArray, List.set_cons_zero, List.set_cons_succ])
                  refine wpAnyD_take 10 rfl rfl (by kernel_rfl) (by kernel_rfl) (by kernel_rfl) (by kernel_rfl) (by kernel_rfl) (fun _ _ _ h => h) rfl (fun V hV => run_mv (v := .int _ _) rfl rfl) hS ?_; (try simp only [Act.put, List.setIfInBounds_toArray, List.set_cons_zero, List.set_cons_succ])
                  refine wpAnyD_take 11 rfl rfl (by kernel_rfl) (by kernel_rfl) (by kernel_rfl) (by kernel_rfl) (by kernel_rfl) (fun _ _ _ h => h) rfl (fun V hV => run_ixs rfl Tryd.underlying30 (by kernel_rfl) rfl rfl (by omega)) hS ?_; (try simp only [Act.put, List.setIfInBounds_toArray, List.set_cons_zero, List.set_cons_succ])
                  refine wpAnyD_take 12 rfl rfl (by kernel_rfl) (by kernel_rfl) (by kernel_rfl) (by kernel_rfl) (by kernel_rfl) (fun _ _ _ h => h) rfl (fun V hV => run_ld8 rfl rfl (CT.out V hV)) hS ?_; (try simp only [Act.put, List.setIfInBounds_toArray, List.set_cons_zero, List.set_cons_succ])
                  refine wpAnyD_take 13 rfl rfl (by kernel_rfl) (by kernel_rfl) (by kernel_rfl) (by kernel_rfl) (by kernel_rfl) (fun _ _ _ h => h) rfl (fun V hV => run_xor8 rfl rfl rfl) hS ?_; (try simp only [Act.put, List.setIfInBounds_toArray, List.set_cons_zero, List.set_cons_succ])
                  rw [EJ.out]
                  refine wpAnyD_val 14 (by kernel_rfl) rfl rfl rfl (run_bsl (cells := #[b8 x]) (z := .int .u8 0) rfl Tryd.underlying30 (by kernel_rfl) (by omega) (by omega) (by kernel_rfl)) (.inr (hS.alloc hS.size _)) ?_; (try simp only [Act.put, List.setIfInBounds_toArray, List.set_cons_zero, List.set_cons_succ])
                  replace hE := Lib.hid (hE.out.below hS)
                  have hb2 : Below d1.heap.size d1 (d1.alloc (.cells #[b8 x] 5)) := (Below.refl _ _).alloc (Nat.le_refl _) _
                  have A2 : Hid (Arr d1.heap.size ([x].map b8) (d1.alloc (.cells #[b8 x] 5))) := Lib.hid (Arr.new d1 _ _)
                  replace hE := Lib.hid (hE.out.below hb2)
                  clear hb2 hS CW CT
                  generalize d1.alloc (.cells #[b8 x] 5) = ua at *
                  refine wpAnyD_appA (l := Tk) (m := [x]) 15 (by kernel_rfl) rfl rfl rfl rfl rfl rfl hE.out.I.O rfl A2.out.range (by show Tk.length + 1 ≤ _; omega) (Nat.lt_succ_self 0) hE.out.I.bl.size (fun v2 d2 h3 hb3 hst => ?_); (try simp only [Act.put, List.setIfInBounds_toArray, List.set_cons_zero, List.set_cons_succ])
                  replace hE : Hid (ExI a1 v2 (Tk ++ [x]) gt2 tw d2) := Lib.hid ⟨⟨hE.out.I.bl.trans hb3, by rw [List.length_append]; exact h3⟩, (hst _ _ hE.out.A hE.out.ne).1, (hst _ _ hE.out.A hE.out.ne).2⟩
                  rw [← ET.out] at hE
                  clear h3 hb3 hst A2
                  clear ua
                  refine wpAnyD_val 16 (by kernel_rfl) rfl rfl rfl (run_asg (v := v2) rfl rfl) (.inl rfl) ?_; (try simp only [Act.put, List.setIfInBounds_toArray, List.set_cons_zero, List.set_cons_succ])
                  refine wpAnyL_done (by kernel_rfl) ?_ _; refine NoPanic.normal ?_
                  go_wp2_with fail
                  go_roundw
                  case rel => exact ⟨k + 1, by omega, by go_num, hE.out⟩
                  case measure => simp [intOf]; omega
    · have hk1 : (k : Int) < 32 := by omega
      have HT := Lib.hid (tab_succ k f)
      generalize tab k f = T at *
      have C1 := Lib.hid (((hM.out.below hI.out.bl).get (i := 0) rfl).get8 (i := k) (by omega))
      rw [EK.out k (by omega)] at C1
      generalize f k = x at *
      go_upto_region 5 with fail; refine wp_region_lit ?_
      refine wpList_val (run_mv (v := u5) rfl rfl) rfl ?_; (try simp only [Act.put, List.setIfInBounds_toArray, List.set_cons_zero, List.set_cons_succ])
      refine wpList_val (run_mv (v := .int _ _) rfl rfl) rfl ?_; (try simp only [Act.put, List.setIfInBounds_toArray, List.set_cons_zero, List.set_cons_succ])
      refine wpList_val (run_ix0 rfl Tryd.underlying29 (by kernel_rfl) rfl rfl (by omega)) rfl ?_; (try simp only [Act.put, List.setIfInBounds_toArray, List.set_cons_zero, List.set_cons_succ])
      refine wpList_val (run_ld8 rfl rfl C1.out) rfl ?_; (try simp only [Act.put, List.setIfInBounds_toArray, List.set_cons_zero, List.set_cons_succ])
      refine wpList_val (run_bsl (cells := #[b8 (x)]) (z := .int .u8 0) rfl Tryd.underlying30 (by kernel_rfl) (by omega) (by omega) (by kernel_rfl)) rfl ?_; (try simp only [Act.put, List.setIfInBounds_toArray, List.set_cons_zero, List.set_cons_succ]); have hb2 : Below wr.heap.size wr (wr.alloc (.cells #[b8 (x)] 5)) := (Below.refl _ _).alloc (Nat.le_refl _) _; have A2 : Hid (Arr wr.heap.size ([x].map b8) (wr.alloc (.cells #[b8 (x)] 5))) := Lib.hid (Arr.new wr _ _); replace hI := Lib.hid (hI.out.below hb2); clear hb2; generalize wr.alloc (.cells #[b8 (x)] 5) = ua at *; refine wpList_app (f := b8) (fun _ => rfl) (l := T) (m := [x]) (bw := 1) (z := .int .u8 0) rfl rfl Tryd.underlying30 (by kernel_rfl) rfl (by omega) rfl hI.out.O rfl A2.out.range (by show T.length + 1 ≤ _; omega) hI.out.bl.size (fun v2 c2 h3 hb3 => ?_); (try simp only [Act.put, List.setIfInBounds_toArray, List.set_cons_zero, List.set_cons_succ]); replace hI : Hid (S5 _ v2 (T ++ [x]) c2) := Lib.hid ⟨hI.out.bl.trans hb3, by rw [List.length_append]; exact h3⟩; clear h3 hb3 A2; clear ua; refine wpList_val (run_asg (v := v2) rfl rfl) rfl ?_; (try simp only [Act.put, List.setIfInBounds_toArray, List.set_cons_zero, List.set_cons_succ]); refine wpList_end ?_
      rw [← HT.out] at hI
      go_wp2_with fail
      go_roundw
      case rel => exact ⟨k + 1, by omega, by go_num, hI.out⟩
      case measure => simp [intOf]; omega
theorem enters_expanded : Enters 34 := enters_of Tryd.func34 (by kernel_rfl) rfl
end Go.Proofs.YtobpgolchlgpfaaDoor
namespace Go.Proofs.YtobpgolchlgpfaaDoor
open Go.RowKit
set_option maxRecDepth 20000

theorem turn_box (s : List (BitVec 8)) : turnB 1 (boxB s) = tab 16 fun i => bx (s.getD ((i + 4 * (i % 4)) % 16) 0) := tab_congr fun i hi => by
  rw [boxB, tab_get _ (turnI_lt 1 i), turnI_1 i hi]
theorem sl_arr {g n : Nat} {l : List (BitVec 8)} {u : World} (h : Arr g (l.map b8) u) (hl : l.length = n) : Sl (.slice (some ⟨g, 0, none⟩) n n) l u := by
  subst hl; exact Sl.arr h (Nat.le_refl _)
set_option maxRecDepth 20000 in
set_option maxHeartbeats 8000000 in
theorem hidden_any (vb : Value) (vw : Value) (W : List (BitVec 8)) (vs : Value) (b : List (BitVec 8)) (w : World) (hb : Sl vb bxL w) (hw : Sl vw W w) (hW : W.length = 240) (hs : Sl vs b w) (hl : b.length = 16) : Calls Tryd.prog 35 #[vb, vw, vs] w fun e w' => ∃ v', e = .returned v' ∧ S5 w v' (hideB W b) w' := by
  obtain ⟨g, o, c, rfl, hrd⟩ := hb.rd (by rw [bxL_len]; omega)
  rw [bxL_len]
  have HR : Hid (∀ V, Below w.heap.size w V → ∀ x : BitVec 8, V.cell? ⟨g, o + x.toNat, none⟩ = some (b8 (bx x))) := Lib.hid fun V h x => by
    rw [hrd V h x.toNat (by rw [bxL_len]; exact x.isLt), bxL_get]
  have HW := Lib.hid hw
  have HL := Lib.hid (hidI_len W b)
  clear hrd hb
  go_enter Tryd.func35, Tryd.ntmps35
  go_upto_region 1 with fail; refine wp_region_lit ?_
  refine wpList_val (run_mv (v := vs) rfl rfl) rfl ?_; (try simp only [Act.put, List.setIfInBounds_toArray, List.set_cons_zero, List.set_cons_succ])
  refine wpList_val (run_mv (v := vw) rfl rfl) rfl ?_; (try simp only [Act.put, List.setIfInBounds_toArray, List.set_cons_zero, List.set_cons_succ])
  refine wpList_callR (run_call3 (c := .int .i64 ((0 : Nat) : Int)) enters_xored rfl rfl rfl rfl rfl) rfl (xored_any vs b vw W 0 _ hs hl hw hW (by omega)) (fun v1 a1 hR => ?_); (try simp only [Act.put, List.setIfInBounds_toArray, List.set_cons_zero, List.set_cons_succ])
  refine wpList_val (run_asg (v := v1) rfl rfl) rfl ?_; (try simp only [Act.put, List.setIfInBounds_toArray, List.set_cons_zero, List.set_cons_succ])
  refine wpList_end ?_
  have hI : Hid (S5 w v1 (hidI W b 0) a1) := Lib.hid hR
  clear hR
  go_wp2_with fail
  go_loopw [2, 7] (fun s2 s7 u => ∃ n : Nat, n ≤ 14 ∧ s7 = .int .i64 ((n + 1 : Nat) : Int) ∧ S5 w s2 (hidI W b n) u) (fun _ s _ => (15 - intOf s).toNat)
  case atStart => exact ⟨0, by omega, rfl, hI.out⟩
  case round =>
    obtain ⟨n, hn, rfl, hJ⟩ := hrel
    replace hI := Lib.hid hJ
    clear hJ
    have hil := HL.out n
    by_cases hlt : n = 14
    · subst hlt
      have hk1 : ¬ (((14 + 1 : Nat) : Int) ≤ 14) := by omega
      have EX : Hid (hideB W b = hidI W b 14) := Lib.hid rfl
      generalize hidI W b 14 = r at *
      go_upto_region 13 with fail; refine wp_region_lit ?_
      refine wpList_val (run_mv (v := u2) rfl rfl) rfl ?_; (try simp only [Act.put, List.setIfInBounds_toArray, List.set_cons_zero, List.set_cons_succ])
      refine wpList_val (run_asg (v := u2) rfl rfl) rfl ?_; (try simp only [Act.put, List.setIfInBounds_toArray, List.set_cons_zero, List.set_cons_succ])
      refine wpList_end ?_
      go_wp2_with fail
      refine bodyPost_ret (results_tmp Tryd.results35 _ _ _) rfl ⟨_, rfl, ?_⟩
      rw [EX.out]; exact hI.out
    · have hk1 : ((n + 1 : Nat) : Int) ≤ 14 := by omega
      have EN : Hid (hidI W b (n + 1) = xorB (if n + 1 < 14 then mixB (turnB 1 (boxB (hidI W b n))) else turnB 1 (boxB (hidI W b n))) (rkey W (n + 1))) := Lib.hid rfl
      generalize hidI W b n = s at *
      obtain ⟨f, hf⟩ : ∃ f : Nat → BitVec 8, f = fun i => bx (s.getD ((i + 4 * (i % 4)) % 16) 0) := ⟨_, rfl⟩
      have EF : Hid (∀ i, bx (s.getD ((i + 4 * (i % 4)) % 16) 0) = f i) := Lib.hid fun i => by rw [hf]
      have ET : Hid (turnB 1 (boxB s) = tab 16 f) := Lib.hid (by rw [turn_box, hf])
      clear hf
      have bl0 := hI.out.bl
      obtain ⟨gs, fs, cs, rfl, hrs⟩ := hI.out.sl.rd (by omega)
      rw [hil]
      have HRS := Lib.hid hrs
      clear hrs
      generalize hwr : wr = b0 at *
      clear hwr
      have hM := Lib.hid (Ms.nil b0)
      go_upto_region 5 with fail; refine wp_region_lit ?_
      refine wpList_val (run_mk8 (n := 16) rfl rfl rfl (by omega)) rfl ?_; (try simp only [Act.put, List.setIfInBounds_toArray, List.set_cons_zero, List.set_cons_succ])
      replace hM := Lib.hid (hM.out.newZ 16 5)
      generalize b0.alloc (.cells (z8 16).toArray 5) = b1 at *
      obtain ⟨gt, hgt⟩ : ∃ gt, gt = b0.heap.size := ⟨_, rfl⟩
      rw [← hgt] at hM
      rw [← hgt]
      clear hgt
      refine wpList_val (run_asg (v := .slice (some _) _ _) rfl rfl) rfl ?_; (try simp only [Act.put, List.setIfInBounds_toArray, List.set_cons_zero, List.set_cons_succ])
      refine wpList_end ?_
      replace hM : Hid (Ms b0 [(gt, upd f (List.replicate 16 0) 0)] b1) := Lib.hid (by rw [upd_zero]; exact hM.out)
      go_wp2_with fail
      go_loopw [9] (fun z u => ∃ j : Nat, j ≤ 16 ∧ z = .int .i64 (j : Int) ∧ Ms b0 [(gt, upd f (List.replicate 16 0) j)] u) (fun z _ => (16 - intOf z).toNat)
      case atStart => exact ⟨0, by omega, rfl, hM.out⟩
      case round =>
        obtain ⟨j, hj, rfl, hJ⟩ := hrel
        replace hM := Lib.hid hJ
        clear hJ
        have hul : (upd f (List.replicate 16 0) j).length = 16 := by rw [upd_len, List.length_replicate]
        by_cases hj16 : j = 16
        · subst hj16
          have hk2 : ¬ (((16 : Nat) : Int) < 16) := by omega
          rw [upd_all List.length_replicate] at hM
          have htl := tab_len 16 f
          rw [ET.out] at EN
          generalize tab 16 f = t at *
          have hS0 : Hid (Below w.heap.size w wr) := Lib.hid (bl0.trans (hM.out.bl.mono bl0.size))
          have hT : Hid (Sl (.slice (some ⟨gt, 0, none⟩) 16 16) t wr) := Lib.hid (sl_arr (hM.out.get (i := 0) rfl) htl)
          clear hM HRS hI
          by_cases h14 : n + 1 < 14
          · have hk3 : ((n + 1 : Nat) : Int) < 14 := by omega
            rw [if_pos h14, ← mix_eq] at EN
            go_upto_region 11 with fail; refine wp_region_lit ?_
            refine wpList_val (run_mv (v := .slice (some _) _ _) rfl rfl) rfl ?_; (try simp only [Act.put, List.setIfInBounds_toArray, List.set_cons_zero, List.set_cons_succ])
            refine wpList_val (run_bsl (cells := #[b8 2, b8 3, b8 1, b8 1]) (z := .int .u8 0) rfl Tryd.underlying30 (by kernel_rfl) (by omega) (by omega) (by kernel_rfl)) rfl ?_; (try simp only [Act.put, List.setIfInBounds_toArray, List.set_cons_zero, List.set_cons_succ])
            have hbn : Below wr.heap.size wr (wr.alloc (.cells #[b8 2, b8 3, b8 1, b8 1] 5)) := (Below.refl _ _).alloc (Nat.le_refl _) _
            have hB4 : Hid (Sl (.slice (some ⟨wr.heap.size, 0, none⟩) 4 4) [2, 3, 1, 1] (wr.alloc (.cells #[b8 2, b8 3, b8 1, b8 1] 5))) := Lib.hid (sl_four wr 2 3 1 1 5)
            replace hT := Lib.hid (hT.out.below hbn)
            replace hS0 := Lib.hid (hS0.out.trans (hbn.mono hS0.out.size))
            clear hbn
            generalize wr.alloc (.cells #[b8 2, b8 3, b8 1, b8 1] 5) = c1 at *
            refine wpList_callR (run_call2 enters_mixed rfl rfl rfl rfl) rfl (mixed_any _ t _ [2, 3, 1, 1] _ hT.out htl hB4.out rfl) (fun v8 c2 hR => ?_); (try simp only [Act.put, List.setIfInBounds_toArray, List.set_cons_zero, List.set_cons_succ])
            refine wpList_val (run_asg (v := v8) rfl rfl) rfl ?_; (try simp only [Act.put, List.setIfInBounds_toArray, List.set_cons_zero, List.set_cons_succ])
            refine wpList_end ?_
            have hml : (mxB [2, 3, 1, 1] t).length = 16 := tab_len _ _
            generalize mxB [2, 3, 1, 1] t = m at *
            replace hS0 := Lib.hid (hS0.out.trans (hR.bl.mono hS0.out.size))
            have hX := Lib.hid hR.sl
            clear hR hT hB4
            go_upto_region 12 with fail; refine wp_region_lit ?_; refine wpList_val (run_mv (v := v8) rfl rfl) rfl ?_; (try simp only [Act.put, List.setIfInBounds_toArray, List.set_cons_zero, List.set_cons_succ]); refine wpList_val (run_mv (v := vw) rfl rfl) rfl ?_; (try simp only [Act.put, List.setIfInBounds_toArray, List.set_cons_zero, List.set_cons_succ]); refine wpList_val (run_mv (v := .int _ _) rfl rfl) rfl ?_; (try simp only [Act.put, List.setIfInBounds_toArray, List.set_cons_zero, List.set_cons_succ]); refine wpList_callR (run_call3 enters_xored rfl rfl rfl rfl rfl) rfl (xored_any _ m vw W (n + 1) _ hX.out hml (HW.out.below hS0.out) hW (by omega)) (fun v9 c9 hR => ?_); (try simp only [Act.put, List.setIfInBounds_toArray, List.set_cons_zero, List.set_cons_succ]); refine wpList_val (run_asg (v := v9) rfl rfl) rfl ?_; (try simp only [Act.put, List.setIfInBounds_toArray, List.set_cons_zero, List.set_cons_succ]); refine wpList_end ?_; have hI : Hid (S5 w v9 (hidI W b (n + 1)) c9) := Lib.hid (by rw [EN.out]; exact hR.mono hS0.out); clear hR; go_wp2_with fail; go_roundw; (case rel => exact ⟨n + 1, by omega, by go_num, hI.out⟩); (case measure => simp [intOf]; omega)
          · have hk3 : ¬ (((n + 1 : Nat) : Int) < 14) := by omega
            rw [if_neg h14] at EN
            have hX := hT
            go_upto_region 12 with fail; refine wp_region_lit ?_; refine wpList_val (run_mv (v := .slice (some _) _ _) rfl rfl) rfl ?_; (try simp only [Act.put, List.setIfInBounds_toArray, List.set_cons_zero, List.set_cons_succ]); refine wpList_val (run_mv (v := vw) rfl rfl) rfl ?_; (try simp only [Act.put, List.setIfInBounds_toArray, List.set_cons_zero, List.set_cons_succ]); refine wpList_val (run_mv (v := .int _ _) rfl rfl) rfl ?_; (try simp only [Act.put, List.setIfInBounds_toArray, List.set_cons_zero, List.set_cons_succ]); refine wpList_callR (run_call3 enters_xored rfl rfl rfl rfl rfl) rfl (xored_any _ t vw W (n + 1) _ hX.out htl (HW.out.below hS0.out) hW (by omega)) (fun v9 c9 hR => ?_); (try simp only [Act.put, List.setIfInBounds_toArray, List.set_cons_zero, List.set_cons_succ]); refine wpList_val (run_asg (v := v9) rfl rfl) rfl ?_; (try simp only [Act.put, List.setIfInBounds_toArray, List.set_cons_zero, List.set_cons_succ]); refine wpList_end ?_; have hI : Hid (S5 w v9 (hidI W b (n + 1)) c9) := Lib.hid (by rw [EN.out]; exact hR.mono hS0.out); clear hR; go_wp2_with fail; go_roundw; (case rel => exact ⟨n + 1, by omega, by go_num, hI.out⟩); (case measure => simp [intOf]; omega)
        · have hk2 : (j : Int) < 16 := by omega
          have C1 : Hid (wr.cell? ⟨gs, fs + (j + 4 * (j % 4)) % 16, none⟩ = some (b8 (s.getD ((j + 4 * (j % 4)) % 16) 0))) := Lib.hid (HRS.out wr hM.out.bl _ (by omega))
          have C2 : Hid (wr.cell? ⟨g, o + (s.getD ((j + 4 * (j % 4)) % 16) 0).toNat, none⟩ = some (b8 (f j))) := Lib.hid (by rw [← EF.out j]; exact HR.out wr (bl0.trans (hM.out.bl.mono bl0.size)) _)
          have hxl := (s.getD ((j + 4 * (j % 4)) % 16) 0).isLt
          generalize s.getD ((j + 4 * (j % 4)) % 16) 0 = x at *
          go_upto_region 9 with fail; refine wp_region_lit ?_
          refine wpList_val (run_mv (v := .slice (some _) _ _) rfl rfl) rfl ?_; (try simp only [Act.put, List.setIfInBounds_toArray, List.set_cons_zero, List.set_cons_succ]); refine wpList_val (run_mv (v := .int _ _) rfl rfl) rfl ?_; (try simp only [Act.put, List.setIfInBounds_toArray, List.set_cons_zero, List.set_cons_succ]); refine wpList_val (run_mv (v := .slice (some _) _ _) rfl rfl) rfl ?_; (try simp only [Act.put, List.setIfInBounds_toArray, List.set_cons_zero, List.set_cons_succ]); refine wpList_val (run_mv (v := .slice (some _) _ _) rfl rfl) rfl ?_; (try simp only [Act.put, List.setIfInBounds_toArray, List.set_cons_zero, List.set_cons_succ]); refine wpList_val (run_mv (v := .int _ _) rfl rfl) rfl ?_; (try simp only [Act.put, List.setIfInBounds_toArray, List.set_cons_zero, List.set_cons_succ]); refine wpList_val (run_mv (v := .int _ _) rfl rfl) rfl ?_; (try simp only [Act.put, List.setIfInBounds_toArray, List.set_cons_zero, List.set_cons_succ])
          refine wpList_val (run_remN (b := 4) rfl rfl rfl (by omega)) rfl ?_; (try simp only [Act.put, List.setIfInBounds_toArray, List.set_cons_zero, List.set_cons_succ])
          refine wpList_val (run_mulN (a := 4) rfl rfl rfl (by omega)) rfl ?_; (try simp only [Act.put, List.setIfInBounds_toArray, List.set_cons_zero, List.set_cons_succ])
          refine wpList_val (run_addN rfl rfl rfl (by omega)) rfl ?_; (try simp only [Act.put, List.setIfInBounds_toArray, List.set_cons_zero, List.set_cons_succ])
          refine wpList_val (run_remN (b := 16) rfl rfl rfl (by omega)) rfl ?_; (try simp only [Act.put, List.setIfInBounds_toArray, List.set_cons_zero, List.set_cons_succ])
          refine wpList_val (run_ixs rfl Tryd.underlying30 (by kernel_rfl) rfl rfl (by omega)) rfl ?_; (try simp only [Act.put, List.setIfInBounds_toArray, List.set_cons_zero, List.set_cons_succ])
          refine wpList_val (run_ld8 rfl rfl C1.out) rfl ?_; (try simp only [Act.put, List.setIfInBounds_toArray, List.set_cons_zero, List.set_cons_succ])
          refine wpList_val (run_ixs rfl Tryd.underlying30 (by kernel_rfl) rfl rfl hxl) rfl ?_; (try simp only [Act.put, List.setIfInBounds_toArray, List.set_cons_zero, List.set_cons_succ])
          refine wpList_val (run_ld8 rfl rfl C2.out) rfl ?_; (try simp only [Act.put, List.setIfInBounds_toArray, List.set_cons_zero, List.set_cons_succ])
          refine wpList_val (run_ixs rfl Tryd.underlying30 (by kernel_rfl) rfl rfl (by omega)) rfl ?_; (try simp only [Act.put, List.setIfInBounds_toArray, List.set_cons_zero, List.set_cons_succ])
          rw [Nat.zero_add j]
          refine wpList_skip (run_st8 rfl rfl rfl ((hM.out.get (i := 0) rfl).get8 (by omega)) ((hM.out.get (i := 0) rfl).f _)) rfl rfl ?_
          refine wpList_end ?_
          replace hM : Hid (Ms b0 [(gt, upd f (List.replicate 16 0) (j + 1))] (wr.setCell ⟨gt, j, none⟩ (b8 (f j)))) := Lib.hid (by rw [← upd_set (by rw [List.length_replicate]; omega)]; exact hM.out.set 0 rfl (by omega) (f j))
          generalize wr.setCell ⟨gt, j, none⟩ (b8 (f j)) = b5 at *
          go_wp2_with fail
          go_roundw
          case rel => exact ⟨j + 1, by omega, by go_num, hM.out⟩
          case measure => simp [intOf]; omega
theorem enters_hidden : Enters 35 := enters_of Tryd.func35 (by kernel_rfl) rfl
end Go.Proofs.YtobpgolchlgpfaaDoor
