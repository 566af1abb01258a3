/- What the laws' own function known does. -/
import Derived.Test.YtlfggmdlgeakeaaAesCi
namespace Go.Proofs.Ytlfggmdlgeakeaa
open Go.RowKit

def exKf (i : Nat) : BitVec 8 := BitVec.ofNat 8 i
def exBf (i : Nat) : BitVec 8 := BitVec.ofNat 8 (17 * i)
theorem bx_0 : bx 0 = 0x63 := by decide +kernel
theorem ub_63 : ub 0x63 = 0 := by decide +kernel
theorem known_facts : ∃ (fK fB : Nat → BitVec 8) (K B X : List (BitVec 8)), (∀ i, BitVec.ofNat 8 i = fK i) ∧ (∀ i, BitVec.ofNat 8 (17 * i) = fB i) ∧ tab 32 fK = K ∧ tab 16 fB = B ∧ blockB K B = X ∧ unblockB K X = B ∧ X.length = 16 ∧ K.length = 32 ∧ B.length = 16 ∧ X.getD 0 0 = 0x8e ∧ X.getD 1 0 = 0xa2 ∧ X.getD 2 0 = 0xb7 ∧ X.getD 15 0 = 0x89 :=
  ⟨exKf, exBf, exK, exB, blockB exK exB, fun _ => rfl, fun _ => rfl, rfl, rfl, rfl, unblock_block exK (tab_len _ _), blockB_len _ _, tab_len _ _, tab_len _ _, example1⟩
set_option maxRecDepth 20000 in
set_option maxHeartbeats 4000000 in
theorem known_any (w : World) : Calls Try.prog 13 #[] w fun e w' => e = .returned (.bool true) ∧ Below w.heap.size w w' := by
  have hM := Lib.hid (Ms.nil w)
  obtain ⟨fK, fB, K, B, X, e1, e2, e3, e4, e5, e6, hxl, hkl, hbl, e7⟩ := known_facts
  have EfK := Lib.hid e1
  have EfB := Lib.hid e2
  have EK := Lib.hid e3
  have EB := Lib.hid e4
  have EX := Lib.hid e5
  have HB := Lib.hid e6
  have HE := Lib.hid e7
  clear e1 e2 e3 e4 e5 e6 e7
  go_enter Try.func13, Try.ntmps13
  go_upto_region 1 with fail; refine wp_region_lit ?_
  refine wpList_val (run_bld (cells := (z8 32).toArray) rfl (by kernel_rfl)) rfl ?_; (try simp only [Act.put, List.setIfInBounds_toArray, List.set_cons_zero, List.set_cons_succ]); refine wpList_val (run_alc (vs := z8 32) rfl (by kernel_rfl)) rfl ?_; (try simp only [Act.put, List.setIfInBounds_toArray, List.set_cons_zero, List.set_cons_succ]); replace hM := Lib.hid (hM.out.newZ 32 23); generalize w.alloc (.cells (z8 32).toArray 23) = a1 at *; generalize w.heap.size = g1 at *; refine wpList_skip (run_stA (vs := z8 32) rfl (sz (l := List.replicate 32 0) szKey List.length_replicate) rfl rfl (oneB (List.replicate 32 0)) ((hM.out.get (i := 0) rfl).there8 rfl)) rfl rfl ?_; refine wpList_end ?_; replace hM := Lib.hid (show Ms _ _ (a1.setCells g1 0 (z8 32)) from hM.out.put 0 rfl (m := List.replicate 32 0) rfl)
  generalize a1.setCells g1 0 (z8 32) = a2 at *
  replace hM : Hid (Ms w [(g1, List.replicate 32 0)] a2) := hM
  go_upto_region 2 with fail; refine wp_region_lit ?_
  refine wpList_val (run_bld (cells := (z8 16).toArray) rfl (by kernel_rfl)) rfl ?_; (try simp only [Act.put, List.setIfInBounds_toArray, List.set_cons_zero, List.set_cons_succ]); refine wpList_val (run_alc (vs := z8 16) rfl (by kernel_rfl)) rfl ?_; (try simp only [Act.put, List.setIfInBounds_toArray, List.set_cons_zero, List.set_cons_succ]); replace hM := Lib.hid (hM.out.newZ 16 24); generalize a2.alloc (.cells (z8 16).toArray 24) = a3 at *; generalize a2.heap.size = g2 at *; refine wpList_skip (run_stA (vs := z8 16) rfl (sz (l := List.replicate 16 0) sz16 List.length_replicate) rfl rfl (oneB (List.replicate 16 0)) ((hM.out.get (i := 0) rfl).there8 rfl)) rfl rfl ?_; refine wpList_end ?_; replace hM := Lib.hid (show Ms _ _ (a3.setCells g2 0 (z8 16)) from hM.out.put 0 rfl (m := List.replicate 16 0) rfl)
  generalize a3.setCells g2 0 (z8 16) = a4 at *
  replace hM : Hid (Ms w [(g2, List.replicate 16 0), (g1, upd fK (List.replicate 32 0) 0)] a4) := Lib.hid (by rw [upd_zero]; exact hM.out)
  go_wp2_with fail
  go_loopw [3] (fun s u => ∃ j : Nat, j ≤ 32 ∧ s = .int .i64 (j : Int) ∧ Ms w [(g2, List.replicate 16 0), (g1, upd fK (List.replicate 32 0) j)] u) (fun s _ => (32 - intOf s).toNat)
  case atStart => exact ⟨0, by omega, rfl, hM.out⟩
  case round =>
    obtain ⟨j, hj, rfl, hJ⟩ := hrel
    replace hM := Lib.hid hJ
    clear hJ
    by_cases hlt : j = 32
    · subst hlt
      have hk1 : ¬ (((32 : Nat) : Int) < 32) := by omega
      replace hM : Hid (Ms w [(g2, upd fB (List.replicate 16 0) 0), (g1, K)] wr) := Lib.hid (by
        have := hM.out
        rw [upd_all List.length_replicate, EK.out] at this
        rw [upd_zero]; exact this)
      go_upto_region 7 with fail
      clear hk1 hj
      go_wp2_with fail
      go_loopw [4] (fun s u => ∃ j : Nat, j ≤ 16 ∧ s = .int .i64 (j : Int) ∧ Ms w [(g2, upd fB (List.replicate 16 0) j), (g1, K)] u) (fun s _ => (16 - intOf s).toNat)
      case atStart => exact ⟨0, by omega, rfl, hM.out⟩
      case round =>
        obtain ⟨j, hj, rfl, hJ⟩ := hrel
        replace hM := Lib.hid hJ
        clear hJ
        by_cases hlt : j = 16
        · subst hlt
          have hk1 : ¬ (((16 : Nat) : Int) < 16) := by omega
          replace hM : Hid (Ms w [(g2, B), (g1, K)] wr) := Lib.hid (by
            have := hM.out
            rw [upd_all List.length_replicate, EB.out] at this
            exact this)
          go_upto_region 11 with fail; refine wp_region_lit ?_
          refine wpList_val (run_ldM (vs := K.map b8) rfl Try.underlying23 rfl (sz szKey hkl) rfl (hM.out.get (i := 1) rfl).range) rfl ?_; (try simp only [Act.put, List.setIfInBounds_toArray, List.set_cons_zero, List.set_cons_succ])
          refine wpList_val (run_ldM (vs := B.map b8) rfl Try.underlying24 rfl (sz sz16 hbl) rfl (hM.out.get (i := 0) rfl).range) rfl ?_; (try simp only [Act.put, List.setIfInBounds_toArray, List.set_cons_zero, List.set_cons_succ])
          refine wpList_enter (run_call2 enters_block rfl rfl rfl rfl) rfl (block_any K B _ hkl hbl) (fun b1 hb => ?_); (try simp only [Act.put, List.setIfInBounds_toArray, List.set_cons_zero, List.set_cons_succ])
          replace hM := Lib.hid (hM.out.below hb)
          clear hb
          rw [EX.out]
          refine wpList_val (run_alc (vs := z8 16) rfl (by kernel_rfl)) rfl ?_; (try simp only [Act.put, List.setIfInBounds_toArray, List.set_cons_zero, List.set_cons_succ]); replace hM := Lib.hid (hM.out.newZ 16 24); generalize b1.alloc (.cells (z8 16).toArray 24) = b2 at *; generalize b1.heap.size = g3 at *; refine wpList_skip (run_stA (vs := (X).map b8) rfl (sz sz16 hxl) rfl rfl (oneB _) ((hM.out.get (i := 0) rfl).there8 (by rw [hxl, List.length_replicate]))) rfl rfl ?_; refine wpList_end ?_; replace hM := Lib.hid (hM.out.put 0 rfl (m := X) (by rw [hxl, List.length_replicate])); generalize b2.setCells g3 0 ((X).map b8) = b3 at *
          replace hM : Hid (Ms w [(g3, X), (g2, B), (g1, K)] b3) := hM
          have C : Hid (∀ V, Below b3.heap.size b3 V → ∀ i, i < 16 → V.cell? ⟨g3, i, none⟩ = some (b8 (X.getD i 0))) := Lib.hid fun V hV i hi => ((hM.out.below hV).get (i := 0) rfl).get8 (i := i) (by omega)
          go_upto_region 12 with fail
          refine wp_region_noPanic ?_; refine wp_region_late (S := fun _ V => Below b3.heap.size b3 V) (by kernel_rfl) ((Below.refl _ _).drew) (fun hS => ?_)
          generalize b3.drew = b4 at *
          refine wpAnyL_take 0 rfl rfl (by kernel_rfl) (by kernel_rfl) (by kernel_rfl) (fun _ _ _ h => h) rfl (fun V hV => run_ix0 (i := 0) rfl Try.underlying24 (by kernel_rfl) rfl rfl (by omega)) hS ?_; (try simp only [Act.put, List.setIfInBounds_toArray, List.set_cons_zero, List.set_cons_succ])
          refine wpAnyL_take 1 rfl rfl (by kernel_rfl) (by kernel_rfl) (by kernel_rfl) (fun _ _ _ h => h) rfl (fun V hV => run_ld8 rfl rfl (C.out V hV 0 (by omega))) hS ?_; (try simp only [Act.put, List.setIfInBounds_toArray, List.set_cons_zero, List.set_cons_succ])
          rw [HE.out.1]
          refine wpAnyL_take 2 rfl rfl (by kernel_rfl) (by kernel_rfl) (by kernel_rfl) (fun _ _ _ h => h) rfl (fun V hV => run_eqv8 (b := 0x8e) (c := true) rfl rfl rfl rfl) hS ?_; (try simp only [Act.put, List.setIfInBounds_toArray, List.set_cons_zero, List.set_cons_succ])
          refine wpAnyL_take 3 rfl rfl (by kernel_rfl) (by kernel_rfl) (by kernel_rfl) (fun _ _ _ h => h) rfl (fun V hV => run_mv (v := .bool true) rfl rfl) hS ?_; (try simp only [Act.put, List.setIfInBounds_toArray, List.set_cons_zero, List.set_cons_succ])
          refine wpAnyL_take 4 rfl rfl (by kernel_rfl) (by kernel_rfl) (by kernel_rfl) (fun _ _ _ h => h) rfl (fun V hV => run_ix0 (i := 1) rfl Try.underlying24 (by kernel_rfl) rfl rfl (by omega)) hS ?_; (try simp only [Act.put, List.setIfInBounds_toArray, List.set_cons_zero, List.set_cons_succ])
          refine wpAnyL_take 5 rfl rfl (by kernel_rfl) (by kernel_rfl) (by kernel_rfl) (fun _ _ _ h => h) rfl (fun V hV => run_ld8 rfl rfl (C.out V hV 1 (by omega))) hS ?_; (try simp only [Act.put, List.setIfInBounds_toArray, List.set_cons_zero, List.set_cons_succ])
          rw [HE.out.2.1]
          refine wpAnyL_take 6 rfl rfl (by kernel_rfl) (by kernel_rfl) (by kernel_rfl) (fun _ _ _ h => h) rfl (fun V hV => run_eqv8 (b := 0xa2) (c := true) rfl rfl rfl rfl) hS ?_; (try simp only [Act.put, List.setIfInBounds_toArray, List.set_cons_zero, List.set_cons_succ])
          refine wpAnyL_take 7 rfl rfl (by kernel_rfl) (by kernel_rfl) (by kernel_rfl) (fun _ _ _ h => h) rfl (fun V hV => run_pick (b := true) (v := .bool true) rfl rfl rfl) hS ?_; (try simp only [Act.put, List.setIfInBounds_toArray, List.set_cons_zero, List.set_cons_succ])
          refine wpAnyL_take 8 rfl rfl (by kernel_rfl) (by kernel_rfl) (by kernel_rfl) (fun _ _ _ h => h) rfl (fun V hV => run_mv (v := .bool true) rfl rfl) hS ?_; (try simp only [Act.put, List.setIfInBounds_toArray, List.set_cons_zero, List.set_cons_succ])
          refine wpAnyL_take 9 rfl rfl (by kernel_rfl) (by kernel_rfl) (by kernel_rfl) (fun _ _ _ h => h) rfl (fun V hV => run_ix0 (i := 2) rfl Try.underlying24 (by kernel_rfl) rfl rfl (by omega)) hS ?_; (try simp only [Act.put, List.setIfInBounds_toArray, List.set_cons_zero, List.set_cons_succ])
          refine wpAnyL_take 10 rfl rfl (by kernel_rfl) (by kernel_rfl) (by kernel_rfl) (fun _ _ _ h => h) rfl (fun V hV => run_ld8 rfl rfl (C.out V hV 2 (by omega))) hS ?_; (try simp only [Act.put, List.setIfInBounds_toArray, List.set_cons_zero, List.set_cons_succ])
          rw [HE.out.2.2.1]
          refine wpAnyL_take 11 rfl rfl (by kernel_rfl) (by kernel_rfl) (by kernel_rfl) (fun _ _ _ h => h) rfl (fun V hV => run_eqv8 (b := 0xb7) (c := true) rfl rfl rfl rfl) hS ?_; (try simp only [Act.put, List.setIfInBounds_toArray, List.set_cons_zero, List.set_cons_succ])
          refine wpAnyL_take 12 rfl rfl (by kernel_rfl) (by kernel_rfl) (by kernel_rfl) (fun _ _ _ h => h) rfl (fun V hV => run_pick (b := true) (v := .bool true) rfl rfl rfl) hS ?_; (try simp only [Act.put, List.setIfInBounds_toArray, List.set_cons_zero, List.set_cons_succ])
          refine wpAnyL_take 13 rfl rfl (by kernel_rfl) (by kernel_rfl) (by kernel_rfl) (fun _ _ _ h => h) rfl (fun V hV => run_mv (v := .bool true) rfl rfl) hS ?_; (try simp only [Act.put, List.setIfInBounds_toArray, List.set_cons_zero, List.set_cons_succ])
          refine wpAnyL_take 14 rfl rfl (by kernel_rfl) (by kernel_rfl) (by kernel_rfl) (fun _ _ _ h => h) rfl (fun V hV => run_ix0 (i := 15) rfl Try.underlying24 (by kernel_rfl) rfl rfl (by omega)) hS ?_; (try simp only [Act.put, List.setIfInBounds_toArray, List.set_cons_zero, List.set_cons_succ])
          refine wpAnyL_take 15 rfl rfl (by kernel_rfl) (by kernel_rfl) (by kernel_rfl) (fun _ _ _ h => h) rfl (fun V hV => run_ld8 rfl rfl (C.out V hV 15 (by omega))) hS ?_; (try simp only [Act.put, List.setIfInBounds_toArray, List.set_cons_zero, List.set_cons_succ])
          rw [HE.out.2.2.2]
          refine wpAnyL_take 16 rfl rfl (by kernel_rfl) (by kernel_rfl) (by kernel_rfl) (fun _ _ _ h => h) rfl (fun V hV => run_eqv8 (b := 0x89) (c := true) rfl rfl rfl rfl) hS ?_; (try simp only [Act.put, List.setIfInBounds_toArray, List.set_cons_zero, List.set_cons_succ])
          refine wpAnyL_take 17 rfl rfl (by kernel_rfl) (by kernel_rfl) (by kernel_rfl) (fun _ _ _ h => h) rfl (fun V hV => run_pick (b := true) (v := .bool true) rfl rfl rfl) hS ?_; (try simp only [Act.put, List.setIfInBounds_toArray, List.set_cons_zero, List.set_cons_succ])
          refine wpAnyL_take 18 rfl rfl (by kernel_rfl) (by kernel_rfl) (by kernel_rfl) (fun _ _ _ h => h) rfl (fun V hV => run_mv (v := .bool true) rfl rfl) hS ?_; (try simp only [Act.put, List.setIfInBounds_toArray, List.set_cons_zero, List.set_cons_succ])
          refine wpAnyL_take 19 rfl rfl (by kernel_rfl) (by kernel_rfl) (by kernel_rfl) (fun _ _ _ h => h) rfl (fun V hV => run_ldM (vs := K.map b8) rfl Try.underlying23 rfl (sz szKey hkl) rfl ((hM.out.below hV).get (i := 2) rfl).range) hS ?_; (try simp only [Act.put, List.setIfInBounds_toArray, List.set_cons_zero, List.set_cons_succ])
          refine wpAnyL_take 20 rfl rfl (by kernel_rfl) (by kernel_rfl) (by kernel_rfl) (fun _ _ _ h => h) rfl (fun V hV => run_ldM (vs := X.map b8) rfl Try.underlying24 rfl (sz sz16 hxl) rfl ((hM.out.below hV).get (i := 0) rfl).range) hS ?_; (try simp only [Act.put, List.setIfInBounds_toArray, List.set_cons_zero, List.set_cons_succ])
          refine wpAnyL_take 22 rfl rfl (by kernel_rfl) (by kernel_rfl) (by kernel_rfl) (fun _ _ _ h => h) rfl (fun V hV => run_ldM (vs := B.map b8) rfl Try.underlying24 rfl (sz sz16 hbl) rfl ((hM.out.below hV).get (i := 1) rfl).range) hS ?_; (try simp only [Act.put, List.setIfInBounds_toArray, List.set_cons_zero, List.set_cons_succ])
          refine wpAnyL_call (R := fun v w => v = .agg ((unblockB K X).map b8).toArray ∧ Below b4.heap.size b4 w) 21 (by kernel_rfl) rfl rfl rfl (run_call2 enters_unblock rfl rfl rfl rfl) (calls_eq (unblock_any K X _ hkl hxl)) (fun v w h => hS.trans (h.2.mono hS.size)) (fun v b5 h => ?_); obtain ⟨rfl, hb⟩ := h; replace hS := hS.trans (hb.mono hS.size); (try simp only [Act.put, List.setIfInBounds_toArray, List.set_cons_zero, List.set_cons_succ])
          clear hb
          rw [HB.out]
          refine wpAnyL_take 23 rfl rfl (by kernel_rfl) (by kernel_rfl) (by kernel_rfl) (fun _ _ _ h => h) rfl (fun V hV => run_eq16 (c := true) hbl hbl rfl rfl rfl (decide_eq_true rfl)) hS ?_; (try simp only [Act.put, List.setIfInBounds_toArray, List.set_cons_zero, List.set_cons_succ])
          refine wpAnyL_take 24 rfl rfl (by kernel_rfl) (by kernel_rfl) (by kernel_rfl) (fun _ _ _ h => h) rfl (fun V hV => run_pick (b := true) (v := .bool true) rfl rfl rfl) hS ?_; (try simp only [Act.put, List.setIfInBounds_toArray, List.set_cons_zero, List.set_cons_succ])
          refine wpAnyL_take 25 rfl rfl (by kernel_rfl) (by kernel_rfl) (by kernel_rfl) (fun _ _ _ h => h) rfl (fun V hV => run_mv (v := .bool true) rfl rfl) hS ?_; (try simp only [Act.put, List.setIfInBounds_toArray, List.set_cons_zero, List.set_cons_succ])
          refine wpAnyL_call (R := fun v w => v = b8 (bx 0) ∧ Below b5.heap.size b5 w) 26 (by kernel_rfl) rfl rfl rfl (run_call1 (a := b8 0) enters_box rfl rfl rfl) (calls_eq (box_any 0 _)) (fun v w h => hS.trans (h.2.mono hS.size)) (fun v b6 h => ?_); obtain ⟨rfl, hb⟩ := h; replace hS := hS.trans (hb.mono hS.size); (try simp only [Act.put, List.setIfInBounds_toArray, List.set_cons_zero, List.set_cons_succ])
          clear hb
          rw [bx_0]
          refine wpAnyL_take 27 rfl rfl (by kernel_rfl) (by kernel_rfl) (by kernel_rfl) (fun _ _ _ h => h) rfl (fun V hV => run_eqv8 (b := 0x63) (c := true) rfl rfl rfl rfl) hS ?_; (try simp only [Act.put, List.setIfInBounds_toArray, List.set_cons_zero, List.set_cons_succ])
          refine wpAnyL_take 28 rfl rfl (by kernel_rfl) (by kernel_rfl) (by kernel_rfl) (fun _ _ _ h => h) rfl (fun V hV => run_pick (b := true) (v := .bool true) rfl rfl rfl) hS ?_; (try simp only [Act.put, List.setIfInBounds_toArray, List.set_cons_zero, List.set_cons_succ])
          refine wpAnyL_take 29 rfl rfl (by kernel_rfl) (by kernel_rfl) (by kernel_rfl) (fun _ _ _ h => h) rfl (fun V hV => run_mv (v := .bool true) rfl rfl) hS ?_; (try simp only [Act.put, List.setIfInBounds_toArray, List.set_cons_zero, List.set_cons_succ])
          refine wpAnyL_call (R := fun v w => v = b8 (ub 0x63) ∧ Below b6.heap.size b6 w) 30 (by kernel_rfl) rfl rfl rfl (run_call1 (a := b8 0x63) enters_unbox rfl rfl rfl) (calls_eq (unbox_any 0x63 _)) (fun v w h => hS.trans (h.2.mono hS.size)) (fun v b7 h => ?_); obtain ⟨rfl, hb⟩ := h; replace hS := hS.trans (hb.mono hS.size); (try simp only [Act.put, List.setIfInBounds_toArray, List.set_cons_zero, List.set_cons_succ])
          clear hb
          rw [ub_63]
          refine wpAnyL_take 31 rfl rfl (by kernel_rfl) (by kernel_rfl) (by kernel_rfl) (fun _ _ _ h => h) rfl (fun V hV => run_eqv8 (b := 0) (c := true) rfl rfl rfl rfl) hS ?_; (try simp only [Act.put, List.setIfInBounds_toArray, List.set_cons_zero, List.set_cons_succ])
          refine wpAnyL_take 32 rfl rfl (by kernel_rfl) (by kernel_rfl) (by kernel_rfl) (fun _ _ _ h => h) rfl (fun V hV => run_pick (b := true) (v := .bool true) rfl rfl rfl) hS ?_; (try simp only [Act.put, List.setIfInBounds_toArray, List.set_cons_zero, List.set_cons_succ])
          refine wpAnyL_take 33 rfl rfl (by kernel_rfl) (by kernel_rfl) (by kernel_rfl) (fun _ _ _ h => h) rfl (fun V hV => run_asg (v := .bool true) rfl rfl) hS ?_; (try simp only [Act.put, List.setIfInBounds_toArray, List.set_cons_zero])
          refine wpAnyL_done (by kernel_rfl) ?_ _; refine NoPanic.normal ?_
          replace hM := Lib.hid (hM.out.below hS)
          go_wp2_with fail
          go_ret
          exact ⟨rfl, hM.out.bl⟩
        · have hk1 : (j : Int) < 16 := by omega
          have hul : (upd fB (List.replicate 16 0) j).length = 16 := by rw [upd_len, List.length_replicate]
          go_upto_region 10 with fail; refine wp_region_lit ?_
          (repeat ((first | refine wpList_val (run_mv (v := b32 _) rfl rfl) rfl ?_ | refine wpList_val (run_mv (v := b64 _) rfl rfl) rfl ?_ | refine wpList_val (run_mv (v := b8 _) rfl rfl) rfl ?_ | refine wpList_val (run_mv (v := .int _ _) rfl rfl) rfl ?_ | refine wpList_val (run_mv (v := .bool _) rfl rfl) rfl ?_ | refine wpList_val (run_mv (v := .slice (some _) _ _) rfl rfl) rfl ?_ | refine wpList_val (run_mv (v := .slice _ _ _) rfl rfl) rfl ?_ | refine wpList_val (run_mv (v := .pointer (some _)) rfl rfl) rfl ?_ | refine wpList_val (run_mv (v := .agg _) rfl rfl) rfl ?_ | refine wpList_val (run_asg (v := b32 _) rfl rfl) rfl ?_ | refine wpList_val (run_asg (v := b64 _) rfl rfl) rfl ?_ | refine wpList_val (run_asg (v := b8 _) rfl rfl) rfl ?_ | refine wpList_val (run_asg (v := .int _ _) rfl rfl) rfl ?_ | refine wpList_val (run_asg (v := .bool _) rfl rfl) rfl ?_ | refine wpList_val (run_asg (v := .slice (some _) _ _) rfl rfl) rfl ?_ | refine wpList_val (run_asg (v := .slice _ _ _) rfl rfl) rfl ?_ | refine wpList_val (run_asg (v := .pointer (some _)) rfl rfl) rfl ?_ | refine wpList_val (run_asg (v := .agg _) rfl rfl) rfl ?_ | refine wpList_val (run_mv rfl rfl) rfl ?_ | refine wpList_val (run_asg rfl rfl) rfl ?_ | refine wpList_val (run_xor32 rfl rfl rfl) rfl ?_ | refine wpList_val (run_and32 rfl rfl rfl) rfl ?_ | refine wpList_val (run_or32 rfl rfl rfl) rfl ?_ | refine wpList_val (run_add32 rfl rfl rfl) rfl ?_ | refine wpList_val (run_not32 rfl rfl) rfl ?_ | refine wpList_val (run_xor64 rfl rfl rfl) rfl ?_ | refine wpList_val (run_and64 rfl rfl rfl) rfl ?_ | refine wpList_val (run_or64 rfl rfl rfl) rfl ?_ | refine wpList_val (run_add64 rfl rfl rfl) rfl ?_ | refine wpList_val (run_not64 rfl rfl) rfl ?_ | refine wpList_val (run_xor8 rfl rfl rfl) rfl ?_ | refine wpList_val (run_and8 rfl rfl rfl) rfl ?_ | refine wpList_val (run_or8 rfl rfl rfl) rfl ?_ | refine wpList_val (run_add8 rfl rfl rfl) rfl ?_ | refine wpList_val (run_not8 rfl rfl) rfl ?_ | refine wpList_val (run_cv64_32 rfl rfl) rfl ?_ | refine wpList_val (run_cv8_32 rfl rfl) rfl ?_ | refine wpList_val (run_cv8_64 rfl rfl) rfl ?_ | refine wpList_val (run_cv32_8 rfl rfl) rfl ?_ | refine wpList_val (run_cv64_8 rfl rfl) rfl ?_); (try simp only [Act.put, List.setIfInBounds_toArray, List.set_cons_zero, List.set_cons_succ])))
          refine wpList_val (run_mulN (a := 17) rfl rfl rfl (by omega)) rfl ?_; (try simp only [Act.put, List.setIfInBounds_toArray, List.set_cons_zero, List.set_cons_succ])
          refine wpList_val (run_cvi_8 rfl rfl) rfl ?_; (try simp only [Act.put, List.setIfInBounds_toArray, List.set_cons_zero, List.set_cons_succ])
          rw [EfB.out j]
          refine wpList_val (run_ix0 rfl Try.underlying24 (by kernel_rfl) rfl rfl (by omega)) rfl ?_; (try simp only [Act.put, List.setIfInBounds_toArray, List.set_cons_zero, List.set_cons_succ])
          refine wpList_skip (run_st8 rfl rfl rfl ((hM.out.get (i := 0) rfl).get8 (by omega)) ((hM.out.get (i := 0) rfl).f _)) rfl rfl ?_
          refine wpList_end ?_
          replace hM : Hid (Ms w [(g2, upd fB (List.replicate 16 0) (j + 1)), (g1, K)] (wr.setCell ⟨g2, j, none⟩ (b8 (fB j)))) := Lib.hid (by rw [← upd_set (by rw [List.length_replicate]; omega)]; exact hM.out.set 0 rfl (by omega) (fB j))
          generalize wr.setCell ⟨g2, j, none⟩ (b8 (fB j)) = a5 at *
          go_wp2_with fail
          go_roundw
          case rel => exact ⟨j + 1, by omega, by go_num, hM.out⟩
          case measure => simp [intOf]; omega
    · have hk1 : (j : Int) < 32 := by omega
      have hul : (upd fK (List.replicate 32 0) j).length = 32 := by rw [upd_len, List.length_replicate]
      go_upto_region 6 with fail; refine wp_region_lit ?_
      (repeat ((first | refine wpList_val (run_mv (v := b32 _) rfl rfl) rfl ?_ | refine wpList_val (run_mv (v := b64 _) rfl rfl) rfl ?_ | refine wpList_val (run_mv (v := b8 _) rfl rfl) rfl ?_ | refine wpList_val (run_mv (v := .int _ _) rfl rfl) rfl ?_ | refine wpList_val (run_mv (v := .bool _) rfl rfl) rfl ?_ | refine wpList_val (run_mv (v := .slice (some _) _ _) rfl rfl) rfl ?_ | refine wpList_val (run_mv (v := .slice _ _ _) rfl rfl) rfl ?_ | refine wpList_val (run_mv (v := .pointer (some _)) rfl rfl) rfl ?_ | refine wpList_val (run_mv (v := .agg _) rfl rfl) rfl ?_ | refine wpList_val (run_asg (v := b32 _) rfl rfl) rfl ?_ | refine wpList_val (run_asg (v := b64 _) rfl rfl) rfl ?_ | refine wpList_val (run_asg (v := b8 _) rfl rfl) rfl ?_ | refine wpList_val (run_asg (v := .int _ _) rfl rfl) rfl ?_ | refine wpList_val (run_asg (v := .bool _) rfl rfl) rfl ?_ | refine wpList_val (run_asg (v := .slice (some _) _ _) rfl rfl) rfl ?_ | refine wpList_val (run_asg (v := .slice _ _ _) rfl rfl) rfl ?_ | refine wpList_val (run_asg (v := .pointer (some _)) rfl rfl) rfl ?_ | refine wpList_val (run_asg (v := .agg _) rfl rfl) rfl ?_ | refine wpList_val (run_mv rfl rfl) rfl ?_ | refine wpList_val (run_asg rfl rfl) rfl ?_ | refine wpList_val (run_xor32 rfl rfl rfl) rfl ?_ | refine wpList_val (run_and32 rfl rfl rfl) rfl ?_ | refine wpList_val (run_or32 rfl rfl rfl) rfl ?_ | refine wpList_val (run_add32 rfl rfl rfl) rfl ?_ | refine wpList_val (run_not32 rfl rfl) rfl ?_ | refine wpList_val (run_xor64 rfl rfl rfl) rfl ?_ | refine wpList_val (run_and64 rfl rfl rfl) rfl ?_ | refine wpList_val (run_or64 rfl rfl rfl) rfl ?_ | refine wpList_val (run_add64 rfl rfl rfl) rfl ?_ | refine wpList_val (run_not64 rfl rfl) rfl ?_ | refine wpList_val (run_xor8 rfl rfl rfl) rfl ?_ | refine wpList_val (run_and8 rfl rfl rfl) rfl ?_ | refine wpList_val (run_or8 rfl rfl rfl) rfl ?_ | refine wpList_val (run_add8 rfl rfl rfl) rfl ?_ | refine wpList_val (run_not8 rfl rfl) rfl ?_ | refine wpList_val (run_cv64_32 rfl rfl) rfl ?_ | refine wpList_val (run_cv8_32 rfl rfl) rfl ?_ | refine wpList_val (run_cv8_64 rfl rfl) rfl ?_ | refine wpList_val (run_cv32_8 rfl rfl) rfl ?_ | refine wpList_val (run_cv64_8 rfl rfl) rfl ?_); (try simp only [Act.put, List.setIfInBounds_toArray, List.set_cons_zero, List.set_cons_succ])))
      refine wpList_val (run_cvi_8 rfl rfl) rfl ?_; (try simp only [Act.put, List.setIfInBounds_toArray, List.set_cons_zero, List.set_cons_succ])
      rw [EfK.out j]
      refine wpList_val (run_ix0 rfl Try.underlying23 (by kernel_rfl) rfl rfl (by omega)) rfl ?_; (try simp only [Act.put, List.setIfInBounds_toArray, List.set_cons_zero, List.set_cons_succ])
      refine wpList_skip (run_st8 rfl rfl rfl ((hM.out.get (i := 1) rfl).get8 (by omega)) ((hM.out.get (i := 1) rfl).f _)) rfl rfl ?_
      refine wpList_end ?_
      replace hM : Hid (Ms w [(g2, List.replicate 16 0), (g1, upd fK (List.replicate 32 0) (j + 1))] (wr.setCell ⟨g1, j, none⟩ (b8 (fK j)))) := Lib.hid (by rw [← upd_set (by rw [List.length_replicate]; omega)]; exact hM.out.set 1 rfl (by omega) (fK j))
      generalize wr.setCell ⟨g1, j, none⟩ (b8 (fK j)) = a5 at *
      go_wp2_with fail
      go_roundw
      case rel => exact ⟨j + 1, by omega, by go_num, hM.out⟩
      case measure => simp [intOf]; omega
theorem enters_known : Enters 13 := enters_of Try.func13 (by kernel_rfl) rfl
end Go.Proofs.Ytlfggmdlgeakeaa
