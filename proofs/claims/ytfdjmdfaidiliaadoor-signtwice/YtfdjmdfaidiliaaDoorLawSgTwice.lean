/- The law SignTwice, walked. -/
import Derived.Test.YtfdjmdfaidiliaaDoorRefFe1
import Derived.Test.YtfdjmdfaidiliaaDoorRefMul0
import Derived.Test.YtfdjmdfaidiliaaDoorGenA
import Derived.Test.YtfdjmdfaidiliaaDoorRootMath
import Derived.Test.YtfdjmdfaidiliaaDoorEdRes
import Derived.Test.YtfdjmdfaidiliaaDoorLimbs6
import Derived.Test.YtfdjmdfaidiliaaDoorEdBack
import Derived.Test.YtfdjmdfaidiliaaDoorSgCon
import Derived.Test.YtfdjmdfaidiliaaDoorRefSg1
import Derived.Test.YtfdjmdfaidiliaaDoorScApi
namespace Go.Proofs.YtfdjmdfaidiliaaDoor
open Go.RowKit
set_option maxRecDepth 20000

def fpL (i : Nat) : Int := if i = 0 then 130996 else 131070
def fpAll : List Int := (List.range 16).map fpL
theorem fpAll_lb : lb fpAll = 4 * pp := by decide +kernel
theorem fpAll_nth {i : Nat} (h : i < 16) : nth fpAll i = fpL i := by simp [nth, fpAll, h]
/-- What less adds. -/
def dfAll (B : List Int) : List Int := (List.range 16).map fun i => fpL i - nth B i
theorem dfAll_len (B : List Int) : (dfAll B).length = 16 := by simp [dfAll]
theorem dfAll_nth (B : List Int) {i : Nat} (h : i < 16) : nth (dfAll B) i = fpL i - nth B i := by simp [nth, dfAll, h]
theorem dfAll_take {B : List Int} (hB : B.length = 16) : ∀ k, k ≤ 16 → lb ((dfAll B).take k) = lb (fpAll.take k) - lb (B.take k)
  | 0, _ => by simp [lb]
  | k + 1, h => by
    rw [lb_take_succ (by rw [dfAll_len]; omega), dfAll_take hB k (by omega), dfAll_nth B (by omega), lb_take_succ (l := fpAll) (by simp [fpAll]; omega), fpAll_nth (by omega), lb_take_succ (l := B) (by omega), Int.mul_sub]
    omega
theorem dfAll_lb {B : List Int} (hB : B.length = 16) : lb (dfAll B) = 4 * pp - lb B := by
  have h := dfAll_take hB 16 (Nat.le_refl _)
  rw [List.take_of_length_le (by rw [dfAll_len]; omega), List.take_of_length_le (by simp [fpAll]), List.take_of_length_le (by omega), fpAll_lb] at h
  exact h
theorem dfAll_bd {B : List Int} (hB : B.length = 16) (hL : Limbs B) : ∀ x ∈ dfAll B, 0 ≤ x ∧ x ≤ 131070 := fun x hx => by
  unfold dfAll at hx
  rw [List.mem_map] at hx
  obtain ⟨i, hi, rfl⟩ := hx
  have h := hL.nth (k := i) (by rw [hB]; exact List.mem_range.1 hi)
  unfold fpL
  split <;> omega
set_option maxHeartbeats 8000000 in
theorem rlessF_any (X Y : Int) (w : World) (hX : Num X) (hY : Num Y) : Calls Tryd.prog 54 #[feV X, feV Y] w fun e w' => e = .returned (feV ((X - Y) % pp)) ∧ Below w.heap.size w w' := by
  have hM := Lib.hid (Mv.nil w)
  have lA := lzAll_len X
  have lB := lzAll_len Y
  have lF := dfAll_len (lzAll Y)
  have HE : Hid (∀ l, AdI (lzAll X) (dfAll (lzAll Y)) 16 l → lb l % pp = (X - Y) % pp) := Lib.hid fun l h => by
    rw [h.eq, List.take_of_length_le (by omega), lb_lzAll hX, dfAll_lb lB, lb_lzAll hY, show X + (4 * pp - Y) = X - Y + pp * 4 by omega, Int.add_mul_emod_self_left]
  have dB := lzAll_limbs Y
  have dF := dfAll_bd lB dB
  have S0 := Lib.hid (AdI.start (f := dfAll (lzAll Y)) lA (lzAll_limbs X))
  have SS : Hid (∀ (k : Nat) (l : List Int), AdI (lzAll X) (dfAll (lzAll Y)) k l → k < 16 → AdI (lzAll X) (dfAll (lzAll Y)) (k + 1) (l.set k (nth l k + (fpL k - nth (lzAll Y) k)))) := Lib.hid fun k l h hk => by
    have := h.step lF dF hk
    rwa [dfAll_nth _ hk] at this
  have BB : Hid (∀ k, k < 16 → 0 ≤ nth (lzAll Y) k ∧ nth (lzAll Y) k < 65536) := Lib.hid fun k hk => dB.nth (by omega)
  have CA : Hid (∀ u, Calls Tryd.prog 76 #[feV X] u fun e w' => e = .returned (.agg (lL (lzAll X)).toArray) ∧ Below u.heap.size u w') := Lib.hid fun u => limbs_any X u
  have CB : Hid (∀ u, Calls Tryd.prog 76 #[feV Y] u fun e w' => e = .returned (.agg (lL (lzAll Y)).toArray) ∧ Below u.heap.size u w') := Lib.hid fun u => limbs_any Y u
  clear dB dF lF
  generalize dfAll (lzAll Y) = F at *
  generalize lzAll X = A at *
  generalize lzAll Y = B at *
  have SA := Lib.hid (lV_size lA)
  have SB := Lib.hid (lV_size lB)
  go_enter Tryd.func54, Tryd.ntmps54
  go_upto_region 0 with fail; refine wp_region_lit ?_
  refine wpList_val (run_boxL (vs := feL X) rfl rfl) rfl ?_; (try simp only [Act.put, List.setIfInBounds_toArray, List.set_cons_zero, List.set_cons_succ]); replace hM := Lib.hid (hM.out.new (feL X) 31); generalize w.alloc (.cells (feL X).toArray 31) = a1 at *; generalize w.heap.size = g1 at *
  refine wpList_val (run_boxL (vs := feL Y) rfl rfl) rfl ?_; (try simp only [Act.put, List.setIfInBounds_toArray, List.set_cons_zero, List.set_cons_succ]); replace hM := Lib.hid (hM.out.new (feL Y) 31); generalize a1.alloc (.cells (feL Y).toArray 31) = a2 at *; generalize a1.heap.size = g2 at *
  refine wpList_val (run_alc (vs := zq 4) rfl (by kernel_rfl)) rfl ?_; (try simp only [Act.put, List.setIfInBounds_toArray, List.set_cons_zero, List.set_cons_succ]); replace hM := Lib.hid (hM.out.new (zq 4) 31); generalize a2.alloc (.cells (zq 4).toArray 31) = a3 at *; generalize a2.heap.size = g3 at *
  refine wpList_end ?_
  go_upto_region 1 with fail; refine wp_region_lit ?_
  refine wpList_val (run_ldM (vs := feL X) rfl Tryd.underlying31 rfl (szFe _) rfl ((hM.out.get (i := 2) rfl).range)) rfl ?_; (try simp only [Act.put, List.setIfInBounds_toArray, List.set_cons_zero, List.set_cons_succ])
  refine wpList_enter (run_call1 enters_limbsF rfl rfl rfl) rfl (CA.out _) (fun a4 hb => ?_); (try simp only [Act.put, List.setIfInBounds_toArray, List.set_cons_zero, List.set_cons_succ]); replace hM := Lib.hid (hM.out.below hb); clear hb
  refine wpList_val (run_alc (vs := zq 16) rfl (by kernel_rfl)) rfl ?_; (try simp only [Act.put, List.setIfInBounds_toArray, List.set_cons_zero, List.set_cons_succ]); replace hM := Lib.hid (hM.out.new (zq 16) 91); generalize a4.alloc (.cells (zq 16).toArray 91) = a5 at *; generalize a4.heap.size = g4 at *
  refine wpList_skip (run_stM (vs := lL A) rfl SA.out rfl rfl (lV_one _) (by rw [lL_len lA]; exact (hM.out.get (i := 0) rfl).there)) rfl rfl ?_
  replace hM := Lib.hid (hM.out.put 0 rfl (m := lL A) (lL_len lA))
  generalize a5.setCells g4 0 (lL A) = a6 at *
  refine wpList_end ?_
  go_upto_region 2 with fail; refine wp_region_lit ?_
  refine wpList_val (run_ldM (vs := feL Y) rfl Tryd.underlying31 rfl (szFe _) rfl ((hM.out.get (i := 2) rfl).range)) rfl ?_; (try simp only [Act.put, List.setIfInBounds_toArray, List.set_cons_zero, List.set_cons_succ])
  refine wpList_enter (run_call1 enters_limbsF rfl rfl rfl) rfl (CB.out _) (fun a7 hb => ?_); (try simp only [Act.put, List.setIfInBounds_toArray, List.set_cons_zero, List.set_cons_succ]); replace hM := Lib.hid (hM.out.below hb); clear hb
  refine wpList_val (run_alc (vs := zq 16) rfl (by kernel_rfl)) rfl ?_; (try simp only [Act.put, List.setIfInBounds_toArray, List.set_cons_zero, List.set_cons_succ]); replace hM := Lib.hid (hM.out.new (zq 16) 91); generalize a7.alloc (.cells (zq 16).toArray 91) = a8 at *; generalize a7.heap.size = g5 at *
  refine wpList_skip (run_stM (vs := lL B) rfl SB.out rfl rfl (lV_one _) (by rw [lL_len lB]; exact (hM.out.get (i := 0) rfl).there)) rfl rfl ?_
  replace hM := Lib.hid (hM.out.put 0 rfl (m := lL B) (lL_len lB))
  generalize a8.setCells g5 0 (lL B) = a9 at *
  refine wpList_end ?_
  have HN0 := Lib.hid (SS.out 0 A S0.out (by omega))
  have hx0 := S0.out.get (show 0 < 16 by omega)
  have hy0 := BB.out 0 (by omega)
  have GL0 := Lib.hid (get_nth (l := A) (i := 0) (by omega))
  have GB0 := Lib.hid (get_nth (l := B) (i := 0) (by omega))
  have F0 : fpL 0 = 130996 := rfl
  rw [F0] at HN0
  clear F0
  generalize nth A 0 = x0 at *
  generalize nth B 0 = y0 at *
  go_upto_region 3 with fail; refine wp_region_lit ?_
  refine wpList_val (run_ix0 (i := 0) rfl Tryd.underlying91 (by kernel_rfl) rfl rfl (by omega)) rfl ?_; (try simp only [Act.put, List.setIfInBounds_toArray, List.set_cons_zero, List.set_cons_succ])
  refine wpList_val (run_ld64 rfl rfl ((hM.out.get (i := 1) rfl).c 0 _ GL0.out)) rfl ?_; (try simp only [Act.put, List.setIfInBounds_toArray, List.set_cons_zero, List.set_cons_succ])
  refine wpList_val (run_ix0 (i := 0) rfl Tryd.underlying91 (by kernel_rfl) rfl rfl (by omega)) rfl ?_; (try simp only [Act.put, List.setIfInBounds_toArray, List.set_cons_zero, List.set_cons_succ])
  refine wpList_val (run_ld64 rfl rfl ((hM.out.get (i := 0) rfl).c 0 _ GB0.out)) rfl ?_; (try simp only [Act.put, List.setIfInBounds_toArray, List.set_cons_zero, List.set_cons_succ])
  refine wpList_val (run_subU (a := 130996) rfl rfl rfl (by omega) (by omega)) rfl ?_; (try simp only [Act.put, List.setIfInBounds_toArray, List.set_cons_zero, List.set_cons_succ])
  refine wpList_val (run_addU rfl rfl rfl (by omega) (by omega)) rfl ?_; (try simp only [Act.put, List.setIfInBounds_toArray, List.set_cons_zero, List.set_cons_succ])
  refine wpList_val (run_ix0 (i := 0) rfl Tryd.underlying91 (by kernel_rfl) rfl rfl (by omega)) rfl ?_; (try simp only [Act.put, List.setIfInBounds_toArray, List.set_cons_zero, List.set_cons_succ])
  refine wpList_skip (run_stU rfl rfl rfl ((hM.out.get (i := 1) rfl).c 0 _ GL0.out) ((hM.out.get (i := 1) rfl).f 0)) rfl rfl ?_
  refine wpList_end ?_
  have hM2 : Hid (Mv w [(g5, lL B), (g4, lL (A.set 0 (x0 + (130996 - y0)))), (g3, zq 4), (g2, feL Y), (g1, feL X)] (a9.setCell ⟨g4, 0, none⟩ (.int .u64 (x0 + (130996 - y0))))) := Lib.hid (by
    have h := hM.out.set 1 rfl (j := 0) (by rw [List.length_map]; omega) (.int .u64 (x0 + (130996 - y0)))
    rw [set_lL] at h
    exact h)
  generalize a9.setCell ⟨g4, 0, none⟩ (.int .u64 (x0 + (130996 - y0))) = a10 at *
  replace hM := hM2
  generalize A.set 0 (x0 + (130996 - y0)) = A1 at *
  clear hM2 GL0 GB0 hx0 hy0
  go_upto_region 4 with fail; refine wp_region_lit ?_
  refine wpList_val (run_asg (v := .int _ _) rfl rfl) rfl ?_; (try simp only [Act.put, List.setIfInBounds_toArray, List.set_cons_zero, List.set_cons_succ])
  refine wpList_end ?_
  go_wp2_with fail
  go_loopw [7] (fun s u => ∃ (k : Nat) (l : List Int), k ≤ 16 ∧ 0 < k ∧ s = .int .i64 (k : Int) ∧ AdI A F k l ∧ Mv w [(g5, lL B), (g4, lL l), (g3, zq 4), (g2, feL Y), (g1, feL X)] u) (fun s _ => (16 - intOf s).toNat)
  case atStart => exact ⟨1, A1, by omega, by omega, rfl, HN0.out, hM.out⟩
  case round =>
    obtain ⟨k, l, hk, hk0, rfl, hA, hJ⟩ := hrel
    replace hM := Lib.hid hJ
    have HA := Lib.hid hA
    have hll := hA.len
    clear hJ hA
    by_cases hlt : k = 16
    · subst hlt
      have hk1 : ¬ (((16 : Nat) : Int) < 16) := by omega
      have hW := Lib.hid (HA.out.wides (Nat.le_refl _))
      have SL := Lib.hid (lV_size hll)
      have hv := HE.out l HA.out
      go_upto_region 8 with fail; refine wp_region_lit ?_
      refine wpList_val (run_ldM (vs := lL l) rfl Tryd.underlying91 rfl SL.out rfl (hM.out.get (i := 1) rfl).range) rfl ?_; (try simp only [Act.put, List.setIfInBounds_toArray, List.set_cons_zero, List.set_cons_succ])
      refine wpList_enter (run_call1 enters_fe rfl rfl rfl) rfl (fe_limbs l _ hll hW.out) (fun b1 hb => ?_); (try simp only [Act.put, List.setIfInBounds_toArray, List.set_cons_zero, List.set_cons_succ]); replace hM := Lib.hid (hM.out.below hb); clear hb
      rw [hv]
      refine wpList_skip (run_stM (vs := feL ((X - Y) % pp)) rfl (szFe _) rfl rfl (oneFe _) ((hM.out.get (i := 2) rfl).there)) rfl rfl ?_; replace hM := Lib.hid (hM.out.put 2 rfl (m := feL ((X - Y) % pp)) rfl); generalize b1.setCells g3 0 (feL ((X - Y) % pp)) = b2 at *
      refine wpList_end ?_; go_wp2_with fail; refine bodyPost_ret (v := .agg (feL ((X - Y) % pp)).toArray) (results_rowB Tryd.results54 rfl Tryd.underlying31 rfl (szFe _) (hM.out.get (i := 2) rfl).range) rfl ⟨rfl, hM.out.bl⟩
    · have hk1 : (k : Int) < 16 := by omega
      have HN := Lib.hid (SS.out k l HA.out (by omega))
      have FK : fpL k = 131070 := if_neg (by omega)
      rw [FK] at HN
      clear FK
      have hx := HA.out.get (show k < 16 by omega)
      have hy := BB.out k (by omega)
      have GL := Lib.hid (get_nth (l := l) (i := k) (by omega))
      have GB := Lib.hid (get_nth (l := B) (i := k) (by omega))
      generalize nth l k = x at *
      generalize nth B k = y at *
      go_upto_region 7 with fail; refine wp_region_calm 9 (by kernel_rfl) (by kernel_rfl) ?_
      refine wpCalm_step _ (fun V hV => calm_run (run_mv (v := .int _ _) rfl rfl)) ?_; (try simp only [Act.put, List.setIfInBounds_toArray, List.set_cons_zero, List.set_cons_succ])
      refine wpCalm_step _ (fun V hV => calm_run (run_ix0 (i := k) rfl Tryd.underlying91 (by kernel_rfl) rfl rfl (by omega))) ?_; (try simp only [Act.put, List.setIfInBounds_toArray, List.set_cons_zero, List.set_cons_succ])
      refine wpCalm_step _ (fun V hV => calm_run (run_ld64 rfl rfl (((hM.out.below hV).get (i := 1) rfl).c k _ GL.out))) ?_; (try simp only [Act.put, List.setIfInBounds_toArray, List.set_cons_zero, List.set_cons_succ])
      refine wpCalm_step _ (fun V hV => calm_run (run_mv (v := .int _ _) rfl rfl)) ?_; (try simp only [Act.put, List.setIfInBounds_toArray, List.set_cons_zero, List.set_cons_succ])
      refine wpCalm_step _ (fun V hV => calm_run (run_ix0 (i := k) rfl Tryd.underlying91 (by kernel_rfl) rfl rfl (by omega))) ?_; (try simp only [Act.put, List.setIfInBounds_toArray, List.set_cons_zero, List.set_cons_succ])
      refine wpCalm_step _ (fun V hV => calm_run (run_ld64 rfl rfl (((hM.out.below hV).get (i := 0) rfl).c k _ GB.out))) ?_; (try simp only [Act.put, List.setIfInBounds_toArray, List.set_cons_zero, List.set_cons_succ])
      refine wpCalm_step _ (fun V hV => calm_run (run_subU (a := 131070) rfl rfl rfl (by omega) (by omega))) ?_; (try simp only [Act.put, List.setIfInBounds_toArray, List.set_cons_zero, List.set_cons_succ])
      refine wpCalm_step _ (fun V hV => calm_run (run_addU rfl rfl rfl (by omega) (by omega))) ?_; (try simp only [Act.put, List.setIfInBounds_toArray, List.set_cons_zero, List.set_cons_succ])
      refine wpCalm_step _ (fun V hV => calm_run (run_ix0 (i := k) rfl Tryd.underlying91 (by kernel_rfl) rfl rfl (by omega))) ?_; (try simp only [Act.put, List.setIfInBounds_toArray, List.set_cons_zero, List.set_cons_succ])
      refine wpCalm_done ?_; intro b1 hb; simp only [List.drop_succ_cons, List.drop_zero]
      replace hM := Lib.hid (hM.out.below hb)
      clear hb
      refine wpList_skip (run_stU rfl rfl rfl ((hM.out.get (i := 1) rfl).c k _ GL.out) ((hM.out.get (i := 1) rfl).f k)) rfl rfl ?_
      refine wpList_end ?_
      have hM2 : Hid (Mv w [(g5, lL B), (g4, lL (l.set k (x + (131070 - y)))), (g3, zq 4), (g2, feL Y), (g1, feL X)] (b1.setCell ⟨g4, k, none⟩ (.int .u64 (x + (131070 - y))))) := Lib.hid (by
        have h := hM.out.set 1 rfl (j := k) (by rw [List.length_map]; omega) (.int .u64 (x + (131070 - y)))
        rw [set_lL] at h
        exact h)
      generalize b1.setCell ⟨g4, k, none⟩ (.int .u64 (x + (131070 - y))) = b2 at *
      clear hM GL GB hx hy
      go_wp2_with fail
      exact ⟨⟨k + 1, l.set k (x + (131070 - y)), by omega, by omega, by go_num, HN.out, hM2.out⟩, by simp [intOf]; omega⟩
theorem enters_rlessF : Enters 54 := enters_of Tryd.func54 (by kernel_rfl) rfl
set_option maxHeartbeats 4000000 in
theorem rsub_any (X Y : Int) (w : World) (hX : Num X) (hY : Num Y) : Calls Tryd.prog 51 #[feV X, feV Y] w fun e w' => e = .returned (feV ((X - Y) % pp)) ∧ Below w.heap.size w w' := by
  have hM := Lib.hid (Mv.nil w)
  go_enter Tryd.func51, Tryd.ntmps51
  go_upto_region 0 with fail; refine wp_region_lit ?_
  refine wpList_val (run_boxL (vs := feL X) rfl rfl) rfl ?_; (try simp only [Act.put, List.setIfInBounds_toArray, List.set_cons_zero, List.set_cons_succ]); replace hM := Lib.hid (hM.out.new (feL X) 31); generalize w.alloc (.cells (feL X).toArray 31) = a1 at *; generalize w.heap.size = g1 at *
  refine wpList_val (run_boxL (vs := feL Y) rfl rfl) rfl ?_; (try simp only [Act.put, List.setIfInBounds_toArray, List.set_cons_zero, List.set_cons_succ]); replace hM := Lib.hid (hM.out.new (feL Y) 31); generalize a1.alloc (.cells (feL Y).toArray 31) = a2 at *; generalize a1.heap.size = g2 at *
  refine wpList_val (run_alc (vs := zq 4) rfl (by kernel_rfl)) rfl ?_; (try simp only [Act.put, List.setIfInBounds_toArray, List.set_cons_zero, List.set_cons_succ]); replace hM := Lib.hid (hM.out.new (zq 4) 31); generalize a2.alloc (.cells (zq 4).toArray 31) = a3 at *; generalize a2.heap.size = g3 at *
  refine wpList_end ?_
  go_upto_region 1 with fail; refine wp_region_lit ?_
  refine wpList_val (run_ldM (vs := feL X) rfl Tryd.underlying31 rfl (szFe _) rfl ((hM.out.get (i := 2) rfl).range)) rfl ?_; (try simp only [Act.put, List.setIfInBounds_toArray, List.set_cons_zero, List.set_cons_succ])
  refine wpList_val (run_ldM (vs := feL Y) rfl Tryd.underlying31 rfl (szFe _) rfl ((hM.out.get (i := 1) rfl).range)) rfl ?_; (try simp only [Act.put, List.setIfInBounds_toArray, List.set_cons_zero, List.set_cons_succ])
  refine wpList_enter (run_call2 enters_rlessF rfl rfl rfl rfl) rfl (rlessF_any X Y _ hX hY) (fun a4 hb => ?_); (try simp only [Act.put, List.setIfInBounds_toArray, List.set_cons_zero, List.set_cons_succ]); replace hM := Lib.hid (hM.out.below hb); clear hb
  refine wpList_skip (run_stM (vs := feL ((X - Y) % pp)) rfl (szFe _) rfl rfl (oneFe _) ((hM.out.get (i := 0) rfl).there)) rfl rfl ?_; replace hM := Lib.hid (hM.out.put 0 rfl (m := feL ((X - Y) % pp)) rfl); generalize a4.setCells g3 0 (feL ((X - Y) % pp)) = a5 at *
  refine wpList_end ?_; go_wp2_with fail; refine bodyPost_ret (v := .agg (feL ((X - Y) % pp)).toArray) (results_rowB Tryd.results51 rfl Tryd.underlying31 rfl (szFe _) (hM.out.get (i := 0) rfl).range) rfl ⟨rfl, hM.out.bl⟩
theorem enters_rsub : Enters 51 := enters_of Tryd.func51 (by kernel_rfl) rfl
theorem built_fe0 : Tryd.prog.built 31 [] = some (feL 0).toArray := by kernel_rfl
theorem run_bldE {w : World} {ρ : Operand → Value} {o : Oper} {t : TypeId} {cells : Array Value} (ho : o.op = .build t #[]) (h : Tryd.prog.built t [] = some cells) : (execOp ρ o).run Tryd.prog w = .ok (.value (.agg cells)) w := run_bld ho (by simpa using h)
theorem num_0 : Num 0 := num_small (by omega) (by omega)
set_option maxHeartbeats 4000000 in
theorem rneg_any (X : Int) (w : World) (hX : Num X) : Calls Tryd.prog 27 #[feV X] w fun e w' => e = .returned (feV (-X % pp)) ∧ Below w.heap.size w w' := by
  have hM := Lib.hid (Mv.nil w)
  have CL : Hid (∀ u, Calls Tryd.prog 54 #[feV 0, feV X] u fun e w' => e = .returned (feV (-X % pp)) ∧ Below u.heap.size u w') := Lib.hid fun u => by
    have := rlessF_any 0 X u num_0 hX
    rwa [Int.zero_sub] at this
  go_enter Tryd.func27, Tryd.ntmps27
  go_upto_region 0 with fail; refine wp_region_lit ?_
  refine wpList_val (run_boxL (vs := feL X) rfl rfl) rfl ?_; (try simp only [Act.put, List.setIfInBounds_toArray, List.set_cons_zero, List.set_cons_succ]); replace hM := Lib.hid (hM.out.new (feL X) 31); generalize w.alloc (.cells (feL X).toArray 31) = a1 at *; generalize w.heap.size = g1 at *
  refine wpList_val (run_alc (vs := zq 4) rfl (by kernel_rfl)) rfl ?_; (try simp only [Act.put, List.setIfInBounds_toArray, List.set_cons_zero, List.set_cons_succ]); replace hM := Lib.hid (hM.out.new (zq 4) 31); generalize a1.alloc (.cells (zq 4).toArray 31) = a2 at *; generalize a1.heap.size = g2 at *
  refine wpList_end ?_
  go_upto_region 1 with fail; refine wp_region_lit ?_
  refine wpList_val (run_bldE (cells := (feL 0).toArray) rfl built_fe0) rfl ?_; (try simp only [Act.put, List.setIfInBounds_toArray, List.set_cons_zero, List.set_cons_succ])
  refine wpList_val (run_ldM (vs := feL X) rfl Tryd.underlying31 rfl (szFe _) rfl ((hM.out.get (i := 1) rfl).range)) rfl ?_; (try simp only [Act.put, List.setIfInBounds_toArray, List.set_cons_zero, List.set_cons_succ])
  refine wpList_enter (run_call2 enters_rlessF rfl rfl rfl rfl) rfl (CL.out _) (fun a3 hb => ?_); (try simp only [Act.put, List.setIfInBounds_toArray, List.set_cons_zero, List.set_cons_succ]); replace hM := Lib.hid (hM.out.below hb); clear hb
  refine wpList_skip (run_stM (vs := feL (-X % pp)) rfl (szFe _) rfl rfl (oneFe _) ((hM.out.get (i := 0) rfl).there)) rfl rfl ?_; replace hM := Lib.hid (hM.out.put 0 rfl (m := feL (-X % pp)) rfl); generalize a3.setCells g2 0 (feL (-X % pp)) = a4 at *
  refine wpList_end ?_; go_wp2_with fail; refine bodyPost_ret (v := .agg (feL (-X % pp)).toArray) (results_rowB Tryd.results27 rfl Tryd.underlying31 rfl (szFe _) (hM.out.get (i := 0) rfl).range) rfl ⟨rfl, hM.out.bl⟩
theorem enters_rneg : Enters 27 := enters_of Tryd.func27 (by kernel_rfl) rfl
end Go.Proofs.YtfdjmdfaidiliaaDoor
namespace Go.Proofs.YtfdjmdfaidiliaaDoor
open Go.RowKit Go.Sort
set_option maxRecDepth 20000

set_option maxHeartbeats 4000000 in
theorem refmul_any (X Y : Int) (w : World) (hX : Num X) (hY : Num Y) :
    Calls Tryd.prog 47 #[feV X, feV Y] w fun e w' => e = .returned (feV (X * Y % pp)) ∧ Below w.heap.size w w' := by
  have b1 : Below w.heap.size w (w.alloc (.cells #[.int .u64 (w0 X), .int .u64 (w1 X), .int .u64 (w2 X), .int .u64 (w3 X)] 31)) := (Below.refl _ _).alloc (Nat.le_refl _) _
  have vX := Var4.new w X
  go_enter Tryd.func47, Tryd.ntmps47
  go_upto_region 1 with fail
  have hs : w.heap.size + 1 = (w.alloc (.cells #[.int .u64 (w0 X), .int .u64 (w1 X), .int .u64 (w2 X), .int .u64 (w3 X)] 31)).heap.size := by simp
  rw [hs]
  have l0 := vX.lt
  generalize w.alloc (.cells #[.int .u64 (w0 X), .int .u64 (w1 X), .int .u64 (w2 X), .int .u64 (w3 X)] 31) = u0 at *
  clear hs
  have vY := Var4.new u0 Y
  have b2 : Below u0.heap.size u0 (u0.alloc (.cells #[.int .u64 (w0 Y), .int .u64 (w1 Y), .int .u64 (w2 Y), .int .u64 (w3 Y)] 31)) := (Below.refl _ _).alloc (Nat.le_refl _) _
  replace vX := vX.below b2
  replace b1 := b1.trans (b2.mono b1.size)
  have hs : u0.heap.size + 1 = (u0.alloc (.cells #[.int .u64 (w0 Y), .int .u64 (w1 Y), .int .u64 (w2 Y), .int .u64 (w3 Y)] 31)).heap.size := by simp
  rw [hs]
  have l1 := vY.lt
  generalize u0.alloc (.cells #[.int .u64 (w0 Y), .int .u64 (w1 Y), .int .u64 (w2 Y), .int .u64 (w3 Y)] 31) = u1 at *
  generalize u0.heap.size = gy at *
  clear hs b2 u0
  have hR := Var4.zero u1
  have b2 : Below u1.heap.size u1 (u1.alloc (.cells #[.int .u64 0, .int .u64 0, .int .u64 0, .int .u64 0] 31)) := (Below.refl _ _).alloc (Nat.le_refl _) _
  replace vX := vX.below b2
  replace vY := vY.below b2
  replace b1 := b1.trans (b2.mono b1.size)
  generalize u1.alloc (.cells #[.int .u64 0, .int .u64 0, .int .u64 0, .int .u64 0] 31) = u0 at *
  generalize u1.heap.size = g1 at *
  clear b2 u1
  have l2 := hR.lt
  obtain ⟨vl, v0, v1, v2, v3, vf0, vf1, vf2, vf3⟩ := vX
  go_wp2_with fail
  refine (limbs_any X _).mono ?_
  rintro e u1 ⟨rfl, hb⟩
  clear vl v0 v1 v2 v3 vf0 vf1 vf2 vf3
  replace vY := vY.below hb
  replace hR := hR.below hb
  replace b1 := b1.trans (hb.mono b1.size)
  replace l2 := Nat.lt_of_lt_of_le l2 hb.size
  clear hb u0
  have HA := Lib.hid (LRow.zero u1)
  have b2 : Below u1.heap.size u1 (u1.alloc (.cells #[.int .u64 0, .int .u64 0, .int .u64 0, .int .u64 0, .int .u64 0, .int .u64 0, .int .u64 0, .int .u64 0, .int .u64 0, .int .u64 0, .int .u64 0, .int .u64 0, .int .u64 0, .int .u64 0, .int .u64 0, .int .u64 0] 91)) := (Below.refl _ _).alloc (Nat.le_refl _) _
  go_upto_region 2 with (refine wpList_store_mid rfl 91 (.tmp 5) (.tmp 11) rfl u1.heap.size 0 ((lzAll X).map (Value.int .u64)).toArray rfl rfl (by simpa [lzAll_len] using HA.out.thereAt) (by simpa using lV_size (lzAll_len X)) (lV_one _) ?_)
  replace HA := Lib.hid (HA.out.storeAll (l' := lzAll X) (by rw [lzAll_len]; rfl))
  replace b2 := Below.setCells (Nat.le_refl u1.heap.size) ((lzAll X).map (Value.int .u64)) 0 b2
  replace hR := hR.below b2
  replace vY := vY.below b2
  replace b1 := b1.trans (b2.mono b1.size)
  generalize (u1.alloc (.cells #[.int .u64 0, .int .u64 0, .int .u64 0, .int .u64 0, .int .u64 0, .int .u64 0, .int .u64 0, .int .u64 0, .int .u64 0, .int .u64 0, .int .u64 0, .int .u64 0, .int .u64 0, .int .u64 0, .int .u64 0, .int .u64 0] 91)).setCells u1.heap.size 0 ((lzAll X).map (Value.int .u64)) = u0 at *
  generalize u1.heap.size = ga at *
  clear b2 u1
  have l3 := HA.out.lt
  obtain ⟨vl, v0, v1, v2, v3, vf0, vf1, vf2, vf3⟩ := vY
  go_wp2_with fail
  refine (limbs_any Y _).mono ?_
  rintro e u1 ⟨rfl, hb⟩
  clear vl v0 v1 v2 v3 vf0 vf1 vf2 vf3
  replace HA := Lib.hid (HA.out.below hb)
  replace hR := hR.below hb
  replace b1 := b1.trans (hb.mono b1.size)
  replace l3 := Nat.lt_of_lt_of_le l3 hb.size
  clear hb u0
  have HB := Lib.hid (LRow.zero u1)
  have b2 : Below u1.heap.size u1 (u1.alloc (.cells #[.int .u64 0, .int .u64 0, .int .u64 0, .int .u64 0, .int .u64 0, .int .u64 0, .int .u64 0, .int .u64 0, .int .u64 0, .int .u64 0, .int .u64 0, .int .u64 0, .int .u64 0, .int .u64 0, .int .u64 0, .int .u64 0] 91)) := (Below.refl _ _).alloc (Nat.le_refl _) _
  go_upto_region 3 with (refine wpList_store_mid rfl 91 (.tmp 6) (.tmp 13) rfl u1.heap.size 0 ((lzAll Y).map (Value.int .u64)).toArray rfl rfl (by simpa [lzAll_len] using HB.out.thereAt) (by simpa using lV_size (lzAll_len Y)) (lV_one _) ?_)
  replace HB := Lib.hid (HB.out.storeAll (l' := lzAll Y) (by rw [lzAll_len]; rfl))
  replace b2 := Below.setCells (Nat.le_refl u1.heap.size) ((lzAll Y).map (Value.int .u64)) 0 b2
  replace hR := hR.below b2
  replace HA := Lib.hid (HA.out.below b2)
  replace b1 := b1.trans (b2.mono b1.size)
  generalize (u1.alloc (.cells #[.int .u64 0, .int .u64 0, .int .u64 0, .int .u64 0, .int .u64 0, .int .u64 0, .int .u64 0, .int .u64 0, .int .u64 0, .int .u64 0, .int .u64 0, .int .u64 0, .int .u64 0, .int .u64 0, .int .u64 0, .int .u64 0] 91)).setCells u1.heap.size 0 ((lzAll Y).map (Value.int .u64)) = u0 at *
  generalize u1.heap.size = gb at *
  clear b2 u1
  have l4 := HB.out.lt
  have HC := Lib.hid (LRow.zero u0)
  have b2 : Below u0.heap.size u0 (u0.alloc (.cells #[.int .u64 0, .int .u64 0, .int .u64 0, .int .u64 0, .int .u64 0, .int .u64 0, .int .u64 0, .int .u64 0, .int .u64 0, .int .u64 0, .int .u64 0, .int .u64 0, .int .u64 0, .int .u64 0, .int .u64 0, .int .u64 0] 91)) := (Below.refl _ _).alloc (Nat.le_refl _) _
  go_upto_region 4 with (refine wpList_store_mid rfl 91 (.tmp 7) (.tmp 14) rfl u0.heap.size 0 ((List.replicate 16 0).map (Value.int .u64)).toArray rfl rfl (by simpa using HC.out.thereAt) (by simpa using lV_size (l := List.replicate 16 0) rfl) (lV_one _) ?_)
  replace HC := Lib.hid (HC.out.storeAll (l' := List.replicate 16 0) rfl)
  replace b2 := Below.setCells (Nat.le_refl u0.heap.size) ((List.replicate 16 0).map (Value.int .u64)) 0 b2
  replace hR := hR.below b2
  replace HA := Lib.hid (HA.out.below b2)
  replace HB := Lib.hid (HB.out.below b2)
  replace b1 := b1.trans (b2.mono b1.size)
  generalize (u0.alloc (.cells #[.int .u64 0, .int .u64 0, .int .u64 0, .int .u64 0, .int .u64 0, .int .u64 0, .int .u64 0, .int .u64 0, .int .u64 0, .int .u64 0, .int .u64 0, .int .u64 0, .int .u64 0, .int .u64 0, .int .u64 0, .int .u64 0] 91)).setCells u0.heap.size 0 ((List.replicate 16 0).map (Value.int .u64)) = u1 at *
  generalize u0.heap.size = gr at *
  clear b2 u0
  have EX : Hid (lb (lzAll X) = X) := Lib.hid (lb_lzAll hX)
  have EY : Hid (lb (lzAll Y) = Y) := Lib.hid (lb_lzAll hY)
  have LA := Lib.hid (lzAll_len X)
  have LB := Lib.hid (lzAll_len Y)
  have hLA := lzAll_limbs X
  have hLB := lzAll_limbs Y
  generalize lzAll X = a at *
  generalize lzAll Y = b at *
  go_wp2_with fail
  go_loopw [8, 9] (fun s _ u => ∃ i : Nat, i ≤ 16 ∧ s = .int .i64 (i : Int) ∧ MuI w a b g1 ga gb gr i 0 u) (fun s _ _ => (16 - intOf s).toNat)
  case atStart => exact ⟨0, by omega, rfl, b1, hR, HA.out, HB.out, List.replicate 16 0, 0, rfl, HC.out, fun j hj => by rw [nth_zero]; omega, by simp [lb]⟩
  case round =>
    obtain ⟨i, hi, rfl, hI⟩ := hrel
    clear b1 hR HA HB HC
    by_cases hlt : i = 16
    · subst hlt
      have hi1 : ¬ (((16 : Nat) : Int) < 16) := by omega
      obtain ⟨b1, hR, hA, hB, r, t, hr, hV, hn, ht⟩ := hI
      clear hA hB
      have HE : Hid (lb r % pp = X * Y % pp) := Lib.hid (by
        rw [List.take_of_length_le (by rw [LA.out]; omega), EX.out, EY.out, List.take_zero, show lb ([] : List Int) = 0 from rfl, Int.mul_zero, Int.mul_zero, Int.add_zero] at ht
        rw [← ht, Int.add_mul_emod_self_left])
      have HW : Hid (Wides r) := Lib.hid (wides_of_nth hr fun j hj => by have := hn j hj; omega)
      have Hr := Lib.hid hr; clear hr
      have HV := Lib.hid hV; clear hV
      clear hn ht
      go_wp2_with (refine wpList_load_mid rfl 91 (.tmp 7) rfl gr 0 rfl (r.map (Value.int .u64)) (.array 16 29) HV.out.range Tryd.underlying91 rfl (lV_size Hr.out) ?_)
      refine (fe_limbs r _ Hr.out HW.out).mono ?_
      rintro e u3 ⟨rfl, hb⟩
      rw [HE.out]
      replace hR := hR.below hb
      replace b1 := b1.trans (hb.mono b1.size)
      clear hb
      obtain ⟨vl, v0, v1, v2, v3, vf0, vf1, vf2, vf3⟩ := hR
      go_wp2_with fail
      refine bodyPost_ret (v := feV (X * Y % pp)) (by simp [results, Tryd.results47, go_sem, v0, v1, v2, v3]) rfl ⟨rfl, ?_⟩
      have hw1 : w.heap.size ≤ g1 := by omega
      exact (((b1.setCell hw1 _).setCell hw1 _).setCell hw1 _).setCell hw1 _
    · have hi1 : (i : Int) < 16 := by omega
      have hi0 : (0 : Int) ≤ (i : Int) := by omega
      go_wp2_with fail
      go_loopw [9] (fun s u => ∃ k : Nat, k ≤ 16 ∧ s = .int .i64 (k : Int) ∧ MuI w a b g1 ga gb gr i k u) (fun s _ => (16 - intOf s).toNat)
      case atStart => exact ⟨0, by omega, rfl, hI⟩
      case round =>
        obtain ⟨k, hk, rfl, hJ⟩ := hrel
        clear hI
        by_cases hk16 : k = 16
        · subst hk16
          have hk1 : ¬ (((16 : Nat) : Int) < 16) := by omega
          have HJ := Lib.hid (hJ.turn LA.out LB.out (by omega)); clear hJ
          go_wp2_with fail
          exact ⟨⟨i + 1, by omega, by go_num, HJ.out⟩, by simp [intOf]; omega⟩
        · have hk1 : (k : Int) < 16 := by omega
          have hk0 : (0 : Int) ≤ (k : Int) := by omega
          obtain ⟨b1, hR, hA, hB, r, t, hr, hV, hn, ht⟩ := hJ
          have HT := Lib.hid ht; clear ht
          have HN := Lib.hid hn; clear hn
          have HR := Lib.hid hR; clear hR
          have Hr := Lib.hid hr; clear hr
          have ca := hA.c i (by rw [LA.out]; omega)
          have cb := hB.c k (by rw [LB.out]; omega)
          have ba := hLA.nth (k := i) (by rw [LA.out]; omega)
          have bb := hLB.nth (k := k) (by rw [LB.out]; omega)
          have bp := mul_le ba.1 ba.2 bb.1 bb.2
          by_cases hik : i + k < 16
          · have hs1 : (i : Int) + k < 16 := by omega
            have cr := hV.c (i + k) (by rw [Hr.out]; omega)
            have fr := hV.f (i + k)
            have br := HN.out (i + k) hik
            go_wp2_with fail
            go_region
            go_wp2_with fail
            exact ⟨⟨k + 1, by omega, by go_num, MuI.put LB.out (by omega) (by omega) (by omega) (by omega) (by omega) b1 HR.out hA hB Hr.out hV HN.out HT.out hik bp.1 (by omega) 0 (by rw [Int.pow_add]; grind) rfl⟩, by simp [intOf]; omega⟩
          · obtain ⟨j, hj⟩ : ∃ j, i + k = j + 16 := ⟨i + k - 16, by omega⟩
            have hs1 : ¬ ((i : Int) + k < 16) := by omega
            have hj1 : (i : Int) + k - 16 = (j : Int) := by omega
            have cr := hV.c j (by rw [Hr.out]; omega)
            have fr := hV.f j
            have br := HN.out j (by omega)
            have HJ := Lib.hid hj; clear hj
            go_wp2_with fail
            go_region
            go_wp2_with fail
            have e : IntKind.u64.wrap (nth r j + IntKind.u64.wrap (38 * nth a i * nth b k)) = nth r j + 38 * (nth a i * nth b k) := by
              rw [Int.mul_assoc]
              generalize nth a i * nth b k = P at *
              simp only [IntKind.wrap_u64]
              omega
            rw [e]
            have hp := pow_turn HJ.out
            exact ⟨⟨k + 1, by omega, by go_num, MuI.put LB.out (by omega) (by omega) (by omega) (by omega) (by omega) b1 HR.out hA hB Hr.out hV HN.out HT.out (by omega) (by omega) (by omega) (65536 ^ j * (2 * (nth a i * nth b k))) (by grind) rfl⟩, by simp [intOf]; omega⟩
end Go.Proofs.YtfdjmdfaidiliaaDoor
namespace Go.Proofs.YtfdjmdfaidiliaaDoor
open Go.RowKit
set_option maxRecDepth 20000

theorem enters_rmul : Enters 47 := enters_of Tryd.func47 (by kernel_rfl) rfl
def wk (N : Int) (q : Nat) : Int := N / 2 ^ (64 * q) % 18446744073709551616
theorem wk_get (N : Int) : ∀ q, q < 4 → (feL N)[q]? = some (.int .u64 (wk N q))
  | 0, _ => by
    show some (Value.int .u64 (w0 N)) = some (.int .u64 (wk N 0))
    rw [show w0 N = wk N 0 by unfold w0 wk; rw [show (2 : Int) ^ (64 * 0) = 1 by decide, Int.ediv_one]]
  | 1, _ => by
    show some (Value.int .u64 (w1 N)) = some (.int .u64 (wk N 1))
    rw [show w1 N = wk N 1 by unfold w1 wk; rw [show (2 : Int) ^ (64 * 1) = 18446744073709551616 by decide]]
  | 2, _ => by
    show some (Value.int .u64 (w2 N)) = some (.int .u64 (wk N 2))
    rw [show w2 N = wk N 2 by unfold w2 wk; rw [show (2 : Int) ^ (64 * 2) = 340282366920938463463374607431768211456 by decide]]
  | 3, _ => by
    show some (Value.int .u64 (w3 N)) = some (.int .u64 (wk N 3))
    rw [show w3 N = wk N 3 by unfold w3 wk; rw [show (2 : Int) ^ (64 * 3) = 6277101735386680763835789423207666416102355444464034512896 by decide]]
  | n + 4, h => absurd h (by omega)
theorem wk_nonneg (N : Int) (q : Nat) : 0 ≤ wk N q := by unfold wk; omega
theorem wk_bit {N : Int} (hN : Num N) (i : Nat) : wk N (i / 64) / 2 ^ (i % 64) % 2 = ((N.toNat / 2 ^ i % 2 : Nat) : Int) := by
  obtain ⟨M, rfl⟩ := Int.eq_ofNat_of_zero_le hN.1
  have h := bit_of (M / 2 ^ (64 * (i / 64))) (i % 64) (by omega)
  rw [Nat.div_div_eq_div_mul, ← Nat.pow_add, show 64 * (i / 64) + i % 64 = i by omega] at h
  rw [Int.toNat_natCast, ← h]
  unfold wk
  simp
set_option maxHeartbeats 8000000 in
theorem rpow_any (X N : Int) (w : World) (hX : Num X) (hN : Num N) : Calls Tryd.prog 48 #[feV X, feV N] w fun e w' => e = .returned (feV (X ^ N.toNat % pp)) ∧ Below w.heap.size w w' := by
  have hM := Lib.hid (Mv.nil w)
  obtain ⟨P, hP⟩ : ∃ P : Nat → Int, P = fun j => X ^ (N.toNat / 2 ^ j) % pp := ⟨_, rfl⟩
  have P0 : Hid (P 256 = 1) := Lib.hid (by rw [hP]; exact pow_start hN)
  have PE : Hid (P 0 = X ^ N.toNat % pp) := Lib.hid (by rw [hP]; exact pow_end X N)
  have PN : Hid (∀ j, Num (P j)) := Lib.hid (by rw [hP]; exact fun j => num_emod_pp _)
  have PA : Hid (∀ j, N.toNat / 2 ^ j % 2 = 0 → P (j + 1) * P (j + 1) % pp = P j) := Lib.hid (by rw [hP]; exact fun j => (pow_step0 X N j).2)
  have PB : Hid (∀ j, N.toNat / 2 ^ j % 2 = 1 → P (j + 1) * P (j + 1) % pp * X % pp = P j) := Lib.hid (by rw [hP]; exact fun j => pow_step1 X N j)
  clear hP
  have HW : Hid (∀ i, wk N (i / 64) / 2 ^ (i % 64) % 2 = ((N.toNat / 2 ^ i % 2 : Nat) : Int)) := Lib.hid fun i => wk_bit hN i
  have HG : Hid (∀ q, q < 4 → (feL N)[q]? = some (.int .u64 (wk N q))) := Lib.hid (wk_get N)
  have WN : Hid (∀ q, 0 ≤ wk N q) := Lib.hid (wk_nonneg N)
  generalize X ^ N.toNat % pp = res at *
  obtain ⟨bt, hbt⟩ : ∃ bt : Nat → Nat, bt = fun j => N.toNat / 2 ^ j % 2 := ⟨_, rfl⟩
  have HB : Hid (∀ i, wk N (i / 64) / 2 ^ (i % 64) % 2 = ((bt i : Nat) : Int)) := Lib.hid (by rw [hbt]; exact HW.out)
  have QA : Hid (∀ j, bt j = 0 → P (j + 1) * P (j + 1) % pp = P j) := Lib.hid (by rw [hbt]; exact PA.out)
  have QB : Hid (∀ j, bt j = 1 → P (j + 1) * P (j + 1) % pp * X % pp = P j) := Lib.hid (by rw [hbt]; exact PB.out)
  have B2 : Hid (∀ j, bt j = 0 ∨ bt j = 1) := Lib.hid (by rw [hbt]; intro j; show N.toNat / 2 ^ j % 2 = 0 ∨ N.toNat / 2 ^ j % 2 = 1; omega)
  clear hbt HW PA PB
  go_enter Tryd.func48, Tryd.ntmps48
  go_upto_region 0 with fail; refine wp_region_lit ?_
  refine wpList_val (run_boxL (vs := feL X) rfl rfl) rfl ?_; (try simp only [Act.put, List.setIfInBounds_toArray, List.set_cons_zero, List.set_cons_succ]); replace hM := Lib.hid (hM.out.new (feL X) 31); generalize w.alloc (.cells (feL X).toArray 31) = a1 at *; generalize w.heap.size = g1 at *
  refine wpList_val (run_boxL (vs := feL N) rfl rfl) rfl ?_; (try simp only [Act.put, List.setIfInBounds_toArray, List.set_cons_zero, List.set_cons_succ]); replace hM := Lib.hid (hM.out.new (feL N) 31); generalize a1.alloc (.cells (feL N).toArray 31) = a2 at *; generalize a1.heap.size = g2 at *
  refine wpList_val (run_alc (vs := zq 4) rfl (by kernel_rfl)) rfl ?_; (try simp only [Act.put, List.setIfInBounds_toArray, List.set_cons_zero, List.set_cons_succ]); replace hM := Lib.hid (hM.out.new (zq 4) 31); generalize a2.alloc (.cells (zq 4).toArray 31) = a3 at *; generalize a2.heap.size = g3 at *
  refine wpList_end ?_
  go_upto_region 1 with fail; refine wp_region_lit ?_
  refine wpList_enter (run_call1 enters_rsmall rfl rfl rfl) rfl (rsmall_any 1 _ (by omega) (by omega)) (fun a4 hb => ?_); (try simp only [Act.put, List.setIfInBounds_toArray, List.set_cons_zero, List.set_cons_succ]); replace hM := Lib.hid (hM.out.below hb); clear hb
  refine wpList_val (run_alc (vs := zq 4) rfl (by kernel_rfl)) rfl ?_; (try simp only [Act.put, List.setIfInBounds_toArray, List.set_cons_zero, List.set_cons_succ]); replace hM := Lib.hid (hM.out.new (zq 4) 31); generalize a4.alloc (.cells (zq 4).toArray 31) = a5 at *; generalize a4.heap.size = g4 at *
  refine wpList_skip (run_stM (vs := feL 1) rfl (szFe _) rfl rfl (oneFe _) ((hM.out.get (i := 0) rfl).there)) rfl rfl ?_; replace hM := Lib.hid (hM.out.put 0 rfl (m := feL 1) rfl); generalize a5.setCells g4 0 (feL 1) = a6 at *
  refine wpList_end ?_
  go_upto_region 2 with fail; refine wp_region_lit ?_
  refine wpList_val (run_asg (v := .int _ _) rfl rfl) rfl ?_; (try simp only [Act.put, List.setIfInBounds_toArray, List.set_cons_zero, List.set_cons_succ])
  refine wpList_end ?_
  go_wp2_with fail
  go_loopw [6] (fun s u => ∃ j : Nat, j ≤ 256 ∧ s = .int .i64 ((j : Int) - 1) ∧ Mv w [(g4, feL (P j)), (g3, zq 4), (g2, feL N), (g1, feL X)] u) (fun s _ => (intOf s + 1).toNat)
  case atStart => exact ⟨256, by omega, rfl, by rw [P0.out]; exact hM.out⟩
  case round =>
    obtain ⟨j, hj, rfl, hJ⟩ := hrel
    replace hM := Lib.hid hJ
    clear hJ
    rcases Nat.eq_zero_or_pos j with rfl | hpos
    · have hk1 : ¬ ((0 : Int) ≤ ((0 : Nat) : Int) - 1) := by omega
      rw [PE.out] at hM
      go_upto_region 8 with fail; refine wp_region_lit ?_
      refine wpList_val (run_ldM (vs := feL res) rfl Tryd.underlying31 rfl (szFe _) rfl ((hM.out.get (i := 0) rfl).range)) rfl ?_; (try simp only [Act.put, List.setIfInBounds_toArray, List.set_cons_zero, List.set_cons_succ])
      refine wpList_skip (run_stM (vs := feL res) rfl (szFe _) rfl rfl (oneFe _) ((hM.out.get (i := 1) rfl).there)) rfl rfl ?_; replace hM := Lib.hid (hM.out.put 1 rfl (m := feL res) rfl); generalize wr.setCells g3 0 (feL res) = b1 at *
      refine wpList_end ?_; go_wp2_with fail; refine bodyPost_ret (v := .agg (feL res).toArray) (results_rowB Tryd.results48 rfl Tryd.underlying31 rfl (szFe _) (hM.out.get (i := 1) rfl).range) rfl ⟨rfl, hM.out.bl⟩
    · obtain ⟨i, rfl⟩ : ∃ i, j = i + 1 := ⟨j - 1, by omega⟩
      have hk1 : (0 : Int) ≤ ((i + 1 : Nat) : Int) - 1 := by omega
      have ei : ((i + 1 : Nat) : Int) - 1 = (i : Int) := by omega
      rw [ei] at hk1 ⊢
      clear ei
      have A0 := Lib.hid (QA.out i)
      have A1 := Lib.hid (QB.out i)
      have hPn := PN.out (i + 1)
      have HBi := Lib.hid (HB.out i)
      have hw := WN.out (i / 64)
      have HGi := Lib.hid (HG.out (i / 64) (by omega))
      have h2 := B2.out i
      generalize P (i + 1) = p1 at *
      generalize wk N (i / 64) = wd at *
      generalize bt i = bi at *
      go_upto_region 5 with fail; refine wp_region_lit ?_
      refine wpList_val (run_ldM (vs := feL p1) rfl Tryd.underlying31 rfl (szFe _) rfl ((hM.out.get (i := 0) rfl).range)) rfl ?_; (try simp only [Act.put, List.setIfInBounds_toArray, List.set_cons_zero, List.set_cons_succ])
      refine wpList_val (run_ldM (vs := feL p1) rfl Tryd.underlying31 rfl (szFe _) rfl ((hM.out.get (i := 0) rfl).range)) rfl ?_; (try simp only [Act.put, List.setIfInBounds_toArray, List.set_cons_zero, List.set_cons_succ])
      refine wpList_enter (run_call2 enters_rmul rfl rfl rfl rfl) rfl (refmul_any p1 p1 _ hPn hPn) (fun b1 hb => ?_); (try simp only [Act.put, List.setIfInBounds_toArray, List.set_cons_zero, List.set_cons_succ]); replace hM := Lib.hid (hM.out.below hb); clear hb
      have hsq := num_emod_pp (p1 * p1)
      generalize p1 * p1 % pp = sq1 at *
      refine wpList_skip (run_stM (vs := feL sq1) rfl (szFe _) rfl rfl (oneFe _) ((hM.out.get (i := 0) rfl).there)) rfl rfl ?_; replace hM := Lib.hid (hM.out.put 0 rfl (m := feL sq1) rfl); generalize b1.setCells g4 0 (feL sq1) = b2 at *
      refine wpList_end ?_
      go_upto_region 6 with fail; refine wp_region_lit ?_
      refine wpList_val (run_mv (v := .int _ _) rfl rfl) rfl ?_; (try simp only [Act.put, List.setIfInBounds_toArray, List.set_cons_zero, List.set_cons_succ])
      refine wpList_val (run_quoN (a := i) (b := 64) rfl rfl rfl (by omega) (by omega)) rfl ?_; (try simp only [Act.put, List.setIfInBounds_toArray, List.set_cons_zero, List.set_cons_succ])
      refine wpList_val (run_ix0 (i := i / 64) rfl Tryd.underlying31 (by kernel_rfl) rfl rfl (by omega)) rfl ?_; (try simp only [Act.put, List.setIfInBounds_toArray, List.set_cons_zero, List.set_cons_succ])
      refine wpList_val (run_ld64 rfl rfl ((hM.out.get (i := 2) rfl).c _ _ HGi.out)) rfl ?_; (try simp only [Act.put, List.setIfInBounds_toArray, List.set_cons_zero, List.set_cons_succ])
      refine wpList_val (run_mv (v := .int _ _) rfl rfl) rfl ?_; (try simp only [Act.put, List.setIfInBounds_toArray, List.set_cons_zero, List.set_cons_succ])
      refine wpList_val (run_remN (a := i) (b := 64) rfl rfl rfl (by omega)) rfl ?_; (try simp only [Act.put, List.setIfInBounds_toArray, List.set_cons_zero, List.set_cons_succ])
      refine wpList_val (run_cviuN (n := i % 64) rfl rfl (by omega)) rfl ?_; (try simp only [Act.put, List.setIfInBounds_toArray, List.set_cons_zero, List.set_cons_succ])
      refine wpList_val (run_shrU (n := i % 64) rfl rfl rfl (by omega)) rfl ?_; (try simp only [Act.put, List.setIfInBounds_toArray, List.set_cons_zero, List.set_cons_succ])
      refine wpList_val (run_remU (b := 2) rfl rfl rfl (Int.ediv_nonneg hw (Int.pow_nonneg (by omega))) (by omega)) rfl ?_; (try simp only [Act.put, List.setIfInBounds_toArray, List.set_cons_zero, List.set_cons_succ])
      rw [HBi.out]
      rcases h2 with rfl | rfl
      · have hv := A0.out rfl
        refine wpList_val (run_eqlb (k := .u64) (c := false) rfl rfl rfl rfl) rfl ?_; (try simp only [Act.put, List.setIfInBounds_toArray, List.set_cons_zero, List.set_cons_succ])
        refine wpList_end ?_
        rw [hv] at hM
        clear hv A0 A1 HBi HGi hw
        go_wp2_with fail
        exact ⟨⟨i, by omega, by go_num, hM.out⟩, by simp [intOf]⟩
      · have hv := A1.out rfl
        refine wpList_val (run_eqlb (k := .u64) (c := true) rfl rfl rfl rfl) rfl ?_; (try simp only [Act.put, List.setIfInBounds_toArray, List.set_cons_zero, List.set_cons_succ])
        refine wpList_end ?_
        go_upto_region 7 with fail; refine wp_region_lit ?_
        refine wpList_val (run_ldM (vs := feL sq1) rfl Tryd.underlying31 rfl (szFe _) rfl ((hM.out.get (i := 0) rfl).range)) rfl ?_; (try simp only [Act.put, List.setIfInBounds_toArray, List.set_cons_zero, List.set_cons_succ])
        refine wpList_val (run_ldM (vs := feL X) rfl Tryd.underlying31 rfl (szFe _) rfl ((hM.out.get (i := 3) rfl).range)) rfl ?_; (try simp only [Act.put, List.setIfInBounds_toArray, List.set_cons_zero, List.set_cons_succ])
        refine wpList_enter (run_call2 enters_rmul rfl rfl rfl rfl) rfl (refmul_any sq1 X _ hsq hX) (fun b3 hb => ?_); (try simp only [Act.put, List.setIfInBounds_toArray, List.set_cons_zero, List.set_cons_succ]); replace hM := Lib.hid (hM.out.below hb); clear hb
        rw [hv]
        refine wpList_skip (run_stM (vs := feL (P i)) rfl (szFe _) rfl rfl (oneFe _) ((hM.out.get (i := 0) rfl).there)) rfl rfl ?_; replace hM := Lib.hid (hM.out.put 0 rfl (m := feL (P i)) rfl); generalize b3.setCells g4 0 (feL (P i)) = b4 at *
        refine wpList_end ?_
        clear hv A0 A1 HBi HGi hw
        go_wp2_with fail
        exact ⟨⟨i, by omega, by go_num, hM.out⟩, by simp [intOf]⟩
theorem enters_rpow : Enters 48 := enters_of Tryd.func48 (by kernel_rfl) rfl
theorem built_pp2 : Tryd.prog.built 31 [(0, .int .u64 18446744073709551595), (1, .int .u64 18446744073709551615), (2, .int .u64 18446744073709551615), (3, .int .u64 9223372036854775807)] = some (feL (pp - 2)).toArray := by kernel_rfl
set_option maxHeartbeats 4000000 in
theorem reven_any (X : Int) (w : World) (hX : Num X) : Calls Tryd.prog 49 #[feV X] w fun e w' => e = .returned (feV (evn X)) ∧ Below w.heap.size w w' := by
  have hM := Lib.hid (Mv.nil w)
  have HE1 : Hid (X % 2 = 1 → evn X = -X % pp) := Lib.hid fun h => if_pos h
  have HE0 : Hid (¬ X % 2 = 1 → evn X = X) := Lib.hid fun h => if_neg h
  have hw : w0 X % 2 = X % 2 := by unfold w0; omega
  have hw0 := (w0_word X).1
  have CN : Hid (∀ u, Calls Tryd.prog 27 #[feV X] u fun e w' => e = .returned (feV (-X % pp)) ∧ Below u.heap.size u w') := Lib.hid fun u => rneg_any X u hX
  generalize evn X = res at *
  go_enter Tryd.func49, Tryd.ntmps49
  go_upto_region 0 with fail; refine wp_region_lit ?_
  refine wpList_val (run_boxL (vs := feL X) rfl rfl) rfl ?_; (try simp only [Act.put, List.setIfInBounds_toArray, List.set_cons_zero, List.set_cons_succ]); replace hM := Lib.hid (hM.out.new (feL X) 31); generalize w.alloc (.cells (feL X).toArray 31) = a1 at *; generalize w.heap.size = g1 at *
  refine wpList_val (run_alc (vs := zq 4) rfl (by kernel_rfl)) rfl ?_; (try simp only [Act.put, List.setIfInBounds_toArray, List.set_cons_zero, List.set_cons_succ]); replace hM := Lib.hid (hM.out.new (zq 4) 31); generalize a1.alloc (.cells (zq 4).toArray 31) = a2 at *; generalize a1.heap.size = g2 at *
  refine wpList_end ?_
  go_upto_region 1 with fail; refine wp_region_lit ?_
  refine wpList_val (run_ix0 (i := 0) rfl Tryd.underlying31 (by kernel_rfl) rfl rfl (by omega)) rfl ?_; (try simp only [Act.put, List.setIfInBounds_toArray, List.set_cons_zero, List.set_cons_succ])
  refine wpList_val (run_ld64 (v := .int .u64 (w0 X)) rfl rfl ((hM.out.get (i := 1) rfl).c 0 _ rfl)) rfl ?_; (try simp only [Act.put, List.setIfInBounds_toArray, List.set_cons_zero, List.set_cons_succ])
  refine wpList_val (run_remU (b := 2) rfl rfl rfl hw0 (by omega)) rfl ?_; (try simp only [Act.put, List.setIfInBounds_toArray, List.set_cons_zero, List.set_cons_succ])
  by_cases h1 : X % 2 = 1
  · have e := HE1.out h1
    subst e
    refine wpList_val (run_eqlb (k := .u64) (c := true) rfl rfl rfl (by rw [hw, h1]; rfl)) rfl ?_; (try simp only [Act.put, List.setIfInBounds_toArray, List.set_cons_zero, List.set_cons_succ])
    refine wpList_end ?_
    clear h1 hw
    go_upto_region 2 with fail; refine wp_region_lit ?_
    refine wpList_val (run_ldM (vs := feL X) rfl Tryd.underlying31 rfl (szFe _) rfl ((hM.out.get (i := 1) rfl).range)) rfl ?_; (try simp only [Act.put, List.setIfInBounds_toArray, List.set_cons_zero, List.set_cons_succ])
    refine wpList_enter (run_call1 enters_rneg rfl rfl rfl) rfl (CN.out _) (fun a3 hb => ?_); (try simp only [Act.put, List.setIfInBounds_toArray, List.set_cons_zero, List.set_cons_succ]); replace hM := Lib.hid (hM.out.below hb); clear hb
    refine wpList_skip (run_stM (vs := feL (-X % pp)) rfl (szFe _) rfl rfl (oneFe _) ((hM.out.get (i := 0) rfl).there)) rfl rfl ?_; replace hM := Lib.hid (hM.out.put 0 rfl (m := feL (-X % pp)) rfl); generalize a3.setCells g2 0 (feL (-X % pp)) = a4 at *
    refine wpList_end ?_; go_wp2_with fail; refine bodyPost_ret (v := .agg (feL (-X % pp)).toArray) (results_rowB Tryd.results49 rfl Tryd.underlying31 rfl (szFe _) (hM.out.get (i := 0) rfl).range) rfl ⟨rfl, hM.out.bl⟩
  · have e := HE0.out h1
    refine wpList_val (run_eqlb (k := .u64) (c := false) rfl rfl rfl (by rw [hw]; simpa using h1)) rfl ?_; (try simp only [Act.put, List.setIfInBounds_toArray, List.set_cons_zero, List.set_cons_succ])
    refine wpList_end ?_
    clear h1 hw
    go_upto_region 3 with fail; refine wp_region_lit ?_
    refine wpList_val (run_ldM (vs := feL X) rfl Tryd.underlying31 rfl (szFe _) rfl ((hM.out.get (i := 1) rfl).range)) rfl ?_; (try simp only [Act.put, List.setIfInBounds_toArray, List.set_cons_zero, List.set_cons_succ])
    refine wpList_skip (run_stM (vs := feL X) rfl (szFe _) rfl rfl (oneFe _) ((hM.out.get (i := 0) rfl).there)) rfl rfl ?_; replace hM := Lib.hid (hM.out.put 0 rfl (m := feL X) rfl); generalize a2.setCells g2 0 (feL X) = a4 at *
    refine wpList_end ?_; go_wp2_with fail; refine bodyPost_ret (v := .agg (feL X).toArray) (results_rowB Tryd.results49 rfl Tryd.underlying31 rfl (szFe _) (hM.out.get (i := 0) rfl).range) rfl ⟨by rw [e], hM.out.bl⟩
theorem enters_reven : Enters 49 := enters_of Tryd.func49 (by kernel_rfl) rfl
end Go.Proofs.YtfdjmdfaidiliaaDoor
namespace Go.Proofs.YtfdjmdfaidiliaaDoor
open Go.RowKit
set_option maxRecDepth 20000

theorem built_rp : Tryd.prog.built 31 [(0, .int .u64 18446744073709551613), (1, .int .u64 18446744073709551615), (2, .int .u64 18446744073709551615), (3, .int .u64 1152921504606846975)] = some (feL rp).toArray := by kernel_rfl
theorem built_mp : Tryd.prog.built 31 [(0, .int .u64 18446744073709551611), (1, .int .u64 18446744073709551615), (2, .int .u64 18446744073709551615), (3, .int .u64 2305843009213693951)] = some (feL mp).toArray := by kernel_rfl
theorem enters_rcanonF : Enters 46 := enters_of Tryd.func46 (by kernel_rfl) rfl
theorem num_2 : Num 2 := num_small (by omega) (by omega)
set_option maxHeartbeats 16000000 in
theorem rroot_any (X Y : Int) (w : World) (hX : Num X) (hY : Num Y) : Calls Tryd.prog 21 #[feV X, feV Y] w fun e w' => e = .returned (.tuple #[feV (rootN X Y), .bool (rootB X Y)]) ∧ Below w.heap.size w w' := by
  have hM := Lib.hid (Mv.nil w)
  have E3 : Hid (Y * Y % pp * Y % pp = cubeOf Y) := Lib.hid (by unfold cubeOf; rw [Int.mul_comm])
  have E7 : Hid (cubeOf Y * cubeOf Y % pp * Y % pp = sevOf Y) := Lib.hid (by unfold sevOf; rw [Int.mul_comm])
  have ER : Hid (X * cubeOf Y % pp * ((X * sevOf Y % pp) ^ rp.toNat % pp) % pp = nearOf X Y) := Lib.hid rfl
  have HB : Hid (rootB X Y = ((Y * (nearOf X Y * nearOf X Y % pp) % pp == X % pp) || (Y * (nearOf X Y * nearOf X Y % pp) % pp == -X % pp))) := Lib.hid rfl
  have HN : Hid (rootN X Y = if Y * (nearOf X Y * nearOf X Y % pp) % pp = X % pp then evn (nearOf X Y) else if Y * (nearOf X Y * nearOf X Y % pp) % pp = -X % pp then evn (nearOf X Y * (2 ^ mp.toNat % pp) % pp) else 0) := Lib.hid rfl
  have n3 : Num (cubeOf Y) := num_emod_pp _
  have n7 : Num (sevOf Y) := num_emod_pp _
  have nR : Num (nearOf X Y) := num_emod_pp _
  obtain ⟨q, hq⟩ : ∃ q, q = rp := ⟨_, rfl⟩
  obtain ⟨q2, hq2⟩ : ∃ q2, q2 = mp := ⟨_, rfl⟩
  have BR := Lib.hid built_rp
  have BM := Lib.hid built_mp
  have nq : Num q := by rw [hq]; exact num_rp
  have nq2 : Num q2 := by rw [hq2]; exact num_mp
  rw [← hq] at BR ER
  rw [← hq2] at BM HN
  clear hq hq2
  obtain ⟨im, him⟩ : ∃ im, im = (2 : Int) ^ q2.toNat % pp := ⟨_, rfl⟩
  have nim : Num im := by rw [him]; exact num_emod_pp _
  have CI : Hid (∀ u, Calls Tryd.prog 48 #[feV 2, feV q2] u fun e w' => e = .returned (feV im) ∧ Below u.heap.size u w') := Lib.hid fun u => by rw [him]; exact rpow_any 2 q2 u num_2 nq2
  rw [← him] at HN
  clear him
  generalize rootN X Y = rn at *
  generalize rootB X Y = rb at *
  generalize nearOf X Y = R at *
  generalize cubeOf Y = y3 at *
  generalize sevOf Y = y7 at *
  obtain ⟨pw1, hpw⟩ : ∃ pw1, pw1 = (X * y7 % pp) ^ q.toNat % pp := ⟨_, rfl⟩
  have npw : Num pw1 := by rw [hpw]; exact num_emod_pp _
  have CP : Hid (∀ u, Calls Tryd.prog 48 #[feV (X * y7 % pp), feV q] u fun e w' => e = .returned (feV pw1) ∧ Below u.heap.size u w') := Lib.hid fun u => by rw [hpw]; exact rpow_any _ q u (num_emod_pp _) nq
  rw [← hpw] at ER
  clear hpw
  obtain ⟨z, hz⟩ : ∃ z, z = Y * (R * R % pp) % pp := ⟨_, rfl⟩
  have nz : Num z := by rw [hz]; exact num_emod_pp _
  rw [← hz] at HB HN
  have EZ : Hid (Y * (R * R % pp) % pp = z) := Lib.hid hz.symm
  clear hz
  go_enter Tryd.func21, Tryd.ntmps21
  go_upto_region 0 with fail; refine wp_region_lit ?_
  refine wpList_val (run_boxL (vs := feL X) rfl rfl) rfl ?_; (try simp only [Act.put, List.setIfInBounds_toArray, List.set_cons_zero, List.set_cons_succ]); replace hM := Lib.hid (hM.out.new (feL X) 31); generalize w.alloc (.cells (feL X).toArray 31) = a1 at *; generalize w.heap.size = g1 at *
  refine wpList_val (run_boxL (vs := feL Y) rfl rfl) rfl ?_; (try simp only [Act.put, List.setIfInBounds_toArray, List.set_cons_zero, List.set_cons_succ]); replace hM := Lib.hid (hM.out.new (feL Y) 31); generalize a1.alloc (.cells (feL Y).toArray 31) = a2 at *; generalize a1.heap.size = g2 at *
  refine wpList_val (run_alc (vs := zq 4) rfl (by kernel_rfl)) rfl ?_; (try simp only [Act.put, List.setIfInBounds_toArray, List.set_cons_zero, List.set_cons_succ]); replace hM := Lib.hid (hM.out.new (zq 4) 31); generalize a2.alloc (.cells (zq 4).toArray 31) = a3 at *; generalize a2.heap.size = g3 at *
  refine wpList_val (run_asg (v := .bool _) rfl rfl) rfl ?_; (try simp only [Act.put, List.setIfInBounds_toArray, List.set_cons_zero, List.set_cons_succ])
  refine wpList_end ?_
  go_upto_region 1 with fail; refine wp_region_sow1 5 31 (by kernel_rfl) rfl (by kernel_rfl) (alcFe) ?_
  refine wpCalm_step _ (fun V hV => calm_run (run_ldM (vs := feL Y) rfl Tryd.underlying31 rfl (szFe _) rfl (((hM.out.below hV).get (i := 1) rfl).range))) ?_; (try simp only [Act.put, List.setIfInBounds_toArray, List.set_cons_zero, List.set_cons_succ])
  refine wpCalm_step _ (fun V hV => calm_run (run_ldM (vs := feL Y) rfl Tryd.underlying31 rfl (szFe _) rfl (((hM.out.below hV).get (i := 1) rfl).range))) ?_; (try simp only [Act.put, List.setIfInBounds_toArray, List.set_cons_zero, List.set_cons_succ])
  refine wpCalm_step _ (fun V hV => calm_enter (run_call2 enters_rmul rfl rfl rfl rfl) (refmul_any Y Y V hY hY)) ?_; (try simp only [Act.put, List.setIfInBounds_toArray, List.set_cons_zero, List.set_cons_succ])
  refine wpCalm_step _ (fun V hV => calm_run (run_ldM (vs := feL Y) rfl Tryd.underlying31 rfl (szFe _) rfl (((hM.out.below hV).get (i := 1) rfl).range))) ?_; (try simp only [Act.put, List.setIfInBounds_toArray, List.set_cons_zero, List.set_cons_succ])
  refine wpCalm_step _ (fun V hV => calm_enter (run_call2 enters_rmul rfl rfl rfl rfl) (refmul_any (Y * Y % pp) Y V (num_emod_pp _) hY)) ?_; (try simp only [Act.put, List.setIfInBounds_toArray, List.set_cons_zero, List.set_cons_succ])
  refine wpCalm_done ?_; intro g4 a4 hpb s1; simp only [List.drop_succ_cons, List.drop_zero, List.setIfInBounds_toArray, List.set_cons_zero, List.set_cons_succ]; replace hM := Lib.hid (hM.out.sow hpb s1); clear hpb s1
  rw [E3.out]
  refine wpList_skip (run_stM (vs := feL y3) rfl (szFe _) rfl rfl (oneFe _) ((hM.out.get (i := 0) rfl).there)) rfl rfl ?_; replace hM := Lib.hid (hM.out.put 0 rfl (m := feL y3) rfl); generalize a4.setCells g4 0 (feL y3) = a5 at *
  refine wpList_end ?_
  go_upto_region 2 with fail; refine wp_region_sow1 5 31 (by kernel_rfl) rfl (by kernel_rfl) (alcFe) ?_
  refine wpCalm_step _ (fun V hV => calm_run (run_ldM (vs := feL y3) rfl Tryd.underlying31 rfl (szFe _) rfl (((hM.out.below hV).get (i := 0) rfl).range))) ?_; (try simp only [Act.put, List.setIfInBounds_toArray, List.set_cons_zero, List.set_cons_succ])
  refine wpCalm_step _ (fun V hV => calm_run (run_ldM (vs := feL y3) rfl Tryd.underlying31 rfl (szFe _) rfl (((hM.out.below hV).get (i := 0) rfl).range))) ?_; (try simp only [Act.put, List.setIfInBounds_toArray, List.set_cons_zero, List.set_cons_succ])
  refine wpCalm_step _ (fun V hV => calm_enter (run_call2 enters_rmul rfl rfl rfl rfl) (refmul_any y3 y3 V n3 n3)) ?_; (try simp only [Act.put, List.setIfInBounds_toArray, List.set_cons_zero, List.set_cons_succ])
  refine wpCalm_step _ (fun V hV => calm_run (run_ldM (vs := feL Y) rfl Tryd.underlying31 rfl (szFe _) rfl (((hM.out.below hV).get (i := 2) rfl).range))) ?_; (try simp only [Act.put, List.setIfInBounds_toArray, List.set_cons_zero, List.set_cons_succ])
  refine wpCalm_step _ (fun V hV => calm_enter (run_call2 enters_rmul rfl rfl rfl rfl) (refmul_any (y3 * y3 % pp) Y V (num_emod_pp _) hY)) ?_; (try simp only [Act.put, List.setIfInBounds_toArray, List.set_cons_zero, List.set_cons_succ])
  refine wpCalm_done ?_; intro g5 a6 hpb s1; simp only [List.drop_succ_cons, List.drop_zero, List.setIfInBounds_toArray, List.set_cons_zero, List.set_cons_succ]; replace hM := Lib.hid (hM.out.sow hpb s1); clear hpb s1
  rw [E7.out]
  refine wpList_skip (run_stM (vs := feL y7) rfl (szFe _) rfl rfl (oneFe _) ((hM.out.get (i := 0) rfl).there)) rfl rfl ?_; replace hM := Lib.hid (hM.out.put 0 rfl (m := feL y7) rfl); generalize a6.setCells g5 0 (feL y7) = a7 at *
  refine wpList_end ?_
  go_upto_region 3 with fail; refine wp_region_sow1 9 31 (by kernel_rfl) rfl (by kernel_rfl) (alcFe) ?_
  refine wpCalm_step _ (fun V hV => calm_run (run_ldM (vs := feL X) rfl Tryd.underlying31 rfl (szFe _) rfl (((hM.out.below hV).get (i := 4) rfl).range))) ?_; (try simp only [Act.put, List.setIfInBounds_toArray, List.set_cons_zero, List.set_cons_succ])
  refine wpCalm_step _ (fun V hV => calm_run (run_ldM (vs := feL y3) rfl Tryd.underlying31 rfl (szFe _) rfl (((hM.out.below hV).get (i := 1) rfl).range))) ?_; (try simp only [Act.put, List.setIfInBounds_toArray, List.set_cons_zero, List.set_cons_succ])
  refine wpCalm_step _ (fun V hV => calm_enter (run_call2 enters_rmul rfl rfl rfl rfl) (refmul_any X y3 V hX n3)) ?_; (try simp only [Act.put, List.setIfInBounds_toArray, List.set_cons_zero, List.set_cons_succ])
  refine wpCalm_step _ (fun V hV => calm_run (run_ldM (vs := feL X) rfl Tryd.underlying31 rfl (szFe _) rfl (((hM.out.below hV).get (i := 4) rfl).range))) ?_; (try simp only [Act.put, List.setIfInBounds_toArray, List.set_cons_zero, List.set_cons_succ])
  refine wpCalm_step _ (fun V hV => calm_run (run_ldM (vs := feL y7) rfl Tryd.underlying31 rfl (szFe _) rfl (((hM.out.below hV).get (i := 0) rfl).range))) ?_; (try simp only [Act.put, List.setIfInBounds_toArray, List.set_cons_zero, List.set_cons_succ])
  refine wpCalm_step _ (fun V hV => calm_enter (run_call2 enters_rmul rfl rfl rfl rfl) (refmul_any X y7 V hX n7)) ?_; (try simp only [Act.put, List.setIfInBounds_toArray, List.set_cons_zero, List.set_cons_succ])
  refine wpCalm_step _ (fun V hV => calm_run (run_bld4 (cells := (feL q).toArray) rfl rfl rfl rfl rfl BR.out)) ?_; (try simp only [Act.put, List.setIfInBounds_toArray, List.set_cons_zero, List.set_cons_succ])
  refine wpCalm_step _ (fun V hV => calm_enter (run_call2 enters_rpow rfl rfl rfl rfl) (CP.out V)) ?_; (try simp only [Act.put, List.setIfInBounds_toArray, List.set_cons_zero, List.set_cons_succ])
  refine wpCalm_step _ (fun V hV => calm_enter (run_call2 enters_rmul rfl rfl rfl rfl) (refmul_any (X * y3 % pp) pw1 V (num_emod_pp _) npw)) ?_; (try simp only [Act.put, List.setIfInBounds_toArray, List.set_cons_zero, List.set_cons_succ])
  refine wpCalm_done ?_; intro g6 a8 hpb s1; simp only [List.drop_succ_cons, List.drop_zero, List.setIfInBounds_toArray, List.set_cons_zero, List.set_cons_succ]; replace hM := Lib.hid (hM.out.sow hpb s1); clear hpb s1
  rw [ER.out]
  refine wpList_skip (run_stM (vs := feL R) rfl (szFe _) rfl rfl (oneFe _) ((hM.out.get (i := 0) rfl).there)) rfl rfl ?_; replace hM := Lib.hid (hM.out.put 0 rfl (m := feL R) rfl); generalize a8.setCells g6 0 (feL R) = a9 at *
  refine wpList_end ?_
  go_upto_region 4 with fail; refine wp_region_sow1 5 31 (by kernel_rfl) rfl (by kernel_rfl) (alcFe) ?_
  refine wpCalm_step _ (fun V hV => calm_run (run_ldM (vs := feL Y) rfl Tryd.underlying31 rfl (szFe _) rfl (((hM.out.below hV).get (i := 4) rfl).range))) ?_; (try simp only [Act.put, List.setIfInBounds_toArray, List.set_cons_zero, List.set_cons_succ])
  refine wpCalm_step _ (fun V hV => calm_run (run_ldM (vs := feL R) rfl Tryd.underlying31 rfl (szFe _) rfl (((hM.out.below hV).get (i := 0) rfl).range))) ?_; (try simp only [Act.put, List.setIfInBounds_toArray, List.set_cons_zero, List.set_cons_succ])
  refine wpCalm_step _ (fun V hV => calm_run (run_ldM (vs := feL R) rfl Tryd.underlying31 rfl (szFe _) rfl (((hM.out.below hV).get (i := 0) rfl).range))) ?_; (try simp only [Act.put, List.setIfInBounds_toArray, List.set_cons_zero, List.set_cons_succ])
  refine wpCalm_step _ (fun V hV => calm_enter (run_call2 enters_rmul rfl rfl rfl rfl) (refmul_any R R V nR nR)) ?_; (try simp only [Act.put, List.setIfInBounds_toArray, List.set_cons_zero, List.set_cons_succ])
  refine wpCalm_step _ (fun V hV => calm_enter (run_call2 enters_rmul rfl rfl rfl rfl) (refmul_any Y (R * R % pp) V hY (num_emod_pp _))) ?_; (try simp only [Act.put, List.setIfInBounds_toArray, List.set_cons_zero, List.set_cons_succ])
  refine wpCalm_done ?_; intro g7 a10 hpb s1; simp only [List.drop_succ_cons, List.drop_zero, List.setIfInBounds_toArray, List.set_cons_zero, List.set_cons_succ]; replace hM := Lib.hid (hM.out.sow hpb s1); clear hpb s1
  rw [EZ.out]
  refine wpList_skip (run_stM (vs := feL z) rfl (szFe _) rfl rfl (oneFe _) ((hM.out.get (i := 0) rfl).there)) rfl rfl ?_; replace hM := Lib.hid (hM.out.put 0 rfl (m := feL z) rfl); generalize a10.setCells g7 0 (feL z) = a11 at *
  refine wpList_end ?_
  by_cases h1 : z = X % pp
  · rw [if_pos h1] at HN
    have hb : rb = true := by rw [HB.out, beq_iff_eq.2 h1, Bool.true_or]
    subst hb
    go_upto_region 5 with fail; refine wp_region_calm 4 (by kernel_rfl) (by kernel_rfl) ?_
    refine wpCalm_step _ (fun V hV => calm_run (run_ldM (vs := feL z) rfl Tryd.underlying31 rfl (szFe _) rfl (((hM.out.below hV).get (i := 0) rfl).range))) ?_; (try simp only [Act.put, List.setIfInBounds_toArray, List.set_cons_zero, List.set_cons_succ])
    refine wpCalm_step _ (fun V hV => calm_run (run_ldM (vs := feL X) rfl Tryd.underlying31 rfl (szFe _) rfl (((hM.out.below hV).get (i := 6) rfl).range))) ?_; (try simp only [Act.put, List.setIfInBounds_toArray, List.set_cons_zero, List.set_cons_succ])
    refine wpCalm_step _ (fun V hV => calm_enter (run_call1 enters_rcanonF rfl rfl rfl) (refcanon_any X V hX)) ?_; (try simp only [Act.put, List.setIfInBounds_toArray, List.set_cons_zero, List.set_cons_succ])
    refine wpCalm_step _ (fun V hV => calm_run (run_eqFeO (c := true) nz (num_emod_pp _) rfl rfl rfl (beq_iff_eq.2 h1))) ?_; (try simp only [Act.put, List.setIfInBounds_toArray, List.set_cons_zero, List.set_cons_succ])
    refine wpCalm_done ?_; intro a12 hb; simp only [List.drop_succ_cons, List.drop_zero]
    replace hM := Lib.hid (hM.out.below hb)
    clear hb h1
    refine wpList_end ?_
    go_upto_region 6 with fail; refine wp_region_lit ?_
    refine wpList_val (run_ldM (vs := feL R) rfl Tryd.underlying31 rfl (szFe _) rfl ((hM.out.get (i := 1) rfl).range)) rfl ?_; (try simp only [Act.put, List.setIfInBounds_toArray, List.set_cons_zero, List.set_cons_succ])
    refine wpList_enter (run_call1 enters_reven rfl rfl rfl) rfl (reven_any R _ nR) (fun a13 hb => ?_); (try simp only [Act.put, List.setIfInBounds_toArray, List.set_cons_zero, List.set_cons_succ]); replace hM := Lib.hid (hM.out.below hb); clear hb
    rw [← HN.out]
    refine wpList_skip (run_stM (vs := feL rn) rfl (szFe _) rfl rfl (oneFe _) ((hM.out.get (i := 4) rfl).there)) rfl rfl ?_; replace hM := Lib.hid (hM.out.put 4 rfl (m := feL rn) rfl); generalize a13.setCells g3 0 (feL rn) = a14 at *
    refine wpList_val (run_asg (v := .bool _) rfl rfl) rfl ?_; (try simp only [Act.put, List.setIfInBounds_toArray, List.set_cons_zero, List.set_cons_succ])
    refine wpList_end ?_
    go_wp2_with fail
    exact bodyPost_ret (v := .tuple #[.agg (feL rn).toArray, .bool true]) (results_rowT Tryd.results21 rfl Tryd.underlying31 rfl (szFe _) (hM.out.get (i := 4) rfl).range) rfl ⟨rfl, hM.out.bl⟩
  · rw [if_neg h1] at HN
    go_upto_region 5 with fail; refine wp_region_calm 4 (by kernel_rfl) (by kernel_rfl) ?_
    refine wpCalm_step _ (fun V hV => calm_run (run_ldM (vs := feL z) rfl Tryd.underlying31 rfl (szFe _) rfl (((hM.out.below hV).get (i := 0) rfl).range))) ?_; (try simp only [Act.put, List.setIfInBounds_toArray, List.set_cons_zero, List.set_cons_succ])
    refine wpCalm_step _ (fun V hV => calm_run (run_ldM (vs := feL X) rfl Tryd.underlying31 rfl (szFe _) rfl (((hM.out.below hV).get (i := 6) rfl).range))) ?_; (try simp only [Act.put, List.setIfInBounds_toArray, List.set_cons_zero, List.set_cons_succ])
    refine wpCalm_step _ (fun V hV => calm_enter (run_call1 enters_rcanonF rfl rfl rfl) (refcanon_any X V hX)) ?_; (try simp only [Act.put, List.setIfInBounds_toArray, List.set_cons_zero, List.set_cons_succ])
    refine wpCalm_step _ (fun V hV => calm_run (run_eqFeO (c := false) nz (num_emod_pp _) rfl rfl rfl (by simpa using h1))) ?_; (try simp only [Act.put, List.setIfInBounds_toArray, List.set_cons_zero, List.set_cons_succ])
    refine wpCalm_done ?_; intro a12 hb; simp only [List.drop_succ_cons, List.drop_zero]
    replace hM := Lib.hid (hM.out.below hb)
    clear hb
    refine wpList_end ?_
    by_cases h2 : z = -X % pp
    · rw [if_pos h2] at HN
      have hb : rb = true := by rw [HB.out, beq_iff_eq.2 h2, Bool.or_true]
      subst hb
      go_upto_region 7 with fail; refine wp_region_calm 4 (by kernel_rfl) (by kernel_rfl) ?_
      refine wpCalm_step _ (fun V hV => calm_run (run_ldM (vs := feL z) rfl Tryd.underlying31 rfl (szFe _) rfl (((hM.out.below hV).get (i := 0) rfl).range))) ?_; (try simp only [Act.put, List.setIfInBounds_toArray, List.set_cons_zero, List.set_cons_succ])
      refine wpCalm_step _ (fun V hV => calm_run (run_ldM (vs := feL X) rfl Tryd.underlying31 rfl (szFe _) rfl (((hM.out.below hV).get (i := 6) rfl).range))) ?_; (try simp only [Act.put, List.setIfInBounds_toArray, List.set_cons_zero, List.set_cons_succ])
      refine wpCalm_step _ (fun V hV => calm_enter (run_call1 enters_rneg rfl rfl rfl) (rneg_any X V hX)) ?_; (try simp only [Act.put, List.setIfInBounds_toArray, List.set_cons_zero, List.set_cons_succ])
      refine wpCalm_step _ (fun V hV => calm_run (run_eqFeO (c := true) nz (num_emod_pp _) rfl rfl rfl (beq_iff_eq.2 h2))) ?_; (try simp only [Act.put, List.setIfInBounds_toArray, List.set_cons_zero, List.set_cons_succ])
      refine wpCalm_done ?_; intro a13 hb; simp only [List.drop_succ_cons, List.drop_zero]
      replace hM := Lib.hid (hM.out.below hb)
      clear hb h1 h2
      refine wpList_end ?_
      go_upto_region 8 with fail; refine wp_region_lit ?_
      refine wpList_enter (run_call1 enters_rsmall rfl rfl rfl) rfl (rsmall_any 2 _ (by omega) (by omega)) (fun b1 hb => ?_); (try simp only [Act.put, List.setIfInBounds_toArray, List.set_cons_zero, List.set_cons_succ]); replace hM := Lib.hid (hM.out.below hb); clear hb
      refine wpList_val (run_bld4 (cells := (feL q2).toArray) rfl rfl rfl rfl rfl BM.out) rfl ?_; (try simp only [Act.put, List.setIfInBounds_toArray, List.set_cons_zero, List.set_cons_succ])
      refine wpList_enter (run_call2 enters_rpow rfl rfl rfl rfl) rfl (CI.out _) (fun b2 hb => ?_); (try simp only [Act.put, List.setIfInBounds_toArray, List.set_cons_zero, List.set_cons_succ]); replace hM := Lib.hid (hM.out.below hb); clear hb
      refine wpList_val (run_alc (vs := zq 4) rfl (by kernel_rfl)) rfl ?_; (try simp only [Act.put, List.setIfInBounds_toArray, List.set_cons_zero, List.set_cons_succ]); replace hM := Lib.hid (hM.out.new (zq 4) 31); generalize b2.alloc (.cells (zq 4).toArray 31) = b3 at *; generalize b2.heap.size = g8 at *
      refine wpList_skip (run_stM (vs := feL im) rfl (szFe _) rfl rfl (oneFe _) ((hM.out.get (i := 0) rfl).there)) rfl rfl ?_; replace hM := Lib.hid (hM.out.put 0 rfl (m := feL im) rfl); generalize b3.setCells g8 0 (feL im) = b4 at *
      refine wpList_end ?_
      go_upto_region 9 with fail; refine wp_region_lit ?_
      refine wpList_val (run_ldM (vs := feL R) rfl Tryd.underlying31 rfl (szFe _) rfl ((hM.out.get (i := 2) rfl).range)) rfl ?_; (try simp only [Act.put, List.setIfInBounds_toArray, List.set_cons_zero, List.set_cons_succ])
      refine wpList_val (run_ldM (vs := feL im) rfl Tryd.underlying31 rfl (szFe _) rfl ((hM.out.get (i := 0) rfl).range)) rfl ?_; (try simp only [Act.put, List.setIfInBounds_toArray, List.set_cons_zero, List.set_cons_succ])
      refine wpList_enter (run_call2 enters_rmul rfl rfl rfl rfl) rfl (refmul_any R im _ nR nim) (fun b5 hb => ?_); (try simp only [Act.put, List.setIfInBounds_toArray, List.set_cons_zero, List.set_cons_succ]); replace hM := Lib.hid (hM.out.below hb); clear hb
      refine wpList_enter (run_call1 enters_reven rfl rfl rfl) rfl (reven_any (R * im % pp) _ (num_emod_pp _)) (fun b6 hb => ?_); (try simp only [Act.put, List.setIfInBounds_toArray, List.set_cons_zero, List.set_cons_succ]); replace hM := Lib.hid (hM.out.below hb); clear hb
      rw [← HN.out]
      refine wpList_skip (run_stM (vs := feL rn) rfl (szFe _) rfl rfl (oneFe _) ((hM.out.get (i := 5) rfl).there)) rfl rfl ?_; replace hM := Lib.hid (hM.out.put 5 rfl (m := feL rn) rfl); generalize b6.setCells g3 0 (feL rn) = b7 at *
      refine wpList_val (run_asg (v := .bool _) rfl rfl) rfl ?_; (try simp only [Act.put, List.setIfInBounds_toArray, List.set_cons_zero, List.set_cons_succ])
      refine wpList_end ?_
      go_wp2_with fail
      exact bodyPost_ret (v := .tuple #[.agg (feL rn).toArray, .bool true]) (results_rowT Tryd.results21 rfl Tryd.underlying31 rfl (szFe _) (hM.out.get (i := 5) rfl).range) rfl ⟨rfl, hM.out.bl⟩
    · rw [if_neg h2] at HN
      have hb : rb = false := by rw [HB.out]; simp [h1, h2]
      have hn := HN.out
      subst hb hn
      go_upto_region 7 with fail; refine wp_region_calm 4 (by kernel_rfl) (by kernel_rfl) ?_
      refine wpCalm_step _ (fun V hV => calm_run (run_ldM (vs := feL z) rfl Tryd.underlying31 rfl (szFe _) rfl (((hM.out.below hV).get (i := 0) rfl).range))) ?_; (try simp only [Act.put, List.setIfInBounds_toArray, List.set_cons_zero, List.set_cons_succ])
      refine wpCalm_step _ (fun V hV => calm_run (run_ldM (vs := feL X) rfl Tryd.underlying31 rfl (szFe _) rfl (((hM.out.below hV).get (i := 6) rfl).range))) ?_; (try simp only [Act.put, List.setIfInBounds_toArray, List.set_cons_zero, List.set_cons_succ])
      refine wpCalm_step _ (fun V hV => calm_enter (run_call1 enters_rneg rfl rfl rfl) (rneg_any X V hX)) ?_; (try simp only [Act.put, List.setIfInBounds_toArray, List.set_cons_zero, List.set_cons_succ])
      refine wpCalm_step _ (fun V hV => calm_run (run_eqFeO (c := false) nz (num_emod_pp _) rfl rfl rfl (by simpa using h2))) ?_; (try simp only [Act.put, List.setIfInBounds_toArray, List.set_cons_zero, List.set_cons_succ])
      refine wpCalm_done ?_; intro a13 hb; simp only [List.drop_succ_cons, List.drop_zero]
      replace hM := Lib.hid (hM.out.below hb)
      clear hb h1 h2
      refine wpList_end ?_
      go_upto_region 10 with fail; refine wp_region_lit ?_
      refine wpList_val (run_bldE (cells := (feL 0).toArray) rfl built_fe0) rfl ?_; (try simp only [Act.put, List.setIfInBounds_toArray, List.set_cons_zero, List.set_cons_succ])
      refine wpList_skip (run_stM (vs := feL 0) rfl (szFe _) rfl rfl (oneFe _) ((hM.out.get (i := 4) rfl).there)) rfl rfl ?_; replace hM := Lib.hid (hM.out.put 4 rfl (m := feL 0) rfl); generalize a13.setCells g3 0 (feL 0) = b1 at *
      refine wpList_val (run_asg (v := .bool _) rfl rfl) rfl ?_; (try simp only [Act.put, List.setIfInBounds_toArray, List.set_cons_zero, List.set_cons_succ])
      refine wpList_end ?_
      go_wp2_with fail
      exact bodyPost_ret (v := .tuple #[.agg (feL 0).toArray, .bool false]) (results_rowT Tryd.results21 rfl Tryd.underlying31 rfl (szFe _) (hM.out.get (i := 4) rfl).range) rfl ⟨rfl, hM.out.bl⟩
theorem enters_rroot : Enters 21 := enters_of Tryd.func21 (by kernel_rfl) rfl
end Go.Proofs.YtfdjmdfaidiliaaDoor
namespace Go.Proofs.YtfdjmdfaidiliaaDoor
open Go.RowKit
set_option maxRecDepth 20000

/-- A point whose numbers are by a third one. -/
structure Tr where
  x : Int
  y : Int
  z : Int
structure Tr.Rep (W : Tr) (P : Pt) : Prop where
  nz : ¬ Zr W.z
  hx : E W.x (P.x * W.z)
  hy : E W.y (P.y * W.z)
structure Tr.Nm (W : Tr) : Prop where
  x : Num W.x
  y : Num W.y
  z : Num W.z
def trL (W : Tr) : List Value := feL W.x ++ (feL W.y ++ feL W.z)
theorem oneTr (W : Tr) : (trL W).toArray.all (·.oneCell') = true := by kernel_rfl
section
variable {g : Nat} {u : World} {W : Tr}
theorem tr_x (h : Arr g (trL W) u) : u.rangeAt g (0 + 0) (feL W.x) := h.part 0 4
theorem tr_y (h : Arr g (trL W) u) : u.rangeAt g (0 + 4) (feL W.y) := h.part 4 4
theorem tr_z (h : Arr g (trL W) u) : u.rangeAt g (0 + 8) (feL W.z) := h.part 8 4
end
theorem run_bld3 {w : World} {ρ : Operand → Value} {o : Oper} {t : TypeId} {x0 x1 x2 : Operand} {i0 i1 i2 : Nat} {v0 v1 v2 : Value} {cells : Array Value} (ho : o.op = .build t #[(i0, x0), (i1, x1), (i2, x2)]) (h0 : ρ x0 = v0) (h1 : ρ x1 = v1) (h2 : ρ x2 = v2) (h : Tryd.prog.built t [(i0, v0), (i1, v1), (i2, v2)] = some cells) : (execOp ρ o).run Tryd.prog w = .ok (.value (.agg cells)) w :=
  run_bld ho (by
    have e : ((#[(i0, x0), (i1, x1), (i2, x2)] : Array (Nat × Operand)).map fun (i, x) => (i, ρ x)).toList = [(i0, v0), (i1, v1), (i2, v2)] := by simp [h0, h1, h2]
    rw [e]; exact h)
def trA (p q : Tr) : Int := p.z * q.z % pp
def tB (p q : Tr) : Int := trA p q * trA p q % pp
def tC (p q : Tr) : Int := p.x * q.x % pp
def tE (p q : Tr) : Int := p.y * q.y % pp
def tF (p q : Tr) : Int := dd * (tC p q * tE p q % pp) % pp
def tG (p q : Tr) : Int := (tB p q - tF p q) % pp
def tH (p q : Tr) : Int := (tB p q + tF p q) % pp
def tX (p q : Tr) : Int := (((p.x + p.y) % pp * ((q.x + q.y) % pp) % pp - tC p q) % pp - tE p q) % pp
def tsum (p q : Tr) : Tr := ⟨trA p q * (tG p q * tX p q % pp) % pp, trA p q * (tH p q * ((tE p q + tC p q) % pp) % pp) % pp, tG p q * tH p q % pp⟩
theorem tsum_nm (p q : Tr) : (tsum p q).Nm := ⟨num_emod_pp _, num_emod_pp _, num_emod_pp _⟩
theorem rep_tsum {W V : Tr} {P Q : Pt} (hW : W.Rep P) (hV : V.Rep Q) (hP : P.On) (hQ : Q.On) : (tsum W V).Rep (padd P Q) := by
  have ea : E (trA W V) (W.z * V.z) := E.rest _
  have eb : E (tB W V) (W.z * V.z * (W.z * V.z)) := (E.rest _).trans (ea.mul ea)
  have ec : E (tC W V) (P.x * Q.x * (W.z * V.z)) := (E.rest _).trans ((hW.hx.mul hV.hx).trans (E.of_eq (by grind)))
  have ee : E (tE W V) (P.y * Q.y * (W.z * V.z)) := (E.rest _).trans ((hW.hy.mul hV.hy).trans (E.of_eq (by grind)))
  have ef : E (tF W V) (prt P Q * (W.z * V.z * (W.z * V.z))) := (E.rest _).trans (((E.rfl' dd).mul ((E.rest _).trans (ec.mul ee))).trans (E.of_eq (by unfold prt; grind)))
  have eg : E (tG W V) ((1 - prt P Q) * (W.z * V.z * (W.z * V.z))) := (E.rest _).trans ((eb.sub ef).trans (E.of_eq (by grind)))
  have eh : E (tH W V) ((1 + prt P Q) * (W.z * V.z * (W.z * V.z))) := (E.rest _).trans ((eb.add ef).trans (E.of_eq (by grind)))
  have ex : E (tX W V) ((P.x * Q.y + P.y * Q.x) * (W.z * V.z)) := by
    refine (E.rest _).trans (((((E.rest _).trans ((((E.rest _).trans (((E.rest _).trans (hW.hx.add hW.hy)).mul ((E.rest _).trans (hV.hx.add hV.hy)))).sub ec)))).sub ee).trans (E.of_eq ?_))
    grind
  have eS : E ((tE W V + tC W V) % pp) ((P.y * Q.y + P.x * Q.x) * (W.z * V.z)) := (E.rest _).trans ((ee.add ec).trans (E.of_eq (by grind)))
  have hA := div_add hP hQ
  have hB := div_sub hP hQ
  have rx : E ((padd P Q).x * (1 + prt P Q)) (P.x * Q.y + P.y * Q.x) := Zr.to_E (padd_x hP hQ)
  have ry : E ((padd P Q).y * (1 - prt P Q)) (P.y * Q.y + P.x * Q.x) := Zr.to_E (padd_y hP hQ)
  have nz := not_zr_mul hW.nz hV.nz
  have hz : E (tsum W V).z ((1 - prt P Q) * (W.z * V.z * (W.z * V.z)) * ((1 + prt P Q) * (W.z * V.z * (W.z * V.z)))) := (E.rest _).trans (eg.mul eh)
  have hx : E (tsum W V).x (W.z * V.z * ((1 - prt P Q) * (W.z * V.z * (W.z * V.z)) * ((P.x * Q.y + P.y * Q.x) * (W.z * V.z)))) := (E.rest _).trans (ea.mul ((E.rest _).trans (eg.mul ex)))
  have hy : E (tsum W V).y (W.z * V.z * ((1 + prt P Q) * (W.z * V.z * (W.z * V.z)) * ((P.y * Q.y + P.x * Q.x) * (W.z * V.z)))) := (E.rest _).trans (ea.mul ((E.rest _).trans (eh.mul eS)))
  generalize tsum W V = S at *
  generalize padd P Q = R at *
  generalize prt P Q = e at *
  generalize W.z * V.z = z at *
  refine ⟨fun h => ?_, ?_, ?_⟩
  · exact not_zr_mul (not_zr_mul hB (not_zr_mul nz nz)) (not_zr_mul hA (not_zr_mul nz nz)) (E.zr hz.symm h)
  · refine hx.trans (E.trans ?_ ((E.rfl' R.x).mul hz).symm)
    refine ((E.rfl' z).mul ((E.rfl' ((1 - e) * (z * z))).mul (rx.symm.mul (E.rfl' z)))).trans (E.of_eq (by grind))
  · refine hy.trans (E.trans ?_ ((E.rfl' R.y).mul hz).symm)
    refine ((E.rfl' z).mul ((E.rfl' ((1 + e) * (z * z))).mul (ry.symm.mul (E.rfl' z)))).trans (E.of_eq (by grind))
def tto (W : Tr) : Pt := ⟨W.x * iv W.z % pp, W.y * iv W.z % pp⟩
theorem tto_eq {W : Tr} {P : Pt} (h : W.Rep P) (hP : P.Ok) : tto W = P := by
  have h1 : W.x * iv W.z % pp = P.x := eq_of_E (emod_pp_lt _) hP.1 (nar_E h.hx h.nz)
  have h2 : W.y * iv W.z % pp = P.y := eq_of_E (emod_pp_lt _) hP.2 (nar_E h.hy h.nz)
  unfold tto; rw [h1, h2]
def tof (p : Pt) : Tr := ⟨p.x % pp, p.y % pp, 1⟩
theorem tof_rep (p : Pt) : (tof p).Rep p.can := ⟨one_not, E.of_eq (Int.mul_one _).symm, E.of_eq (Int.mul_one _).symm⟩
theorem tof_nm (p : Pt) : (tof p).Nm := ⟨num_emod_pp _, num_emod_pp _, num_1⟩

set_option maxHeartbeats 4000000 in
theorem emul_any (X Y : Int) (w : World) (hX : Num X) (hY : Num Y) : Calls Tryd.prog 20 #[feV X, feV Y] w fun e w' => e = .returned (feV (X * Y % pp)) ∧ Below w.heap.size w w' := by
  have hM := Lib.hid (Mv.nil w)
  go_enter Tryd.func20, Tryd.ntmps20
  go_upto_region 0 with fail; refine wp_region_lit ?_
  refine wpList_val (run_boxL (vs := feL X) rfl rfl) rfl ?_; (try simp only [Act.put, List.setIfInBounds_toArray, List.set_cons_zero, List.set_cons_succ]); replace hM := Lib.hid (hM.out.new (feL X) 31); generalize w.alloc (.cells (feL X).toArray 31) = a1 at *; generalize w.heap.size = g1 at *
  refine wpList_val (run_boxL (vs := feL Y) rfl rfl) rfl ?_; (try simp only [Act.put, List.setIfInBounds_toArray, List.set_cons_zero, List.set_cons_succ]); replace hM := Lib.hid (hM.out.new (feL Y) 31); generalize a1.alloc (.cells (feL Y).toArray 31) = a2 at *; generalize a1.heap.size = g2 at *
  refine wpList_val (run_alc (vs := zq 4) rfl (by kernel_rfl)) rfl ?_; (try simp only [Act.put, List.setIfInBounds_toArray, List.set_cons_zero, List.set_cons_succ]); replace hM := Lib.hid (hM.out.new (zq 4) 31); generalize a2.alloc (.cells (zq 4).toArray 31) = a3 at *; generalize a2.heap.size = g3 at *
  refine wpList_end ?_
  go_upto_region 1 with fail; refine wp_region_lit ?_
  refine wpList_val (run_ldM (vs := feL X) rfl Tryd.underlying31 rfl (szFe _) rfl ((hM.out.get (i := 2) rfl).range)) rfl ?_; (try simp only [Act.put, List.setIfInBounds_toArray, List.set_cons_zero, List.set_cons_succ])
  refine wpList_val (run_ldM (vs := feL Y) rfl Tryd.underlying31 rfl (szFe _) rfl ((hM.out.get (i := 1) rfl).range)) rfl ?_; (try simp only [Act.put, List.setIfInBounds_toArray, List.set_cons_zero, List.set_cons_succ])
  refine wpList_enter (run_call2 enters_rmul rfl rfl rfl rfl) rfl (refmul_any X Y _ hX hY) (fun a4 hb => ?_); (try simp only [Act.put, List.setIfInBounds_toArray, List.set_cons_zero, List.set_cons_succ]); replace hM := Lib.hid (hM.out.below hb); clear hb
  refine wpList_skip (run_stM (vs := feL (X * Y % pp)) rfl (szFe _) rfl rfl (oneFe _) ((hM.out.get (i := 0) rfl).there)) rfl rfl ?_; replace hM := Lib.hid (hM.out.put 0 rfl (m := feL (X * Y % pp)) rfl); generalize a4.setCells g3 0 (feL (X * Y % pp)) = a5 at *
  refine wpList_end ?_; go_wp2_with fail; refine bodyPost_ret (v := .agg (feL (X * Y % pp)).toArray) (results_rowB Tryd.results20 rfl Tryd.underlying31 rfl (szFe _) (hM.out.get (i := 0) rfl).range) rfl ⟨rfl, hM.out.bl⟩
theorem enters_emul : Enters 20 := enters_of Tryd.func20 (by kernel_rfl) rfl
set_option maxHeartbeats 4000000 in
theorem eadd_any (X Y : Int) (w : World) (hX : Num X) (hY : Num Y) : Calls Tryd.prog 24 #[feV X, feV Y] w fun e w' => e = .returned (feV ((X + Y) % pp)) ∧ Below w.heap.size w w' := by
  have hM := Lib.hid (Mv.nil w)
  go_enter Tryd.func24, Tryd.ntmps24
  go_upto_region 0 with fail; refine wp_region_lit ?_
  refine wpList_val (run_boxL (vs := feL X) rfl rfl) rfl ?_; (try simp only [Act.put, List.setIfInBounds_toArray, List.set_cons_zero, List.set_cons_succ]); replace hM := Lib.hid (hM.out.new (feL X) 31); generalize w.alloc (.cells (feL X).toArray 31) = a1 at *; generalize w.heap.size = g1 at *
  refine wpList_val (run_boxL (vs := feL Y) rfl rfl) rfl ?_; (try simp only [Act.put, List.setIfInBounds_toArray, List.set_cons_zero, List.set_cons_succ]); replace hM := Lib.hid (hM.out.new (feL Y) 31); generalize a1.alloc (.cells (feL Y).toArray 31) = a2 at *; generalize a1.heap.size = g2 at *
  refine wpList_val (run_alc (vs := zq 4) rfl (by kernel_rfl)) rfl ?_; (try simp only [Act.put, List.setIfInBounds_toArray, List.set_cons_zero, List.set_cons_succ]); replace hM := Lib.hid (hM.out.new (zq 4) 31); generalize a2.alloc (.cells (zq 4).toArray 31) = a3 at *; generalize a2.heap.size = g3 at *
  refine wpList_end ?_
  go_upto_region 1 with fail; refine wp_region_lit ?_
  refine wpList_val (run_ldM (vs := feL X) rfl Tryd.underlying31 rfl (szFe _) rfl ((hM.out.get (i := 2) rfl).range)) rfl ?_; (try simp only [Act.put, List.setIfInBounds_toArray, List.set_cons_zero, List.set_cons_succ])
  refine wpList_val (run_ldM (vs := feL Y) rfl Tryd.underlying31 rfl (szFe _) rfl ((hM.out.get (i := 1) rfl).range)) rfl ?_; (try simp only [Act.put, List.setIfInBounds_toArray, List.set_cons_zero, List.set_cons_succ])
  refine wpList_enter (run_call2 enters_radd rfl rfl rfl rfl) rfl (radd_any X Y _ hX hY) (fun a4 hb => ?_); (try simp only [Act.put, List.setIfInBounds_toArray, List.set_cons_zero, List.set_cons_succ]); replace hM := Lib.hid (hM.out.below hb); clear hb
  refine wpList_skip (run_stM (vs := feL ((X + Y) % pp)) rfl (szFe _) rfl rfl (oneFe _) ((hM.out.get (i := 0) rfl).there)) rfl rfl ?_; replace hM := Lib.hid (hM.out.put 0 rfl (m := feL ((X + Y) % pp)) rfl); generalize a4.setCells g3 0 (feL ((X + Y) % pp)) = a5 at *
  refine wpList_end ?_; go_wp2_with fail; refine bodyPost_ret (v := .agg (feL ((X + Y) % pp)).toArray) (results_rowB Tryd.results24 rfl Tryd.underlying31 rfl (szFe _) (hM.out.get (i := 0) rfl).range) rfl ⟨rfl, hM.out.bl⟩
theorem enters_eadd : Enters 24 := enters_of Tryd.func24 (by kernel_rfl) rfl
set_option maxHeartbeats 4000000 in
theorem esub_any (X Y : Int) (w : World) (hX : Num X) (hY : Num Y) : Calls Tryd.prog 22 #[feV X, feV Y] w fun e w' => e = .returned (feV ((X - Y) % pp)) ∧ Below w.heap.size w w' := by
  have hM := Lib.hid (Mv.nil w)
  go_enter Tryd.func22, Tryd.ntmps22
  go_upto_region 0 with fail; refine wp_region_lit ?_
  refine wpList_val (run_boxL (vs := feL X) rfl rfl) rfl ?_; (try simp only [Act.put, List.setIfInBounds_toArray, List.set_cons_zero, List.set_cons_succ]); replace hM := Lib.hid (hM.out.new (feL X) 31); generalize w.alloc (.cells (feL X).toArray 31) = a1 at *; generalize w.heap.size = g1 at *
  refine wpList_val (run_boxL (vs := feL Y) rfl rfl) rfl ?_; (try simp only [Act.put, List.setIfInBounds_toArray, List.set_cons_zero, List.set_cons_succ]); replace hM := Lib.hid (hM.out.new (feL Y) 31); generalize a1.alloc (.cells (feL Y).toArray 31) = a2 at *; generalize a1.heap.size = g2 at *
  refine wpList_val (run_alc (vs := zq 4) rfl (by kernel_rfl)) rfl ?_; (try simp only [Act.put, List.setIfInBounds_toArray, List.set_cons_zero, List.set_cons_succ]); replace hM := Lib.hid (hM.out.new (zq 4) 31); generalize a2.alloc (.cells (zq 4).toArray 31) = a3 at *; generalize a2.heap.size = g3 at *
  refine wpList_end ?_
  go_upto_region 1 with fail; refine wp_region_lit ?_
  refine wpList_val (run_ldM (vs := feL X) rfl Tryd.underlying31 rfl (szFe _) rfl ((hM.out.get (i := 2) rfl).range)) rfl ?_; (try simp only [Act.put, List.setIfInBounds_toArray, List.set_cons_zero, List.set_cons_succ])
  refine wpList_val (run_ldM (vs := feL Y) rfl Tryd.underlying31 rfl (szFe _) rfl ((hM.out.get (i := 1) rfl).range)) rfl ?_; (try simp only [Act.put, List.setIfInBounds_toArray, List.set_cons_zero, List.set_cons_succ])
  refine wpList_enter (run_call2 enters_rsub rfl rfl rfl rfl) rfl (rsub_any X Y _ hX hY) (fun a4 hb => ?_); (try simp only [Act.put, List.setIfInBounds_toArray, List.set_cons_zero, List.set_cons_succ]); replace hM := Lib.hid (hM.out.below hb); clear hb
  refine wpList_skip (run_stM (vs := feL ((X - Y) % pp)) rfl (szFe _) rfl rfl (oneFe _) ((hM.out.get (i := 0) rfl).there)) rfl rfl ?_; replace hM := Lib.hid (hM.out.put 0 rfl (m := feL ((X - Y) % pp)) rfl); generalize a4.setCells g3 0 (feL ((X - Y) % pp)) = a5 at *
  refine wpList_end ?_; go_wp2_with fail; refine bodyPost_ret (v := .agg (feL ((X - Y) % pp)).toArray) (results_rowB Tryd.results22 rfl Tryd.underlying31 rfl (szFe _) (hM.out.get (i := 0) rfl).range) rfl ⟨rfl, hM.out.bl⟩
theorem enters_esub : Enters 22 := enters_of Tryd.func22 (by kernel_rfl) rfl
set_option maxHeartbeats 4000000 in
theorem eone_any (w : World) : Calls Tryd.prog 23 #[] w fun e w' => e = .returned (feV 1) ∧ Below w.heap.size w w' := by
  have hM := Lib.hid (Mv.nil w)
  go_enter Tryd.func23, Tryd.ntmps23
  go_upto_region 0 with fail; refine wp_region_lit ?_
  refine wpList_val (run_alc (vs := zq 4) rfl (by kernel_rfl)) rfl ?_; (try simp only [Act.put, List.setIfInBounds_toArray, List.set_cons_zero]); replace hM := Lib.hid (hM.out.new (zq 4) 31); generalize w.alloc (.cells (zq 4).toArray 31) = a1 at *; generalize w.heap.size = g1 at *
  refine wpList_end ?_
  go_upto_region 1 with fail; refine wp_region_lit ?_
  refine wpList_enter (run_call1 enters_rsmall rfl rfl rfl) rfl (rsmall_any 1 _ (by omega) (by omega)) (fun a2 hb => ?_); (try simp only [Act.put, List.setIfInBounds_toArray, List.set_cons_zero, List.set_cons_succ]); replace hM := Lib.hid (hM.out.below hb); clear hb
  refine wpList_skip (run_stM (vs := feL 1) rfl (szFe _) rfl rfl (oneFe _) ((hM.out.get (i := 0) rfl).there)) rfl rfl ?_; replace hM := Lib.hid (hM.out.put 0 rfl (m := feL 1) rfl); generalize a2.setCells g1 0 (feL 1) = a3 at *
  refine wpList_end ?_; go_wp2_with fail; refine bodyPost_ret (v := .agg (feL 1).toArray) (results_rowB Tryd.results23 rfl Tryd.underlying31 rfl (szFe _) (hM.out.get (i := 0) rfl).range) rfl ⟨rfl, hM.out.bl⟩
theorem enters_eone : Enters 23 := enters_of Tryd.func23 (by kernel_rfl) rfl
theorem built_dd : Tryd.prog.built 31 [(0, .int .u64 8496970652267935907), (1, .int .u64 31536524315187371), (2, .int .u64 10144147576115030168), (3, .int .u64 5909686906226998899)] = some (feL dd).toArray := by kernel_rfl
set_option maxHeartbeats 4000000 in
theorem edd_any (w : World) : Calls Tryd.prog 25 #[] w fun e w' => e = .returned (feV dd) ∧ Below w.heap.size w w' := by
  have hM := Lib.hid (Mv.nil w)
  obtain ⟨q, hq⟩ : ∃ q, q = dd := ⟨_, rfl⟩
  have HB := Lib.hid built_dd
  rw [← hq] at HB ⊢
  clear hq
  go_enter Tryd.func25, Tryd.ntmps25
  go_upto_region 0 with fail; refine wp_region_lit ?_
  refine wpList_val (run_alc (vs := zq 4) rfl (by kernel_rfl)) rfl ?_; (try simp only [Act.put, List.setIfInBounds_toArray, List.set_cons_zero]); replace hM := Lib.hid (hM.out.new (zq 4) 31); generalize w.alloc (.cells (zq 4).toArray 31) = a1 at *; generalize w.heap.size = g1 at *
  refine wpList_end ?_
  go_upto_region 1 with fail; refine wp_region_lit ?_
  refine wpList_val (run_bld4 (cells := (feL q).toArray) rfl rfl rfl rfl rfl HB.out) rfl ?_; (try simp only [Act.put, List.setIfInBounds_toArray, List.set_cons_zero, List.set_cons_succ])
  refine wpList_skip (run_stM (vs := feL q) rfl (szFe _) rfl rfl (oneFe _) ((hM.out.get (i := 0) rfl).there)) rfl rfl ?_; replace hM := Lib.hid (hM.out.put 0 rfl (m := feL q) rfl); generalize a1.setCells g1 0 (feL q) = a3 at *
  refine wpList_end ?_; go_wp2_with fail; refine bodyPost_ret (v := .agg (feL q).toArray) (results_rowB Tryd.results25 rfl Tryd.underlying31 rfl (szFe _) (hM.out.get (i := 0) rfl).range) rfl ⟨rfl, hM.out.bl⟩
theorem enters_edd : Enters 25 := enters_of Tryd.func25 (by kernel_rfl) rfl
end Go.Proofs.YtfdjmdfaidiliaaDoor
namespace Go.Proofs.YtfdjmdfaidiliaaDoor
open Go.RowKit Go.Sort
set_option maxRecDepth 20000

/-- Of's loop: k bytes are in. -/
structure ROfI (w : World) (l : List Int) (g1 g2 k : Nat) (u : World) : Prop where
  bl : Below w.heap.size w u
  L : Row w.heap.size l u
  R : Var4 g1 0 u
  V : Var4 g2 (le ((mask l).take k)) u
theorem ROfI.put {w u u' : World} {l : List Int} {g1 g2 k : Nat} (h : ROfI w l g1 g2 k u) (hw : w.heap.size < g2) (h12 : g1 ≠ g2) {o : Nat} {v : Value} (hu : u' = u.setCell ⟨g2, o, none⟩ v) (hV : Var4 g2 (le ((mask l).take (k + 1))) (u.setCell ⟨g2, o, none⟩ v)) : ROfI w l g1 g2 (k + 1) u' := by
  subst hu
  exact ⟨h.bl.setCell (p := ⟨g2, o, none⟩) (Nat.le_of_lt hw) _, h.L.far (by omega) _ _, h.R.far (Ne.symm h12) _ _, hV⟩

set_option maxHeartbeats 1000000 in
theorem refof_any (l : List Int) (w : World) (hl : l.length = 32) (hB : Bytes8 l) :
    Calls Tryd.prog 19 #[kV l] w fun e w' => e = .returned (feV (le (mask l) % pp)) ∧ Below w.heap.size w w' := by
  have HL := Lib.hid hl; clear hl
  have b1 : Below w.heap.size w (w.alloc (.cells (l.map (Value.int .u8)).toArray 23)) := (Below.refl _ _).alloc (Nat.le_refl _) _
  have R1 := Row.new w l
  go_enter Tryd.func19, Tryd.ntmps19
  go_upto_region 1 with fail
  have hs : w.heap.size + 1 = (w.alloc (.cells (l.map (Value.int .u8)).toArray 23)).heap.size := by simp
  rw [hs]
  have l0 := R1.lt
  generalize w.alloc (.cells (l.map (Value.int .u8)).toArray 23) = u0 at *
  clear hs
  have hR := Var4.zero u0
  have b2 : Below u0.heap.size u0 (u0.alloc (.cells #[.int .u64 0, .int .u64 0, .int .u64 0, .int .u64 0] 31)) := (Below.refl _ _).alloc (Nat.le_refl _) _
  replace R1 := R1.below b2
  replace b1 := b1.trans (b2.mono b1.size)
  generalize u0.alloc (.cells #[.int .u64 0, .int .u64 0, .int .u64 0, .int .u64 0] 31) = u1 at *
  generalize u0.heap.size = g1 at *
  clear b2 u0
  have hV := Var4.zero u1
  have b2 : Below u1.heap.size u1 (u1.alloc (.cells #[.int .u64 0, .int .u64 0, .int .u64 0, .int .u64 0] 31)) := (Below.refl _ _).alloc (Nat.le_refl _) _
  go_wp2_with fail
  have l1 := hR.lt
  replace R1 := R1.below b2
  replace hR := hR.below b2
  replace b1 := b1.trans (b2.mono b1.size)
  generalize u1.alloc (.cells #[.int .u64 0, .int .u64 0, .int .u64 0, .int .u64 0] 31) = u0 at *
  generalize u1.heap.size = g2 at *
  clear b2 u1
  have HM : Hid ((mask l).length = 32) := Lib.hid (by rw [mask_len, HL.out])
  go_loopw [4, 5] (fun s _ u => ∃ k : Nat, k ≤ 32 ∧ s = .int .i64 (k : Int) ∧ ROfI w l g1 g2 k u) (fun s _ _ => (32 - intOf s).toNat)
  case atStart => exact ⟨0, by omega, rfl, b1, R1, hR, hV⟩
  case round =>
    obtain ⟨k, hk, rfl, hI⟩ := hrel
    clear b1 R1 hV hR
    obtain ⟨b1, hL, hR, hV⟩ := id hI
    obtain ⟨vl, v0, v1, v2, v3, vf0, vf1, vf2, vf3⟩ := id hV
    by_cases hlt : k = 32
    · subst hlt
      have E : Hid (le ((mask l).take 32) = le (mask l)) := Lib.hid (by rw [List.take_of_length_le (by rw [HM.out]; omega)])
      have hN : Num (le ((mask l).take 32)) := by
        have h := le_take_bound (mask_bytes hB HL.out) (k := 32) (by rw [HM.out]; omega)
        rw [show (256 : Int) ^ 32 = 115792089237316195423570985008687907853269984665640564039457584007913129639936 by decide] at h
        exact h
      have hk1 : ¬ (((32 : Nat) : Int) < 32) := by omega
      go_wp2_with fail
      refine (refcanon_any _ _ hN).mono ?_
      rintro e u ⟨rfl, hb⟩
      rw [E.out]
      clear vl v0 v1 v2 v3 vf0 vf1 vf2 vf3
      replace hR := hR.below hb
      obtain ⟨vl, v0, v1, v2, v3, vf0, vf1, vf2, vf3⟩ := hR
      go_wp2_with fail
      refine bodyPost_ret (v := feV (le (mask l) % pp)) (by simp [results, Tryd.results19, go_sem, v0, v1, v2, v3]) rfl ⟨rfl, ?_⟩
      have hw1 : w.heap.size ≤ g1 := by omega
      have b3 := b1.trans (hb.mono b1.size)
      exact (((b3.setCell hw1 _).setCell hw1 _).setCell hw1 _).setCell hw1 _
    · have hk1 : (k : Int) < 32 := by omega
      have hk0 : (0 : Int) ≤ (k : Int) := by omega
      have hk3 : k < (mask l).length := by rw [HM.out]; omega
      have hc := hL.c k (by rw [HL.out]; omega)
      have ht := le_take_bound (mask_bytes hB HL.out) (k := k) (by omega)
      have hn := (mask_bytes hB HL.out).nth hk3
      have q0 := hn.1
      have q1 := hn.2
      have HT := Lib.hid (le_take_succ hk3)
      have hn' := hB.nth (k := k) (by rw [HL.out]; omega)
      have r0 := hn'.1
      have r1 := hn'.2
      clear hn hn'
      by_cases h31 : k = 31
      · have e31 : nth (mask l) k = nth l k % 128 := by subst h31; exact nth_set_same (by rw [HL.out]; omega) _
        have hb : ((k : Int) == 31) = true := by rw [h31]; rfl
        rw [e31] at HT q0 q1
        have hq : (k : Int) / 8 = 3 := by omega
        have H31 := Lib.hid h31; clear h31
        · obtain ⟨p0, p1, p2, p3⟩ := byte_word3 hq ht.1 ht.2 q0 q1
          rw [← HT.out] at p0 p1 p2 p3
          have P1 := Lib.hid p1; clear p1
          have P2 := Lib.hid p2; clear p2
          have P3 := Lib.hid p3; clear p3
          clear ht
          go_wp2_with fail
          exact ⟨⟨k + 1, by omega, by go_num, hI.put (by omega) (by omega) rfl (hV.put3 P1.out P2.out P3.out)⟩, by simp [intOf]; omega⟩
      · have e31 : nth (mask l) k = nth l k := nth_set_other (by omega) _
        have hb : ((k : Int) == 31) = false := beq_eq_false_iff_ne.2 (by omega)
        rw [e31] at HT q0 q1
        clear r0 r1 h31
        rcases (show (k : Int) / 8 = 0 ∨ (k : Int) / 8 = 1 ∨ (k : Int) / 8 = 2 ∨ (k : Int) / 8 = 3 by omega) with hq | hq | hq | hq
        · obtain ⟨p0, p1, p2, p3⟩ := byte_word0 hq ht.1 ht.2 q0 q1
          rw [← HT.out] at p0 p1 p2 p3
          have P1 := Lib.hid p1; clear p1
          have P2 := Lib.hid p2; clear p2
          have P3 := Lib.hid p3; clear p3
          clear ht
          go_wp2_with fail
          exact ⟨⟨k + 1, by omega, by go_num, hI.put (by omega) (by omega) rfl (hV.put0 P1.out P2.out P3.out)⟩, by simp [intOf]; omega⟩
        · obtain ⟨p0, p1, p2, p3⟩ := byte_word1 hq ht.1 ht.2 q0 q1
          rw [← HT.out] at p0 p1 p2 p3
          have P1 := Lib.hid p1; clear p1
          have P2 := Lib.hid p2; clear p2
          have P3 := Lib.hid p3; clear p3
          clear ht
          go_wp2_with fail
          exact ⟨⟨k + 1, by omega, by go_num, hI.put (by omega) (by omega) rfl (hV.put1 P1.out P2.out P3.out)⟩, by simp [intOf]; omega⟩
        · obtain ⟨p0, p1, p2, p3⟩ := byte_word2 hq ht.1 ht.2 q0 q1
          rw [← HT.out] at p0 p1 p2 p3
          have P1 := Lib.hid p1; clear p1
          have P2 := Lib.hid p2; clear p2
          have P3 := Lib.hid p3; clear p3
          clear ht
          go_wp2_with fail
          exact ⟨⟨k + 1, by omega, by go_num, hI.put (by omega) (by omega) rfl (hV.put2 P1.out P2.out P3.out)⟩, by simp [intOf]; omega⟩
        · obtain ⟨p0, p1, p2, p3⟩ := byte_word3 hq ht.1 ht.2 q0 q1
          rw [← HT.out] at p0 p1 p2 p3
          have P1 := Lib.hid p1; clear p1
          have P2 := Lib.hid p2; clear p2
          have P3 := Lib.hid p3; clear p3
          clear ht
          go_wp2_with fail
          exact ⟨⟨k + 1, by omega, by go_num, hI.put (by omega) (by omega) rfl (hV.put3 P1.out P2.out P3.out)⟩, by simp [intOf]; omega⟩
end Go.Proofs.YtfdjmdfaidiliaaDoor
namespace Go.Proofs.YtfdjmdfaidiliaaDoor
open Go.RowKit Go.Sort
set_option maxRecDepth 20000

theorem bz_wordT0 {Z : Int} {k : Nat} (hq : (k : Int) / 8 = 0) : IntKind.u8.wrap ((w0 Z / 2 ^ (8 * (k % 8))).tmod 256) = bz Z k := by
  have h : 0 ≤ w0 Z / 2 ^ (8 * (k % 8)) := Int.ediv_nonneg (w0_word Z).1 (Int.pow_nonneg (by omega))
  rw [← bz_word0 hq, Int.tmod_eq_emod_of_nonneg h, Nat.mul_comm (k % 8) 8, IntKind.wrap_u8', IntKind.wrap_u8', Int.emod_emod]
theorem bz_wordT1 {Z : Int} {k : Nat} (hq : (k : Int) / 8 = 1) : IntKind.u8.wrap ((w1 Z / 2 ^ (8 * (k % 8))).tmod 256) = bz Z k := by
  have h : 0 ≤ w1 Z / 2 ^ (8 * (k % 8)) := Int.ediv_nonneg (w1_word Z).1 (Int.pow_nonneg (by omega))
  rw [← bz_word1 hq, Int.tmod_eq_emod_of_nonneg h, Nat.mul_comm (k % 8) 8, IntKind.wrap_u8', IntKind.wrap_u8', Int.emod_emod]
theorem bz_wordT2 {Z : Int} {k : Nat} (hq : (k : Int) / 8 = 2) : IntKind.u8.wrap ((w2 Z / 2 ^ (8 * (k % 8))).tmod 256) = bz Z k := by
  have h : 0 ≤ w2 Z / 2 ^ (8 * (k % 8)) := Int.ediv_nonneg (w2_word Z).1 (Int.pow_nonneg (by omega))
  rw [← bz_word2 hq, Int.tmod_eq_emod_of_nonneg h, Nat.mul_comm (k % 8) 8, IntKind.wrap_u8', IntKind.wrap_u8', Int.emod_emod]
theorem bz_wordT3 {Z : Int} {k : Nat} (hq : (k : Int) / 8 = 3) : IntKind.u8.wrap ((w3 Z / 2 ^ (8 * (k % 8))).tmod 256) = bz Z k := by
  have h : 0 ≤ w3 Z / 2 ^ (8 * (k % 8)) := Int.ediv_nonneg (w3_word Z).1 (Int.pow_nonneg (by omega))
  rw [← bz_word3 hq, Int.tmod_eq_emod_of_nonneg h, Nat.mul_comm (k % 8) 8, IntKind.wrap_u8', IntKind.wrap_u8', Int.emod_emod]

/-- Bytes' loop: k bytes are told. -/
structure RByI (w : World) (Z : Int) (g1 g2 g3 k : Nat) (u : World) : Prop where
  bl : Below w.heap.size w u
  X : Var4 g2 Z u
  R : Row g1 (List.replicate 32 0) u
  V : Row g3 (bzTo Z k) u

set_option maxHeartbeats 1000000 in
theorem refbytes_any (X : Int) (w : World) (hX : Num X) :
    Calls Tryd.prog 53 #[feV X] w fun e w' => e = .returned (kV (bzAll (X % pp))) ∧ Below w.heap.size w w' := by
  have b1 : Below w.heap.size w (w.alloc (.cells #[.int .u64 (w0 X), .int .u64 (w1 X), .int .u64 (w2 X), .int .u64 (w3 X)] 31)) := (Below.refl _ _).alloc (Nat.le_refl _) _
  have hV := Var4.new w X
  go_enter Tryd.func53, Tryd.ntmps53
  go_upto_region 1 with fail
  have hs : w.heap.size + 1 = (w.alloc (.cells #[.int .u64 (w0 X), .int .u64 (w1 X), .int .u64 (w2 X), .int .u64 (w3 X)] 31)).heap.size := by simp
  rw [hs]
  have l0 := hV.lt
  generalize w.alloc (.cells #[.int .u64 (w0 X), .int .u64 (w1 X), .int .u64 (w2 X), .int .u64 (w3 X)] 31) = u0 at *
  clear hs
  have hR := Row.zero u0
  have b2 : Below u0.heap.size u0 (u0.alloc (.cells #[.int .u8 0, .int .u8 0, .int .u8 0, .int .u8 0, .int .u8 0, .int .u8 0, .int .u8 0, .int .u8 0, .int .u8 0, .int .u8 0, .int .u8 0, .int .u8 0, .int .u8 0, .int .u8 0, .int .u8 0, .int .u8 0, .int .u8 0, .int .u8 0, .int .u8 0, .int .u8 0, .int .u8 0, .int .u8 0, .int .u8 0, .int .u8 0, .int .u8 0, .int .u8 0, .int .u8 0, .int .u8 0, .int .u8 0, .int .u8 0, .int .u8 0, .int .u8 0] 23)) := (Below.refl _ _).alloc (Nat.le_refl _) _
  replace hV := hV.below b2
  replace b1 := b1.trans (b2.mono b1.size)
  generalize u0.alloc (.cells #[.int .u8 0, .int .u8 0, .int .u8 0, .int .u8 0, .int .u8 0, .int .u8 0, .int .u8 0, .int .u8 0, .int .u8 0, .int .u8 0, .int .u8 0, .int .u8 0, .int .u8 0, .int .u8 0, .int .u8 0, .int .u8 0, .int .u8 0, .int .u8 0, .int .u8 0, .int .u8 0, .int .u8 0, .int .u8 0, .int .u8 0, .int .u8 0, .int .u8 0, .int .u8 0, .int .u8 0, .int .u8 0, .int .u8 0, .int .u8 0, .int .u8 0, .int .u8 0] 23) = u1 at *
  generalize u0.heap.size = g1 at *
  clear b2 u0
  obtain ⟨vl, v0, v1, v2, v3, vf0, vf1, vf2, vf3⟩ := id hV
  go_wp2_with fail
  refine (refcanon_any X _ hX).mono ?_
  rintro e u2 ⟨rfl, hb⟩
  replace hR := hR.below hb
  replace b1 := b1.trans (hb.mono b1.size)
  clear vl v0 v1 v2 v3 vf0 vf1 vf2 vf3
  clear hb hV
  generalize hZ : X % pp = Z at *
  have HZ := Lib.hid hZ; clear hZ
  go_upto_region 2 with fail
  have hV := Var4.new u2 Z
  have b2 : Below u2.heap.size u2 (u2.alloc (.cells #[.int .u64 (w0 Z), .int .u64 (w1 Z), .int .u64 (w2 Z), .int .u64 (w3 Z)] 31)) := (Below.refl _ _).alloc (Nat.le_refl _) _
  have l1 := hR.lt
  replace hR := hR.below b2
  replace b1 := b1.trans (b2.mono b1.size)
  generalize u2.alloc (.cells #[.int .u64 (w0 Z), .int .u64 (w1 Z), .int .u64 (w2 Z), .int .u64 (w3 Z)] 31) = u3 at *
  generalize u2.heap.size = g2 at *
  clear b2 u2
  have l2 := hV.lt
  have hB := Row.zero u3
  have b2 : Below u3.heap.size u3 (u3.alloc (.cells #[.int .u8 0, .int .u8 0, .int .u8 0, .int .u8 0, .int .u8 0, .int .u8 0, .int .u8 0, .int .u8 0, .int .u8 0, .int .u8 0, .int .u8 0, .int .u8 0, .int .u8 0, .int .u8 0, .int .u8 0, .int .u8 0, .int .u8 0, .int .u8 0, .int .u8 0, .int .u8 0, .int .u8 0, .int .u8 0, .int .u8 0, .int .u8 0, .int .u8 0, .int .u8 0, .int .u8 0, .int .u8 0, .int .u8 0, .int .u8 0, .int .u8 0, .int .u8 0] 23)) := (Below.refl _ _).alloc (Nat.le_refl _) _
  have HB := Lib.hid hB; clear hB
  go_upto_region 3 with (refine wpList_store_mid rfl 23 (.tmp 4) (.tmp 8) rfl u3.heap.size 0 ((List.replicate 32 0).map (Value.int .u8)).toArray rfl rfl (by simpa using HB.out.thereAt) (by simpa using kV_size (l := List.replicate 32 0) rfl) (kV_one _) ?_)
  replace HB := Lib.hid (HB.out.storeAll (l' := List.replicate 32 0) rfl)
  replace b2 := Below.setCells (Nat.le_refl u3.heap.size) ((List.replicate 32 0).map (Value.int .u8)) 0 b2
  replace hR := hR.below b2
  replace hV := hV.below b2
  replace b1 := b1.trans (b2.mono b1.size)
  generalize (u3.alloc (.cells #[.int .u8 0, .int .u8 0, .int .u8 0, .int .u8 0, .int .u8 0, .int .u8 0, .int .u8 0, .int .u8 0, .int .u8 0, .int .u8 0, .int .u8 0, .int .u8 0, .int .u8 0, .int .u8 0, .int .u8 0, .int .u8 0, .int .u8 0, .int .u8 0, .int .u8 0, .int .u8 0, .int .u8 0, .int .u8 0, .int .u8 0, .int .u8 0, .int .u8 0, .int .u8 0, .int .u8 0, .int .u8 0, .int .u8 0, .int .u8 0, .int .u8 0, .int .u8 0] 23)).setCells u3.heap.size 0 ((List.replicate 32 0).map (Value.int .u8)) = u2 at *
  generalize u3.heap.size = g3 at *
  clear b2 u3
  have hB := HB.out
  rw [← bzTo_zero Z] at hB
  clear HB
  go_wp2_with fail
  go_loopw [5] (fun s u => ∃ k : Nat, k ≤ 32 ∧ s = .int .i64 (k : Int) ∧ RByI w Z g1 g2 g3 k u) (fun s _ => (32 - intOf s).toNat)
  case atStart => exact ⟨0, by omega, rfl, b1, hV, hR, hB⟩
  case round =>
    obtain ⟨k, hk, rfl, hI⟩ := hrel
    clear b1 hV hR hB
    obtain ⟨b1, hV, hR, hB⟩ := id hI
    obtain ⟨vl, v0, v1, v2, v3, vf0, vf1, vf2, vf3⟩ := id hV
    by_cases hlt : k = 32
    · subst hlt
      rw [bzTo_all] at hB
      have hk1 : ¬ (((32 : Nat) : Int) < 32) := by omega
      have HB := Lib.hid hB; clear hB
      have HR := Lib.hid hR; clear hR
      go_wp2_with (first | refine wpList_load_mid rfl 23 (.tmp 4) rfl g3 0 rfl ((bzAll Z).map (Value.int .u8)) (.array 32 5) HB.out.range Tryd.underlying23 rfl (kV_size (bzAll_len Z)) ?_ | refine wpList_store_mid rfl 23 (.tmp 2) _ rfl g1 0 ((bzAll Z).map (Value.int .u8)).toArray rfl rfl (by simpa [bzAll_len] using HR.out.thereAt) (by simpa using kV_size (bzAll_len Z)) (kV_one _) ?_)
      have hT := World.rangeAt_setCells_same wr g1 0 ((bzAll Z).map (Value.int .u8)) (by simpa [bzAll_len] using HR.out.thereAt)
      refine bodyPost_ret (v := kV (bzAll Z)) ?_ rfl ⟨by rw [HZ.out], ?_⟩
      · exact results_key Tryd.results53 rfl (bzAll_len Z) hT
      · exact Below.setCells (by omega) _ _ b1
    · have hk1 : (k : Int) < 32 := by omega
      have hk0 : (0 : Int) ≤ (k : Int) := by omega
      have hk2 : k < 32 := by omega
      have hk3 : k < (bzTo Z k).length := by rw [bzTo_len]; omega
      have hc := hB.c k hk3
      have hf := hB.f k
      have HB := Lib.hid (hB.set hk3 (bz Z k)); clear hB
      have HR := Lib.hid hR; clear hR
      rcases (show (k : Int) / 8 = 0 ∨ (k : Int) / 8 = 1 ∨ (k : Int) / 8 = 2 ∨ (k : Int) / 8 = 3 by omega) with hq | hq | hq | hq
      · have hw := bz_wordT0 (Z := Z) hq
        go_wp2_with fail
        exact ⟨⟨k + 1, by omega, by go_num, b1.setCell (p := ⟨g3, k, none⟩) (show w.heap.size ≤ g3 by omega) _, hV.far (by omega) _ _, HR.out.far (by omega) _ _, by rw [← bzTo_succ]; exact HB.out⟩, by simp [intOf]; omega⟩
      · have hw := bz_wordT1 (Z := Z) hq
        go_wp2_with fail
        exact ⟨⟨k + 1, by omega, by go_num, b1.setCell (p := ⟨g3, k, none⟩) (show w.heap.size ≤ g3 by omega) _, hV.far (by omega) _ _, HR.out.far (by omega) _ _, by rw [← bzTo_succ]; exact HB.out⟩, by simp [intOf]; omega⟩
      · have hw := bz_wordT2 (Z := Z) hq
        go_wp2_with fail
        exact ⟨⟨k + 1, by omega, by go_num, b1.setCell (p := ⟨g3, k, none⟩) (show w.heap.size ≤ g3 by omega) _, hV.far (by omega) _ _, HR.out.far (by omega) _ _, by rw [← bzTo_succ]; exact HB.out⟩, by simp [intOf]; omega⟩
      · have hw := bz_wordT3 (Z := Z) hq
        go_wp2_with fail
        exact ⟨⟨k + 1, by omega, by go_num, b1.setCell (p := ⟨g3, k, none⟩) (show w.heap.size ≤ g3 by omega) _, hV.far (by omega) _ _, HR.out.far (by omega) _ _, by rw [← bzTo_succ]; exact HB.out⟩, by simp [intOf]; omega⟩
end Go.Proofs.YtfdjmdfaidiliaaDoor
namespace Go.Proofs.YtfdjmdfaidiliaaDoor
open Go.RowKit
set_option maxRecDepth 20000

theorem add_top : ∀ b : BitVec 8, b.toNat < 128 → ∀ c, c < 2 → (b + BitVec.ofNat 8 (c * 128)).toNat = b.toNat + 128 * c := by
  intro b hb c hc
  rw [BitVec.toNat_add, BitVec.toNat_ofNat]
  omega
def encA (n c : Nat) : List (BitVec 8) := (sk n).set 31 ((sk n).getD 31 0 + BitVec.ofNat 8 (c * 128))
theorem encA_sk {n : Nat} (h : n < 2 ^ 255) {c : Nat} (hc : c < 2) : encA n c = sk (n + 2 ^ 255 * c) := by
  have h1 := leB_set (l := sk n) (i := 31) (by rw [sk_len]; omega) ((sk n).getD 31 0 + BitVec.ofNat 8 (c * 128))
  rw [add_top _ (top_lt h) c hc, leB_sk] at h1
  have h2 : (2 : Nat) ^ 255 = 256 ^ 31 * 128 := by decide +kernel
  have h3 : (2 : Nat) ^ 255 + 2 ^ 255 ≤ 256 ^ 32 := by decide +kernel
  have h4 : 2 ^ 255 * c ≤ 2 ^ 255 * 1 := Nat.mul_le_mul_left _ (by omega)
  refine leB_inj (by unfold encA; rw [List.length_set, sk_len, sk_len]) ?_
  rw [leB_sk, Nat.mod_eq_of_lt (by omega)]
  unfold encA
  rw [Nat.mod_eq_of_lt (by omega), Nat.mul_add] at h1
  rw [h2, Nat.mul_assoc]
  omega
theorem encA_enc (p : Pt) : encA (p.y % pp).toNat (p.x % pp % 2).toNat = sk (encN p) := by
  rw [encA_sk (y_top p.y) (bit_lt p.x)]
  rfl
theorem rbytesB_any (X : Int) (w : World) (hX : Num X) : Calls Tryd.prog 53 #[feV X] w fun e w' => e = .returned (.agg ((sk (X % pp).toNat).map b8).toArray) ∧ Below w.heap.size w w' := by
  have h := refbytes_any X w hX
  rw [← nat_mod, bzAll_sk, kV_toI] at h
  exact h
theorem enters_rbytes : Enters 53 := enters_of Tryd.func53 (by kernel_rfl) rfl
section
variable {w : World} {ρ : Operand → Value} {o : Oper} {t t' : TypeId} {x y : Operand}
theorem run_mulU {a b : Int} (ho : o.op = .binOp .mul t x y t') (hx : ρ x = .int .u64 a) (hy : ρ y = .int .u64 b) (h0 : 0 ≤ a * b) (h1 : a * b < 18446744073709551616) : (execOp ρ o).run Tryd.prog w = .ok (.value (.int .u64 (a * b))) w := by
  obtain ⟨dst, op, type, pos, after, guard⟩ := o
  subst ho
  have e : IntKind.u64.wrap (a * b) = a * b := by rw [wrap64]; omega
  go_simp
theorem run_cvbit2 {Z : Int} (ho : o.op = .convert 29 5 x) (hx : ρ x = .int .u64 (Z % 2 * 128)) : (execOp ρ o).run Tryd.prog w = .ok (.value (b8 (BitVec.ofNat 8 ((Z % 2).toNat * 128)))) w := by
  rw [run_cv ho Tryd.underlying29 Tryd.underlying5 hx]
  have e : IntKind.u8.wrap (Z % 2 * 128) = ((BitVec.ofNat 8 ((Z % 2).toNat * 128)).toNat : Int) := by rw [wrap8, BitVec.toNat_ofNat]; omega
  rw [e]; rfl
end
set_option maxHeartbeats 8000000 in
theorem eencode_any (p : Pt) (w : World) (hp : p.Nm) : Calls Tryd.prog 26 #[.agg (ptL p).toArray] w fun e w' => e = .returned (.agg ((sk (encN p)).map b8).toArray) ∧ Below w.heap.size w w' := by
  have hM := Lib.hid (Mv.nil w)
  have HE := Lib.hid (encA_enc p)
  have CB : Hid (∀ u, Calls Tryd.prog 53 #[feV p.y] u fun e w' => e = .returned (.agg ((sk (p.y % pp).toNat).map b8).toArray) ∧ Below u.heap.size u w') := Lib.hid fun u => rbytesB_any p.y u hp.2
  have HS : Hid (encA (p.y % pp).toNat (p.x % pp % 2).toNat = (sk (p.y % pp).toNat).set 31 ((sk (p.y % pp).toNat).getD 31 0 + BitVec.ofNat 8 ((p.x % pp % 2).toNat * 128))) := Lib.hid rfl
  rw [HE.out] at HS
  have hyl := sk_len (p.y % pp).toNat
  have hel := sk_len (encN p)
  clear HE
  generalize sk (p.y % pp).toNat = yl at *
  generalize sk (encN p) = el at *
  have hZw := w0_word (p.x % pp)
  have hZ2 : w0 (p.x % pp) % 2 = p.x % pp % 2 := by unfold w0; omega
  generalize hZ : p.x % pp = Z at *
  have CX : Hid (∀ u, Calls Tryd.prog 46 #[feV p.x] u fun e w' => e = .returned (feV Z) ∧ Below u.heap.size u w') := Lib.hid fun u => by rw [← hZ]; exact refcanon_any p.x u hp.1
  clear hZ
  have SY := Lib.hid (szKyB hyl)
  have SE := Lib.hid (szKyB hel)
  have LY : Hid ((yl.map b8).length = (z8 32).length) := Lib.hid (by rw [z8_k32, List.length_map, hyl])
  have LE : Hid ((el.map b8).length = (z8 32).length) := Lib.hid (by rw [z8_k32, List.length_map, hel])
  go_enter Tryd.func26, Tryd.ntmps26
  go_upto_region 0 with fail; refine wp_region_lit ?_
  refine wpList_val (run_boxL (vs := ptL p) rfl rfl) rfl ?_; (try simp only [Act.put, List.setIfInBounds_toArray, List.set_cons_zero, List.set_cons_succ]); replace hM := Lib.hid (hM.out.new (ptL p) 33); generalize w.alloc (.cells (ptL p).toArray 33) = a1 at *; generalize w.heap.size = g1 at *
  refine wpList_val (run_alc (vs := z8 32) rfl (by kernel_rfl)) rfl ?_; (try simp only [Act.put, List.setIfInBounds_toArray, List.set_cons_zero, List.set_cons_succ])
  replace hM := Lib.hid (hM.out.new (z8 32) 23)
  generalize a1.alloc (.cells (z8 32).toArray 23) = a2 at *
  generalize a1.heap.size = g2 at *
  refine wpList_end ?_
  go_upto_region 1 with fail; refine wp_region_lit ?_
  refine wpList_val (run_fad (s := 3) (k := 4) rfl Tryd.underlying33 rfl (by kernel_rfl) rfl rfl) rfl ?_; (try simp only [Act.put, List.setIfInBounds_toArray, List.set_cons_zero, List.set_cons_succ])
  refine wpList_val (run_ldM (vs := feL p.y) rfl Tryd.underlying31 rfl (szFe _) rfl (pt_y (hM.out.get (i := 1) rfl))) rfl ?_; (try simp only [Act.put, List.setIfInBounds_toArray, List.set_cons_zero, List.set_cons_succ])
  refine wpList_enter (run_call1 enters_rbytes rfl rfl rfl) rfl (CB.out _) (fun a3 hb => ?_); (try simp only [Act.put, List.setIfInBounds_toArray, List.set_cons_zero, List.set_cons_succ]); replace hM := Lib.hid (hM.out.below hb); clear hb
  refine wpList_val (run_alc (vs := z8 32) rfl (by kernel_rfl)) rfl ?_; (try simp only [Act.put, List.setIfInBounds_toArray, List.set_cons_zero, List.set_cons_succ])
  replace hM := Lib.hid (hM.out.new (z8 32) 23)
  generalize a3.alloc (.cells (z8 32).toArray 23) = a4 at *
  generalize a3.heap.size = g3 at *
  refine wpList_skip (run_stM (vs := yl.map b8) rfl SY.out rfl rfl (one8B _) (by rw [LY.out]; exact (hM.out.get (i := 0) rfl).there)) rfl rfl ?_
  replace hM := Lib.hid (hM.out.put 0 rfl (m := yl.map b8) LY.out)
  generalize a4.setCells g3 0 (yl.map b8) = a5 at *
  refine wpList_end ?_
  have HC : Hid ((yl.map b8)[31]? = some (b8 (yl.getD 31 0))) := Lib.hid (get_map b8 0 (by omega))
  generalize yl.getD 31 0 = y31 at *
  go_upto_region 2 with fail; refine wp_region_calm 11 (by kernel_rfl) (by kernel_rfl) ?_
  refine wpCalm_step _ (fun V hV => calm_run (run_ix0 (i := 31) rfl Tryd.underlying23 (by kernel_rfl) rfl rfl (by omega))) ?_; (try simp only [Act.put, List.setIfInBounds_toArray, List.set_cons_zero, List.set_cons_succ])
  refine wpCalm_step _ (fun V hV => calm_run (run_ld8 rfl rfl (((hM.out.below hV).get (i := 0) rfl).c 31 _ HC.out))) ?_; (try simp only [Act.put, List.setIfInBounds_toArray, List.set_cons_zero, List.set_cons_succ])
  refine wpCalm_step _ (fun V hV => calm_run (run_fad (s := 3) (k := 0) rfl Tryd.underlying33 rfl (by kernel_rfl) rfl rfl)) ?_; (try simp only [Act.put, List.setIfInBounds_toArray, List.set_cons_zero, List.set_cons_succ])
  refine wpCalm_step _ (fun V hV => calm_run (run_ldM (vs := feL p.x) rfl Tryd.underlying31 rfl (szFe _) rfl (pt_x ((hM.out.below hV).get (i := 2) rfl)))) ?_; (try simp only [Act.put, List.setIfInBounds_toArray, List.set_cons_zero, List.set_cons_succ])
  refine wpCalm_step _ (fun V hV => calm_enter (run_call1 enters_rcanonF rfl rfl rfl) (CX.out V)) ?_; (try simp only [Act.put, List.setIfInBounds_toArray, List.set_cons_zero, List.set_cons_succ])
  refine wpCalm_step _ (fun V hV => calm_run (run_ixv (i := 0) (vs := feL Z) (v := .int .u64 (w0 Z)) rfl Tryd.underlying31 (by kernel_rfl) (isAgg_u64 V) rfl rfl (by omega) rfl)) ?_; (try simp only [Act.put, List.setIfInBounds_toArray, List.set_cons_zero, List.set_cons_succ])
  refine wpCalm_step _ (fun V hV => calm_run (run_remU (b := 2) rfl rfl rfl hZw.1 (by omega))) ?_; (try simp only [Act.put, List.setIfInBounds_toArray, List.set_cons_zero, List.set_cons_succ])
  rw [hZ2]
  refine wpCalm_step _ (fun V hV => calm_run (run_mulU (b := 128) rfl rfl rfl (by omega) (by omega))) ?_; (try simp only [Act.put, List.setIfInBounds_toArray, List.set_cons_zero, List.set_cons_succ])
  refine wpCalm_step _ (fun V hV => calm_run (run_cvbit2 rfl rfl)) ?_; (try simp only [Act.put, List.setIfInBounds_toArray, List.set_cons_zero, List.set_cons_succ])
  refine wpCalm_step _ (fun V hV => calm_run (run_add8 rfl rfl rfl)) ?_; (try simp only [Act.put, List.setIfInBounds_toArray, List.set_cons_zero, List.set_cons_succ])
  refine wpCalm_step _ (fun V hV => calm_run (run_ix0 (i := 31) rfl Tryd.underlying23 (by kernel_rfl) rfl rfl (by omega))) ?_; (try simp only [Act.put, List.setIfInBounds_toArray, List.set_cons_zero, List.set_cons_succ])
  refine wpCalm_done ?_; intro a6 hb; simp only [List.drop_succ_cons, List.drop_zero]
  replace hM := Lib.hid (hM.out.below hb)
  clear hb
  refine wpList_skip (run_st8 rfl rfl rfl ((hM.out.get (i := 0) rfl).c 31 _ HC.out) ((hM.out.get (i := 0) rfl).f 31)) rfl rfl ?_
  refine wpList_end ?_
  have hM2 : Hid (Mv w [(g3, el.map b8), (g2, z8 32), (g1, ptL p)] (a6.setCell ⟨g3, 31, none⟩ (b8 (y31 + BitVec.ofNat 8 ((Z % 2).toNat * 128))))) := Lib.hid (by
    have h := hM.out.set 0 rfl (j := 31) (by rw [List.length_map]; omega) (b8 (y31 + BitVec.ofNat 8 ((Z % 2).toNat * 128)))
    rw [set_map, ← HS.out] at h
    exact h)
  generalize a6.setCell ⟨g3, 31, none⟩ (b8 (y31 + BitVec.ofNat 8 ((Z % 2).toNat * 128))) = a7 at *
  replace hM := hM2
  clear hM2 HC HS hZ2
  go_upto_region 3 with fail; refine wp_region_lit ?_
  refine wpList_val (run_ldM (vs := el.map b8) rfl Tryd.underlying23 rfl SE.out rfl (hM.out.get (i := 0) rfl).range) rfl ?_; (try simp only [Act.put, List.setIfInBounds_toArray, List.set_cons_zero, List.set_cons_succ])
  refine wpList_skip (run_stM (vs := el.map b8) rfl SE.out rfl rfl (one8B _) (by rw [LE.out]; exact (hM.out.get (i := 1) rfl).there)) rfl rfl ?_
  replace hM := Lib.hid (hM.out.put 1 rfl (m := el.map b8) LE.out)
  refine wpList_end ?_; go_wp2_with fail; refine bodyPost_ret (v := .agg (el.map b8).toArray) (results_rowB Tryd.results26 rfl Tryd.underlying23 rfl SE.out (hM.out.get (i := 1) rfl).range) rfl ⟨rfl, hM.out.bl⟩
theorem enters_eencode : Enters 26 := enters_of Tryd.func26 (by kernel_rfl) rfl
end Go.Proofs.YtfdjmdfaidiliaaDoor
namespace Go.Proofs.YtfdjmdfaidiliaaDoor
open Go.RowKit
set_option maxRecDepth 20000

theorem root_sound {u v : Int} (h : rootB u v = true) : E (v * (rootN u v * rootN u v)) u ∧ (0 ≤ rootN u v ∧ rootN u v < pp) ∧ rootN u v % 2 = 0 := by
  have hn : 0 ≤ nearOf u v ∧ nearOf u v < pp := by unfold nearOf; exact emod_pp_lt _
  unfold rootB at h
  unfold rootN
  generalize nearOf u v = N at *
  have eM : v * (N * N % pp) % pp = v * (N * N) % pp := mulmodr _ _
  rw [eM] at h ⊢
  by_cases h1 : v * (N * N) % pp = u % pp
  · rw [if_pos h1]
    obtain ⟨g0, g1, g2, g3⟩ := evn_facts hn.1 hn.2
    exact ⟨((E.rfl' v).mul g3).trans h1, ⟨g0, g1⟩, g2⟩
  · have h2 : v * (N * N) % pp = -u % pp := by
      rw [Bool.or_eq_true, beq_iff_eq, beq_iff_eq] at h
      exact h.resolve_left h1
    rw [if_neg h1, if_pos h2]
    have hi := emod_pp_lt (N * (2 ^ mp.toNat % pp))
    obtain ⟨g0, g1, g2, g3⟩ := evn_facts hi.1 hi.2
    refine ⟨?_, ⟨g0, g1⟩, g2⟩
    have k1 : E (evn (N * (2 ^ mp.toNat % pp) % pp) * evn (N * (2 ^ mp.toNat % pp) % pp)) (N * N * -1) := by
      refine g3.trans (((E.rest _).mul (E.rest _)).trans ((E.of_eq ?_).trans ((E.rfl' (N * N)).mul imag_E)))
      generalize (2 : Int) ^ mp.toNat % pp = i
      grind
    refine ((E.rfl' v).mul k1).trans ((E.of_eq (show v * (N * N * -1) = -(v * (N * N)) by grind)).trans ?_)
    have k2 : E (v * (N * N)) (-u) := h2
    exact k2.neg.trans (E.of_eq (Int.neg_neg _))
theorem evP_on {Y : Int} (h : evB Y = true) : (evP Y).On := by
  have h1 := (root_sound h).1
  have h2 : Zr ((dd * (Y * Y) + 1) * (rootN (dU Y) (dV Y) * rootN (dU Y) (dV Y)) - (Y * Y - 1)) := Zr.of_E ((((dV_E Y).symm.mul (E.rfl' _)).trans h1).trans (dU_E Y))
  show Zr (onE (rootN (dU Y) (dV Y)) Y)
  generalize rootN (dU Y) (dV Y) = r at *
  have := h2.neg
  rwa [show -((dd * (Y * Y) + 1) * (r * r) - (Y * Y - 1)) = onE r Y by unfold onE; grind] at this
def othP (Y : Int) : Pt := ⟨-(evP Y).x % pp, Y⟩
/-- What keywardref07.Decode answers. -/
def decE (n : Nat) : Pt × Bool :=
  if evB (decY n) = true then
    if encN (evP (decY n)) = n then (evP (decY n), true)
    else if encN (othP (decY n)) = n then (othP (decY n), true) else (zPt, false)
  else (zPt, false)
/-- The arithmetic of both, over letters. -/
theorem dec_arith {n H : Nat} {p r Y : Int} (hH : (H : Int) = p + 19) (hp : 100 < p) (hp2 : p % 2 = 1) (hn : n < H + H) (hr0 : 0 ≤ r) (hr : r < p) (hr2 : r % 2 = 0) (hY : Y = ((n % H : Nat) : Int) % p) {nr : Int} (hnr : nr = -r % p) {A : Type} (a b c : A) (hbc : r = 0 → b = a) (hne : 0 < r → b ≠ a) [DecidableEq A] :
    (if Y.toNat = n then a else if Y.toNat + H * (nr % 2).toNat = n then b else c) = (if ((n % H : Nat) : Int) < p then (if n < H then a else if b = a then c else b) else c) := by
  have hnr2 : (r = 0 ∧ nr = 0) ∨ (0 < r ∧ nr = p - r) := by
    rcases (show r = 0 ∨ 0 < r by omega) with h | h
    · left; refine ⟨h, ?_⟩; rw [hnr, h]; simp
    · right; refine ⟨h, ?_⟩
      rw [hnr, show -r = p - r + p * (-1) by omega, Int.add_mul_emod_self_left, Int.emod_eq_of_lt (by omega) (by omega)]
  by_cases hlow : n < H
  · rw [Nat.mod_eq_of_lt hlow] at hY ⊢
    by_cases hlt : (n : Int) < p
    · rw [Int.emod_eq_of_lt (by omega) hlt] at hY
      rw [if_pos hlt, if_pos hlow, if_pos (by omega)]
    · have hY2 : Y = n - p := by
        rw [hY, show (n : Int) = n - p + p * 1 by omega, Int.add_mul_emod_self_left, Int.emod_eq_of_lt (by omega) (by omega)]
        omega
      rw [if_neg hlt, if_neg (by omega)]
      rcases (show (nr % 2).toNat = 0 ∨ (nr % 2).toNat = 1 by omega) with h | h
      · rw [h, Nat.mul_zero, if_neg (by omega)]
      · rw [h, Nat.mul_one, if_neg (by omega)]
  · have hm : n % H = n - H := by rw [Nat.mod_eq_sub_mod (by omega), Nat.mod_eq_of_lt (by omega)]
    rw [hm] at hY ⊢
    have hb := Int.emod_nonneg ((n - H : Nat) : Int) (show p ≠ 0 by omega)
    have hb2 := Int.emod_lt_of_pos ((n - H : Nat) : Int) (show 0 < p by omega)
    rw [← hY] at hb hb2
    rw [if_neg (show ¬ Y.toNat = n by omega), if_neg hlow]
    rcases hnr2 with ⟨h, h2⟩ | ⟨h, h2⟩
    · rw [h2, show ((0 : Int) % 2).toNat = 0 by decide, Nat.mul_zero, if_neg (by omega), if_pos (hbc h)]
      split <;> rfl
    · rw [if_neg (hne h), show (nr % 2).toNat = 1 by omega, Nat.mul_one]
      by_cases hlt : ((n - H : Nat) : Int) < p
      · rw [Int.emod_eq_of_lt (by omega) hlt] at hY
        rw [if_pos hlt, if_pos (by omega)]
      · have hY2 : Y = ((n - H : Nat) : Int) - p := by
          rw [hY, show ((n - H : Nat) : Int) = ((n - H : Nat) : Int) - p + p * 1 by omega, Int.add_mul_emod_self_left, Int.emod_eq_of_lt (by omega) (by omega)]
          omega
        rw [if_neg hlt, if_neg (by omega)]
theorem decE_eq {n : Nat} (hn : n < 2 ^ 256) : decE n = decR n := by
  unfold decE decR
  by_cases hev : evB (decY n) = true
  · rw [if_pos hev]
    obtain ⟨_, k2, k3⟩ := root_sound hev
    have hon := evP_on hev
    have hYe : decY n = ((n % 2 ^ 255 : Nat) : Int) % pp := by unfold decY; rfl
    have hY : 0 ≤ decY n ∧ decY n < pp := by rw [hYe]; exact emod_pp_lt _
    have hneg : negP (evP (decY n)) = othP (decY n) := by
      unfold negP othP
      rw [onB_on hon, if_pos rfl]
      show (⟨-(evP (decY n)).x % pp, decY n % pp⟩ : Pt) = _
      rw [Int.emod_eq_of_lt hY.1 hY.2]
    have e1 : encN (evP (decY n)) = (decY n).toNat := by
      unfold encN
      show (decY n % pp).toNat + 2 ^ 255 * (rootN (dU (decY n)) (dV (decY n)) % pp % 2).toNat = _
      rw [Int.emod_eq_of_lt hY.1 hY.2, Int.emod_eq_of_lt k2.1 k2.2, k3, show (0 : Int).toNat = 0 from rfl, Nat.mul_zero, Nat.add_zero]
    have e2 : encN (othP (decY n)) = (decY n).toNat + 2 ^ 255 * (-rootN (dU (decY n)) (dV (decY n)) % pp % 2).toNat := by
      unfold encN othP
      show (decY n % pp).toNat + 2 ^ 255 * (-rootN (dU (decY n)) (dV (decY n)) % pp % pp % 2).toNat = _
      rw [Int.emod_eq_of_lt hY.1 hY.2, Int.emod_emod_of_dvd _ (Int.dvd_refl _)]
    have x1 : (evP (decY n)).x = rootN (dU (decY n)) (dV (decY n)) := rfl
    have x2 : (othP (decY n)).x = -rootN (dU (decY n)) (dV (decY n)) % pp := rfl
    have y1 : (evP (decY n)).y = decY n := rfl
    have y2 : (othP (decY n)).y = decY n := rfl
    have hH : (((2 : Nat) ^ 255 : Nat) : Int) = pp + 19 := by unfold pp; decide +kernel
    have hpp : 100 < pp := by unfold pp; decide +kernel
    have hp2 : pp % 2 = 1 := by unfold pp; decide +kernel
    have hHH : (2 : Nat) ^ 256 = 2 ^ 255 + 2 ^ 255 := by decide +kernel
    rw [hHH] at hn
    rw [hneg, e1, e2]
    clear e1 e2 hneg hon hHH
    generalize evP (decY n) = ev at *
    generalize othP (decY n) = ot at *
    generalize rootN (dU (decY n)) (dV (decY n)) = r at *
    generalize decY n = Y at *
    generalize (2 : Nat) ^ 255 = H at *
    have hbc : r = 0 → ((ot, true) : Pt × Bool) = (ev, true) := fun h => by
      have : ot = ev := by
        cases ot; cases ev
        simp only at x1 x2 y1 y2
        rw [x1, x2, y1, y2, h]; simp
      rw [this]
    have hne : 0 < r → ((ot, true) : Pt × Bool) ≠ (ev, true) := fun h e => by
      have h1 : ot = ev := congrArg Prod.fst e
      have h2 : -r % pp = pp - r := by
        rw [show -r = pp - r + pp * (-1) by omega, Int.add_mul_emod_self_left, Int.emod_eq_of_lt (by omega) (by omega)]
      rw [h1, x1, h2] at x2
      omega
    rw [dec_arith hH hpp hp2 hn k2.1 k2.2 k3 hYe rfl (ev, true) (ot, true) (zPt, false) hbc hne]
    by_cases hlt : ((n % H : Nat) : Int) < pp
    · simp only [hlt, hev, and_self, if_true]
      by_cases hlow : n < H
      · simp only [hlow, if_true]
      · simp only [hlow, if_false]
        by_cases he : ot = ev
        · simp [he]
        · simp [he]
    · simp only [hlt, and_false, if_false]
  · rw [if_neg hev, if_neg (fun h => hev h.1)]
end Go.Proofs.YtfdjmdfaidiliaaDoor
namespace Go.Proofs.YtfdjmdfaidiliaaDoor
open Go.RowKit
set_option maxRecDepth 20000

theorem rofB_any (l : List (BitVec 8)) (w : World) (hl : l.length = 32) : Calls Tryd.prog 19 #[.agg (l.map b8).toArray] w fun e w' => e = .returned (feV (((leB l % 2 ^ 255 : Nat) : Int) % pp)) ∧ Below w.heap.size w w' := by
  have h := refof_any (toI l) w (by rw [toI_len, hl]) (toI_bytes l)
  rw [kV_toI, mask_toI hl, le_toI, msk_num hl] at h
  exact h
theorem enters_rofF : Enters 19 := enters_of Tryd.func19 (by kernel_rfl) rfl
theorem enc_lt (p : Pt) : encN p < 256 ^ 32 := by
  unfold encN
  have h1 := y_top p.y
  have h2 := bit_lt p.x
  have h3 : 2 ^ 255 * (p.x % pp % 2).toNat ≤ 2 ^ 255 * 1 := Nat.mul_le_mul_left _ (by omega)
  have h4 : (2 : Nat) ^ 255 + 2 ^ 255 ≤ 256 ^ 32 := by decide +kernel
  omega
theorem sk_enc_eq {l : List (BitVec 8)} (hl : l.length = 32) (p : Pt) : decide (sk (encN p) = l) = decide (encN p = leB l) := by
  rw [Bool.eq_iff_iff, decide_eq_true_eq, decide_eq_true_eq]
  constructor
  · intro h
    have := congrArg leB h
    rwa [leB_sk, Nat.mod_eq_of_lt (enc_lt p)] at this
  · intro h
    rw [h, sk_of hl]
theorem alcPt (ρ : Operand → Value) (w : World) (o : Oper) (h : o.op = .alloc 33) : (execOp ρ o).run Tryd.prog w = .ok (.value (.pointer (some ⟨w.heap.size, 0, none⟩))) (w.alloc (.cells (zq 8).toArray 33)) := run_alc h (by kernel_rfl)
theorem othP_nm {Y : Int} (hY : Num Y) : (othP Y).Nm := ⟨num_emod_pp _, hY⟩
set_option maxHeartbeats 16000000 in
theorem edecode_any (l : List (BitVec 8)) (w : World) (hl : l.length = 32) : Calls Tryd.prog 8 #[.agg (l.map b8).toArray] w fun e w' => e = .returned (.tuple #[.agg (ptL (decR (leB l)).1).toArray, .bool (decR (leB l)).2]) ∧ Below w.heap.size w w' := by
  rw [← decE_eq (show leB l < 2 ^ 256 by
    have := leB_lt l
    rw [hl, show (256 : Nat) ^ 32 = 2 ^ 256 by decide +kernel] at this
    exact this)]
  have hM := Lib.hid (Mv.nil w)
  obtain ⟨Y, hYe⟩ : ∃ Y, Y = decY (leB l) := ⟨_, rfl⟩
  have hYn : Num Y := by rw [hYe]; exact num_emod_pp _
  have CF : Hid (∀ u, Calls Tryd.prog 19 #[.agg (l.map b8).toArray] u fun e w' => e = .returned (feV Y) ∧ Below u.heap.size u w') := Lib.hid fun u => by rw [hYe]; exact rofB_any l u hl
  have HU : Hid ((Y * Y % pp - 1) % pp = dU Y) := Lib.hid rfl
  have HV : Hid ((dd * (Y * Y % pp) % pp + 1) % pp = dV Y) := Lib.hid rfl
  have nU : Num (dU Y) := num_emod_pp _
  have nV : Num (dV Y) := num_emod_pp _
  obtain ⟨ep, hep⟩ : ∃ ep, ep = evP Y := ⟨_, rfl⟩
  obtain ⟨ot, hot⟩ : ∃ ot, ot = othP Y := ⟨_, rfl⟩
  obtain ⟨ok, hok⟩ : ∃ ok, ok = evB Y := ⟨_, rfl⟩
  obtain ⟨rn, hrn⟩ : ∃ rn, rn = rootN (dU Y) (dV Y) := ⟨_, rfl⟩
  have CR : Hid (∀ u, Calls Tryd.prog 21 #[feV (dU Y), feV (dV Y)] u fun e w' => e = .returned (.tuple #[feV rn, .bool ok]) ∧ Below u.heap.size u w') := Lib.hid fun u => by rw [hrn, hok]; exact rroot_any (dU Y) (dV Y) u nU nV
  have hepn : ep.Nm := by rw [hep]; exact evP_nm hYn
  have hotn : ot.Nm := by rw [hot]; exact othP_nm hYn
  have hrnn : Num rn := by have h : (evP Y).Nm := evP_nm hYn; rw [hrn]; exact h.1
  have EP : Hid ((⟨rn, Y⟩ : Pt) = ep) := Lib.hid (by rw [hep, hrn]; rfl)
  have EO : Hid ((⟨-rn % pp, Y⟩ : Pt) = ot) := Lib.hid (by rw [hot, hrn]; rfl)
  obtain ⟨c1, hc1⟩ : ∃ c1, c1 = decide (encN ep = leB l) := ⟨_, rfl⟩
  obtain ⟨c2, hc2⟩ : ∃ c2, c2 = decide (encN ot = leB l) := ⟨_, rfl⟩
  have Q1 : Hid (decide (sk (encN ep) = l) = c1) := Lib.hid (by rw [hc1]; exact sk_enc_eq hl ep)
  have Q2 : Hid (decide (sk (encN ot) = l) = c2) := Lib.hid (by rw [hc2]; exact sk_enc_eq hl ot)
  have R0 : Hid (ok = false → decE (leB l) = (zPt, false)) := Lib.hid fun h => by
    unfold decE; rw [← hYe, ← hok, h, if_neg (by simp)]
  have R1 : Hid (ok = true → c1 = true → decE (leB l) = (ep, true)) := Lib.hid fun h h1 => by
    rw [hc1, decide_eq_true_eq] at h1
    unfold decE; rw [← hYe, ← hok, ← hep, if_pos h, if_pos h1]
  have R2 : Hid (ok = true → c1 = false → c2 = true → decE (leB l) = (ot, true)) := Lib.hid fun h h1 h2 => by
    rw [hc1, decide_eq_false_iff_not] at h1
    rw [hc2, decide_eq_true_eq] at h2
    unfold decE; rw [← hYe, ← hok, ← hep, ← hot, if_pos h, if_neg h1, if_pos h2]
  have R3 : Hid (ok = true → c1 = false → c2 = false → decE (leB l) = (zPt, false)) := Lib.hid fun h h1 h2 => by
    rw [hc1, decide_eq_false_iff_not] at h1
    rw [hc2, decide_eq_false_iff_not] at h2
    unfold decE; rw [← hYe, ← hok, ← hep, ← hot, if_pos h, if_neg h1, if_neg h2]
  have C7 : Hid (∀ u, Calls Tryd.prog 26 #[.agg (ptL ep).toArray] u fun e w' => e = .returned (.agg ((sk (encN ep)).map b8).toArray) ∧ Below u.heap.size u w') := Lib.hid fun u => eencode_any ep u hepn
  have C8 : Hid (∀ u, Calls Tryd.prog 26 #[.agg (ptL ot).toArray] u fun e w' => e = .returned (.agg ((sk (encN ot)).map b8).toArray) ∧ Below u.heap.size u w') := Lib.hid fun u => eencode_any ot u hotn
  have s1 := sk_len (encN ep)
  have s2 := sk_len (encN ot)
  clear hYe hep hot hok hrn hc1 hc2 nU nV
  generalize decE (leB l) = res at *
  generalize sk (encN ep) = e1 at *
  generalize sk (encN ot) = e2 at *
  generalize dU Y = U at *
  generalize dV Y = V' at *
  have SK := Lib.hid (szKyB hl)
  go_enter Tryd.func8, Tryd.ntmps8
  go_upto_region 0 with fail; refine wp_region_lit ?_
  refine wpList_val (run_boxL (vs := l.map b8) rfl rfl) rfl ?_; (try simp only [Act.put, List.setIfInBounds_toArray, List.set_cons_zero, List.set_cons_succ]); replace hM := Lib.hid (hM.out.new (l.map b8) 23); generalize w.alloc (.cells (l.map b8).toArray 23) = a1 at *; generalize w.heap.size = g1 at *
  refine wpList_val (run_alc (vs := zq 8) rfl (by kernel_rfl)) rfl ?_; (try simp only [Act.put, List.setIfInBounds_toArray, List.set_cons_zero, List.set_cons_succ]); replace hM := Lib.hid (hM.out.new (zq 8) 33); generalize a1.alloc (.cells (zq 8).toArray 33) = a2 at *; generalize a1.heap.size = g2 at *
  refine wpList_val (run_asg (v := .bool _) rfl rfl) rfl ?_; (try simp only [Act.put, List.setIfInBounds_toArray, List.set_cons_zero, List.set_cons_succ])
  refine wpList_end ?_
  go_upto_region 1 with fail; refine wp_region_lit ?_
  refine wpList_val (run_ldM (vs := l.map b8) rfl Tryd.underlying23 rfl SK.out rfl (hM.out.get (i := 1) rfl).range) rfl ?_; (try simp only [Act.put, List.setIfInBounds_toArray, List.set_cons_zero, List.set_cons_succ])
  refine wpList_enter (run_call1 enters_rofF rfl rfl rfl) rfl (CF.out _) (fun a3 hb => ?_); (try simp only [Act.put, List.setIfInBounds_toArray, List.set_cons_zero, List.set_cons_succ]); replace hM := Lib.hid (hM.out.below hb); clear hb
  refine wpList_val (run_alc (vs := zq 4) rfl (by kernel_rfl)) rfl ?_; (try simp only [Act.put, List.setIfInBounds_toArray, List.set_cons_zero, List.set_cons_succ]); replace hM := Lib.hid (hM.out.new (zq 4) 31); generalize a3.alloc (.cells (zq 4).toArray 31) = a4 at *; generalize a3.heap.size = g3 at *
  refine wpList_skip (run_stM (vs := feL Y) rfl (szFe _) rfl rfl (oneFe _) ((hM.out.get (i := 0) rfl).there)) rfl rfl ?_; replace hM := Lib.hid (hM.out.put 0 rfl (m := feL Y) rfl); generalize a4.setCells g3 0 (feL Y) = a5 at *
  refine wpList_end ?_
  go_upto_region 2 with fail; refine wp_region_lit ?_
  refine wpList_val (run_ldM (vs := feL Y) rfl Tryd.underlying31 rfl (szFe _) rfl ((hM.out.get (i := 0) rfl).range)) rfl ?_; (try simp only [Act.put, List.setIfInBounds_toArray, List.set_cons_zero, List.set_cons_succ])
  refine wpList_val (run_ldM (vs := feL Y) rfl Tryd.underlying31 rfl (szFe _) rfl ((hM.out.get (i := 0) rfl).range)) rfl ?_; (try simp only [Act.put, List.setIfInBounds_toArray, List.set_cons_zero, List.set_cons_succ])
  refine wpList_enter (run_call2 enters_emul rfl rfl rfl rfl) rfl (emul_any Y Y _ hYn hYn) (fun b1 hb => ?_); (try simp only [Act.put, List.setIfInBounds_toArray, List.set_cons_zero, List.set_cons_succ]); replace hM := Lib.hid (hM.out.below hb); clear hb
  have hyy := num_emod_pp (Y * Y)
  generalize Y * Y % pp = yy at *
  refine wpList_val (run_alc (vs := zq 4) rfl (by kernel_rfl)) rfl ?_; (try simp only [Act.put, List.setIfInBounds_toArray, List.set_cons_zero, List.set_cons_succ]); replace hM := Lib.hid (hM.out.new (zq 4) 31); generalize b1.alloc (.cells (zq 4).toArray 31) = b2 at *; generalize b1.heap.size = g4 at *
  refine wpList_skip (run_stM (vs := feL yy) rfl (szFe _) rfl rfl (oneFe _) ((hM.out.get (i := 0) rfl).there)) rfl rfl ?_; replace hM := Lib.hid (hM.out.put 0 rfl (m := feL yy) rfl); generalize b2.setCells g4 0 (feL yy) = a6 at *
  refine wpList_end ?_
  go_upto_region 3 with fail
  go_cut [6, 7] (fun s6 s7 u => ∃ g, s6 = .pointer (some ⟨g, 0, none⟩) ∧ s7 = .bool ok ∧ Mv w [(g, feL rn), (g4, feL yy), (g3, feL Y), (g2, zq 8), (g1, l.map b8)] u)
  case first =>
    refine wp_region_noPanic ?_; refine wp_region_late (S := fun _ V => Below a6.heap.size a6 V) (by kernel_rfl) ((Below.refl _ _).drew) (fun hS => ?_)
    refine wpAnyL_take 0 rfl rfl (by kernel_rfl) (by kernel_rfl) (by kernel_rfl) (fun _ _ _ h => h) rfl (fun V hV => run_ldM (vs := feL yy) rfl Tryd.underlying31 rfl (szFe _) rfl ((hM.out.below hV).get (i := 0) rfl).range) hS ?_; (try simp only [Act.put, List.setIfInBounds_toArray, List.set_cons_zero, List.set_cons_succ])
    refine wpAnyL_take 4 rfl rfl (by kernel_rfl) (by kernel_rfl) (by kernel_rfl) (fun _ _ _ h => h) rfl (fun V hV => run_ldM (vs := feL yy) rfl Tryd.underlying31 rfl (szFe _) rfl ((hM.out.below hV).get (i := 0) rfl).range) hS ?_; (try simp only [Act.put, List.setIfInBounds_toArray, List.set_cons_zero, List.set_cons_succ])
    refine wpAnyL_two 1 12 (by kernel_rfl) ?_ ?_
    · refine wpOp_call 1 rfl rfl rfl (run_call0 enters_eone rfl rfl) (calls_eq (eone_any _)) (fun v c1 hR => ?_); (try simp only [Act.put, List.setIfInBounds_toArray, List.set_cons_zero, List.set_cons_succ])
      obtain ⟨rfl, hb⟩ := hR
      replace hS := hS.trans (hb.mono hS.size)
      clear hb
      refine ⟨hS, ?_⟩
      refine wpAnyL_two 2 12 (by kernel_rfl) ?_ ?_
      · refine wpOp_call 2 rfl rfl rfl (run_call2 enters_esub rfl rfl rfl rfl) (calls_eq (esub_any yy 1 _ hyy num_1)) (fun v c2 hR => ?_); (try simp only [Act.put, List.setIfInBounds_toArray, List.set_cons_zero, List.set_cons_succ])
        obtain ⟨rfl, hb⟩ := hR
        replace hS := hS.trans (hb.mono hS.size)
        clear hb
        rw [HU.out]
        refine ⟨hS, ?_⟩
        refine wpAnyL_two 3 12 (by kernel_rfl) ?_ ?_
        · refine wpOp_call 3 rfl rfl rfl (run_call0 enters_edd rfl rfl) (calls_eq (edd_any _)) (fun v c3 hR => ?_); (try simp only [Act.put, List.setIfInBounds_toArray, List.set_cons_zero, List.set_cons_succ])
          obtain ⟨rfl, hb⟩ := hR
          replace hS := hS.trans (hb.mono hS.size)
          clear hb
          refine ⟨hS, ?_⟩
          refine wpAnyL_two 5 12 (by kernel_rfl) ?_ ?_
          · refine wpOp_call 5 rfl rfl rfl (run_call2 enters_emul rfl rfl rfl rfl) (calls_eq (emul_any dd yy _ num_dd hyy)) (fun v c4 hR => ?_); (try simp only [Act.put, List.setIfInBounds_toArray, List.set_cons_zero, List.set_cons_succ])
            obtain ⟨rfl, hb⟩ := hR
            replace hS := hS.trans (hb.mono hS.size)
            clear hb
            refine ⟨hS, ?_⟩
            refine wpAnyL_two 6 12 (by kernel_rfl) ?_ ?_
            · refine wpOp_call 6 rfl rfl rfl (run_call0 enters_eone rfl rfl) (calls_eq (eone_any _)) (fun v c5 hR => ?_); (try simp only [Act.put, List.setIfInBounds_toArray, List.set_cons_zero, List.set_cons_succ])
              obtain ⟨rfl, hb⟩ := hR
              replace hS := hS.trans (hb.mono hS.size)
              clear hb
              refine ⟨hS, ?_⟩
              refine wpAnyL_two 7 12 (by kernel_rfl) ?_ ?_
              · refine wpOp_call 7 rfl rfl rfl (run_call2 enters_eadd rfl rfl rfl rfl) (calls_eq (eadd_any (dd * yy % pp) 1 _ (num_emod_pp _) num_1)) (fun v c6 hR => ?_); (try simp only [Act.put, List.setIfInBounds_toArray, List.set_cons_zero, List.set_cons_succ])
                obtain ⟨rfl, hb⟩ := hR
                replace hS := hS.trans (hb.mono hS.size)
                clear hb
                rw [HV.out]
                refine ⟨hS, ?_⟩
                refine wpAnyL_two 8 12 (by kernel_rfl) ?_ ?_
                · refine wpOp_call 8 rfl rfl rfl (run_call2 enters_rroot rfl rfl rfl rfl) (calls_eq (CR.out _)) (fun v c7 hR => ?_); (try simp only [Act.put, List.setIfInBounds_toArray, List.set_cons_zero, List.set_cons_succ])
                  obtain ⟨rfl, hb⟩ := hR
                  replace hS := hS.trans (hb.mono hS.size)
                  clear hb
                  refine ⟨hS, ?_⟩
                  refine wpAnyL_take 9 rfl rfl (by kernel_rfl) (by kernel_rfl) (by kernel_rfl) (fun _ _ _ h => h) rfl (fun V hV => run_mv (v := .tuple #[feV rn, .bool ok]) rfl rfl) hS ?_; (try simp only [Act.put, List.setIfInBounds_toArray, List.set_cons_zero, List.set_cons_succ])
                  refine wpAnyL_take 10 rfl rfl (by kernel_rfl) (by kernel_rfl) (by kernel_rfl) (fun _ _ _ h => h) rfl (fun V hV => run_extract (i := 0) (v := feV rn) rfl rfl rfl) hS ?_; (try simp only [Act.put, List.setIfInBounds_toArray, List.set_cons_zero, List.set_cons_succ])
                  refine wpAnyL_take 11 rfl rfl (by kernel_rfl) (by kernel_rfl) (by kernel_rfl) (fun _ _ _ h => h) rfl (fun V hV => run_extract (i := 1) (v := .bool ok) rfl rfl rfl) hS ?_; (try simp only [Act.put, List.setIfInBounds_toArray, List.set_cons_zero, List.set_cons_succ])
                  refine wpAnyL_val 12 (by kernel_rfl) rfl rfl rfl (run_alc (vs := zq 4) rfl (by kernel_rfl)) (hS.alloc hS.size _) ?_; (try simp only [Act.put, List.setIfInBounds_toArray, List.set_cons_zero, List.set_cons_succ])
                  have hg := hS.size
                  have A1 := Lib.hid (Arr.new c7 (zq 4) 31)
                  replace hS := hS.alloc hg (.cells (zq 4).toArray 31)
                  generalize c7.alloc (.cells (zq 4).toArray 31) = d9 at *
                  generalize c7.heap.size = g at *
                  refine wpAnyL_skip 13 (by kernel_rfl) rfl rfl rfl (run_stM (vs := feL rn) rfl (szFe _) rfl rfl (oneFe _) A1.out.there) (below_setCells hg _ _ hS) ?_
                  replace hS := below_setCells hg (feL rn) 0 hS
                  replace A1 := Lib.hid (A1.out.put (l' := feL rn) rfl)
                  generalize d9.setCells g 0 (feL rn) = cz at *
                  refine wpAnyL_take 14 rfl rfl (by kernel_rfl) (by kernel_rfl) (by kernel_rfl) (fun _ _ _ h => h) rfl (fun V hV => run_asg (v := .bool ok) rfl rfl) hS ?_; (try simp only [Act.put, List.setIfInBounds_toArray, List.set_cons_zero, List.set_cons_succ])
                  refine wpAnyL_done (by kernel_rfl) ?_ _; refine NoPanic.normal ?_
                  go_wp2_with fail
                  go_meet
                  exact ⟨g, rfl, rfl, hM.out.add hS hg A1.out⟩
                · refine wpOp_val 12 rfl rfl rfl (run_alc (vs := zq 4) rfl (by kernel_rfl)) ?_; (try simp only [Act.put, List.setIfInBounds_toArray, List.set_cons_zero, List.set_cons_succ])
                  have hg := hS.size
                  have A1 := Lib.hid (Arr.new c6 (zq 4) 31)
                  replace hS := hS.alloc hg (.cells (zq 4).toArray 31)
                  generalize c6.alloc (.cells (zq 4).toArray 31) = d6 at *
                  generalize c6.heap.size = g at *
                  refine ⟨hS, ?_⟩
                  refine wpAnyL_call 8 (by kernel_rfl) rfl rfl rfl (run_call2 enters_rroot rfl rfl rfl rfl) (calls_eq (CR.out _)) (fun v w h => hS.trans (h.2.mono hS.size)) (fun v e6 hR => ?_); (try simp only [Act.put, List.setIfInBounds_toArray, List.set_cons_zero, List.set_cons_succ])
                  obtain ⟨rfl, hb⟩ := hR
                  replace hS := hS.trans (hb.mono hS.size)
                  replace A1 := Lib.hid (A1.out.below hb)
                  clear hb
                  refine wpAnyL_take 9 rfl rfl (by kernel_rfl) (by kernel_rfl) (by kernel_rfl) (fun _ _ _ h => h) rfl (fun V hV => run_mv (v := .tuple #[feV rn, .bool ok]) rfl rfl) hS ?_; (try simp only [Act.put, List.setIfInBounds_toArray, List.set_cons_zero, List.set_cons_succ])
                  refine wpAnyL_take 10 rfl rfl (by kernel_rfl) (by kernel_rfl) (by kernel_rfl) (fun _ _ _ h => h) rfl (fun V hV => run_extract (i := 0) (v := feV rn) rfl rfl rfl) hS ?_; (try simp only [Act.put, List.setIfInBounds_toArray, List.set_cons_zero, List.set_cons_succ])
                  refine wpAnyL_take 11 rfl rfl (by kernel_rfl) (by kernel_rfl) (by kernel_rfl) (fun _ _ _ h => h) rfl (fun V hV => run_extract (i := 1) (v := .bool ok) rfl rfl rfl) hS ?_; (try simp only [Act.put, List.setIfInBounds_toArray, List.set_cons_zero, List.set_cons_succ])
                  refine wpAnyL_skip 13 (by kernel_rfl) rfl rfl rfl (run_stM (vs := feL rn) rfl (szFe _) rfl rfl (oneFe _) A1.out.there) (below_setCells hg _ _ hS) ?_
                  replace hS := below_setCells hg (feL rn) 0 hS
                  replace A1 := Lib.hid (A1.out.put (l' := feL rn) rfl)
                  generalize e6.setCells g 0 (feL rn) = cz at *
                  refine wpAnyL_take 14 rfl rfl (by kernel_rfl) (by kernel_rfl) (by kernel_rfl) (fun _ _ _ h => h) rfl (fun V hV => run_asg (v := .bool ok) rfl rfl) hS ?_; (try simp only [Act.put, List.setIfInBounds_toArray, List.set_cons_zero, List.set_cons_succ])
                  refine wpAnyL_done (by kernel_rfl) ?_ _; refine NoPanic.normal ?_
                  go_wp2_with fail
                  go_meet
                  exact ⟨g, rfl, rfl, hM.out.add hS hg A1.out⟩
              · refine wpOp_val 12 rfl rfl rfl (run_alc (vs := zq 4) rfl (by kernel_rfl)) ?_; (try simp only [Act.put, List.setIfInBounds_toArray, List.set_cons_zero, List.set_cons_succ])
                have hg := hS.size
                have A1 := Lib.hid (Arr.new c5 (zq 4) 31)
                replace hS := hS.alloc hg (.cells (zq 4).toArray 31)
                generalize c5.alloc (.cells (zq 4).toArray 31) = d5 at *
                generalize c5.heap.size = g at *
                refine ⟨hS, ?_⟩
                refine wpAnyL_call 7 (by kernel_rfl) rfl rfl rfl (run_call2 enters_eadd rfl rfl rfl rfl) (calls_eq (eadd_any (dd * yy % pp) 1 _ (num_emod_pp _) num_1)) (fun v w h => hS.trans (h.2.mono hS.size)) (fun v e5 hR => ?_); (try simp only [Act.put, List.setIfInBounds_toArray, List.set_cons_zero, List.set_cons_succ])
                obtain ⟨rfl, hb⟩ := hR
                replace hS := hS.trans (hb.mono hS.size)
                replace A1 := Lib.hid (A1.out.below hb)
                clear hb
                rw [HV.out]
                refine wpAnyL_call 8 (by kernel_rfl) rfl rfl rfl (run_call2 enters_rroot rfl rfl rfl rfl) (calls_eq (CR.out _)) (fun v w h => hS.trans (h.2.mono hS.size)) (fun v e6 hR => ?_); (try simp only [Act.put, List.setIfInBounds_toArray, List.set_cons_zero, List.set_cons_succ])
                obtain ⟨rfl, hb⟩ := hR
                replace hS := hS.trans (hb.mono hS.size)
                replace A1 := Lib.hid (A1.out.below hb)
                clear hb
                refine wpAnyL_take 9 rfl rfl (by kernel_rfl) (by kernel_rfl) (by kernel_rfl) (fun _ _ _ h => h) rfl (fun V hV => run_mv (v := .tuple #[feV rn, .bool ok]) rfl rfl) hS ?_; (try simp only [Act.put, List.setIfInBounds_toArray, List.set_cons_zero, List.set_cons_succ])
                refine wpAnyL_take 10 rfl rfl (by kernel_rfl) (by kernel_rfl) (by kernel_rfl) (fun _ _ _ h => h) rfl (fun V hV => run_extract (i := 0) (v := feV rn) rfl rfl rfl) hS ?_; (try simp only [Act.put, List.setIfInBounds_toArray, List.set_cons_zero, List.set_cons_succ])
                refine wpAnyL_take 11 rfl rfl (by kernel_rfl) (by kernel_rfl) (by kernel_rfl) (fun _ _ _ h => h) rfl (fun V hV => run_extract (i := 1) (v := .bool ok) rfl rfl rfl) hS ?_; (try simp only [Act.put, List.setIfInBounds_toArray, List.set_cons_zero, List.set_cons_succ])
                refine wpAnyL_skip 13 (by kernel_rfl) rfl rfl rfl (run_stM (vs := feL rn) rfl (szFe _) rfl rfl (oneFe _) A1.out.there) (below_setCells hg _ _ hS) ?_
                replace hS := below_setCells hg (feL rn) 0 hS
                replace A1 := Lib.hid (A1.out.put (l' := feL rn) rfl)
                generalize e6.setCells g 0 (feL rn) = cz at *
                refine wpAnyL_take 14 rfl rfl (by kernel_rfl) (by kernel_rfl) (by kernel_rfl) (fun _ _ _ h => h) rfl (fun V hV => run_asg (v := .bool ok) rfl rfl) hS ?_; (try simp only [Act.put, List.setIfInBounds_toArray, List.set_cons_zero, List.set_cons_succ])
                refine wpAnyL_done (by kernel_rfl) ?_ _; refine NoPanic.normal ?_
                go_wp2_with fail
                go_meet
                exact ⟨g, rfl, rfl, hM.out.add hS hg A1.out⟩
            · refine wpOp_val 12 rfl rfl rfl (run_alc (vs := zq 4) rfl (by kernel_rfl)) ?_; (try simp only [Act.put, List.setIfInBounds_toArray, List.set_cons_zero, List.set_cons_succ])
              have hg := hS.size
              have A1 := Lib.hid (Arr.new c4 (zq 4) 31)
              replace hS := hS.alloc hg (.cells (zq 4).toArray 31)
              generalize c4.alloc (.cells (zq 4).toArray 31) = d4 at *
              generalize c4.heap.size = g at *
              refine ⟨hS, ?_⟩
              refine wpAnyL_call 6 (by kernel_rfl) rfl rfl rfl (run_call0 enters_eone rfl rfl) (calls_eq (eone_any _)) (fun v w h => hS.trans (h.2.mono hS.size)) (fun v e4 hR => ?_); (try simp only [Act.put, List.setIfInBounds_toArray, List.set_cons_zero, List.set_cons_succ])
              obtain ⟨rfl, hb⟩ := hR
              replace hS := hS.trans (hb.mono hS.size)
              replace A1 := Lib.hid (A1.out.below hb)
              clear hb
              refine wpAnyL_call 7 (by kernel_rfl) rfl rfl rfl (run_call2 enters_eadd rfl rfl rfl rfl) (calls_eq (eadd_any (dd * yy % pp) 1 _ (num_emod_pp _) num_1)) (fun v w h => hS.trans (h.2.mono hS.size)) (fun v e5 hR => ?_); (try simp only [Act.put, List.setIfInBounds_toArray, List.set_cons_zero, List.set_cons_succ])
              obtain ⟨rfl, hb⟩ := hR
              replace hS := hS.trans (hb.mono hS.size)
              replace A1 := Lib.hid (A1.out.below hb)
              clear hb
              rw [HV.out]
              refine wpAnyL_call 8 (by kernel_rfl) rfl rfl rfl (run_call2 enters_rroot rfl rfl rfl rfl) (calls_eq (CR.out _)) (fun v w h => hS.trans (h.2.mono hS.size)) (fun v e6 hR => ?_); (try simp only [Act.put, List.setIfInBounds_toArray, List.set_cons_zero, List.set_cons_succ])
              obtain ⟨rfl, hb⟩ := hR
              replace hS := hS.trans (hb.mono hS.size)
              replace A1 := Lib.hid (A1.out.below hb)
              clear hb
              refine wpAnyL_take 9 rfl rfl (by kernel_rfl) (by kernel_rfl) (by kernel_rfl) (fun _ _ _ h => h) rfl (fun V hV => run_mv (v := .tuple #[feV rn, .bool ok]) rfl rfl) hS ?_; (try simp only [Act.put, List.setIfInBounds_toArray, List.set_cons_zero, List.set_cons_succ])
              refine wpAnyL_take 10 rfl rfl (by kernel_rfl) (by kernel_rfl) (by kernel_rfl) (fun _ _ _ h => h) rfl (fun V hV => run_extract (i := 0) (v := feV rn) rfl rfl rfl) hS ?_; (try simp only [Act.put, List.setIfInBounds_toArray, List.set_cons_zero, List.set_cons_succ])
              refine wpAnyL_take 11 rfl rfl (by kernel_rfl) (by kernel_rfl) (by kernel_rfl) (fun _ _ _ h => h) rfl (fun V hV => run_extract (i := 1) (v := .bool ok) rfl rfl rfl) hS ?_; (try simp only [Act.put, List.setIfInBounds_toArray, List.set_cons_zero, List.set_cons_succ])
              refine wpAnyL_skip 13 (by kernel_rfl) rfl rfl rfl (run_stM (vs := feL rn) rfl (szFe _) rfl rfl (oneFe _) A1.out.there) (below_setCells hg _ _ hS) ?_
              replace hS := below_setCells hg (feL rn) 0 hS
              replace A1 := Lib.hid (A1.out.put (l' := feL rn) rfl)
              generalize e6.setCells g 0 (feL rn) = cz at *
              refine wpAnyL_take 14 rfl rfl (by kernel_rfl) (by kernel_rfl) (by kernel_rfl) (fun _ _ _ h => h) rfl (fun V hV => run_asg (v := .bool ok) rfl rfl) hS ?_; (try simp only [Act.put, List.setIfInBounds_toArray, List.set_cons_zero, List.set_cons_succ])
              refine wpAnyL_done (by kernel_rfl) ?_ _; refine NoPanic.normal ?_
              go_wp2_with fail
              go_meet
              exact ⟨g, rfl, rfl, hM.out.add hS hg A1.out⟩
          · refine wpOp_val 12 rfl rfl rfl (run_alc (vs := zq 4) rfl (by kernel_rfl)) ?_; (try simp only [Act.put, List.setIfInBounds_toArray, List.set_cons_zero, List.set_cons_succ])
            have hg := hS.size
            have A1 := Lib.hid (Arr.new c3 (zq 4) 31)
            replace hS := hS.alloc hg (.cells (zq 4).toArray 31)
            generalize c3.alloc (.cells (zq 4).toArray 31) = d3 at *
            generalize c3.heap.size = g at *
            refine ⟨hS, ?_⟩
            refine wpAnyL_call 5 (by kernel_rfl) rfl rfl rfl (run_call2 enters_emul rfl rfl rfl rfl) (calls_eq (emul_any dd yy _ num_dd hyy)) (fun v w h => hS.trans (h.2.mono hS.size)) (fun v e3 hR => ?_); (try simp only [Act.put, List.setIfInBounds_toArray, List.set_cons_zero, List.set_cons_succ])
            obtain ⟨rfl, hb⟩ := hR
            replace hS := hS.trans (hb.mono hS.size)
            replace A1 := Lib.hid (A1.out.below hb)
            clear hb
            refine wpAnyL_call 6 (by kernel_rfl) rfl rfl rfl (run_call0 enters_eone rfl rfl) (calls_eq (eone_any _)) (fun v w h => hS.trans (h.2.mono hS.size)) (fun v e4 hR => ?_); (try simp only [Act.put, List.setIfInBounds_toArray, List.set_cons_zero, List.set_cons_succ])
            obtain ⟨rfl, hb⟩ := hR
            replace hS := hS.trans (hb.mono hS.size)
            replace A1 := Lib.hid (A1.out.below hb)
            clear hb
            refine wpAnyL_call 7 (by kernel_rfl) rfl rfl rfl (run_call2 enters_eadd rfl rfl rfl rfl) (calls_eq (eadd_any (dd * yy % pp) 1 _ (num_emod_pp _) num_1)) (fun v w h => hS.trans (h.2.mono hS.size)) (fun v e5 hR => ?_); (try simp only [Act.put, List.setIfInBounds_toArray, List.set_cons_zero, List.set_cons_succ])
            obtain ⟨rfl, hb⟩ := hR
            replace hS := hS.trans (hb.mono hS.size)
            replace A1 := Lib.hid (A1.out.below hb)
            clear hb
            rw [HV.out]
            refine wpAnyL_call 8 (by kernel_rfl) rfl rfl rfl (run_call2 enters_rroot rfl rfl rfl rfl) (calls_eq (CR.out _)) (fun v w h => hS.trans (h.2.mono hS.size)) (fun v e6 hR => ?_); (try simp only [Act.put, List.setIfInBounds_toArray, List.set_cons_zero, List.set_cons_succ])
            obtain ⟨rfl, hb⟩ := hR
            replace hS := hS.trans (hb.mono hS.size)
            replace A1 := Lib.hid (A1.out.below hb)
            clear hb
            refine wpAnyL_take 9 rfl rfl (by kernel_rfl) (by kernel_rfl) (by kernel_rfl) (fun _ _ _ h => h) rfl (fun V hV => run_mv (v := .tuple #[feV rn, .bool ok]) rfl rfl) hS ?_; (try simp only [Act.put, List.setIfInBounds_toArray, List.set_cons_zero, List.set_cons_succ])
            refine wpAnyL_take 10 rfl rfl (by kernel_rfl) (by kernel_rfl) (by kernel_rfl) (fun _ _ _ h => h) rfl (fun V hV => run_extract (i := 0) (v := feV rn) rfl rfl rfl) hS ?_; (try simp only [Act.put, List.setIfInBounds_toArray, List.set_cons_zero, List.set_cons_succ])
            refine wpAnyL_take 11 rfl rfl (by kernel_rfl) (by kernel_rfl) (by kernel_rfl) (fun _ _ _ h => h) rfl (fun V hV => run_extract (i := 1) (v := .bool ok) rfl rfl rfl) hS ?_; (try simp only [Act.put, List.setIfInBounds_toArray, List.set_cons_zero, List.set_cons_succ])
            refine wpAnyL_skip 13 (by kernel_rfl) rfl rfl rfl (run_stM (vs := feL rn) rfl (szFe _) rfl rfl (oneFe _) A1.out.there) (below_setCells hg _ _ hS) ?_
            replace hS := below_setCells hg (feL rn) 0 hS
            replace A1 := Lib.hid (A1.out.put (l' := feL rn) rfl)
            generalize e6.setCells g 0 (feL rn) = cz at *
            refine wpAnyL_take 14 rfl rfl (by kernel_rfl) (by kernel_rfl) (by kernel_rfl) (fun _ _ _ h => h) rfl (fun V hV => run_asg (v := .bool ok) rfl rfl) hS ?_; (try simp only [Act.put, List.setIfInBounds_toArray, List.set_cons_zero, List.set_cons_succ])
            refine wpAnyL_done (by kernel_rfl) ?_ _; refine NoPanic.normal ?_
            go_wp2_with fail
            go_meet
            exact ⟨g, rfl, rfl, hM.out.add hS hg A1.out⟩
        · refine wpOp_val 12 rfl rfl rfl (run_alc (vs := zq 4) rfl (by kernel_rfl)) ?_; (try simp only [Act.put, List.setIfInBounds_toArray, List.set_cons_zero, List.set_cons_succ])
          have hg := hS.size
          have A1 := Lib.hid (Arr.new c2 (zq 4) 31)
          replace hS := hS.alloc hg (.cells (zq 4).toArray 31)
          generalize c2.alloc (.cells (zq 4).toArray 31) = d2 at *
          generalize c2.heap.size = g at *
          refine ⟨hS, ?_⟩
          refine wpAnyL_call 3 (by kernel_rfl) rfl rfl rfl (run_call0 enters_edd rfl rfl) (calls_eq (edd_any _)) (fun v w h => hS.trans (h.2.mono hS.size)) (fun v e2 hR => ?_); (try simp only [Act.put, List.setIfInBounds_toArray, List.set_cons_zero, List.set_cons_succ])
          obtain ⟨rfl, hb⟩ := hR
          replace hS := hS.trans (hb.mono hS.size)
          replace A1 := Lib.hid (A1.out.below hb)
          clear hb
          refine wpAnyL_call 5 (by kernel_rfl) rfl rfl rfl (run_call2 enters_emul rfl rfl rfl rfl) (calls_eq (emul_any dd yy _ num_dd hyy)) (fun v w h => hS.trans (h.2.mono hS.size)) (fun v e3 hR => ?_); (try simp only [Act.put, List.setIfInBounds_toArray, List.set_cons_zero, List.set_cons_succ])
          obtain ⟨rfl, hb⟩ := hR
          replace hS := hS.trans (hb.mono hS.size)
          replace A1 := Lib.hid (A1.out.below hb)
          clear hb
          refine wpAnyL_call 6 (by kernel_rfl) rfl rfl rfl (run_call0 enters_eone rfl rfl) (calls_eq (eone_any _)) (fun v w h => hS.trans (h.2.mono hS.size)) (fun v e4 hR => ?_); (try simp only [Act.put, List.setIfInBounds_toArray, List.set_cons_zero, List.set_cons_succ])
          obtain ⟨rfl, hb⟩ := hR
          replace hS := hS.trans (hb.mono hS.size)
          replace A1 := Lib.hid (A1.out.below hb)
          clear hb
          refine wpAnyL_call 7 (by kernel_rfl) rfl rfl rfl (run_call2 enters_eadd rfl rfl rfl rfl) (calls_eq (eadd_any (dd * yy % pp) 1 _ (num_emod_pp _) num_1)) (fun v w h => hS.trans (h.2.mono hS.size)) (fun v e5 hR => ?_); (try simp only [Act.put, List.setIfInBounds_toArray, List.set_cons_zero, List.set_cons_succ])
          obtain ⟨rfl, hb⟩ := hR
          replace hS := hS.trans (hb.mono hS.size)
          replace A1 := Lib.hid (A1.out.below hb)
          clear hb
          rw [HV.out]
          refine wpAnyL_call 8 (by kernel_rfl) rfl rfl rfl (run_call2 enters_rroot rfl rfl rfl rfl) (calls_eq (CR.out _)) (fun v w h => hS.trans (h.2.mono hS.size)) (fun v e6 hR => ?_); (try simp only [Act.put, List.setIfInBounds_toArray, List.set_cons_zero, List.set_cons_succ])
          obtain ⟨rfl, hb⟩ := hR
          replace hS := hS.trans (hb.mono hS.size)
          replace A1 := Lib.hid (A1.out.below hb)
          clear hb
          refine wpAnyL_take 9 rfl rfl (by kernel_rfl) (by kernel_rfl) (by kernel_rfl) (fun _ _ _ h => h) rfl (fun V hV => run_mv (v := .tuple #[feV rn, .bool ok]) rfl rfl) hS ?_; (try simp only [Act.put, List.setIfInBounds_toArray, List.set_cons_zero, List.set_cons_succ])
          refine wpAnyL_take 10 rfl rfl (by kernel_rfl) (by kernel_rfl) (by kernel_rfl) (fun _ _ _ h => h) rfl (fun V hV => run_extract (i := 0) (v := feV rn) rfl rfl rfl) hS ?_; (try simp only [Act.put, List.setIfInBounds_toArray, List.set_cons_zero, List.set_cons_succ])
          refine wpAnyL_take 11 rfl rfl (by kernel_rfl) (by kernel_rfl) (by kernel_rfl) (fun _ _ _ h => h) rfl (fun V hV => run_extract (i := 1) (v := .bool ok) rfl rfl rfl) hS ?_; (try simp only [Act.put, List.setIfInBounds_toArray, List.set_cons_zero, List.set_cons_succ])
          refine wpAnyL_skip 13 (by kernel_rfl) rfl rfl rfl (run_stM (vs := feL rn) rfl (szFe _) rfl rfl (oneFe _) A1.out.there) (below_setCells hg _ _ hS) ?_
          replace hS := below_setCells hg (feL rn) 0 hS
          replace A1 := Lib.hid (A1.out.put (l' := feL rn) rfl)
          generalize e6.setCells g 0 (feL rn) = cz at *
          refine wpAnyL_take 14 rfl rfl (by kernel_rfl) (by kernel_rfl) (by kernel_rfl) (fun _ _ _ h => h) rfl (fun V hV => run_asg (v := .bool ok) rfl rfl) hS ?_; (try simp only [Act.put, List.setIfInBounds_toArray, List.set_cons_zero, List.set_cons_succ])
          refine wpAnyL_done (by kernel_rfl) ?_ _; refine NoPanic.normal ?_
          go_wp2_with fail
          go_meet
          exact ⟨g, rfl, rfl, hM.out.add hS hg A1.out⟩
      · refine wpOp_val 12 rfl rfl rfl (run_alc (vs := zq 4) rfl (by kernel_rfl)) ?_; (try simp only [Act.put, List.setIfInBounds_toArray, List.set_cons_zero, List.set_cons_succ])
        have hg := hS.size
        have A1 := Lib.hid (Arr.new c1 (zq 4) 31)
        replace hS := hS.alloc hg (.cells (zq 4).toArray 31)
        generalize c1.alloc (.cells (zq 4).toArray 31) = d1 at *
        generalize c1.heap.size = g at *
        refine ⟨hS, ?_⟩
        refine wpAnyL_call 2 (by kernel_rfl) rfl rfl rfl (run_call2 enters_esub rfl rfl rfl rfl) (calls_eq (esub_any yy 1 _ hyy num_1)) (fun v w h => hS.trans (h.2.mono hS.size)) (fun v e1 hR => ?_); (try simp only [Act.put, List.setIfInBounds_toArray, List.set_cons_zero, List.set_cons_succ])
        obtain ⟨rfl, hb⟩ := hR
        replace hS := hS.trans (hb.mono hS.size)
        replace A1 := Lib.hid (A1.out.below hb)
        clear hb
        rw [HU.out]
        refine wpAnyL_call 3 (by kernel_rfl) rfl rfl rfl (run_call0 enters_edd rfl rfl) (calls_eq (edd_any _)) (fun v w h => hS.trans (h.2.mono hS.size)) (fun v e2 hR => ?_); (try simp only [Act.put, List.setIfInBounds_toArray, List.set_cons_zero, List.set_cons_succ])
        obtain ⟨rfl, hb⟩ := hR
        replace hS := hS.trans (hb.mono hS.size)
        replace A1 := Lib.hid (A1.out.below hb)
        clear hb
        refine wpAnyL_call 5 (by kernel_rfl) rfl rfl rfl (run_call2 enters_emul rfl rfl rfl rfl) (calls_eq (emul_any dd yy _ num_dd hyy)) (fun v w h => hS.trans (h.2.mono hS.size)) (fun v e3 hR => ?_); (try simp only [Act.put, List.setIfInBounds_toArray, List.set_cons_zero, List.set_cons_succ])
        obtain ⟨rfl, hb⟩ := hR
        replace hS := hS.trans (hb.mono hS.size)
        replace A1 := Lib.hid (A1.out.below hb)
        clear hb
        refine wpAnyL_call 6 (by kernel_rfl) rfl rfl rfl (run_call0 enters_eone rfl rfl) (calls_eq (eone_any _)) (fun v w h => hS.trans (h.2.mono hS.size)) (fun v e4 hR => ?_); (try simp only [Act.put, List.setIfInBounds_toArray, List.set_cons_zero, List.set_cons_succ])
        obtain ⟨rfl, hb⟩ := hR
        replace hS := hS.trans (hb.mono hS.size)
        replace A1 := Lib.hid (A1.out.below hb)
        clear hb
        refine wpAnyL_call 7 (by kernel_rfl) rfl rfl rfl (run_call2 enters_eadd rfl rfl rfl rfl) (calls_eq (eadd_any (dd * yy % pp) 1 _ (num_emod_pp _) num_1)) (fun v w h => hS.trans (h.2.mono hS.size)) (fun v e5 hR => ?_); (try simp only [Act.put, List.setIfInBounds_toArray, List.set_cons_zero, List.set_cons_succ])
        obtain ⟨rfl, hb⟩ := hR
        replace hS := hS.trans (hb.mono hS.size)
        replace A1 := Lib.hid (A1.out.below hb)
        clear hb
        rw [HV.out]
        refine wpAnyL_call 8 (by kernel_rfl) rfl rfl rfl (run_call2 enters_rroot rfl rfl rfl rfl) (calls_eq (CR.out _)) (fun v w h => hS.trans (h.2.mono hS.size)) (fun v e6 hR => ?_); (try simp only [Act.put, List.setIfInBounds_toArray, List.set_cons_zero, List.set_cons_succ])
        obtain ⟨rfl, hb⟩ := hR
        replace hS := hS.trans (hb.mono hS.size)
        replace A1 := Lib.hid (A1.out.below hb)
        clear hb
        refine wpAnyL_take 9 rfl rfl (by kernel_rfl) (by kernel_rfl) (by kernel_rfl) (fun _ _ _ h => h) rfl (fun V hV => run_mv (v := .tuple #[feV rn, .bool ok]) rfl rfl) hS ?_; (try simp only [Act.put, List.setIfInBounds_toArray, List.set_cons_zero, List.set_cons_succ])
        refine wpAnyL_take 10 rfl rfl (by kernel_rfl) (by kernel_rfl) (by kernel_rfl) (fun _ _ _ h => h) rfl (fun V hV => run_extract (i := 0) (v := feV rn) rfl rfl rfl) hS ?_; (try simp only [Act.put, List.setIfInBounds_toArray, List.set_cons_zero, List.set_cons_succ])
        refine wpAnyL_take 11 rfl rfl (by kernel_rfl) (by kernel_rfl) (by kernel_rfl) (fun _ _ _ h => h) rfl (fun V hV => run_extract (i := 1) (v := .bool ok) rfl rfl rfl) hS ?_; (try simp only [Act.put, List.setIfInBounds_toArray, List.set_cons_zero, List.set_cons_succ])
        refine wpAnyL_skip 13 (by kernel_rfl) rfl rfl rfl (run_stM (vs := feL rn) rfl (szFe _) rfl rfl (oneFe _) A1.out.there) (below_setCells hg _ _ hS) ?_
        replace hS := below_setCells hg (feL rn) 0 hS
        replace A1 := Lib.hid (A1.out.put (l' := feL rn) rfl)
        generalize e6.setCells g 0 (feL rn) = cz at *
        refine wpAnyL_take 14 rfl rfl (by kernel_rfl) (by kernel_rfl) (by kernel_rfl) (fun _ _ _ h => h) rfl (fun V hV => run_asg (v := .bool ok) rfl rfl) hS ?_; (try simp only [Act.put, List.setIfInBounds_toArray, List.set_cons_zero, List.set_cons_succ])
        refine wpAnyL_done (by kernel_rfl) ?_ _; refine NoPanic.normal ?_
        go_wp2_with fail
        go_meet
        exact ⟨g, rfl, rfl, hM.out.add hS hg A1.out⟩
    · refine wpOp_val 12 rfl rfl rfl (run_alc (vs := zq 4) rfl (by kernel_rfl)) ?_; (try simp only [Act.put, List.setIfInBounds_toArray, List.set_cons_zero, List.set_cons_succ])
      have hg := hS.size
      have A1 := Lib.hid (Arr.new a6.drew (zq 4) 31)
      replace hS := hS.alloc hg (.cells (zq 4).toArray 31)
      generalize a6.drew.alloc (.cells (zq 4).toArray 31) = d0 at *
      generalize a6.drew.heap.size = g at *
      refine ⟨hS, ?_⟩
      refine wpAnyL_call 1 (by kernel_rfl) rfl rfl rfl (run_call0 enters_eone rfl rfl) (calls_eq (eone_any _)) (fun v w h => hS.trans (h.2.mono hS.size)) (fun v e0 hR => ?_); (try simp only [Act.put, List.setIfInBounds_toArray, List.set_cons_zero, List.set_cons_succ])
      obtain ⟨rfl, hb⟩ := hR
      replace hS := hS.trans (hb.mono hS.size)
      replace A1 := Lib.hid (A1.out.below hb)
      clear hb
      refine wpAnyL_call 2 (by kernel_rfl) rfl rfl rfl (run_call2 enters_esub rfl rfl rfl rfl) (calls_eq (esub_any yy 1 _ hyy num_1)) (fun v w h => hS.trans (h.2.mono hS.size)) (fun v e1 hR => ?_); (try simp only [Act.put, List.setIfInBounds_toArray, List.set_cons_zero, List.set_cons_succ])
      obtain ⟨rfl, hb⟩ := hR
      replace hS := hS.trans (hb.mono hS.size)
      replace A1 := Lib.hid (A1.out.below hb)
      clear hb
      rw [HU.out]
      refine wpAnyL_call 3 (by kernel_rfl) rfl rfl rfl (run_call0 enters_edd rfl rfl) (calls_eq (edd_any _)) (fun v w h => hS.trans (h.2.mono hS.size)) (fun v e2 hR => ?_); (try simp only [Act.put, List.setIfInBounds_toArray, List.set_cons_zero, List.set_cons_succ])
      obtain ⟨rfl, hb⟩ := hR
      replace hS := hS.trans (hb.mono hS.size)
      replace A1 := Lib.hid (A1.out.below hb)
      clear hb
      refine wpAnyL_call 5 (by kernel_rfl) rfl rfl rfl (run_call2 enters_emul rfl rfl rfl rfl) (calls_eq (emul_any dd yy _ num_dd hyy)) (fun v w h => hS.trans (h.2.mono hS.size)) (fun v e3 hR => ?_); (try simp only [Act.put, List.setIfInBounds_toArray, List.set_cons_zero, List.set_cons_succ])
      obtain ⟨rfl, hb⟩ := hR
      replace hS := hS.trans (hb.mono hS.size)
      replace A1 := Lib.hid (A1.out.below hb)
      clear hb
      refine wpAnyL_call 6 (by kernel_rfl) rfl rfl rfl (run_call0 enters_eone rfl rfl) (calls_eq (eone_any _)) (fun v w h => hS.trans (h.2.mono hS.size)) (fun v e4 hR => ?_); (try simp only [Act.put, List.setIfInBounds_toArray, List.set_cons_zero, List.set_cons_succ])
      obtain ⟨rfl, hb⟩ := hR
      replace hS := hS.trans (hb.mono hS.size)
      replace A1 := Lib.hid (A1.out.below hb)
      clear hb
      refine wpAnyL_call 7 (by kernel_rfl) rfl rfl rfl (run_call2 enters_eadd rfl rfl rfl rfl) (calls_eq (eadd_any (dd * yy % pp) 1 _ (num_emod_pp _) num_1)) (fun v w h => hS.trans (h.2.mono hS.size)) (fun v e5 hR => ?_); (try simp only [Act.put, List.setIfInBounds_toArray, List.set_cons_zero, List.set_cons_succ])
      obtain ⟨rfl, hb⟩ := hR
      replace hS := hS.trans (hb.mono hS.size)
      replace A1 := Lib.hid (A1.out.below hb)
      clear hb
      rw [HV.out]
      refine wpAnyL_call 8 (by kernel_rfl) rfl rfl rfl (run_call2 enters_rroot rfl rfl rfl rfl) (calls_eq (CR.out _)) (fun v w h => hS.trans (h.2.mono hS.size)) (fun v e6 hR => ?_); (try simp only [Act.put, List.setIfInBounds_toArray, List.set_cons_zero, List.set_cons_succ])
      obtain ⟨rfl, hb⟩ := hR
      replace hS := hS.trans (hb.mono hS.size)
      replace A1 := Lib.hid (A1.out.below hb)
      clear hb
      refine wpAnyL_take 9 rfl rfl (by kernel_rfl) (by kernel_rfl) (by kernel_rfl) (fun _ _ _ h => h) rfl (fun V hV => run_mv (v := .tuple #[feV rn, .bool ok]) rfl rfl) hS ?_; (try simp only [Act.put, List.setIfInBounds_toArray, List.set_cons_zero, List.set_cons_succ])
      refine wpAnyL_take 10 rfl rfl (by kernel_rfl) (by kernel_rfl) (by kernel_rfl) (fun _ _ _ h => h) rfl (fun V hV => run_extract (i := 0) (v := feV rn) rfl rfl rfl) hS ?_; (try simp only [Act.put, List.setIfInBounds_toArray, List.set_cons_zero, List.set_cons_succ])
      refine wpAnyL_take 11 rfl rfl (by kernel_rfl) (by kernel_rfl) (by kernel_rfl) (fun _ _ _ h => h) rfl (fun V hV => run_extract (i := 1) (v := .bool ok) rfl rfl rfl) hS ?_; (try simp only [Act.put, List.setIfInBounds_toArray, List.set_cons_zero, List.set_cons_succ])
      refine wpAnyL_skip 13 (by kernel_rfl) rfl rfl rfl (run_stM (vs := feL rn) rfl (szFe _) rfl rfl (oneFe _) A1.out.there) (below_setCells hg _ _ hS) ?_
      replace hS := below_setCells hg (feL rn) 0 hS
      replace A1 := Lib.hid (A1.out.put (l' := feL rn) rfl)
      generalize e6.setCells g 0 (feL rn) = cz at *
      refine wpAnyL_take 14 rfl rfl (by kernel_rfl) (by kernel_rfl) (by kernel_rfl) (fun _ _ _ h => h) rfl (fun V hV => run_asg (v := .bool ok) rfl rfl) hS ?_; (try simp only [Act.put, List.setIfInBounds_toArray, List.set_cons_zero, List.set_cons_succ])
      refine wpAnyL_done (by kernel_rfl) ?_ _; refine NoPanic.normal ?_
      go_wp2_with fail
      go_meet
      exact ⟨g, rfl, rfl, hM.out.add hS hg A1.out⟩
  case rest =>
    obtain ⟨g5, rfl, rfl, hM5⟩ := hcut
    replace hM := Lib.hid hM5
    clear hM5
    generalize hw7 : wc = a7 at *
    clear hw7
    cases ok
    · have hres := R0.out rfl
      subst hres
      go_upto_region 4 with fail; refine wp_region_lit ?_
      refine wpList_val (run_mv (v := .bool _) rfl rfl) rfl ?_; (try simp only [Act.put, List.setIfInBounds_toArray, List.set_cons_zero, List.set_cons_succ])
      refine wpList_val (run_notB rfl rfl) rfl ?_; (try simp only [Act.put, List.setIfInBounds_toArray, List.set_cons_zero, List.set_cons_succ])
      refine wpList_end ?_
      go_upto_region 5 with fail; refine wp_region_lit ?_
      refine wpList_val (run_bld0 (cells := (ptL zPt).toArray) rfl built_pt0) rfl ?_; (try simp only [Act.put, List.setIfInBounds_toArray, List.set_cons_zero, List.set_cons_succ])
      refine wpList_skip (run_stM (vs := ptL zPt) rfl (szPt _) rfl rfl (onePt _) ((hM.out.get (i := 3) rfl).there)) rfl rfl ?_; replace hM := Lib.hid (hM.out.put 3 rfl (m := ptL zPt) rfl); generalize a7.setCells g2 0 (ptL zPt) = cz at *
      refine wpList_val (run_asg (v := .bool _) rfl rfl) rfl ?_; (try simp only [Act.put, List.setIfInBounds_toArray, List.set_cons_zero, List.set_cons_succ])
      refine wpList_end ?_
      go_wp2_with fail
      exact bodyPost_ret (v := .tuple #[.agg (ptL zPt).toArray, .bool false]) (results_rowT Tryd.results8 rfl Tryd.underlying33 rfl (szPt _) (hM.out.get (i := 3) rfl).range) rfl ⟨rfl, hM.out.bl⟩
    · go_upto_region 4 with fail; refine wp_region_lit ?_
      refine wpList_val (run_mv (v := .bool _) rfl rfl) rfl ?_; (try simp only [Act.put, List.setIfInBounds_toArray, List.set_cons_zero, List.set_cons_succ])
      refine wpList_val (run_notB rfl rfl) rfl ?_; (try simp only [Act.put, List.setIfInBounds_toArray, List.set_cons_zero, List.set_cons_succ])
      refine wpList_end ?_
      go_upto_region 6 with fail; refine wp_region_lit ?_
      refine wpList_val (run_ldM (vs := feL rn) rfl Tryd.underlying31 rfl (szFe _) rfl ((hM.out.get (i := 0) rfl).range)) rfl ?_; (try simp only [Act.put, List.setIfInBounds_toArray, List.set_cons_zero, List.set_cons_succ])
      refine wpList_val (run_ldM (vs := feL Y) rfl Tryd.underlying31 rfl (szFe _) rfl ((hM.out.get (i := 2) rfl).range)) rfl ?_; (try simp only [Act.put, List.setIfInBounds_toArray, List.set_cons_zero, List.set_cons_succ])
      refine wpList_val (run_bld2 rfl rfl rfl (built_pt rn Y)) rfl ?_; (try simp only [Act.put, List.setIfInBounds_toArray, List.set_cons_zero, List.set_cons_succ])
      rw [EP.out]
      refine wpList_val (run_alc (vs := zq 8) rfl (by kernel_rfl)) rfl ?_; (try simp only [Act.put, List.setIfInBounds_toArray, List.set_cons_zero, List.set_cons_succ]); replace hM := Lib.hid (hM.out.new (zq 8) 33); generalize a7.alloc (.cells (zq 8).toArray 33) = a8 at *; generalize a7.heap.size = g6 at *
      refine wpList_skip (run_stM (vs := ptL ep) rfl (szPt _) rfl rfl (onePt _) ((hM.out.get (i := 0) rfl).there)) rfl rfl ?_; replace hM := Lib.hid (hM.out.put 0 rfl (m := ptL ep) rfl); generalize a8.setCells g6 0 (ptL ep) = a9 at *
      refine wpList_end ?_
      go_upto_region 7 with fail; refine wp_region_calm 4 (by kernel_rfl) (by kernel_rfl) ?_
      refine wpCalm_step _ (fun V hV => calm_run (run_ldM (vs := ptL ep) rfl Tryd.underlying33 rfl (szPt _) rfl (((hM.out.below hV).get (i := 0) rfl).range))) ?_; (try simp only [Act.put, List.setIfInBounds_toArray, List.set_cons_zero, List.set_cons_succ])
      refine wpCalm_step _ (fun V hV => calm_enter (run_call1 enters_eencode rfl rfl rfl) (C7.out V)) ?_; (try simp only [Act.put, List.setIfInBounds_toArray, List.set_cons_zero, List.set_cons_succ])
      refine wpCalm_step _ (fun V hV => calm_run (run_ldM (vs := l.map b8) rfl Tryd.underlying23 rfl SK.out rfl ((hM.out.below hV).get (i := 5) rfl).range)) ?_; (try simp only [Act.put, List.setIfInBounds_toArray, List.set_cons_zero, List.set_cons_succ])
      refine wpCalm_step _ (fun V hV => calm_run (run_eqKyB (c := c1) s1 hl rfl rfl rfl Q1.out)) ?_; (try simp only [Act.put, List.setIfInBounds_toArray, List.set_cons_zero, List.set_cons_succ])
      refine wpCalm_done ?_; intro a10 hb; simp only [List.drop_succ_cons, List.drop_zero]
      replace hM := Lib.hid (hM.out.below hb)
      clear hb
      refine wpList_end ?_
      cases c1
      · go_upto_region 9 with fail; refine wp_region_sow1 4 33 (by kernel_rfl) rfl (by kernel_rfl) (alcPt) ?_
        refine wpCalm_step _ (fun V hV => calm_run (run_ldM (vs := feL rn) rfl Tryd.underlying31 rfl (szFe _) rfl (((hM.out.below hV).get (i := 1) rfl).range))) ?_; (try simp only [Act.put, List.setIfInBounds_toArray, List.set_cons_zero, List.set_cons_succ])
        refine wpCalm_step _ (fun V hV => calm_enter (run_call1 enters_rneg rfl rfl rfl) (rneg_any rn V hrnn)) ?_; (try simp only [Act.put, List.setIfInBounds_toArray, List.set_cons_zero, List.set_cons_succ])
        refine wpCalm_step _ (fun V hV => calm_run (run_ldM (vs := feL Y) rfl Tryd.underlying31 rfl (szFe _) rfl (((hM.out.below hV).get (i := 3) rfl).range))) ?_; (try simp only [Act.put, List.setIfInBounds_toArray, List.set_cons_zero, List.set_cons_succ])
        refine wpCalm_step _ (fun V hV => calm_run (run_bld2 rfl rfl rfl (built_pt (-rn % pp) Y))) ?_; (try simp only [Act.put, List.setIfInBounds_toArray, List.set_cons_zero, List.set_cons_succ])
        refine wpCalm_done ?_; intro g7 d1 hpb s1; simp only [List.drop_succ_cons, List.drop_zero, List.setIfInBounds_toArray, List.set_cons_zero, List.set_cons_succ]; replace hM := Lib.hid (hM.out.sow hpb s1); clear hpb s1
        rw [EO.out]
        refine wpList_skip (run_stM (vs := ptL ot) rfl (szPt _) rfl rfl (onePt _) ((hM.out.get (i := 0) rfl).there)) rfl rfl ?_; replace hM := Lib.hid (hM.out.put 0 rfl (m := ptL ot) rfl); generalize d1.setCells g7 0 (ptL ot) = d2 at *
        refine wpList_end ?_
        go_upto_region 10 with fail; refine wp_region_calm 4 (by kernel_rfl) (by kernel_rfl) ?_
        refine wpCalm_step _ (fun V hV => calm_run (run_ldM (vs := ptL ot) rfl Tryd.underlying33 rfl (szPt _) rfl (((hM.out.below hV).get (i := 0) rfl).range))) ?_; (try simp only [Act.put, List.setIfInBounds_toArray, List.set_cons_zero, List.set_cons_succ])
        refine wpCalm_step _ (fun V hV => calm_enter (run_call1 enters_eencode rfl rfl rfl) (C8.out V)) ?_; (try simp only [Act.put, List.setIfInBounds_toArray, List.set_cons_zero, List.set_cons_succ])
        refine wpCalm_step _ (fun V hV => calm_run (run_ldM (vs := l.map b8) rfl Tryd.underlying23 rfl SK.out rfl ((hM.out.below hV).get (i := 6) rfl).range)) ?_; (try simp only [Act.put, List.setIfInBounds_toArray, List.set_cons_zero, List.set_cons_succ])
        refine wpCalm_step _ (fun V hV => calm_run (run_eqKyB (c := c2) s2 hl rfl rfl rfl Q2.out)) ?_; (try simp only [Act.put, List.setIfInBounds_toArray, List.set_cons_zero, List.set_cons_succ])
        refine wpCalm_done ?_; intro d3 hb; simp only [List.drop_succ_cons, List.drop_zero]
        replace hM := Lib.hid (hM.out.below hb)
        clear hb
        refine wpList_end ?_
        cases c2
        · have hres := R3.out rfl rfl rfl
          subst hres
          go_upto_region 12 with fail; refine wp_region_lit ?_
          refine wpList_val (run_bld0 (cells := (ptL zPt).toArray) rfl built_pt0) rfl ?_; (try simp only [Act.put, List.setIfInBounds_toArray, List.set_cons_zero, List.set_cons_succ])
          refine wpList_skip (run_stM (vs := ptL zPt) rfl (szPt _) rfl rfl (onePt _) ((hM.out.get (i := 5) rfl).there)) rfl rfl ?_; replace hM := Lib.hid (hM.out.put 5 rfl (m := ptL zPt) rfl); generalize d3.setCells g2 0 (ptL zPt) = cz at *
          refine wpList_val (run_asg (v := .bool _) rfl rfl) rfl ?_; (try simp only [Act.put, List.setIfInBounds_toArray, List.set_cons_zero, List.set_cons_succ])
          refine wpList_end ?_
          go_wp2_with fail
          exact bodyPost_ret (v := .tuple #[.agg (ptL zPt).toArray, .bool false]) (results_rowT Tryd.results8 rfl Tryd.underlying33 rfl (szPt _) (hM.out.get (i := 5) rfl).range) rfl ⟨rfl, hM.out.bl⟩
        · have hres := R2.out rfl rfl rfl
          subst hres
          go_upto_region 11 with fail; refine wp_region_lit ?_
          refine wpList_val (run_ldM (vs := ptL ot) rfl Tryd.underlying33 rfl (szPt _) rfl ((hM.out.get (i := 0) rfl).range)) rfl ?_; (try simp only [Act.put, List.setIfInBounds_toArray, List.set_cons_zero, List.set_cons_succ])
          refine wpList_skip (run_stM (vs := ptL ot) rfl (szPt _) rfl rfl (onePt _) ((hM.out.get (i := 5) rfl).there)) rfl rfl ?_; replace hM := Lib.hid (hM.out.put 5 rfl (m := ptL ot) rfl); generalize d3.setCells g2 0 (ptL ot) = cz at *
          refine wpList_val (run_asg (v := .bool _) rfl rfl) rfl ?_; (try simp only [Act.put, List.setIfInBounds_toArray, List.set_cons_zero, List.set_cons_succ])
          refine wpList_end ?_
          go_wp2_with fail
          exact bodyPost_ret (v := .tuple #[.agg (ptL ot).toArray, .bool true]) (results_rowT Tryd.results8 rfl Tryd.underlying33 rfl (szPt _) (hM.out.get (i := 5) rfl).range) rfl ⟨rfl, hM.out.bl⟩
      · have hres := R1.out rfl rfl
        subst hres
        go_upto_region 8 with fail; refine wp_region_lit ?_
        refine wpList_val (run_ldM (vs := ptL ep) rfl Tryd.underlying33 rfl (szPt _) rfl ((hM.out.get (i := 0) rfl).range)) rfl ?_; (try simp only [Act.put, List.setIfInBounds_toArray, List.set_cons_zero, List.set_cons_succ])
        refine wpList_skip (run_stM (vs := ptL ep) rfl (szPt _) rfl rfl (onePt _) ((hM.out.get (i := 4) rfl).there)) rfl rfl ?_; replace hM := Lib.hid (hM.out.put 4 rfl (m := ptL ep) rfl); generalize a10.setCells g2 0 (ptL ep) = cz at *
        refine wpList_val (run_asg (v := .bool _) rfl rfl) rfl ?_; (try simp only [Act.put, List.setIfInBounds_toArray, List.set_cons_zero, List.set_cons_succ])
        refine wpList_end ?_
        go_wp2_with fail
        exact bodyPost_ret (v := .tuple #[.agg (ptL ep).toArray, .bool true]) (results_rowT Tryd.results8 rfl Tryd.underlying33 rfl (szPt _) (hM.out.get (i := 4) rfl).range) rfl ⟨rfl, hM.out.bl⟩
theorem enters_edecode : Enters 8 := enters_of Tryd.func8 (by kernel_rfl) rfl
end Go.Proofs.YtfdjmdfaidiliaaDoor
namespace Go.Proofs.YtfdjmdfaidiliaaDoor
open Go.RowKit
set_option maxRecDepth 20000

set_option maxHeartbeats 8000000 in
theorem signTwice_any (HP : PubC) (HS : SigC) (HV : VerC) (k : List (BitVec 8)) (vb : Value) (b : List (BitVec 8)) (w : World) (hk : k.length = 32) (hb : Sl vb b w) (hbl : b.length ≤ 140737488351232) (hW : W9 w) :
    Calls Tryd.prog 3 #[.agg (k.map b8).toArray, vb] w fun e w' => e = .returned (.bool true) ∧ Below w.heap.size w w' := by
  have HW := Lib.hid hW; clear hW
  have HB := Lib.hid hb
  obtain ⟨ab, cb, rfl, -, -⟩ := hb
  obtain ⟨G, hG⟩ : ∃ G, G = sigB k b := ⟨_, rfl⟩
  obtain ⟨F0, hF⟩ : ∃ F0, F0 = sgF k b := ⟨_, rfl⟩
  obtain ⟨S0, hS0⟩ : ∃ S0, S0 = sgS k b := ⟨_, rfl⟩
  obtain ⟨D, hD⟩ : ∃ D, D = pmul bs (leB (sgR k b)) := ⟨_, rfl⟩
  have lG : G.length = 64 := by rw [hG]; exact sigB_len k b
  have lF : F0.length = 32 := by rw [hF]; exact sgF_len k b
  have lS : S0.length = 32 := by rw [hS0]; exact sgS_len k b
  have nD : D.Nm := by rw [hD]; exact (pmul_ok _ _).nm
  have e1 : G.take 32 = F0 := by rw [hG, hF, sigB, List.take_left' (sgF_len _ _)]
  have e2 : G.drop 32 = S0 := by rw [hG, hS0, sigB, List.drop_left' (sgF_len _ _)]
  have ED : decR (leB F0) = (D, true) := by rw [hF, hD, sgF, dec_tmB]
  have EC : decide (leB S0 < ell) = true := by rw [hS0, sgS, leB_rest]; exact decide_eq_true (Nat.mod_lt _ ell_pos)
  have CS : Hid (∀ u : World, b.length ≤ 300 → Sl (.slice ab b.length cb) b u → W9 u → Calls Tryd.prog 7 #[.agg (k.map b8).toArray, .slice ab b.length cb] u fun e w' => e = .returned (.agg (G.map b8).toArray) ∧ Below u.heap.size u w') := Lib.hid fun u h0 h1 h2 => by rw [hG]; exact HS k _ b u hk h1 h0 h2
  have CD : Hid (∀ u : World, Calls Tryd.prog 8 #[.agg (F0.map b8).toArray] u fun e w' => e = .returned (.tuple #[.agg (ptL D).toArray, .bool true]) ∧ Below u.heap.size u w') := Lib.hid fun u => by
    have h := edecode_any F0 u lF
    rw [ED] at h
    exact h
  have CC : Hid (∀ u : World, W9 u → Calls Tryd.prog 10 #[.agg (S0.map b8).toArray] u fun e w' => e = .returned (.bool true) ∧ Below u.heap.size u w') := Lib.hid fun u h0 => by rw [← EC]; exact scanon_any S0 u lS h0.s
  clear hG hF hS0 hD ED EC
  have SK := Lib.hid (szKy hk)
  have SG := Lib.hid (szSg lG)
  have LG : Hid ((G.map b8).length = (z8 64).length) := Lib.hid (by rw [List.length_map, lG]; rfl)
  have hM := Lib.hid (Mv.nil w)
  go_enter Tryd.func3, Tryd.ntmps3
  go_upto_region 0 with fail; refine wp_region_lit ?_
  refine wpList_val (run_boxL8 (vs := k.map b8) rfl rfl) rfl ?_; (try simp only [Act.put, List.setIfInBounds_toArray, List.set_cons_zero, List.set_cons_succ]); replace hM := Lib.hid (hM.out.new (k.map b8) 23); generalize w.alloc (.cells (k.map b8).toArray 23) = a1 at *; generalize w.heap.size = g1 at *
  refine wpList_val (run_asg (v := .bool false) rfl rfl) rfl ?_; (try simp only [Act.put, List.setIfInBounds_toArray, List.set_cons_zero, List.set_cons_succ])
  refine wpList_end ?_
  go_upto_region 1 with fail; refine wp_region_lit ?_
  refine wpList_val (run_mv (v := .slice _ _ _) rfl rfl) rfl ?_; (try simp only [Act.put, List.setIfInBounds_toArray, List.set_cons_zero, List.set_cons_succ])
  refine wpList_val (run_len rfl Tryd.underlying24 rfl) rfl ?_; (try simp only [Act.put, List.setIfInBounds_toArray, List.set_cons_zero, List.set_cons_succ])
  by_cases hlt : 300 < b.length
  · refine wpList_val (run_gtrb (c := true) rfl rfl rfl (decide_eq_true (by omega))) rfl ?_; (try simp only [Act.put, List.setIfInBounds_toArray, List.set_cons_zero, List.set_cons_succ])
    refine wpList_end ?_
    go_upto_region 2 with fail; refine wp_region_lit ?_
    refine wpList_enter (run_call0 enters_known9 rfl rfl) rfl (known9_any HP HV _ (HW.out.below hM.out.bl)) (fun a3 hb3 => ?_); (try simp only [Act.put, List.setIfInBounds_toArray, List.set_cons_zero, List.set_cons_succ])
    refine wpList_val (run_asg (v := .bool true) rfl rfl) rfl ?_; (try simp only [Act.put, List.setIfInBounds_toArray, List.set_cons_zero, List.set_cons_succ])
    refine wpList_end ?_
    replace hM := Lib.hid (hM.out.below hb3)
    go_wp2_with fail
    go_ret
    exact ⟨rfl, hM.out.bl⟩
  · refine wpList_val (run_gtrb (c := false) rfl rfl rfl (decide_eq_false (by omega))) rfl ?_; (try simp only [Act.put, List.setIfInBounds_toArray, List.set_cons_zero, List.set_cons_succ])
    refine wpList_end ?_
    go_upto_region 3 with fail; refine wp_region_lit ?_
    refine wpList_val (run_ldM (vs := k.map b8) rfl Tryd.underlying23 rfl SK.out rfl ((hM.out.get (i := 0) rfl).range)) rfl ?_; (try simp only [Act.put, List.setIfInBounds_toArray, List.set_cons_zero, List.set_cons_succ])
    refine wpList_val (run_mv (v := .slice ab b.length cb) rfl rfl) rfl ?_; (try simp only [Act.put, List.setIfInBounds_toArray, List.set_cons_zero, List.set_cons_succ])
    refine wpList_enter (run_call2 enters_ssign rfl rfl rfl rfl) rfl (CS.out _ (by omega) (HB.out.below hM.out.bl) (HW.out.below hM.out.bl)) (fun a3 hb => ?_); (try simp only [Act.put, List.setIfInBounds_toArray, List.set_cons_zero, List.set_cons_succ]); replace hM := Lib.hid (hM.out.below hb); clear hb
    refine wpList_val (run_alc (vs := z8 64) rfl (by kernel_rfl)) rfl ?_; (try simp only [Act.put, List.setIfInBounds_toArray, List.set_cons_zero, List.set_cons_succ]); replace hM := Lib.hid (hM.out.new (z8 64) 27); generalize a3.alloc (.cells (z8 64).toArray 27) = a4 at *; generalize a3.heap.size = g2 at *
    refine wpList_skip (run_stM (vs := G.map b8) rfl SG.out rfl rfl (one8s _) (by rw [LG.out]; exact (hM.out.get (i := 0) rfl).there)) rfl rfl ?_; replace hM := Lib.hid (hM.out.put 0 rfl (m := G.map b8) (LG.out))
    refine wpList_end ?_
    generalize a4.setCells g2 0 (G.map b8) = r at *
    go_upto_region 4 with fail; refine wp_region_lit ?_
    refine wpList_val (run_asg (v := .slice _ _ _) rfl rfl) rfl ?_; (try simp only [Act.put, List.setIfInBounds_toArray, List.set_cons_zero, List.set_cons_succ])
    refine wpList_end ?_
    go_upto_region 5 with fail; refine wp_region_lit ?_
    refine wpList_val (run_asg (v := .slice _ _ _) rfl rfl) rfl ?_; (try simp only [Act.put, List.setIfInBounds_toArray, List.set_cons_zero, List.set_cons_succ])
    refine wpList_end ?_
    go_upto_region 6 with fail; refine wp_region_lit ?_
    refine wpList_val (run_asg (v := .int _ _) rfl rfl) rfl ?_; (try simp only [Act.put, List.setIfInBounds_toArray, List.set_cons_zero, List.set_cons_succ])
    refine wpList_end ?_
    go_wp2_with fail
    have hI : Hid (HvR r G 0 (.slice none 0 0) (.slice none 0 0) r) := Lib.hid ⟨Below.refl _ _, World.ownsRow_nil _ _ _ _, World.ownsRow_nil _ _ _ _, Apart.nil _⟩
    go_loopw [6, 7, 8] (fun s6 s7 s8 u => ∃ j : Nat, j ≤ 32 ∧ s8 = .int .i64 (j : Int) ∧ HvR r G j s6 s7 u) (fun _ _ s8 _ => (32 - intOf s8).toNat)
    case atStart => exact ⟨0, by omega, rfl, hI.out⟩
    case round =>
      obtain ⟨j, hj, rfl, hJ⟩ := hrel
      replace hI := Lib.hid hJ
      clear hJ
      by_cases hlt : j = 32
      · subst hlt
        have hk1 : ¬ (((32 : Nat) : Int) < 32) := by omega
        have h1 := hI.out.O
        have h2 := hI.out.O2
        rw [List.take_of_length_le (l := G.drop 32) (by rw [List.length_drop]; omega)] at h2
        have H1 : Hid (Sl u6 F0 wr) := Lib.hid (by rw [← e1]; exact Sl.own (base := r.heap.size) (by rw [List.length_take, lG]; exact h1))
        have H2 : Hid (Sl u7 S0 wr) := Lib.hid (by rw [← e2]; exact Sl.own (base := r.heap.size) (by rw [List.length_drop, lG]; exact h2))
        have hM5 := Lib.hid (hM.out.below hI.out.bl)
        clear h1 h2 hI
        generalize hv2 : u7 = v2 at *
        clear hv2
        replace hM := Lib.hid (Mv.nil wr)
        go_upto_region 11 with fail; refine wp_region_lit ?_
        refine wpList_val (run_mv (v := u6) rfl rfl) rfl ?_; (try simp only [Act.put, List.setIfInBounds_toArray, List.set_cons_zero, List.set_cons_succ])
        refine wpList_enter (run_call1 enters_rkeyG rfl rfl rfl) rfl (rkeyG_any u6 F0 _ H1.out lF) (fun d1 hb => ?_); (try simp only [Act.put, List.setIfInBounds_toArray, List.set_cons_zero, List.set_cons_succ]); replace hM := Lib.hid (hM.out.below hb); clear hb
        refine wpList_enter (run_call1 enters_edecode rfl rfl rfl) rfl (CD.out _) (fun d2 hb => ?_); (try simp only [Act.put, List.setIfInBounds_toArray, List.set_cons_zero, List.set_cons_succ]); replace hM := Lib.hid (hM.out.below hb); clear hb
        refine wpList_val (run_mv (v := .tuple _) rfl rfl) rfl ?_; (try simp only [Act.put, List.setIfInBounds_toArray, List.set_cons_zero, List.set_cons_succ])
        refine wpList_val (run_xtr (v := .agg (ptL D).toArray) rfl rfl rfl) rfl ?_; (try simp only [Act.put, List.setIfInBounds_toArray, List.set_cons_zero, List.set_cons_succ])
        refine wpList_val (run_xtr (v := .bool true) rfl rfl rfl) rfl ?_; (try simp only [Act.put, List.setIfInBounds_toArray, List.set_cons_zero, List.set_cons_succ])
        refine wpList_val (run_alc (vs := zq 8) rfl (by kernel_rfl)) rfl ?_; (try simp only [Act.put, List.setIfInBounds_toArray, List.set_cons_zero, List.set_cons_succ]); replace hM := Lib.hid (hM.out.new (zq 8) 33); generalize d2.alloc (.cells (zq 8).toArray 33) = d3 at *; generalize d2.heap.size = g3 at *
        refine wpList_skip (run_stM (vs := ptL D) rfl (szPt _) rfl rfl (onePt _) ((hM.out.get (i := 0) rfl).there)) rfl rfl ?_; replace hM := Lib.hid (hM.out.put 0 rfl (m := ptL D) rfl); generalize d3.setCells g3 0 (ptL D) = d4 at *
        refine wpList_val (run_asg (v := .bool true) rfl rfl) rfl ?_; (try simp only [Act.put, List.setIfInBounds_toArray, List.set_cons_zero, List.set_cons_succ])
        refine wpList_end ?_
        replace H2 := Lib.hid (H2.out.below hM.out.bl)
        replace hM := Lib.hid (hM5.out.below hM.out.bl)
        clear hM5 H1
        go_upto_region 12 with fail
        refine wp_region_noPanic ?_; refine wp_region_late (S := fun _ V => Below d4.heap.size d4 V) (by kernel_rfl) ((Below.refl _ _).drew) (fun hS => ?_)
        refine wpAnyL_call 0 (by kernel_rfl) rfl rfl rfl (run_call0 enters_known9 rfl rfl) (calls_eq (known9_any HP HV _ (HW.out.below (hM.out.below hS).bl))) (fun v w h => hS.trans (h.2.mono hS.size)) (fun v wl1 hR => ?_); (try simp only [Act.put, List.setIfInBounds_toArray, List.set_cons_zero, List.set_cons_succ]); obtain ⟨rfl, hb⟩ := hR; replace hS := hS.trans (hb.mono hS.size); clear hb
        refine wpAnyL_take 1 rfl rfl (by kernel_rfl) (by kernel_rfl) (by kernel_rfl) (fun _ _ _ h => h) rfl (fun V hV => run_mv (v := .bool true) rfl rfl) hS ?_; (try simp only [Act.put, List.setIfInBounds_toArray, List.set_cons_zero, List.set_cons_succ])
        refine wpAnyL_take 2 rfl rfl (by kernel_rfl) (by kernel_rfl) (by kernel_rfl) (fun _ _ _ h => h) rfl (fun V hV => run_ldM (vs := k.map b8) rfl Tryd.underlying23 rfl SK.out rfl (((hM.out.below hV).get (i := 1) rfl).range)) hS ?_; (try simp only [Act.put, List.setIfInBounds_toArray, List.set_cons_zero, List.set_cons_succ])
        refine wpAnyL_take 3 rfl rfl (by kernel_rfl) (by kernel_rfl) (by kernel_rfl) (fun _ _ _ h => h) rfl (fun V hV => run_mv (v := .slice ab b.length cb) rfl rfl) hS ?_; (try simp only [Act.put, List.setIfInBounds_toArray, List.set_cons_zero, List.set_cons_succ])
        refine wpAnyL_take 5 rfl rfl (by kernel_rfl) (by kernel_rfl) (by kernel_rfl) (fun _ _ _ h => h) rfl (fun V hV => run_ldM (vs := G.map b8) rfl Tryd.underlying27 rfl SG.out rfl (((hM.out.below hV).get (i := 0) rfl).range)) hS ?_; (try simp only [Act.put, List.setIfInBounds_toArray, List.set_cons_zero, List.set_cons_succ])
        refine wpAnyL_call 4 (by kernel_rfl) rfl rfl rfl (run_call2 enters_ssign rfl rfl rfl rfl) (calls_eq (CS.out _ (by omega) (HB.out.below (hM.out.below hS).bl) (HW.out.below (hM.out.below hS).bl))) (fun v w h => hS.trans (h.2.mono hS.size)) (fun v wl2 hR => ?_); (try simp only [Act.put, List.setIfInBounds_toArray, List.set_cons_zero, List.set_cons_succ]); obtain ⟨rfl, hb⟩ := hR; replace hS := hS.trans (hb.mono hS.size); clear hb
        refine wpAnyL_take 6 rfl rfl (by kernel_rfl) (by kernel_rfl) (by kernel_rfl) (fun _ _ _ h => h) rfl (fun V hV => run_eqSgB (c := true) lG lG rfl rfl rfl (by simp)) hS ?_; (try simp only [Act.put, List.setIfInBounds_toArray, List.set_cons_zero, List.set_cons_succ])
        refine wpAnyL_take 7 rfl rfl (by kernel_rfl) (by kernel_rfl) (by kernel_rfl) (fun _ _ _ h => h) rfl (fun V hV => run_pick (b := true) (v := .bool true) rfl rfl rfl) hS ?_; (try simp only [Act.put, List.setIfInBounds_toArray, List.set_cons_zero, List.set_cons_succ])
        refine wpAnyL_take 8 rfl rfl (by kernel_rfl) (by kernel_rfl) (by kernel_rfl) (fun _ _ _ h => h) rfl (fun V hV => run_mv (v := .bool true) rfl rfl) hS ?_; (try simp only [Act.put, List.setIfInBounds_toArray, List.set_cons_zero, List.set_cons_succ])
        refine wpAnyL_take 9 rfl rfl (by kernel_rfl) (by kernel_rfl) (by kernel_rfl) (fun _ _ _ h => h) rfl (fun V hV => run_mv (v := .bool true) rfl rfl) hS ?_; (try simp only [Act.put, List.setIfInBounds_toArray, List.set_cons_zero, List.set_cons_succ])
        refine wpAnyL_take 10 rfl rfl (by kernel_rfl) (by kernel_rfl) (by kernel_rfl) (fun _ _ _ h => h) rfl (fun V hV => run_pick (b := true) (v := .bool true) rfl rfl rfl) hS ?_; (try simp only [Act.put, List.setIfInBounds_toArray, List.set_cons_zero, List.set_cons_succ])
        refine wpAnyL_take 11 rfl rfl (by kernel_rfl) (by kernel_rfl) (by kernel_rfl) (fun _ _ _ h => h) rfl (fun V hV => run_mv (v := .bool true) rfl rfl) hS ?_; (try simp only [Act.put, List.setIfInBounds_toArray, List.set_cons_zero, List.set_cons_succ])
        refine wpAnyL_take 12 rfl rfl (by kernel_rfl) (by kernel_rfl) (by kernel_rfl) (fun _ _ _ h => h) rfl (fun V hV => run_mv (v := v2) rfl rfl) hS ?_; (try simp only [Act.put, List.setIfInBounds_toArray, List.set_cons_zero, List.set_cons_succ])
        refine wpAnyL_call 13 (by kernel_rfl) rfl rfl rfl (run_call1 enters_rkeyG rfl rfl rfl) (calls_eq (rkeyG_any v2 S0 _ (H2.out.below hS) lS)) (fun v w h => hS.trans (h.2.mono hS.size)) (fun v wl3 hR => ?_); (try simp only [Act.put, List.setIfInBounds_toArray, List.set_cons_zero, List.set_cons_succ]); obtain ⟨rfl, hb⟩ := hR; replace hS := hS.trans (hb.mono hS.size); clear hb
        refine wpAnyL_call 14 (by kernel_rfl) rfl rfl rfl (run_call1 enters_scanon rfl rfl rfl) (calls_eq (CC.out _ (HW.out.below (hM.out.below hS).bl))) (fun v w h => hS.trans (h.2.mono hS.size)) (fun v wl4 hR => ?_); (try simp only [Act.put, List.setIfInBounds_toArray, List.set_cons_zero, List.set_cons_succ]); obtain ⟨rfl, hb⟩ := hR; replace hS := hS.trans (hb.mono hS.size); clear hb
        refine wpAnyL_take 15 rfl rfl (by kernel_rfl) (by kernel_rfl) (by kernel_rfl) (fun _ _ _ h => h) rfl (fun V hV => run_pick (b := true) (v := .bool true) rfl rfl rfl) hS ?_; (try simp only [Act.put, List.setIfInBounds_toArray, List.set_cons_zero, List.set_cons_succ])
        refine wpAnyL_take 16 rfl rfl (by kernel_rfl) (by kernel_rfl) (by kernel_rfl) (fun _ _ _ h => h) rfl (fun V hV => run_asg (v := .bool true) rfl rfl) hS ?_; (try simp only [Act.put, List.setIfInBounds_toArray, List.set_cons_zero, List.set_cons_succ])
        refine wpAnyL_done (by kernel_rfl) ?_ _; refine NoPanic.normal ?_
        replace hM := Lib.hid (hM.out.below hS)
        go_wp2_with fail
        go_ret
        exact ⟨rfl, hM.out.bl⟩
      · have hk1 : (j : Int) < 32 := by omega
        have hk2 : j < 32 := by omega
        have HX1 := Lib.hid (take_snoc8 G j (by omega))
        have HX2 := Lib.hid (half_snoc (s := G) (n := j) (by omega))
        have ht1 : (G.take j).length = j := by rw [List.length_take]; omega
        have ht2 : ((G.drop 32).take j).length = j := by rw [List.length_take, List.length_drop]; omega
        have HC1 : Hid (∀ V, Below r.heap.size r V → V.cell? ⟨g2, j, none⟩ = some (b8 (G.getD j 0))) := Lib.hid fun V hV => ((hM.out.below hV).get (i := 0) rfl).c j _ (get_map b8 0 (by omega))
        have HC2 : Hid (∀ V, Below r.heap.size r V → V.cell? ⟨g2, 32 + j, none⟩ = some (b8 (G.getD (32 + j) 0))) := Lib.hid fun V hV => ((hM.out.below hV).get (i := 0) rfl).c (32 + j) _ (get_map b8 0 (by omega))
        generalize G.getD j 0 = x at *
        generalize G.getD (32 + j) 0 = y at *
        have hO1 := Lib.hid hI.out.O
        have hO2 := Lib.hid hI.out.O2
        have hap := hI.out.ap
        have hbl := hI.out.bl
        clear hI
        generalize hP1 : G.take j = P1 at *
        generalize hP2 : (G.drop 32).take j = P2 at *
        clear hP1 hP2
        go_upto_region 9 with fail; refine wp_region_lit ?_
        refine wpList_val (run_mv (v := u6) rfl rfl) rfl ?_; (try simp only [Act.put, List.setIfInBounds_toArray, List.set_cons_zero, List.set_cons_succ])
        refine wpList_val (run_mv (v := .int _ _) rfl rfl) rfl ?_; (try simp only [Act.put, List.setIfInBounds_toArray, List.set_cons_zero, List.set_cons_succ])
        refine wpList_val (run_ix0 (i := j) rfl Tryd.underlying27 (by kernel_rfl) rfl rfl (by omega)) rfl ?_; (try simp only [Act.put, List.setIfInBounds_toArray, List.set_cons_zero, List.set_cons_succ])
        refine wpList_val (run_ld8 rfl rfl (HC1.out _ hbl)) rfl ?_; (try simp only [Act.put, List.setIfInBounds_toArray, List.set_cons_zero, List.set_cons_succ])
        refine wpList_val (run_bsl (cells := #[b8 (x)]) (z := .int .u8 0) rfl Tryd.underlying24 (by kernel_rfl) (by omega) (by omega) (by kernel_rfl)) rfl ?_; (try simp only [Act.put, List.setIfInBounds_toArray, List.set_cons_zero, List.set_cons_succ]); have hb2 : Below wr.heap.size wr (wr.alloc (.cells #[b8 (x)] 5)) := (Below.refl _ _).alloc (Nat.le_refl _) _; have A2 : Hid (Arr wr.heap.size ([x].map b8) (wr.alloc (.cells #[b8 (x)] 5))) := Lib.hid (Arr.new wr _ _); generalize wr.alloc (.cells #[b8 (x)] 5) = a2 at *; replace hO1 := Lib.hid (own_below hO1.out hb2); replace hO2 := Lib.hid (own_below hO2.out hb2); replace hbl := hbl.trans (hb2.mono hbl.size); clear hb2
        refine wpList_app2 (l := P1) (m := [x]) (l2 := P2) rfl rfl rfl hO1.out hO2.out hap rfl A2.out.range (by show j + 1 ≤ _; omega) (by simp) hbl.size (fun q1 a3 h1 h2 h3 h4 => ?_); (try simp only [Act.put, List.setIfInBounds_toArray, List.set_cons_zero, List.set_cons_succ])
        replace hO1 := Lib.hid h1
        replace hO2 := Lib.hid h2
        replace hap := h3
        replace hbl := hbl.trans h4
        clear h1 h2 h3 h4 A2
        refine wpList_val (run_asg (v := q1) rfl rfl) rfl ?_; (try simp only [Act.put, List.setIfInBounds_toArray, List.set_cons_zero, List.set_cons_succ])
        refine wpList_end ?_
        go_upto_region 10 with fail; refine wp_region_lit ?_
        refine wpList_val (run_mv (v := u7) rfl rfl) rfl ?_; (try simp only [Act.put, List.setIfInBounds_toArray, List.set_cons_zero, List.set_cons_succ])
        refine wpList_val (run_mv (v := .int _ _) rfl rfl) rfl ?_; (try simp only [Act.put, List.setIfInBounds_toArray, List.set_cons_zero, List.set_cons_succ])
        refine wpList_val (run_addN (a := 32) (b := j) rfl rfl rfl (by omega)) rfl ?_; (try simp only [Act.put, List.setIfInBounds_toArray, List.set_cons_zero, List.set_cons_succ])
        refine wpList_val (run_ix0 (i := 32 + j) rfl Tryd.underlying27 (by kernel_rfl) rfl rfl (by omega)) rfl ?_; (try simp only [Act.put, List.setIfInBounds_toArray, List.set_cons_zero, List.set_cons_succ])
        refine wpList_val (run_ld8 rfl rfl (HC2.out _ hbl)) rfl ?_; (try simp only [Act.put, List.setIfInBounds_toArray, List.set_cons_zero, List.set_cons_succ])
        refine wpList_val (run_bsl (cells := #[b8 (y)]) (z := .int .u8 0) rfl Tryd.underlying24 (by kernel_rfl) (by omega) (by omega) (by kernel_rfl)) rfl ?_; (try simp only [Act.put, List.setIfInBounds_toArray, List.set_cons_zero, List.set_cons_succ]); have hb2 : Below a3.heap.size a3 (a3.alloc (.cells #[b8 (y)] 5)) := (Below.refl _ _).alloc (Nat.le_refl _) _; have A2 : Hid (Arr a3.heap.size ([y].map b8) (a3.alloc (.cells #[b8 (y)] 5))) := Lib.hid (Arr.new a3 _ _); generalize a3.alloc (.cells #[b8 (y)] 5) = a4 at *; replace hO1 := Lib.hid (own_below hO1.out hb2); replace hO2 := Lib.hid (own_below hO2.out hb2); replace hbl := hbl.trans (hb2.mono hbl.size); clear hb2
        refine wpList_app2 (l := P2) (m := [y]) (l2 := P1 ++ [x]) rfl rfl rfl hO2.out hO1.out hap.symm rfl A2.out.range (by show j + 1 ≤ _; omega) (by simp) hbl.size (fun q2 a5 h1 h2 h3 h4 => ?_); (try simp only [Act.put, List.setIfInBounds_toArray, List.set_cons_zero, List.set_cons_succ])
        have H5 : Hid (HvR r G (j + 1) q1 q2 a5) := Lib.hid ⟨hbl.trans h4, by rw [HX1.out]; exact h2, by rw [HX2.out]; exact h1, h3.symm⟩
        clear h1 h2 h3 h4 hO1 hO2 hap hbl A2 HX1 HX2
        refine wpList_val (run_asg (v := q2) rfl rfl) rfl ?_; (try simp only [Act.put, List.setIfInBounds_toArray, List.set_cons_zero, List.set_cons_succ])
        refine wpList_end ?_
        go_wp2_with fail
        go_roundw
        case rel => exact ⟨j + 1, by omega, by go_num, H5.out⟩
        case measure => simp [intOf]; omega
end Go.Proofs.YtfdjmdfaidiliaaDoor
