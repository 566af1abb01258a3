/- What keywardlaw08.known answers. -/
import Derived.Test.YtefaihdhnnldmaaDoorScApi
import Derived.Test.YtefaihdhnnldmaaDoorEqKeyB
namespace Go.Proofs.YtefaihdhnnldmaaDoor
open Go.RowKit
set_option maxRecDepth 20000

/-- The first n of the one, then the other. -/
def mixB (X l : List (BitVec 8)) (n : Nat) : List (BitVec 8) := X.take n ++ l.drop n
theorem mixB_len {X l : List (BitVec 8)} {n : Nat} (hX : n ≤ X.length) (hl : n ≤ l.length) : (mixB X l n).length = l.length := by unfold mixB; rw [List.length_append, List.length_take, List.length_drop]; omega
theorem mixB_zero (X l : List (BitVec 8)) : mixB X l 0 = l := by unfold mixB; simp
theorem mixB_set {X l : List (BitVec 8)} {n : Nat} (hX : n < X.length) (hl : n < l.length) : (mixB X l n).set n (X.getD n 0) = mixB X l (n + 1) := by
  unfold mixB
  rw [List.set_append_right _ _ (by rw [List.length_take]; omega), List.length_take, Nat.min_eq_left (by omega), Nat.sub_self, List.drop_eq_getElem_cons hl, List.set_cons_zero, List.take_succ_eq_append_getElem hX, List.append_assoc]
  simp [hX]
theorem szSg {l : List (BitVec 8)} (h : l.length = 64) : (Tryd.prog.info? 30).map (·.size) = some (l.map b8).length := by rw [List.length_map, h]; kernel_rfl
theorem szSz : (Tryd.prog.info? 30).map (·.size) = some (z8 64).length := by kernel_rfl
def kB (x : BitVec 8) : List (BitVec 8) := x :: List.replicate 31 0
theorem kB_len (x : BitVec 8) : (kB x).length = 32 := rfl
theorem built_kB (x : BitVec 8) : Tryd.prog.built 24 [(0, b8 x)] = some ((kB x).map b8).toArray := by kernel_rfl
theorem built_k0 : Tryd.prog.built 24 [] = some ((List.replicate 32 (0 : BitVec 8)).map b8).toArray := by kernel_rfl
theorem known_red : leB (mixB (sk ell) (List.replicate 64 0) 32) % ell = 0 := by decide +kernel
theorem sk_zero : sk 0 = List.replicate 32 0 := by decide +kernel
theorem known_mad : sk ((leB (kB 2) * leB (kB 3) + leB (kB 4)) % ell) = kB 10 := by decide +kernel
theorem known_not : decide (leB (sk ell) < ell) = false := by decide +kernel
theorem known_can : decide (leB (kB 10) < ell) = true := by decide +kernel
set_option maxHeartbeats 8000000 in
theorem known8_any (w : World) (hG : SG w) : Calls Tryd.prog 9 #[] w fun e w' => e = .returned (.bool true) ∧ Below w.heap.size w w' := by
  have HG := Lib.hid hG; clear hG
  obtain ⟨O, hO⟩ : ∃ O, O = sk ell := ⟨_, rfl⟩
  have lO : O.length = 32 := by rw [hO]; exact sk_len _
  obtain ⟨Z, hZ⟩ : ∃ Z : List (BitVec 8), Z = List.replicate 64 0 := ⟨_, rfl⟩
  have lZ : Z.length = 64 := by rw [hZ]; exact List.length_replicate
  have EZ : Hid (z8 64 = Z.map b8) := Lib.hid (by rw [hZ]; rfl)
  obtain ⟨N, hN⟩ : ∃ N : List (BitVec 8), N = List.replicate 32 0 := ⟨_, rfl⟩
  have lN : N.length = 32 := by rw [hN]; exact List.length_replicate
  have CO : Hid (∀ u : World, SG u → Calls Tryd.prog 15 #[] u fun e w' => e = .returned (.agg (O.map b8).toArray) ∧ Below u.heap.size u w') := Lib.hid fun u h => by rw [hO]; exact sorder_any u h
  have CR : Hid (∀ u : World, SG u → Calls Tryd.prog 11 #[.agg ((mixB O Z 32).map b8).toArray] u fun e w' => e = .returned (.agg (N.map b8).toArray) ∧ Below u.heap.size u w') := Lib.hid fun u h => by
    have h := sreduce_any (mixB O Z 32) u (by rw [mixB_len (by omega) (by omega), lZ]) h
    rw [hO, hZ, known_red, sk_zero] at h
    rw [hO, hZ, hN]
    exact h
  obtain ⟨k2, h2⟩ : ∃ k, k = kB 2 := ⟨_, rfl⟩
  obtain ⟨k3, h3⟩ : ∃ k, k = kB 3 := ⟨_, rfl⟩
  obtain ⟨k4, h4⟩ : ∃ k, k = kB 4 := ⟨_, rfl⟩
  obtain ⟨k10, h10⟩ : ∃ k, k = kB 10 := ⟨_, rfl⟩
  have CM : Hid (∀ u : World, SG u → Calls Tryd.prog 8 #[.agg (k2.map b8).toArray, .agg (k3.map b8).toArray, .agg (k4.map b8).toArray] u fun e w' => e = .returned (.agg (k10.map b8).toArray) ∧ Below u.heap.size u w') := Lib.hid fun u h => by
    have h := smad_any (kB 2) (kB 3) (kB 4) u rfl rfl rfl h
    rw [known_mad] at h
    rw [h2, h3, h4, h10]
    exact h
  have CN : Hid (∀ u : World, SG u → Calls Tryd.prog 13 #[.agg (O.map b8).toArray] u fun e w' => e = .returned (.bool false) ∧ Below u.heap.size u w') := Lib.hid fun u h => by
    have h := scanon_any (sk ell) u (sk_len _) h
    rw [known_not] at h
    rw [hO]
    exact h
  have CC : Hid (∀ u : World, SG u → Calls Tryd.prog 13 #[.agg (k10.map b8).toArray] u fun e w' => e = .returned (.bool true) ∧ Below u.heap.size u w') := Lib.hid fun u h => by
    have h := scanon_any (kB 10) u rfl h
    rw [known_can] at h
    rw [h10]
    exact h
  have l10 : k10.length = 32 := by rw [h10]; rfl
  have B0 : Hid (Tryd.prog.built 24 [] = some (N.map b8).toArray) := Lib.hid (by rw [hN]; exact built_k0)
  have B2 : Hid (Tryd.prog.built 24 [(0, .int .u8 2)] = some (k2.map b8).toArray) := Lib.hid (by rw [h2]; exact built_kB 2)
  have B3 : Hid (Tryd.prog.built 24 [(0, .int .u8 3)] = some (k3.map b8).toArray) := Lib.hid (by rw [h3]; exact built_kB 3)
  have B4 : Hid (Tryd.prog.built 24 [(0, .int .u8 4)] = some (k4.map b8).toArray) := Lib.hid (by rw [h4]; exact built_kB 4)
  have B10 : Hid (Tryd.prog.built 24 [(0, .int .u8 10)] = some (k10.map b8).toArray) := Lib.hid (by rw [h10]; exact built_kB 10)
  clear hO hN h2 h3 h4 h10
  have SO := Lib.hid (szKy lO)
  have LO : Hid ((O.map b8).length = (z8 32).length) := Lib.hid (by rw [z8_32, List.length_map, lO])
  have hM := Lib.hid (Mv.nil w)
  go_enter Tryd.func9, Tryd.ntmps9
  go_upto_region 0 with fail; refine wp_region_lit ?_
  refine wpList_val (run_asg (v := .bool false) rfl rfl) rfl ?_; (try simp only [Act.put, List.setIfInBounds_toArray, List.set_cons_zero])
  refine wpList_end ?_
  go_upto_region 1 with fail; refine wp_region_lit ?_
  refine wpList_val (run_bldW0 (cells := (z8 64).toArray) rfl (by kernel_rfl)) rfl ?_; (try simp only [Act.put, List.setIfInBounds_toArray, List.set_cons_zero, List.set_cons_succ])
  refine wpList_val (run_alc (vs := z8 64) rfl (by kernel_rfl)) rfl ?_; (try simp only [Act.put, List.setIfInBounds_toArray, List.set_cons_zero, List.set_cons_succ]); replace hM := Lib.hid (hM.out.new (z8 64) 30); generalize w.alloc (.cells (z8 64).toArray 30) = a1 at *; generalize w.heap.size = g1 at *
  refine wpList_skip (run_stM (vs := z8 64) rfl szSz rfl rfl (one8s (List.replicate 64 0)) ((hM.out.get (i := 0) rfl).there)) rfl rfl ?_
  replace hM := Lib.hid (hM.out.put 0 rfl (m := z8 64) rfl)
  generalize a1.setCells g1 0 (z8 64) = a2 at *
  refine wpList_end ?_
  rw [EZ.out] at hM
  clear EZ
  go_upto_region 2 with fail; refine wp_region_lit ?_
  refine wpList_enter (run_call0 enters_sorder rfl rfl) rfl (CO.out _ (HG.out.below hM.out.bl)) (fun a3 hb => ?_); (try simp only [Act.put, List.setIfInBounds_toArray, List.set_cons_zero, List.set_cons_succ]); replace hM := Lib.hid (hM.out.below hb); clear hb
  refine wpList_val (run_alc (vs := z8 32) rfl (by kernel_rfl)) rfl ?_; (try simp only [Act.put, List.setIfInBounds_toArray, List.set_cons_zero, List.set_cons_succ]); replace hM := Lib.hid (hM.out.new (z8 32) 24); generalize a3.alloc (.cells (z8 32).toArray 24) = a4 at *; generalize a3.heap.size = g2 at *
  refine wpList_skip (run_stM (vs := O.map b8) rfl SO.out rfl rfl (one8s _) (by rw [LO.out]; exact (hM.out.get (i := 0) rfl).there)) rfl rfl ?_; replace hM := Lib.hid (hM.out.put 0 rfl (m := O.map b8) (LO.out))
  refine wpList_end ?_
  generalize a4.setCells g2 0 (O.map b8) = a5 at *
  go_upto_region 3 with fail; refine wp_region_lit ?_
  (repeat ((first | refine wpList_val (run_mv (v := b32 _) rfl rfl) rfl ?_ | refine wpList_val (run_mv (v := b64 _) rfl rfl) rfl ?_ | refine wpList_val (run_mv (v := b8 _) rfl rfl) rfl ?_ | refine wpList_val (run_mv (v := .int _ _) rfl rfl) rfl ?_ | refine wpList_val (run_mv (v := .bool _) rfl rfl) rfl ?_ | refine wpList_val (run_mv (v := .slice (some _) _ _) rfl rfl) rfl ?_ | refine wpList_val (run_mv (v := .slice _ _ _) rfl rfl) rfl ?_ | refine wpList_val (run_mv (v := .pointer (some _)) rfl rfl) rfl ?_ | refine wpList_val (run_mv (v := .agg _) rfl rfl) rfl ?_ | refine wpList_val (run_asg (v := b32 _) rfl rfl) rfl ?_ | refine wpList_val (run_asg (v := b64 _) rfl rfl) rfl ?_ | refine wpList_val (run_asg (v := b8 _) rfl rfl) rfl ?_ | refine wpList_val (run_asg (v := .int _ _) rfl rfl) rfl ?_ | refine wpList_val (run_asg (v := .bool _) rfl rfl) rfl ?_ | refine wpList_val (run_asg (v := .slice (some _) _ _) rfl rfl) rfl ?_ | refine wpList_val (run_asg (v := .slice _ _ _) rfl rfl) rfl ?_ | refine wpList_val (run_asg (v := .pointer (some _)) rfl rfl) rfl ?_ | refine wpList_val (run_asg (v := .agg _) rfl rfl) rfl ?_ | refine wpList_val (run_mv rfl rfl) rfl ?_ | refine wpList_val (run_asg rfl rfl) rfl ?_ | refine wpList_val (run_xor32 rfl rfl rfl) rfl ?_ | refine wpList_val (run_and32 rfl rfl rfl) rfl ?_ | refine wpList_val (run_or32 rfl rfl rfl) rfl ?_ | refine wpList_val (run_add32 rfl rfl rfl) rfl ?_ | refine wpList_val (run_not32 rfl rfl) rfl ?_ | refine wpList_val (run_xor64 rfl rfl rfl) rfl ?_ | refine wpList_val (run_and64 rfl rfl rfl) rfl ?_ | refine wpList_val (run_or64 rfl rfl rfl) rfl ?_ | refine wpList_val (run_add64 rfl rfl rfl) rfl ?_ | refine wpList_val (run_not64 rfl rfl) rfl ?_ | refine wpList_val (run_xor8 rfl rfl rfl) rfl ?_ | refine wpList_val (run_and8 rfl rfl rfl) rfl ?_ | refine wpList_val (run_or8 rfl rfl rfl) rfl ?_ | refine wpList_val (run_add8 rfl rfl rfl) rfl ?_ | refine wpList_val (run_not8 rfl rfl) rfl ?_ | refine wpList_val (run_cv64_32 rfl rfl) rfl ?_ | refine wpList_val (run_cv8_32 rfl rfl) rfl ?_ | refine wpList_val (run_cv8_64 rfl rfl) rfl ?_ | refine wpList_val (run_cv32_8 rfl rfl) rfl ?_ | refine wpList_val (run_cv64_8 rfl rfl) rfl ?_); (try simp only [Act.put, List.setIfInBounds_toArray, List.set_cons_zero, List.set_cons_succ])))
  refine wpList_end ?_
  go_wp2_with fail
  go_loopw [3] (fun s u => ∃ n : Nat, n ≤ 32 ∧ s = .int .i64 (n : Int) ∧ Mv w [(g2, O.map b8), (g1, (mixB O Z n).map b8)] u) (fun s _ => (32 - intOf s).toNat)
  case atStart => exact ⟨0, by omega, rfl, by rw [mixB_zero]; exact hM.out⟩
  case round =>
    obtain ⟨n, hn, rfl, hJ⟩ := hrel
    replace hM := Lib.hid hJ
    clear hJ
    have hml := mixB_len (X := O) (l := Z) (n := n) (by omega) (by omega)
    rw [lZ] at hml
    by_cases hlt : n = 32
    · subst hlt
      have hk1 : ¬ (((32 : Nat) : Int) < 32) := by omega
      have SS := Lib.hid (szSg hml)
      generalize mixB O Z 32 = S at *
      go_upto_region 7 with fail; refine wp_region_lit ?_
      refine wpList_val (run_ldM (vs := S.map b8) rfl Tryd.underlying30 rfl SS.out rfl ((hM.out.get (i := 1) rfl).range)) rfl ?_; (try simp only [Act.put, List.setIfInBounds_toArray, List.set_cons_zero, List.set_cons_succ])
      refine wpList_enter (run_call1 enters_sreduce rfl rfl rfl) rfl (CR.out _ (HG.out.below hM.out.bl)) (fun c1 hb => ?_); (try simp only [Act.put, List.setIfInBounds_toArray, List.set_cons_zero, List.set_cons_succ]); replace hM := Lib.hid (hM.out.below hb); clear hb
      refine wpList_val (run_bldW0 (cells := (N.map b8).toArray) rfl B0.out) rfl ?_; (try simp only [Act.put, List.setIfInBounds_toArray, List.set_cons_zero, List.set_cons_succ])
      refine wpList_val (run_eqKyB (c := true) lN lN rfl rfl rfl (by simp)) rfl ?_; (try simp only [Act.put, List.setIfInBounds_toArray, List.set_cons_zero, List.set_cons_succ])
      refine wpList_val (run_mv (v := .bool true) rfl rfl) rfl ?_; (try simp only [Act.put, List.setIfInBounds_toArray, List.set_cons_zero, List.set_cons_succ])
      refine wpList_valG (run_bld1 (v := .int .u8 2) rfl rfl B2.out) rfl ?_; (try simp only [Act.put, List.setIfInBounds_toArray, List.set_cons_zero, List.set_cons_succ])
      refine wpList_valG (run_bld1 (v := .int .u8 3) rfl rfl B3.out) rfl ?_; (try simp only [Act.put, List.setIfInBounds_toArray, List.set_cons_zero, List.set_cons_succ])
      refine wpList_valG (run_bld1 (v := .int .u8 4) rfl rfl B4.out) rfl ?_; (try simp only [Act.put, List.setIfInBounds_toArray, List.set_cons_zero, List.set_cons_succ])
      refine wpList_enterG (run_call3 enters_smad rfl rfl rfl rfl rfl) rfl (CM.out _ (HG.out.below hM.out.bl)) (fun c2 hb => ?_); (try simp only [Act.put, List.setIfInBounds_toArray, List.set_cons_zero, List.set_cons_succ])
      replace hM := Lib.hid (hM.out.below hb)
      clear hb
      refine wpList_valG (run_bld1 (v := .int .u8 10) rfl rfl B10.out) rfl ?_; (try simp only [Act.put, List.setIfInBounds_toArray, List.set_cons_zero, List.set_cons_succ])
      refine wpList_valG (run_eqKyB (c := true) l10 l10 rfl rfl rfl (by simp)) rfl ?_; (try simp only [Act.put, List.setIfInBounds_toArray, List.set_cons_zero, List.set_cons_succ])
      refine wpList_val (run_pick (b := true) (v := .bool true) rfl rfl rfl) rfl ?_; (try simp only [Act.put, List.setIfInBounds_toArray, List.set_cons_zero, List.set_cons_succ])
      refine wpList_val (run_mv (v := .bool true) rfl rfl) rfl ?_; (try simp only [Act.put, List.setIfInBounds_toArray, List.set_cons_zero, List.set_cons_succ])
      refine wpList_valG (run_ldM (vs := O.map b8) rfl Tryd.underlying24 rfl SO.out rfl (hM.out.get (i := 0) rfl).range) rfl ?_; (try simp only [Act.put, List.setIfInBounds_toArray, List.set_cons_zero, List.set_cons_succ])
      refine wpList_enterG (run_call1 enters_scanon rfl rfl rfl) rfl (CN.out _ (HG.out.below hM.out.bl)) (fun c3 hb => ?_); (try simp only [Act.put, List.setIfInBounds_toArray, List.set_cons_zero, List.set_cons_succ])
      replace hM := Lib.hid (hM.out.below hb)
      clear hb
      refine wpList_valG (run_notB rfl rfl) rfl ?_; (try simp only [Act.put, List.setIfInBounds_toArray, List.set_cons_zero, List.set_cons_succ])
      refine wpList_val (run_pick (b := true) (v := .bool true) rfl rfl rfl) rfl ?_; (try simp only [Act.put, List.setIfInBounds_toArray, List.set_cons_zero, List.set_cons_succ])
      refine wpList_val (run_mv (v := .bool true) rfl rfl) rfl ?_; (try simp only [Act.put, List.setIfInBounds_toArray, List.set_cons_zero, List.set_cons_succ])
      refine wpList_valG (run_bld1 (v := .int .u8 10) rfl rfl B10.out) rfl ?_; (try simp only [Act.put, List.setIfInBounds_toArray, List.set_cons_zero, List.set_cons_succ])
      refine wpList_enterG (run_call1 enters_scanon rfl rfl rfl) rfl (CC.out _ (HG.out.below hM.out.bl)) (fun c4 hb => ?_); (try simp only [Act.put, List.setIfInBounds_toArray, List.set_cons_zero, List.set_cons_succ])
      replace hM := Lib.hid (hM.out.below hb)
      clear hb
      refine wpList_val (run_pick (b := true) (v := .bool true) rfl rfl rfl) rfl ?_; (try simp only [Act.put, List.setIfInBounds_toArray, List.set_cons_zero, List.set_cons_succ])
      refine wpList_val (run_asg (v := .bool true) rfl rfl) rfl ?_; (try simp only [Act.put, List.setIfInBounds_toArray, List.set_cons_zero])
      refine wpList_end ?_
      go_wp2_with fail
      go_ret
      exact ⟨rfl, hM.out.bl⟩
    · have hk1 : (n : Int) < 32 := by omega
      have hn2 : n < 32 := by omega
      have HL := Lib.hid (get_map b8 0 (l := mixB O Z n) (i := n) (by omega))
      have HB := Lib.hid (get_map b8 0 (l := O) (i := n) (by omega))
      have FL : Hid (n < ((mixB O Z n).map b8).length) := Lib.hid (by rw [List.length_map]; omega)
      have NX := Lib.hid (mixB_set (X := O) (l := Z) (n := n) (by omega) (by omega))
      generalize mixB O Z n = Y at *
      generalize O.getD n 0 = x at *
      go_upto_region 6 with fail; refine wp_region_lit ?_
      (repeat ((first | refine wpList_val (run_mv (v := b32 _) rfl rfl) rfl ?_ | refine wpList_val (run_mv (v := b64 _) rfl rfl) rfl ?_ | refine wpList_val (run_mv (v := b8 _) rfl rfl) rfl ?_ | refine wpList_val (run_mv (v := .int _ _) rfl rfl) rfl ?_ | refine wpList_val (run_mv (v := .bool _) rfl rfl) rfl ?_ | refine wpList_val (run_mv (v := .slice (some _) _ _) rfl rfl) rfl ?_ | refine wpList_val (run_mv (v := .slice _ _ _) rfl rfl) rfl ?_ | refine wpList_val (run_mv (v := .pointer (some _)) rfl rfl) rfl ?_ | refine wpList_val (run_mv (v := .agg _) rfl rfl) rfl ?_ | refine wpList_val (run_asg (v := b32 _) rfl rfl) rfl ?_ | refine wpList_val (run_asg (v := b64 _) rfl rfl) rfl ?_ | refine wpList_val (run_asg (v := b8 _) rfl rfl) rfl ?_ | refine wpList_val (run_asg (v := .int _ _) rfl rfl) rfl ?_ | refine wpList_val (run_asg (v := .bool _) rfl rfl) rfl ?_ | refine wpList_val (run_asg (v := .slice (some _) _ _) rfl rfl) rfl ?_ | refine wpList_val (run_asg (v := .slice _ _ _) rfl rfl) rfl ?_ | refine wpList_val (run_asg (v := .pointer (some _)) rfl rfl) rfl ?_ | refine wpList_val (run_asg (v := .agg _) rfl rfl) rfl ?_ | refine wpList_val (run_mv rfl rfl) rfl ?_ | refine wpList_val (run_asg rfl rfl) rfl ?_ | refine wpList_val (run_xor32 rfl rfl rfl) rfl ?_ | refine wpList_val (run_and32 rfl rfl rfl) rfl ?_ | refine wpList_val (run_or32 rfl rfl rfl) rfl ?_ | refine wpList_val (run_add32 rfl rfl rfl) rfl ?_ | refine wpList_val (run_not32 rfl rfl) rfl ?_ | refine wpList_val (run_xor64 rfl rfl rfl) rfl ?_ | refine wpList_val (run_and64 rfl rfl rfl) rfl ?_ | refine wpList_val (run_or64 rfl rfl rfl) rfl ?_ | refine wpList_val (run_add64 rfl rfl rfl) rfl ?_ | refine wpList_val (run_not64 rfl rfl) rfl ?_ | refine wpList_val (run_xor8 rfl rfl rfl) rfl ?_ | refine wpList_val (run_and8 rfl rfl rfl) rfl ?_ | refine wpList_val (run_or8 rfl rfl rfl) rfl ?_ | refine wpList_val (run_add8 rfl rfl rfl) rfl ?_ | refine wpList_val (run_not8 rfl rfl) rfl ?_ | refine wpList_val (run_cv64_32 rfl rfl) rfl ?_ | refine wpList_val (run_cv8_32 rfl rfl) rfl ?_ | refine wpList_val (run_cv8_64 rfl rfl) rfl ?_ | refine wpList_val (run_cv32_8 rfl rfl) rfl ?_ | refine wpList_val (run_cv64_8 rfl rfl) rfl ?_); (try simp only [Act.put, List.setIfInBounds_toArray, List.set_cons_zero, List.set_cons_succ])))
      refine wpList_val (run_ix0 (i := n) rfl Tryd.underlying24 (by kernel_rfl) rfl rfl hn2) rfl ?_; (try simp only [Act.put, List.setIfInBounds_toArray, List.set_cons_zero, List.set_cons_succ])
      refine wpList_val (run_ld8 rfl rfl ((hM.out.get (i := 0) rfl).c _ _ HB.out)) rfl ?_; (try simp only [Act.put, List.setIfInBounds_toArray, List.set_cons_zero, List.set_cons_succ])
      refine wpList_val (run_ix0 (i := n) rfl Tryd.underlying30 (by kernel_rfl) rfl rfl (by omega)) rfl ?_; (try simp only [Act.put, List.setIfInBounds_toArray, List.set_cons_zero, List.set_cons_succ])
      refine wpList_skip (run_st8 rfl rfl rfl ((hM.out.get (i := 1) rfl).c _ _ HL.out) ((hM.out.get (i := 1) rfl).f _)) rfl rfl ?_
      refine wpList_end ?_
      have hM2 := Lib.hid (hM.out.set 1 rfl FL.out (b8 x))
      rw [set_map, NX.out] at hM2
      generalize wr.setCell ⟨g1, n, none⟩ (b8 x) = a7 at *
      clear hM HL HB FL NX
      go_wp2_with fail
      exact ⟨⟨n + 1, by omega, by go_num, hM2.out⟩, by simp [intOf]; omega⟩
theorem enters_known8 : Enters 9 := enters_of Tryd.func9 (by kernel_rfl) rfl
end Go.Proofs.YtefaihdhnnldmaaDoor
