/- The law SignGreat, walked. -/
import Derived.Test.YtfdjmdfaidiliaaDoorSgCon
namespace Go.Proofs.YtfdjmdfaidiliaaDoor
open Go.RowKit
set_option maxRecDepth 20000

theorem great_byte : ∀ f : Fin 256, 16 ≤ (16#8 + BitVec.ofFin f % 14#8 * 16#8).toNat := by decide +kernel
theorem great_or (x n : BitVec 8) : 16 ≤ (x ||| (16#8 + n % 14#8 * 16#8)).toNat := by
  rw [BitVec.toNat_or]
  exact Nat.le_trans (great_byte n.toFin) Nat.right_le_or
theorem leB_most : leB (List.replicate 31 255#8) = 256 ^ 31 - 1 := by decide +kernel
theorem great_ell : ell ≤ 256 ^ 31 - 1 + 256 ^ 31 * 16 := by decide +kernel
theorem great_num {v : BitVec 8} (h : 16 ≤ v.toNat) : ¬ leB (List.replicate 31 255#8 ++ [v]) < ell := by
  rw [leB_append, leB_most, List.length_replicate]
  have e : leB [v] = v.toNat := by simp [leB]
  rw [e]
  have h1 : 256 ^ 31 * 16 ≤ 256 ^ 31 * v.toNat := Nat.mul_le_mul_left _ h
  have h2 := great_ell
  generalize 256 ^ 31 = M at *
  generalize ell = L at *
  omega
/-- The second half, from which the first n bytes are the greatest. -/
def grT (s : List (BitVec 8)) (v : BitVec 8) (n : Nat) : List (BitVec 8) := s.take 32 ++ mixB (List.replicate 31 255#8) ((s.drop 32).set 31 v) n
theorem grT_len {s : List (BitVec 8)} (hs : s.length = 64) (v : BitVec 8) {n : Nat} (hn : n ≤ 31) : (grT s v n).length = 64 := by
  unfold grT
  rw [List.length_append, mixB_len (by rw [List.length_replicate]; exact hn) (by rw [List.length_set, List.length_drop]; omega), List.length_set, List.length_take, List.length_drop]
  omega
theorem grT_zero {s : List (BitVec 8)} (hs : s.length = 64) (v : BitVec 8) : s.set 63 v = grT s v 0 := by
  unfold grT
  rw [mixB_zero]
  have e : s = s.take 32 ++ s.drop 32 := (List.take_append_drop 32 s).symm
  have h : (s.take 32).length = 32 := by rw [List.length_take]; omega
  conv => lhs; rw [e]
  rw [List.set_append_right _ _ (by omega), h]
theorem grT_set {s : List (BitVec 8)} (hs : s.length = 64) (v : BitVec 8) {n : Nat} (hn : n < 31) : (grT s v n).set (32 + n) 255#8 = grT s v (n + 1) := by
  have h : (s.take 32).length = 32 := by rw [List.length_take]; omega
  have e := mixB_set (X := List.replicate 31 255#8) (l := (s.drop 32).set 31 v) (n := n) (by rw [List.length_replicate]; exact hn) (by rw [List.length_set, List.length_drop]; omega)
  have e2 : (List.replicate 31 255#8).getD n 0 = 255#8 := by rw [List.getD_eq_getElem?_getD, List.getElem?_replicate, if_pos hn]; rfl
  rw [e2] at e
  unfold grT
  rw [List.set_append_right _ _ (by omega), h, Nat.add_sub_cancel_left, e]
theorem grT_end {s : List (BitVec 8)} (hs : s.length = 64) (v : BitVec 8) : (grT s v 31).drop 32 = List.replicate 31 255#8 ++ [v] := by
  have h : (s.take 32).length = 32 := by rw [List.length_take]; omega
  have e : ((s.drop 32).set 31 v).drop 31 = [v] := by
    rw [List.drop_set, if_neg (by omega)]
    have hl : ((s.drop 32).drop 31).length = 1 := by rw [List.length_drop, List.length_drop]; omega
    match (s.drop 32).drop 31, hl with
    | [x], _ => rfl
  unfold grT mixB
  rw [List.drop_left' h, List.take_of_length_le (by rw [List.length_replicate]; omega), e]
set_option maxHeartbeats 8000000 in
theorem signGreat_any (HP : PubC) (HS : SigC) (HV : VerC) (k : List (BitVec 8)) (vb : Value) (b : List (BitVec 8)) (n : BitVec 8) (w : World) (hk : k.length = 32) (hb : Sl vb b w) (hbl : b.length ≤ 140737488351232) (hW : W9 w) :
    Calls Tryd.prog 5 #[.agg (k.map b8).toArray, vb, b8 n] w fun e w' => e = .returned (.bool true) ∧ Below w.heap.size w w' := by
  have HW := Lib.hid hW; clear hW
  have HB := Lib.hid hb
  obtain ⟨ab, cb, rfl, -, -⟩ := hb
  obtain ⟨P, hP⟩ : ∃ P, P = pubB k := ⟨_, rfl⟩
  obtain ⟨G, hG⟩ : ∃ G, G = sigB k b := ⟨_, rfl⟩
  have lP : P.length = 32 := by rw [hP]; exact pubB_len k
  have lG : G.length = 64 := by rw [hG]; exact sigB_len k b
  have CP : Hid (∀ u : World, W9 u → Calls Tryd.prog 11 #[.agg (k.map b8).toArray] u fun e w' => e = .returned (.agg (P.map b8).toArray) ∧ Below u.heap.size u w') := Lib.hid fun u h0 => by rw [hP]; exact HP k u hk h0
  have CS : Hid (∀ u : World, b.length ≤ 300 → Sl (.slice ab b.length cb) b u → W9 u → Calls Tryd.prog 7 #[.agg (k.map b8).toArray, .slice ab b.length cb] u fun e w' => e = .returned (.agg (G.map b8).toArray) ∧ Below u.heap.size u w') := Lib.hid fun u h0 h1 h2 => by rw [hG]; exact HS k _ b u hk h1 h0 h2
  have CV : Hid (∀ u : World, b.length ≤ 300 → Sl (.slice ab b.length cb) b u → W9 u → Calls Tryd.prog 13 #[.agg (P.map b8).toArray, .slice ab b.length cb, .agg (G.map b8).toArray] u fun e w' => e = .returned (.bool true) ∧ Below u.heap.size u w') := Lib.hid fun u h0 h1 h2 => by
    have h := HV (pubB k) _ b (sigB k b) u (pubB_len k) (sigB_len k b) h1 h0 h2
    rw [ver_sig] at h
    rw [hP, hG]; exact h
  clear hP hG
  obtain ⟨v, hv⟩ : ∃ v, v = G.getD 63 0 ||| (16#8 + n % 14#8 * 16#8) := ⟨_, rfl⟩
  have HV16 : 16 ≤ v.toNat := by rw [hv]; exact great_or _ _
  have EV := Lib.hid hv
  clear hv
  obtain ⟨F, hF⟩ : ∃ F, F = grT G v := ⟨_, rfl⟩
  have F0 : Hid (G.set 63 v = F 0) := Lib.hid (by rw [hF]; exact grT_zero lG v)
  have FS : Hid (∀ j, j < 31 → (F j).set (32 + j) 255#8 = F (j + 1)) := Lib.hid (by rw [hF]; exact fun j hj => grT_set lG v hj)
  have FL : Hid (∀ j, j ≤ 31 → (F j).length = 64) := Lib.hid (by rw [hF]; exact fun j hj => grT_len lG v hj)
  have hN : ¬ leB ((F 31).drop 32) < ell := by rw [hF, grT_end lG v]; exact great_num HV16
  have lT := FL.out 31 (Nat.le_refl _)
  obtain ⟨T, hT⟩ : ∃ T, T = F 31 := ⟨_, rfl⟩
  rw [← hT] at hN lT
  have CN : Hid (∀ u : World, b.length ≤ 300 → Sl (.slice ab b.length cb) b u → W9 u → Calls Tryd.prog 13 #[.agg (P.map b8).toArray, .slice ab b.length cb, .agg (T.map b8).toArray] u fun e w' => e = .returned (.bool false) ∧ Below u.heap.size u w') := Lib.hid fun u h0 h1 h2 => by
    have h := HV P _ b T u lP lT h1 h0 h2
    rw [ver_great P b T hN] at h
    exact h
  have ET := Lib.hid hT
  clear hF hT hN HV16
  have SK := Lib.hid (szKy hk)
  have SP := Lib.hid (szKy lP)
  have SG := Lib.hid (szSg lG)
  have ST := Lib.hid (szSg lT)
  have LP : Hid ((P.map b8).length = (z8 32).length) := Lib.hid (by rw [z8_32, List.length_map, lP])
  have LG : Hid ((G.map b8).length = (z8 64).length) := Lib.hid (by rw [List.length_map, lG]; rfl)
  have HL63 := Lib.hid (get_map b8 0 (l := G) (i := 63) (by omega))
  have FG : Hid (63 < (G.map b8).length) := Lib.hid (by rw [List.length_map]; omega)
  have hM := Lib.hid (Mv.nil w)
  go_enter Tryd.func5, Tryd.ntmps5
  go_upto_region 0 with fail; refine wp_region_lit ?_
  refine wpList_val (run_boxL8 (vs := k.map b8) rfl rfl) rfl ?_; (try simp only [Act.put, List.setIfInBounds_toArray, List.set_cons_zero, List.set_cons_succ]); replace hM := Lib.hid (hM.out.new (k.map b8) 23); generalize w.alloc (.cells (k.map b8).toArray 23) = a1 at *; generalize w.heap.size = g1 at *
  refine wpList_val (run_asg (v := .bool false) rfl rfl) rfl ?_; (try simp only [Act.put, List.setIfInBounds_toArray, List.set_cons_zero, List.set_cons_succ])
  refine wpList_end ?_
  go_upto_region 1 with fail; refine wp_region_lit ?_
  (repeat ((first | refine wpList_val (run_mv (v := b32 _) rfl rfl) rfl ?_ | refine wpList_val (run_mv (v := b64 _) rfl rfl) rfl ?_ | refine wpList_val (run_mv (v := b8 _) rfl rfl) rfl ?_ | refine wpList_val (run_mv (v := .int _ _) rfl rfl) rfl ?_ | refine wpList_val (run_mv (v := .bool _) rfl rfl) rfl ?_ | refine wpList_val (run_mv (v := .slice (some _) _ _) rfl rfl) rfl ?_ | refine wpList_val (run_mv (v := .slice _ _ _) rfl rfl) rfl ?_ | refine wpList_val (run_mv (v := .pointer (some _)) rfl rfl) rfl ?_ | refine wpList_val (run_mv (v := .agg _) rfl rfl) rfl ?_ | refine wpList_val (run_asg (v := b32 _) rfl rfl) rfl ?_ | refine wpList_val (run_asg (v := b64 _) rfl rfl) rfl ?_ | refine wpList_val (run_asg (v := b8 _) rfl rfl) rfl ?_ | refine wpList_val (run_asg (v := .int _ _) rfl rfl) rfl ?_ | refine wpList_val (run_asg (v := .bool _) rfl rfl) rfl ?_ | refine wpList_val (run_asg (v := .slice (some _) _ _) rfl rfl) rfl ?_ | refine wpList_val (run_asg (v := .slice _ _ _) rfl rfl) rfl ?_ | refine wpList_val (run_asg (v := .pointer (some _)) rfl rfl) rfl ?_ | refine wpList_val (run_asg (v := .agg _) rfl rfl) rfl ?_ | refine wpList_val (run_mv rfl rfl) rfl ?_ | refine wpList_val (run_asg rfl rfl) rfl ?_ | refine wpList_val (run_xor32 rfl rfl rfl) rfl ?_ | refine wpList_val (run_and32 rfl rfl rfl) rfl ?_ | refine wpList_val (run_or32 rfl rfl rfl) rfl ?_ | refine wpList_val (run_add32 rfl rfl rfl) rfl ?_ | refine wpList_val (run_not32 rfl rfl) rfl ?_ | refine wpList_val (run_xor64 rfl rfl rfl) rfl ?_ | refine wpList_val (run_and64 rfl rfl rfl) rfl ?_ | refine wpList_val (run_or64 rfl rfl rfl) rfl ?_ | refine wpList_val (run_add64 rfl rfl rfl) rfl ?_ | refine wpList_val (run_not64 rfl rfl) rfl ?_ | refine wpList_val (run_xor8 rfl rfl rfl) rfl ?_ | refine wpList_val (run_and8 rfl rfl rfl) rfl ?_ | refine wpList_val (run_or8 rfl rfl rfl) rfl ?_ | refine wpList_val (run_add8 rfl rfl rfl) rfl ?_ | refine wpList_val (run_not8 rfl rfl) rfl ?_ | refine wpList_val (run_cv64_32 rfl rfl) rfl ?_ | refine wpList_val (run_cv8_32 rfl rfl) rfl ?_ | refine wpList_val (run_cv8_64 rfl rfl) rfl ?_ | refine wpList_val (run_cv32_8 rfl rfl) rfl ?_ | refine wpList_val (run_cv64_8 rfl rfl) rfl ?_); (try simp only [Act.put, List.setIfInBounds_toArray, List.set_cons_zero, List.set_cons_succ])))
  refine wpList_val (run_len rfl Tryd.underlying24 rfl) rfl ?_; (try simp only [Act.put, List.setIfInBounds_toArray, List.set_cons_zero, List.set_cons_succ])
  by_cases hlt : 300 < b.length
  · refine wpList_val (run_gtrb (c := true) rfl rfl rfl (decide_eq_true (by omega))) rfl ?_; (try simp only [Act.put, List.setIfInBounds_toArray, List.set_cons_zero, List.set_cons_succ])
    refine wpList_end ?_
    go_upto_region 2 with fail; refine wp_region_lit ?_
    refine wpList_enter (run_call0 enters_known9 rfl rfl) rfl (known9_any HP HV _ (HW.out.below hM.out.bl)) (fun a3 hb3 => ?_); (try simp only [Act.put, List.setIfInBounds_toArray, List.set_cons_zero, List.set_cons_succ])
    refine wpList_val (run_asg (v := .bool true) rfl rfl) rfl ?_; (try simp only [Act.put, List.setIfInBounds_toArray, List.set_cons_zero, List.set_cons_succ])
    refine wpList_end ?_
    replace hM := Lib.hid (hM.out.below hb3)
    go_wp2_with fail
    go_ret
    exact ⟨rfl, hM.out.bl⟩
  · refine wpList_val (run_gtrb (c := false) rfl rfl rfl (decide_eq_false (by omega))) rfl ?_; (try simp only [Act.put, List.setIfInBounds_toArray, List.set_cons_zero, List.set_cons_succ])
    refine wpList_end ?_
    go_upto_region 3 with fail; refine wp_region_lit ?_
    refine wpList_val (run_ldM (vs := k.map b8) rfl Tryd.underlying23 rfl SK.out rfl ((hM.out.get (i := 0) rfl).range)) rfl ?_; (try simp only [Act.put, List.setIfInBounds_toArray, List.set_cons_zero, List.set_cons_succ])
    refine wpList_enter (run_call1 enters_spublic rfl rfl rfl) rfl (CP.out _ (HW.out.below hM.out.bl)) (fun a3 hb => ?_); (try simp only [Act.put, List.setIfInBounds_toArray, List.set_cons_zero, List.set_cons_succ]); replace hM := Lib.hid (hM.out.below hb); clear hb
    refine wpList_val (run_alc (vs := z8 32) rfl (by kernel_rfl)) rfl ?_; (try simp only [Act.put, List.setIfInBounds_toArray, List.set_cons_zero, List.set_cons_succ]); replace hM := Lib.hid (hM.out.new (z8 32) 23); generalize a3.alloc (.cells (z8 32).toArray 23) = a4 at *; generalize a3.heap.size = g2 at *
    refine wpList_skip (run_stM (vs := P.map b8) rfl SP.out rfl rfl (one8s _) (by rw [LP.out]; exact (hM.out.get (i := 0) rfl).there)) rfl rfl ?_; replace hM := Lib.hid (hM.out.put 0 rfl (m := P.map b8) (LP.out))
    refine wpList_end ?_
    generalize a4.setCells g2 0 (P.map b8) = a5 at *
    go_upto_region 4 with fail; refine wp_region_lit ?_
    refine wpList_val (run_ldM (vs := k.map b8) rfl Tryd.underlying23 rfl SK.out rfl ((hM.out.get (i := 1) rfl).range)) rfl ?_; (try simp only [Act.put, List.setIfInBounds_toArray, List.set_cons_zero, List.set_cons_succ])
    refine wpList_val (run_mv (v := .slice ab b.length cb) rfl rfl) rfl ?_; (try simp only [Act.put, List.setIfInBounds_toArray, List.set_cons_zero, List.set_cons_succ])
    refine wpList_enter (run_call2 enters_ssign rfl rfl rfl rfl) rfl (CS.out _ (by omega) (HB.out.below hM.out.bl) (HW.out.below hM.out.bl)) (fun a6 hb => ?_); (try simp only [Act.put, List.setIfInBounds_toArray, List.set_cons_zero, List.set_cons_succ]); replace hM := Lib.hid (hM.out.below hb); clear hb
    refine wpList_val (run_alc (vs := z8 64) rfl (by kernel_rfl)) rfl ?_; (try simp only [Act.put, List.setIfInBounds_toArray, List.set_cons_zero, List.set_cons_succ]); replace hM := Lib.hid (hM.out.new (z8 64) 27); generalize a6.alloc (.cells (z8 64).toArray 27) = a7 at *; generalize a6.heap.size = g3 at *
    refine wpList_skip (run_stM (vs := G.map b8) rfl SG.out rfl rfl (one8s _) (by rw [LG.out]; exact (hM.out.get (i := 0) rfl).there)) rfl rfl ?_; replace hM := Lib.hid (hM.out.put 0 rfl (m := G.map b8) (LG.out))
    refine wpList_end ?_
    generalize a7.setCells g3 0 (G.map b8) = a8 at *
    go_upto_region 5 with fail; refine wp_region_lit ?_
    refine wpList_val (run_ldM (vs := G.map b8) rfl Tryd.underlying27 rfl SG.out rfl ((hM.out.get (i := 0) rfl).range)) rfl ?_; (try simp only [Act.put, List.setIfInBounds_toArray, List.set_cons_zero, List.set_cons_succ])
    refine wpList_val (run_alc (vs := z8 64) rfl (by kernel_rfl)) rfl ?_; (try simp only [Act.put, List.setIfInBounds_toArray, List.set_cons_zero, List.set_cons_succ]); replace hM := Lib.hid (hM.out.new (z8 64) 27); generalize a8.alloc (.cells (z8 64).toArray 27) = a9 at *; generalize a8.heap.size = g4 at *
    refine wpList_skip (run_stM (vs := G.map b8) rfl SG.out rfl rfl (one8s _) (by rw [LG.out]; exact (hM.out.get (i := 0) rfl).there)) rfl rfl ?_; replace hM := Lib.hid (hM.out.put 0 rfl (m := G.map b8) (LG.out))
    refine wpList_end ?_
    generalize a9.setCells g4 0 (G.map b8) = d1 at *
    go_upto_region 6 with fail; refine wp_region_lit ?_
    refine wpList_val (run_ix0 (i := 63) rfl Tryd.underlying27 (by kernel_rfl) rfl rfl (by omega)) rfl ?_; (try simp only [Act.put, List.setIfInBounds_toArray, List.set_cons_zero, List.set_cons_succ])
    refine wpList_val (run_ld8 rfl rfl ((hM.out.get (i := 0) rfl).c _ _ HL63.out)) rfl ?_; (try simp only [Act.put, List.setIfInBounds_toArray, List.set_cons_zero, List.set_cons_succ])
    refine wpList_val (run_mv (v := b8 n) rfl rfl) rfl ?_; (try simp only [Act.put, List.setIfInBounds_toArray, List.set_cons_zero, List.set_cons_succ])
    refine wpList_val (run_rem8C (b := 14#8) rfl rfl rfl (by decide)) rfl ?_; (try simp only [Act.put, List.setIfInBounds_toArray, List.set_cons_zero, List.set_cons_succ])
    refine wpList_val (run_mul8b (b := 16#8) rfl rfl rfl) rfl ?_; (try simp only [Act.put, List.setIfInBounds_toArray, List.set_cons_zero, List.set_cons_succ])
    refine wpList_val (run_add8 (a := 16#8) rfl rfl rfl) rfl ?_; (try simp only [Act.put, List.setIfInBounds_toArray, List.set_cons_zero, List.set_cons_succ])
    refine wpList_val (run_or8 rfl rfl rfl) rfl ?_; (try simp only [Act.put, List.setIfInBounds_toArray, List.set_cons_zero, List.set_cons_succ])
    rw [← EV.out]
    refine wpList_val (run_ix0 (i := 63) rfl Tryd.underlying27 (by kernel_rfl) rfl rfl (by omega)) rfl ?_; (try simp only [Act.put, List.setIfInBounds_toArray, List.set_cons_zero, List.set_cons_succ])
    refine wpList_skip (run_st8 rfl rfl rfl ((hM.out.get (i := 0) rfl).c _ _ HL63.out) ((hM.out.get (i := 0) rfl).f _)) rfl rfl ?_
    refine wpList_end ?_
    replace hM := Lib.hid (hM.out.set 0 rfl FG.out (b8 v))
    rw [set_map, F0.out] at hM
    generalize d1.setCell ⟨g4, 63, none⟩ (b8 v) = d2 at *
    clear EV F0 HL63 FG
    go_upto_region 7 with fail; refine wp_region_lit ?_
    (repeat ((first | refine wpList_val (run_mv (v := b32 _) rfl rfl) rfl ?_ | refine wpList_val (run_mv (v := b64 _) rfl rfl) rfl ?_ | refine wpList_val (run_mv (v := b8 _) rfl rfl) rfl ?_ | refine wpList_val (run_mv (v := .int _ _) rfl rfl) rfl ?_ | refine wpList_val (run_mv (v := .bool _) rfl rfl) rfl ?_ | refine wpList_val (run_mv (v := .slice (some _) _ _) rfl rfl) rfl ?_ | refine wpList_val (run_mv (v := .slice _ _ _) rfl rfl) rfl ?_ | refine wpList_val (run_mv (v := .pointer (some _)) rfl rfl) rfl ?_ | refine wpList_val (run_mv (v := .agg _) rfl rfl) rfl ?_ | refine wpList_val (run_asg (v := b32 _) rfl rfl) rfl ?_ | refine wpList_val (run_asg (v := b64 _) rfl rfl) rfl ?_ | refine wpList_val (run_asg (v := b8 _) rfl rfl) rfl ?_ | refine wpList_val (run_asg (v := .int _ _) rfl rfl) rfl ?_ | refine wpList_val (run_asg (v := .bool _) rfl rfl) rfl ?_ | refine wpList_val (run_asg (v := .slice (some _) _ _) rfl rfl) rfl ?_ | refine wpList_val (run_asg (v := .slice _ _ _) rfl rfl) rfl ?_ | refine wpList_val (run_asg (v := .pointer (some _)) rfl rfl) rfl ?_ | refine wpList_val (run_asg (v := .agg _) rfl rfl) rfl ?_ | refine wpList_val (run_mv rfl rfl) rfl ?_ | refine wpList_val (run_asg rfl rfl) rfl ?_ | refine wpList_val (run_xor32 rfl rfl rfl) rfl ?_ | refine wpList_val (run_and32 rfl rfl rfl) rfl ?_ | refine wpList_val (run_or32 rfl rfl rfl) rfl ?_ | refine wpList_val (run_add32 rfl rfl rfl) rfl ?_ | refine wpList_val (run_not32 rfl rfl) rfl ?_ | refine wpList_val (run_xor64 rfl rfl rfl) rfl ?_ | refine wpList_val (run_and64 rfl rfl rfl) rfl ?_ | refine wpList_val (run_or64 rfl rfl rfl) rfl ?_ | refine wpList_val (run_add64 rfl rfl rfl) rfl ?_ | refine wpList_val (run_not64 rfl rfl) rfl ?_ | refine wpList_val (run_xor8 rfl rfl rfl) rfl ?_ | refine wpList_val (run_and8 rfl rfl rfl) rfl ?_ | refine wpList_val (run_or8 rfl rfl rfl) rfl ?_ | refine wpList_val (run_add8 rfl rfl rfl) rfl ?_ | refine wpList_val (run_not8 rfl rfl) rfl ?_ | refine wpList_val (run_cv64_32 rfl rfl) rfl ?_ | refine wpList_val (run_cv8_32 rfl rfl) rfl ?_ | refine wpList_val (run_cv8_64 rfl rfl) rfl ?_ | refine wpList_val (run_cv32_8 rfl rfl) rfl ?_ | refine wpList_val (run_cv64_8 rfl rfl) rfl ?_); (try simp only [Act.put, List.setIfInBounds_toArray, List.set_cons_zero, List.set_cons_succ])))
    refine wpList_end ?_
    go_wp2_with fail
    go_loopw [10] (fun z u => ∃ j : Nat, j ≤ 31 ∧ z = .int .i64 ((32 + j : Nat) : Int) ∧ Mv w [(g4, (F j).map b8), (g3, G.map b8), (g2, P.map b8), (g1, k.map b8)] u) (fun z _ => (63 - intOf z).toNat)
    case atStart => exact ⟨0, by omega, rfl, hM.out⟩
    case round =>
      obtain ⟨j, hj, rfl, hJ⟩ := hrel
      replace hM := Lib.hid hJ
      clear hJ
      have hml := FL.out j hj
      by_cases hlt : j = 31
      · subst hlt
        have hk1 : ¬ (((32 + 31 : Nat) : Int) < 63) := by omega
        rw [← ET.out] at hM
        go_upto_region 11 with fail; refine wp_region_lit ?_
        refine wpList_enter (run_call0 enters_known9 rfl rfl) rfl (known9_any HP HV _ (HW.out.below hM.out.bl)) (fun e1 hb => ?_); (try simp only [Act.put, List.setIfInBounds_toArray, List.set_cons_zero, List.set_cons_succ]); replace hM := Lib.hid (hM.out.below hb); clear hb
        refine wpList_val (run_mv (v := .bool true) rfl rfl) rfl ?_; (try simp only [Act.put, List.setIfInBounds_toArray, List.set_cons_zero, List.set_cons_succ])
        refine wpList_valG (run_ldM (vs := P.map b8) rfl Tryd.underlying23 rfl SP.out rfl (hM.out.get (i := 2) rfl).range) rfl ?_; (try simp only [Act.put, List.setIfInBounds_toArray, List.set_cons_zero, List.set_cons_succ])
        refine wpList_valG (run_mv (v := .slice ab b.length cb) rfl rfl) rfl ?_; (try simp only [Act.put, List.setIfInBounds_toArray, List.set_cons_zero, List.set_cons_succ])
        refine wpList_valG (run_ldM (vs := G.map b8) rfl Tryd.underlying27 rfl SG.out rfl (hM.out.get (i := 1) rfl).range) rfl ?_; (try simp only [Act.put, List.setIfInBounds_toArray, List.set_cons_zero, List.set_cons_succ])
        refine wpList_enterG (run_call3 enters_sverify rfl rfl rfl rfl rfl) rfl (CV.out _ (by omega) (HB.out.below hM.out.bl) (HW.out.below hM.out.bl)) (fun e2 hb2 => ?_); (try simp only [Act.put, List.setIfInBounds_toArray, List.set_cons_zero, List.set_cons_succ])
        replace hM := Lib.hid (hM.out.below hb2)
        clear hb2
        refine wpList_val (run_pick (b := true) (v := .bool true) rfl rfl rfl) rfl ?_; (try simp only [Act.put, List.setIfInBounds_toArray, List.set_cons_zero, List.set_cons_succ])
        refine wpList_val (run_mv (v := .bool true) rfl rfl) rfl ?_; (try simp only [Act.put, List.setIfInBounds_toArray, List.set_cons_zero, List.set_cons_succ])
        refine wpList_valG (run_ldM (vs := P.map b8) rfl Tryd.underlying23 rfl SP.out rfl (hM.out.get (i := 2) rfl).range) rfl ?_; (try simp only [Act.put, List.setIfInBounds_toArray, List.set_cons_zero, List.set_cons_succ])
        refine wpList_valG (run_mv (v := .slice ab b.length cb) rfl rfl) rfl ?_; (try simp only [Act.put, List.setIfInBounds_toArray, List.set_cons_zero, List.set_cons_succ])
        refine wpList_valG (run_ldM (vs := T.map b8) rfl Tryd.underlying27 rfl ST.out rfl (hM.out.get (i := 0) rfl).range) rfl ?_; (try simp only [Act.put, List.setIfInBounds_toArray, List.set_cons_zero, List.set_cons_succ])
        refine wpList_enterG (run_call3 enters_sverify rfl rfl rfl rfl rfl) rfl (CN.out _ (by omega) (HB.out.below hM.out.bl) (HW.out.below hM.out.bl)) (fun e3 hb2 => ?_); (try simp only [Act.put, List.setIfInBounds_toArray, List.set_cons_zero, List.set_cons_succ])
        replace hM := Lib.hid (hM.out.below hb2)
        clear hb2
        refine wpList_valG (run_notB rfl rfl) rfl ?_; (try simp only [Act.put, List.setIfInBounds_toArray, List.set_cons_zero, List.set_cons_succ])
        refine wpList_val (run_pick (b := true) (v := .bool true) rfl rfl rfl) rfl ?_; (try simp only [Act.put, List.setIfInBounds_toArray, List.set_cons_zero, List.set_cons_succ])
        refine wpList_val (run_asg (v := .bool true) rfl rfl) rfl ?_; (try simp only [Act.put, List.setIfInBounds_toArray, List.set_cons_zero, List.set_cons_succ])
        refine wpList_end ?_
        go_wp2_with fail
        go_ret
        exact ⟨rfl, hM.out.bl⟩
      · have hk1 : ((32 + j : Nat) : Int) < 63 := by omega
        have hj2 : j < 31 := by omega
        have HL := Lib.hid (get_map b8 0 (l := F j) (i := 32 + j) (by omega))
        have HF1 : Hid (32 + j < ((F j).map b8).length) := Lib.hid (by rw [List.length_map]; omega)
        have NX := Lib.hid (FS.out j hj2)
        generalize hNn : F (j + 1) = FN at *
        have ENn := Lib.hid hNn
        clear hNn
        generalize F j = Fj at *
        go_upto_region 10 with fail; refine wp_region_lit ?_
        (repeat ((first | refine wpList_val (run_mv (v := b32 _) rfl rfl) rfl ?_ | refine wpList_val (run_mv (v := b64 _) rfl rfl) rfl ?_ | refine wpList_val (run_mv (v := b8 _) rfl rfl) rfl ?_ | refine wpList_val (run_mv (v := .int _ _) rfl rfl) rfl ?_ | refine wpList_val (run_mv (v := .bool _) rfl rfl) rfl ?_ | refine wpList_val (run_mv (v := .slice (some _) _ _) rfl rfl) rfl ?_ | refine wpList_val (run_mv (v := .slice _ _ _) rfl rfl) rfl ?_ | refine wpList_val (run_mv (v := .pointer (some _)) rfl rfl) rfl ?_ | refine wpList_val (run_mv (v := .agg _) rfl rfl) rfl ?_ | refine wpList_val (run_asg (v := b32 _) rfl rfl) rfl ?_ | refine wpList_val (run_asg (v := b64 _) rfl rfl) rfl ?_ | refine wpList_val (run_asg (v := b8 _) rfl rfl) rfl ?_ | refine wpList_val (run_asg (v := .int _ _) rfl rfl) rfl ?_ | refine wpList_val (run_asg (v := .bool _) rfl rfl) rfl ?_ | refine wpList_val (run_asg (v := .slice (some _) _ _) rfl rfl) rfl ?_ | refine wpList_val (run_asg (v := .slice _ _ _) rfl rfl) rfl ?_ | refine wpList_val (run_asg (v := .pointer (some _)) rfl rfl) rfl ?_ | refine wpList_val (run_asg (v := .agg _) rfl rfl) rfl ?_ | refine wpList_val (run_mv rfl rfl) rfl ?_ | refine wpList_val (run_asg rfl rfl) rfl ?_ | refine wpList_val (run_xor32 rfl rfl rfl) rfl ?_ | refine wpList_val (run_and32 rfl rfl rfl) rfl ?_ | refine wpList_val (run_or32 rfl rfl rfl) rfl ?_ | refine wpList_val (run_add32 rfl rfl rfl) rfl ?_ | refine wpList_val (run_not32 rfl rfl) rfl ?_ | refine wpList_val (run_xor64 rfl rfl rfl) rfl ?_ | refine wpList_val (run_and64 rfl rfl rfl) rfl ?_ | refine wpList_val (run_or64 rfl rfl rfl) rfl ?_ | refine wpList_val (run_add64 rfl rfl rfl) rfl ?_ | refine wpList_val (run_not64 rfl rfl) rfl ?_ | refine wpList_val (run_xor8 rfl rfl rfl) rfl ?_ | refine wpList_val (run_and8 rfl rfl rfl) rfl ?_ | refine wpList_val (run_or8 rfl rfl rfl) rfl ?_ | refine wpList_val (run_add8 rfl rfl rfl) rfl ?_ | refine wpList_val (run_not8 rfl rfl) rfl ?_ | refine wpList_val (run_cv64_32 rfl rfl) rfl ?_ | refine wpList_val (run_cv8_32 rfl rfl) rfl ?_ | refine wpList_val (run_cv8_64 rfl rfl) rfl ?_ | refine wpList_val (run_cv32_8 rfl rfl) rfl ?_ | refine wpList_val (run_cv64_8 rfl rfl) rfl ?_); (try simp only [Act.put, List.setIfInBounds_toArray, List.set_cons_zero, List.set_cons_succ])))
        refine wpList_val (run_ix0 (i := 32 + j) rfl Tryd.underlying27 (by kernel_rfl) rfl rfl (by omega)) rfl ?_; (try simp only [Act.put, List.setIfInBounds_toArray, List.set_cons_zero, List.set_cons_succ])
        refine wpList_skip (run_st8 (a := 255#8) rfl rfl rfl ((hM.out.get (i := 0) rfl).c _ _ HL.out) ((hM.out.get (i := 0) rfl).f _)) rfl rfl ?_
        refine wpList_end ?_
        replace hM := Lib.hid (hM.out.set 0 rfl HF1.out (b8 255#8))
        rw [set_map, NX.out] at hM
        generalize wr.setCell ⟨g4, 32 + j, none⟩ (b8 255#8) = e5 at *
        clear HL HF1 NX
        go_wp2_with fail
        exact ⟨⟨j + 1, by omega, by go_num, by rw [ENn.out]; exact hM.out⟩, by simp [intOf]; omega⟩
end Go.Proofs.YtfdjmdfaidiliaaDoor
