/- What keywardref04's Slice, Key and joined do. -/
import Derived.Test.YtebmcjleepnehaaDoorRef432
import Derived.Test.YtebmcjleepnehaaDoorTwo
import Derived.Test.YtebmcjleepnehaaDoorMacFill
namespace Go.Proofs.YtebmcjleepnehaaDoor
open Go.RowKit

def cp32 (d : List (BitVec 8)) : Nat → List (BitVec 8)
  | 0 => List.replicate 32 0
  | k + 1 => (cp32 d k).set k (d.getD k 0)
theorem cp_len32 (d : List (BitVec 8)) : ∀ k, (cp32 d k).length = 32
  | 0 => by rw [cp32, List.length_replicate]
  | k + 1 => by rw [cp32, List.length_set, cp_len32 d k]
theorem cp_at32 (d : List (BitVec 8)) (t : Nat) : ∀ k, k ≤ 32 → t < k → (cp32 d k).getD t 0 = d.getD t 0
  | 0, _, h => absurd h (Nat.not_lt_zero _)
  | k + 1, hk, h => by
    rw [cp32, getD_set8 _ _ _ _ (by rw [cp_len32]; omega)]
    by_cases e : k = t
    · rw [if_pos e, e]
    · rw [if_neg e]; exact cp_at32 d t k (by omega) (by omega)
theorem cp_eq32 {d : List (BitVec 8)} (h : d.length = 32) : cp32 d 32 = d := by
  apply List.ext_getElem (by rw [cp_len32, h])
  intro i h1 h2
  have := cp_at32 d i 32 (Nat.le_refl _) (by omega)
  simpa [List.getD_eq_getElem?_getD, h1, h2] using this
set_option maxRecDepth 100000 in
theorem run_bldZ32 {w : World} {ρ : Operand → Value} {o : Oper} (ho : o.op = .build 28 #[]) : (execOp ρ o).run Tryd.prog w = .ok (.value (.agg (z8 32).toArray)) w := by
  obtain ⟨dst, op, type, pos, after, guard⟩ := o
  subst ho
  go_simp
  rfl
structure CpI32 (w : World) (x : List (BitVec 8)) (u : World) : Prop where
  bl : Below w.heap.size w u
  R : Arr w.heap.size (z8 32) u
  O : Arr (w.heap.size + 1) (x.map b8) u
  len : x.length = 32
theorem CpI32.below {w u u' : World} {x : List (BitVec 8)} (i : CpI32 w x u) (hb : Below u.heap.size u u') : CpI32 w x u' :=
  ⟨i.bl.trans (hb.mono i.bl.size), i.R.below hb, i.O.below hb, i.len⟩
theorem CpI32.set {w u : World} {x : List (BitVec 8)} (i : CpI32 w x u) {k : Nat} (hk : k < 32) (v : BitVec 8) : CpI32 w (x.set k v) (u.setCell ⟨w.heap.size + 1, k, none⟩ (b8 v)) :=
  ⟨i.bl.setCell (p := ⟨w.heap.size + 1, k, none⟩) (by simp) _, i.R.far (by omega) _ _, by rw [← set_map]; exact i.O.set (by rw [List.length_map, i.len]; exact hk) _, by rw [List.length_set, i.len]⟩
theorem zs_len32 : (z8 32).length = 32 := by unfold z8; rw [List.length_map, List.length_replicate]
set_option maxHeartbeats 1000000 in
theorem refsum32_any (v : Value) (l : List (BitVec 8)) (w : World) (hv : Sl v l w) (hl : l.length ≤ 10000) (hT : Tabs w) :
    Calls Tryd.prog 26 #[v] w fun e w' => e = .returned (.agg ((sum32 l).map b8).toArray) ∧ Below w.heap.size w w' := by
  have HT := Lib.hid hT; clear hT
  have HV := Lib.hid hv; clear hv
  go_enter Tryd.func26, Tryd.ntmps26
  go_upto_region 0 with fail; refine wp_region_lit ?_
  refine wpList_val (run_alc (vs := z8 32) rfl (by kernel_rfl)) rfl ?_; (try simp only [Act.put, List.setIfInBounds_toArray, List.set_cons_zero, List.set_cons_succ])
  refine wpList_end ?_
  go_upto_region 1 with fail; refine wp_region_lit ?_
  refine wpList_val (run_bldZ32 rfl) rfl ?_; (try simp only [Act.put, List.setIfInBounds_toArray, List.set_cons_zero, List.set_cons_succ])
  refine wpList_val (run_alc (vs := z8 32) rfl (by kernel_rfl)) rfl ?_; (try simp only [Act.put, List.setIfInBounds_toArray, List.set_cons_zero, List.set_cons_succ])
  have b1 : Below w.heap.size w ((w.alloc (.cells (z8 32).toArray 28)).alloc (.cells (z8 32).toArray 28)) := ((Below.refl _ _).alloc (Nat.le_refl _) _).alloc (by simp) _
  have R1 := (Arr.new w (z8 32) 28).below ((Below.refl _ _).alloc (Nat.le_refl _) (.cells (z8 32).toArray 28))
  have O1 : Arr (w.heap.size + 1) (z8 32) ((w.alloc (.cells (z8 32).toArray 28)).alloc (.cells (z8 32).toArray 28)) := Arr.at (by simp) (z8 32) _
  rw [show (w.alloc (.cells (z8 32).toArray 28)).heap.size = w.heap.size + 1 by simp]
  generalize (w.alloc (.cells (z8 32).toArray 28)).alloc (.cells (z8 32).toArray 28) = u0 at *
  have HZ : Hid ((Tryd.prog.info? 28).map (·.size) = some (z8 32).length) := Lib.hid (by rw [zs_len32]; kernel_rfl)
  refine wpList_skip (run_stA (vs := z8 32) rfl HZ.out rfl rfl (one8 _) O1.there) rfl rfl ?_
  refine wpList_end ?_
  have hI : Hid (CpI32 w (List.replicate 32 0) (u0.setCells (w.heap.size + 1) 0 (z8 32))) := Lib.hid ⟨below_setCells (by omega) _ _ b1, R1.farAll (by omega) _ _, O1.put rfl, List.length_replicate⟩
  clear b1 R1 O1 HZ
  generalize u0.setCells (w.heap.size + 1) 0 (z8 32) = u1 at *
  go_upto_region 2 with fail; refine wp_region_lit ?_
  refine wpList_callR (run_call0 enters_narrow rfl rfl) rfl (narrow_any _) (fun vh u2 hR => ?_); (try simp only [Act.put, List.setIfInBounds_toArray, List.set_cons_zero, List.set_cons_succ])
  obtain ⟨h, hvh, hm, hb⟩ := hR
  subst hvh
  have HM := Lib.hid hm; clear hm
  replace hI := Lib.hid (hI.out.below hb)
  clear hb
  have hlt2 := hI.out.O.lt
  refine wpList_val (run_mv (v := v) rfl rfl) rfl ?_; (try simp only [Act.put, List.setIfInBounds_toArray, List.set_cons_zero, List.set_cons_succ])
  refine wpList_callR (run_call2 enters_rsum rfl rfl rfl rfl) rfl (rsum32_any h v l _ (HV.out.below hI.out.bl) hl HM.out (HT.out.below hI.out.bl)) (fun v2 u3 hR => ?_); (try simp only [Act.put, List.setIfInBounds_toArray, List.set_cons_zero, List.set_cons_succ])
  obtain ⟨ho, hb⟩ := hR
  replace hI := Lib.hid (hI.out.below hb)
  clear hb HM HT HV
  obtain ⟨g, c, h2, hc, hg2, AG⟩ := own_arr ho (by omega)
  subst h2
  have HG := Lib.hid AG; clear AG ho
  have hdl := sum_len32 l
  generalize hd : sum32 l = DG at *
  have ED := Lib.hid hd; clear hd
  have HE := Lib.hid (cp_eq32 hdl)
  refine wpList_val (run_asg (v := .slice (some _) _ _) rfl rfl) rfl ?_; (try simp only [Act.put, List.setIfInBounds_toArray, List.set_cons_zero, List.set_cons_succ])
  refine wpList_end ?_
  replace hI : Hid (CpI32 w (cp32 DG 0) u3) := hI
  have hne : w.heap.size + 1 ≠ g := by omega
  clear hg2 hlt2 hc
  go_upto_region 3 with fail; refine wp_region_lit ?_
  (repeat ((first | refine wpList_val (run_mv (v := b32 _) rfl rfl) rfl ?_ | refine wpList_val (run_mv (v := b64 _) rfl rfl) rfl ?_ | refine wpList_val (run_mv (v := b8 _) rfl rfl) rfl ?_ | refine wpList_val (run_mv (v := .int _ _) rfl rfl) rfl ?_ | refine wpList_val (run_mv (v := .bool _) rfl rfl) rfl ?_ | refine wpList_val (run_mv (v := .slice (some _) _ _) rfl rfl) rfl ?_ | refine wpList_val (run_mv (v := .slice _ _ _) rfl rfl) rfl ?_ | refine wpList_val (run_mv (v := .pointer (some _)) rfl rfl) rfl ?_ | refine wpList_val (run_mv (v := .agg _) rfl rfl) rfl ?_ | refine wpList_val (run_asg (v := b32 _) rfl rfl) rfl ?_ | refine wpList_val (run_asg (v := b64 _) rfl rfl) rfl ?_ | refine wpList_val (run_asg (v := b8 _) rfl rfl) rfl ?_ | refine wpList_val (run_asg (v := .int _ _) rfl rfl) rfl ?_ | refine wpList_val (run_asg (v := .bool _) rfl rfl) rfl ?_ | refine wpList_val (run_asg (v := .slice (some _) _ _) rfl rfl) rfl ?_ | refine wpList_val (run_asg (v := .slice _ _ _) rfl rfl) rfl ?_ | refine wpList_val (run_asg (v := .pointer (some _)) rfl rfl) rfl ?_ | refine wpList_val (run_asg (v := .agg _) rfl rfl) rfl ?_ | refine wpList_val (run_mv rfl rfl) rfl ?_ | refine wpList_val (run_asg rfl rfl) rfl ?_ | refine wpList_val (run_xor32 rfl rfl rfl) rfl ?_ | refine wpList_val (run_and32 rfl rfl rfl) rfl ?_ | refine wpList_val (run_or32 rfl rfl rfl) rfl ?_ | refine wpList_val (run_add32 rfl rfl rfl) rfl ?_ | refine wpList_val (run_not32 rfl rfl) rfl ?_ | refine wpList_val (run_xor64 rfl rfl rfl) rfl ?_ | refine wpList_val (run_and64 rfl rfl rfl) rfl ?_ | refine wpList_val (run_or64 rfl rfl rfl) rfl ?_ | refine wpList_val (run_add64 rfl rfl rfl) rfl ?_ | refine wpList_val (run_not64 rfl rfl) rfl ?_ | refine wpList_val (run_xor8 rfl rfl rfl) rfl ?_ | refine wpList_val (run_and8 rfl rfl rfl) rfl ?_ | refine wpList_val (run_or8 rfl rfl rfl) rfl ?_ | refine wpList_val (run_add8 rfl rfl rfl) rfl ?_ | refine wpList_val (run_not8 rfl rfl) rfl ?_ | refine wpList_val (run_cv64_32 rfl rfl) rfl ?_ | refine wpList_val (run_cv8_32 rfl rfl) rfl ?_ | refine wpList_val (run_cv8_64 rfl rfl) rfl ?_ | refine wpList_val (run_cv32_8 rfl rfl) rfl ?_ | refine wpList_val (run_cv64_8 rfl rfl) rfl ?_); (try simp only [Act.put, List.setIfInBounds_toArray, List.set_cons_zero, List.set_cons_succ])))
  refine wpList_end ?_
  go_wp2_with fail
  go_loopw [5] (fun v5 u => ∃ k : Nat, k ≤ 32 ∧ v5 = .int .i64 (k : Int) ∧ CpI32 w (cp32 DG k) u ∧ Arr g (DG.map b8) u) (fun v5 _ => (32 - intOf v5).toNat)
  case atStart => exact ⟨0, by omega, rfl, hI.out, HG.out⟩
  case round =>
    obtain ⟨k, hk, rfl, hJ, hJ2⟩ := hrel
    replace hI := Lib.hid hJ
    replace HG := Lib.hid hJ2
    clear hJ hJ2
    by_cases hkd : k = 32
    · subst hkd
      have hk1 : ¬ (((32 : Nat) : Int) < 32) := by omega
      rw [HE.out] at hI
      have hT := (hI.out.R.put (l' := DG.map b8) (by rw [List.length_map, hdl, zs_len32])).range
      have HL := Lib.hid (size_d32 hdl)
      have HZL := Lib.hid zs_len32
      go_upto_region 7 with fail; refine wp_region_lit ?_
      refine wpList_val (run_ldA (vs := DG.map b8) rfl Tryd.underlying28 HL.out rfl hI.out.O.range) rfl ?_; (try simp only [Act.put, List.setIfInBounds_toArray, List.set_cons_zero, List.set_cons_succ])
      refine wpList_skip (run_stA (vs := DG.map b8) rfl HL.out rfl rfl (one8 _) (by rw [List.length_map, hdl, ← HZL.out]; exact hI.out.R.there)) rfl rfl ?_
      refine wpList_end ?_
      go_wp2_with fail
      refine bodyPost_ret (v := .agg (DG.map b8).toArray) ?_ rfl ⟨by rw [ED.out], below_setCells (Nat.le_refl _) _ _ hI.out.bl⟩
      exact results_arr Tryd.results26 rfl Tryd.underlying28 HL.out hT
    · have hk1 : (k : Int) < 32 := by omega
      have hk2 : k < 32 := by omega
      go_upto_region 6 with fail; refine wp_region_lit ?_
      (repeat ((first | refine wpList_val (run_mv (v := b32 _) rfl rfl) rfl ?_ | refine wpList_val (run_mv (v := b64 _) rfl rfl) rfl ?_ | refine wpList_val (run_mv (v := b8 _) rfl rfl) rfl ?_ | refine wpList_val (run_mv (v := .int _ _) rfl rfl) rfl ?_ | refine wpList_val (run_mv (v := .bool _) rfl rfl) rfl ?_ | refine wpList_val (run_mv (v := .slice (some _) _ _) rfl rfl) rfl ?_ | refine wpList_val (run_mv (v := .slice _ _ _) rfl rfl) rfl ?_ | refine wpList_val (run_mv (v := .pointer (some _)) rfl rfl) rfl ?_ | refine wpList_val (run_mv (v := .agg _) rfl rfl) rfl ?_ | refine wpList_val (run_asg (v := b32 _) rfl rfl) rfl ?_ | refine wpList_val (run_asg (v := b64 _) rfl rfl) rfl ?_ | refine wpList_val (run_asg (v := b8 _) rfl rfl) rfl ?_ | refine wpList_val (run_asg (v := .int _ _) rfl rfl) rfl ?_ | refine wpList_val (run_asg (v := .bool _) rfl rfl) rfl ?_ | refine wpList_val (run_asg (v := .slice (some _) _ _) rfl rfl) rfl ?_ | refine wpList_val (run_asg (v := .slice _ _ _) rfl rfl) rfl ?_ | refine wpList_val (run_asg (v := .pointer (some _)) rfl rfl) rfl ?_ | refine wpList_val (run_asg (v := .agg _) rfl rfl) rfl ?_ | refine wpList_val (run_mv rfl rfl) rfl ?_ | refine wpList_val (run_asg rfl rfl) rfl ?_ | refine wpList_val (run_xor32 rfl rfl rfl) rfl ?_ | refine wpList_val (run_and32 rfl rfl rfl) rfl ?_ | refine wpList_val (run_or32 rfl rfl rfl) rfl ?_ | refine wpList_val (run_add32 rfl rfl rfl) rfl ?_ | refine wpList_val (run_not32 rfl rfl) rfl ?_ | refine wpList_val (run_xor64 rfl rfl rfl) rfl ?_ | refine wpList_val (run_and64 rfl rfl rfl) rfl ?_ | refine wpList_val (run_or64 rfl rfl rfl) rfl ?_ | refine wpList_val (run_add64 rfl rfl rfl) rfl ?_ | refine wpList_val (run_not64 rfl rfl) rfl ?_ | refine wpList_val (run_xor8 rfl rfl rfl) rfl ?_ | refine wpList_val (run_and8 rfl rfl rfl) rfl ?_ | refine wpList_val (run_or8 rfl rfl rfl) rfl ?_ | refine wpList_val (run_add8 rfl rfl rfl) rfl ?_ | refine wpList_val (run_not8 rfl rfl) rfl ?_ | refine wpList_val (run_cv64_32 rfl rfl) rfl ?_ | refine wpList_val (run_cv8_32 rfl rfl) rfl ?_ | refine wpList_val (run_cv8_64 rfl rfl) rfl ?_ | refine wpList_val (run_cv32_8 rfl rfl) rfl ?_ | refine wpList_val (run_cv64_8 rfl rfl) rfl ?_); (try simp only [Act.put, List.setIfInBounds_toArray, List.set_cons_zero, List.set_cons_succ])))
      refine wpList_val (run_ixs rfl Tryd.underlying22 (by kernel_rfl) rfl rfl hk2) rfl ?_; (try simp only [Act.put, List.setIfInBounds_toArray, List.set_cons_zero, List.set_cons_succ])
      rw [Nat.zero_add k]
      refine wpList_val (run_ld8 rfl rfl (HG.out.c k _ (get_map b8 0 (by rw [hdl]; exact hk2)))) rfl ?_; (try simp only [Act.put, List.setIfInBounds_toArray, List.set_cons_zero, List.set_cons_succ])
      refine wpList_val (run_ix0 rfl Tryd.underlying28 (by kernel_rfl) rfl rfl hk2) rfl ?_; (try simp only [Act.put, List.setIfInBounds_toArray, List.set_cons_zero, List.set_cons_succ])
      refine wpList_skip (run_st8 rfl rfl rfl (hI.out.O.c k _ (get_map b8 0 (by rw [hI.out.len]; exact hk2))) (hI.out.O.f _)) rfl rfl ?_
      refine wpList_end ?_
      replace hI := Lib.hid (hI.out.set hk2 (DG.getD k 0))
      replace HG := Lib.hid (HG.out.far hne k (b8 (DG.getD k 0)))
      generalize wr.setCell ⟨w.heap.size + 1, k, none⟩ (b8 (DG.getD k 0)) = u4 at *
      go_wp2_with fail
      go_roundw
      case rel => exact ⟨k + 1, by omega, by go_num, hI.out, HG.out⟩
      case measure => simp [intOf]; omega
theorem enters_refsum32 : Enters 26 := enters_of Tryd.func26 (by kernel_rfl) rfl
end Go.Proofs.YtebmcjleepnehaaDoor
namespace Go.Proofs.YtebmcjleepnehaaDoor
open Go.RowKit

theorem enters_rslice : Enters 25 := enters_of Tryd.func25 (by kernel_rfl) rfl
theorem enters_joined : Enters 27 := enters_of Tryd.func27 (by kernel_rfl) rfl
set_option maxHeartbeats 1000000 in
theorem rslice_any (K : List (BitVec 8)) (w : World) (hK : K.length = 32) :
    Calls Tryd.prog 25 #[.agg (K.map b8).toArray] w fun e w' => ∃ v', e = .returned v' ∧ (w'.ownsRow w.heap.size 5 1 v' 32 (K.map b8) ∧ Below w.heap.size w w') := by
  go_enter Tryd.func25, Tryd.ntmps25
  go_upto_region 0 with fail; refine wp_region_lit ?_
  refine wpList_val (run_box rfl rfl) rfl ?_; (try simp only [Act.put, List.setIfInBounds_toArray, List.set_cons_zero, List.set_cons_succ])
  (repeat ((first | refine wpList_val (run_mv (v := b32 _) rfl rfl) rfl ?_ | refine wpList_val (run_mv (v := b64 _) rfl rfl) rfl ?_ | refine wpList_val (run_mv (v := b8 _) rfl rfl) rfl ?_ | refine wpList_val (run_mv (v := .int _ _) rfl rfl) rfl ?_ | refine wpList_val (run_mv (v := .bool _) rfl rfl) rfl ?_ | refine wpList_val (run_mv (v := .slice (some _) _ _) rfl rfl) rfl ?_ | refine wpList_val (run_mv (v := .slice _ _ _) rfl rfl) rfl ?_ | refine wpList_val (run_mv (v := .pointer (some _)) rfl rfl) rfl ?_ | refine wpList_val (run_mv (v := .agg _) rfl rfl) rfl ?_ | refine wpList_val (run_asg (v := b32 _) rfl rfl) rfl ?_ | refine wpList_val (run_asg (v := b64 _) rfl rfl) rfl ?_ | refine wpList_val (run_asg (v := b8 _) rfl rfl) rfl ?_ | refine wpList_val (run_asg (v := .int _ _) rfl rfl) rfl ?_ | refine wpList_val (run_asg (v := .bool _) rfl rfl) rfl ?_ | refine wpList_val (run_asg (v := .slice (some _) _ _) rfl rfl) rfl ?_ | refine wpList_val (run_asg (v := .slice _ _ _) rfl rfl) rfl ?_ | refine wpList_val (run_asg (v := .pointer (some _)) rfl rfl) rfl ?_ | refine wpList_val (run_asg (v := .agg _) rfl rfl) rfl ?_ | refine wpList_val (run_mv rfl rfl) rfl ?_ | refine wpList_val (run_asg rfl rfl) rfl ?_ | refine wpList_val (run_xor32 rfl rfl rfl) rfl ?_ | refine wpList_val (run_and32 rfl rfl rfl) rfl ?_ | refine wpList_val (run_or32 rfl rfl rfl) rfl ?_ | refine wpList_val (run_add32 rfl rfl rfl) rfl ?_ | refine wpList_val (run_not32 rfl rfl) rfl ?_ | refine wpList_val (run_xor64 rfl rfl rfl) rfl ?_ | refine wpList_val (run_and64 rfl rfl rfl) rfl ?_ | refine wpList_val (run_or64 rfl rfl rfl) rfl ?_ | refine wpList_val (run_add64 rfl rfl rfl) rfl ?_ | refine wpList_val (run_not64 rfl rfl) rfl ?_ | refine wpList_val (run_xor8 rfl rfl rfl) rfl ?_ | refine wpList_val (run_and8 rfl rfl rfl) rfl ?_ | refine wpList_val (run_or8 rfl rfl rfl) rfl ?_ | refine wpList_val (run_add8 rfl rfl rfl) rfl ?_ | refine wpList_val (run_not8 rfl rfl) rfl ?_ | refine wpList_val (run_cv64_32 rfl rfl) rfl ?_ | refine wpList_val (run_cv8_32 rfl rfl) rfl ?_ | refine wpList_val (run_cv8_64 rfl rfl) rfl ?_ | refine wpList_val (run_cv32_8 rfl rfl) rfl ?_ | refine wpList_val (run_cv64_8 rfl rfl) rfl ?_); (try simp only [Act.put, List.setIfInBounds_toArray, List.set_cons_zero, List.set_cons_succ])))
  refine wpList_end ?_
  have HK := Lib.hid (Arr.new w (K.map b8) 28)
  have bl : Below w.heap.size w (w.alloc (.cells (K.map b8).toArray 28)) := (Below.refl _ _).alloc (Nat.le_refl _) _
  generalize w.alloc (.cells (K.map b8).toArray 28) = r at *
  have hI : Hid (S5 r (.slice none 0 0) (K.take 0) r) := Lib.hid ⟨Below.refl _ _, World.ownsRow_nil _ _ _ _⟩
  go_upto_region 1 with fail; refine wp_region_lit ?_
  (repeat ((first | refine wpList_val (run_mv (v := b32 _) rfl rfl) rfl ?_ | refine wpList_val (run_mv (v := b64 _) rfl rfl) rfl ?_ | refine wpList_val (run_mv (v := b8 _) rfl rfl) rfl ?_ | refine wpList_val (run_mv (v := .int _ _) rfl rfl) rfl ?_ | refine wpList_val (run_mv (v := .bool _) rfl rfl) rfl ?_ | refine wpList_val (run_mv (v := .slice (some _) _ _) rfl rfl) rfl ?_ | refine wpList_val (run_mv (v := .slice _ _ _) rfl rfl) rfl ?_ | refine wpList_val (run_mv (v := .pointer (some _)) rfl rfl) rfl ?_ | refine wpList_val (run_mv (v := .agg _) rfl rfl) rfl ?_ | refine wpList_val (run_asg (v := b32 _) rfl rfl) rfl ?_ | refine wpList_val (run_asg (v := b64 _) rfl rfl) rfl ?_ | refine wpList_val (run_asg (v := b8 _) rfl rfl) rfl ?_ | refine wpList_val (run_asg (v := .int _ _) rfl rfl) rfl ?_ | refine wpList_val (run_asg (v := .bool _) rfl rfl) rfl ?_ | refine wpList_val (run_asg (v := .slice (some _) _ _) rfl rfl) rfl ?_ | refine wpList_val (run_asg (v := .slice _ _ _) rfl rfl) rfl ?_ | refine wpList_val (run_asg (v := .pointer (some _)) rfl rfl) rfl ?_ | refine wpList_val (run_asg (v := .agg _) rfl rfl) rfl ?_ | refine wpList_val (run_mv rfl rfl) rfl ?_ | refine wpList_val (run_asg rfl rfl) rfl ?_ | refine wpList_val (run_xor32 rfl rfl rfl) rfl ?_ | refine wpList_val (run_and32 rfl rfl rfl) rfl ?_ | refine wpList_val (run_or32 rfl rfl rfl) rfl ?_ | refine wpList_val (run_add32 rfl rfl rfl) rfl ?_ | refine wpList_val (run_not32 rfl rfl) rfl ?_ | refine wpList_val (run_xor64 rfl rfl rfl) rfl ?_ | refine wpList_val (run_and64 rfl rfl rfl) rfl ?_ | refine wpList_val (run_or64 rfl rfl rfl) rfl ?_ | refine wpList_val (run_add64 rfl rfl rfl) rfl ?_ | refine wpList_val (run_not64 rfl rfl) rfl ?_ | refine wpList_val (run_xor8 rfl rfl rfl) rfl ?_ | refine wpList_val (run_and8 rfl rfl rfl) rfl ?_ | refine wpList_val (run_or8 rfl rfl rfl) rfl ?_ | refine wpList_val (run_add8 rfl rfl rfl) rfl ?_ | refine wpList_val (run_not8 rfl rfl) rfl ?_ | refine wpList_val (run_cv64_32 rfl rfl) rfl ?_ | refine wpList_val (run_cv8_32 rfl rfl) rfl ?_ | refine wpList_val (run_cv8_64 rfl rfl) rfl ?_ | refine wpList_val (run_cv32_8 rfl rfl) rfl ?_ | refine wpList_val (run_cv64_8 rfl rfl) rfl ?_); (try simp only [Act.put, List.setIfInBounds_toArray, List.set_cons_zero, List.set_cons_succ])))
  refine wpList_end ?_
  go_upto_region 2 with fail; refine wp_region_lit ?_
  (repeat ((first | refine wpList_val (run_mv (v := b32 _) rfl rfl) rfl ?_ | refine wpList_val (run_mv (v := b64 _) rfl rfl) rfl ?_ | refine wpList_val (run_mv (v := b8 _) rfl rfl) rfl ?_ | refine wpList_val (run_mv (v := .int _ _) rfl rfl) rfl ?_ | refine wpList_val (run_mv (v := .bool _) rfl rfl) rfl ?_ | refine wpList_val (run_mv (v := .slice (some _) _ _) rfl rfl) rfl ?_ | refine wpList_val (run_mv (v := .slice _ _ _) rfl rfl) rfl ?_ | refine wpList_val (run_mv (v := .pointer (some _)) rfl rfl) rfl ?_ | refine wpList_val (run_mv (v := .agg _) rfl rfl) rfl ?_ | refine wpList_val (run_asg (v := b32 _) rfl rfl) rfl ?_ | refine wpList_val (run_asg (v := b64 _) rfl rfl) rfl ?_ | refine wpList_val (run_asg (v := b8 _) rfl rfl) rfl ?_ | refine wpList_val (run_asg (v := .int _ _) rfl rfl) rfl ?_ | refine wpList_val (run_asg (v := .bool _) rfl rfl) rfl ?_ | refine wpList_val (run_asg (v := .slice (some _) _ _) rfl rfl) rfl ?_ | refine wpList_val (run_asg (v := .slice _ _ _) rfl rfl) rfl ?_ | refine wpList_val (run_asg (v := .pointer (some _)) rfl rfl) rfl ?_ | refine wpList_val (run_asg (v := .agg _) rfl rfl) rfl ?_ | refine wpList_val (run_mv rfl rfl) rfl ?_ | refine wpList_val (run_asg rfl rfl) rfl ?_ | refine wpList_val (run_xor32 rfl rfl rfl) rfl ?_ | refine wpList_val (run_and32 rfl rfl rfl) rfl ?_ | refine wpList_val (run_or32 rfl rfl rfl) rfl ?_ | refine wpList_val (run_add32 rfl rfl rfl) rfl ?_ | refine wpList_val (run_not32 rfl rfl) rfl ?_ | refine wpList_val (run_xor64 rfl rfl rfl) rfl ?_ | refine wpList_val (run_and64 rfl rfl rfl) rfl ?_ | refine wpList_val (run_or64 rfl rfl rfl) rfl ?_ | refine wpList_val (run_add64 rfl rfl rfl) rfl ?_ | refine wpList_val (run_not64 rfl rfl) rfl ?_ | refine wpList_val (run_xor8 rfl rfl rfl) rfl ?_ | refine wpList_val (run_and8 rfl rfl rfl) rfl ?_ | refine wpList_val (run_or8 rfl rfl rfl) rfl ?_ | refine wpList_val (run_add8 rfl rfl rfl) rfl ?_ | refine wpList_val (run_not8 rfl rfl) rfl ?_ | refine wpList_val (run_cv64_32 rfl rfl) rfl ?_ | refine wpList_val (run_cv8_32 rfl rfl) rfl ?_ | refine wpList_val (run_cv8_64 rfl rfl) rfl ?_ | refine wpList_val (run_cv32_8 rfl rfl) rfl ?_ | refine wpList_val (run_cv64_8 rfl rfl) rfl ?_); (try simp only [Act.put, List.setIfInBounds_toArray, List.set_cons_zero, List.set_cons_succ])))
  refine wpList_end ?_
  go_wp2_with fail
  go_loopw [3, 4] (fun s3 s4 u => ∃ k : Nat, k ≤ 32 ∧ s4 = .int .i64 (k : Int) ∧ S5 r s3 (K.take k) u) (fun _ s4 _ => (32 - intOf s4).toNat)
  case atStart => exact ⟨0, by omega, rfl, hI.out⟩
  case round v3 v4 _ =>
    obtain ⟨k, hk, rfl, hJ⟩ := hrel
    replace hI := Lib.hid hJ
    clear hJ
    by_cases hlt : k = 32
    · subst hlt
      have hk1 : ¬ (((32 : Nat) : Int) < 32) := by omega
      rw [List.take_of_length_le (by omega)] at hI
      go_upto_region 6 with fail; refine wp_region_lit ?_
      refine wpList_val (run_mv (v := u3) rfl rfl) rfl ?_; (try simp only [Act.put, List.setIfInBounds_toArray, List.set_cons_zero, List.set_cons_succ])
      refine wpList_val (run_asg (v := u3) rfl rfl) rfl ?_; (try simp only [Act.put, List.setIfInBounds_toArray, List.set_cons_zero, List.set_cons_succ])
      refine wpList_end ?_
      go_wp2_with fail
      refine bodyPost_ret (results_tmp Tryd.results25 _ _ _) rfl ⟨_, rfl, ?_, bl.trans (hI.out.bl.mono bl.size)⟩
      have := own_mono hI.out.O bl.size
      rw [hK] at this
      exact this
    · have hk1 : (k : Int) < 32 := by omega
      have hk2 : k < 32 := by omega
      have HT2 := Lib.hid (take_snoc8 K k (by omega))
      have htl : (K.take k).length = k := by rw [List.length_take]; omega
      have HC : Hid (wr.cell? ⟨w.heap.size, k, none⟩ = some (b8 (K.getD k 0))) := Lib.hid ((HK.out.below hI.out.bl).c k _ (get_map b8 0 (by omega)))
      generalize K.getD k 0 = x at *
      generalize hP : K.take k = P at *
      clear hP
      go_upto_region 5 with fail; refine wp_region_lit ?_
      refine wpList_val (run_mv (v := u3) rfl rfl) rfl ?_; (try simp only [Act.put, List.setIfInBounds_toArray, List.set_cons_zero, List.set_cons_succ])
      refine wpList_val (run_mv (v := .int _ _) rfl rfl) rfl ?_; (try simp only [Act.put, List.setIfInBounds_toArray, List.set_cons_zero, List.set_cons_succ])
      refine wpList_val (run_ix0 rfl Tryd.underlying28 (by kernel_rfl) rfl rfl hk2) rfl ?_; (try simp only [Act.put, List.setIfInBounds_toArray, List.set_cons_zero, List.set_cons_succ])
      refine wpList_val (run_ld8 rfl rfl HC.out) rfl ?_; (try simp only [Act.put, List.setIfInBounds_toArray, List.set_cons_zero, List.set_cons_succ])
      refine wpList_val (run_bsl (cells := #[b8 (x)]) (z := .int .u8 0) rfl Tryd.underlying22 (by kernel_rfl) (by omega) (by omega) (by kernel_rfl)) rfl ?_; (try simp only [Act.put, List.setIfInBounds_toArray, List.set_cons_zero, List.set_cons_succ]); have hb2 : Below wr.heap.size wr (wr.alloc (.cells #[b8 (x)] 5)) := (Below.refl _ _).alloc (Nat.le_refl _) _; have A2 : Hid (Arr wr.heap.size ([x].map b8) (wr.alloc (.cells #[b8 (x)] 5))) := Lib.hid (Arr.new wr _ _); replace hI := Lib.hid (hI.out.below hb2); clear hb2; generalize wr.alloc (.cells #[b8 (x)] 5) = ua at *; refine wpList_app (f := b8) (fun _ => rfl) (l := P) (m := [x]) (bw := 1) (z := .int .u8 0) rfl rfl Tryd.underlying22 (by kernel_rfl) rfl (by omega) rfl hI.out.O rfl A2.out.range (by rw [htl]; show k + 1 ≤ _; omega) hI.out.bl.size (fun v5 u5 h3 hb3 => ?_); (try simp only [Act.put, List.setIfInBounds_toArray, List.set_cons_zero, List.set_cons_succ]); replace hI : Hid (S5 _ v5 (P ++ [x]) u5) := Lib.hid ⟨hI.out.bl.trans hb3, by rw [List.length_append]; exact h3⟩; clear h3 hb3 A2; clear ua; refine wpList_val (run_asg (v := v5) rfl rfl) rfl ?_; (try simp only [Act.put, List.setIfInBounds_toArray, List.set_cons_zero, List.set_cons_succ]); refine wpList_end ?_
      rw [← HT2.out] at hI
      clear HC HT2
      go_wp2_with fail
      go_roundw
      case rel => exact ⟨k + 1, by omega, by go_num, hI.out⟩
      case measure => simp [intOf]; omega
set_option maxHeartbeats 1000000 in
theorem joined_any (va : Value) (a : List (BitVec 8)) (vb : Value) (b : List (BitVec 8)) (w : World) (ha : Sl va a w) (hb : Sl vb b w) (hn : a.length + b.length ≤ 16777216) :
    Calls Tryd.prog 27 #[va, vb] w fun e w' => ∃ v', e = .returned v' ∧ (Sl v' (a ++ b) w' ∧ Below w.heap.size w w') := by
  have HA := Lib.hid ha; clear ha
  have HB := Lib.hid hb; clear hb
  go_enter Tryd.func27, Tryd.ntmps27
  go_upto_region 1 with fail; refine wp_region_lit ?_
  (repeat ((first | refine wpList_val (run_mv (v := b32 _) rfl rfl) rfl ?_ | refine wpList_val (run_mv (v := b64 _) rfl rfl) rfl ?_ | refine wpList_val (run_mv (v := b8 _) rfl rfl) rfl ?_ | refine wpList_val (run_mv (v := .int _ _) rfl rfl) rfl ?_ | refine wpList_val (run_mv (v := .bool _) rfl rfl) rfl ?_ | refine wpList_val (run_mv (v := .slice (some _) _ _) rfl rfl) rfl ?_ | refine wpList_val (run_mv (v := .slice _ _ _) rfl rfl) rfl ?_ | refine wpList_val (run_mv (v := .pointer (some _)) rfl rfl) rfl ?_ | refine wpList_val (run_mv (v := .agg _) rfl rfl) rfl ?_ | refine wpList_val (run_asg (v := b32 _) rfl rfl) rfl ?_ | refine wpList_val (run_asg (v := b64 _) rfl rfl) rfl ?_ | refine wpList_val (run_asg (v := b8 _) rfl rfl) rfl ?_ | refine wpList_val (run_asg (v := .int _ _) rfl rfl) rfl ?_ | refine wpList_val (run_asg (v := .bool _) rfl rfl) rfl ?_ | refine wpList_val (run_asg (v := .slice (some _) _ _) rfl rfl) rfl ?_ | refine wpList_val (run_asg (v := .slice _ _ _) rfl rfl) rfl ?_ | refine wpList_val (run_asg (v := .pointer (some _)) rfl rfl) rfl ?_ | refine wpList_val (run_asg (v := .agg _) rfl rfl) rfl ?_ | refine wpList_val (run_mv rfl rfl) rfl ?_ | refine wpList_val (run_asg rfl rfl) rfl ?_ | refine wpList_val (run_xor32 rfl rfl rfl) rfl ?_ | refine wpList_val (run_and32 rfl rfl rfl) rfl ?_ | refine wpList_val (run_or32 rfl rfl rfl) rfl ?_ | refine wpList_val (run_add32 rfl rfl rfl) rfl ?_ | refine wpList_val (run_not32 rfl rfl) rfl ?_ | refine wpList_val (run_xor64 rfl rfl rfl) rfl ?_ | refine wpList_val (run_and64 rfl rfl rfl) rfl ?_ | refine wpList_val (run_or64 rfl rfl rfl) rfl ?_ | refine wpList_val (run_add64 rfl rfl rfl) rfl ?_ | refine wpList_val (run_not64 rfl rfl) rfl ?_ | refine wpList_val (run_xor8 rfl rfl rfl) rfl ?_ | refine wpList_val (run_and8 rfl rfl rfl) rfl ?_ | refine wpList_val (run_or8 rfl rfl rfl) rfl ?_ | refine wpList_val (run_add8 rfl rfl rfl) rfl ?_ | refine wpList_val (run_not8 rfl rfl) rfl ?_ | refine wpList_val (run_cv64_32 rfl rfl) rfl ?_ | refine wpList_val (run_cv8_32 rfl rfl) rfl ?_ | refine wpList_val (run_cv8_64 rfl rfl) rfl ?_ | refine wpList_val (run_cv32_8 rfl rfl) rfl ?_ | refine wpList_val (run_cv64_8 rfl rfl) rfl ?_); (try simp only [Act.put, List.setIfInBounds_toArray, List.set_cons_zero, List.set_cons_succ])))
  refine wpList_end ?_
  go_upto_region 2 with fail; refine wp_region_lit ?_
  refine wpList_val (run_mv (v := .slice _ _ _) rfl rfl) rfl ?_; (try simp only [Act.put, List.setIfInBounds_toArray, List.set_cons_zero, List.set_cons_succ])
  refine wpList_val (run_mv (v := va) rfl rfl) rfl ?_; (try simp only [Act.put, List.setIfInBounds_toArray, List.set_cons_zero, List.set_cons_succ])
  refine wpList_appG (l := []) (m := a) rfl rfl rfl (World.ownsRow_nil w w.heap.size _ _) rfl HA.out (by omega) (Nat.le_refl _) (fun v1 u1 h1 bl => ?_); (try simp only [Act.put, List.setIfInBounds_toArray, List.set_cons_zero, List.set_cons_succ])
  refine wpList_val (run_asg (v := v1) rfl rfl) rfl ?_; (try simp only [Act.put, List.setIfInBounds_toArray, List.set_cons_zero, List.set_cons_succ])
  refine wpList_end ?_
  have HO := Lib.hid h1; clear h1
  go_upto_region 3 with fail; refine wp_region_lit ?_
  refine wpList_val (run_mv (v := v1) rfl rfl) rfl ?_; (try simp only [Act.put, List.setIfInBounds_toArray, List.set_cons_zero, List.set_cons_succ])
  refine wpList_val (run_mv (v := vb) rfl rfl) rfl ?_; (try simp only [Act.put, List.setIfInBounds_toArray, List.set_cons_zero, List.set_cons_succ])
  refine wpList_appG (l := [] ++ a) (m := b) rfl rfl rfl HO.out rfl (HB.out.below bl) (by omega) bl.size (fun v2 u2 h2 hb2 => ?_); (try simp only [Act.put, List.setIfInBounds_toArray, List.set_cons_zero, List.set_cons_succ])
  refine wpList_val (run_asg (v := v2) rfl rfl) rfl ?_; (try simp only [Act.put, List.setIfInBounds_toArray, List.set_cons_zero, List.set_cons_succ])
  refine wpList_end ?_
  have HS : Hid (Sl v2 (a ++ b) u2) := Lib.hid (by
    rw [List.nil_append] at h2
    exact Sl.own (base := w.heap.size) (by rw [List.length_append]; rwa [Nat.zero_add] at h2))
  replace bl := bl.trans hb2
  clear h2 hb2 HO HA HB
  go_upto_region 4 with fail; refine wp_region_lit ?_
  refine wpList_val (run_mv (v := v2) rfl rfl) rfl ?_; (try simp only [Act.put, List.setIfInBounds_toArray, List.set_cons_zero, List.set_cons_succ])
  refine wpList_val (run_asg (v := v2) rfl rfl) rfl ?_; (try simp only [Act.put, List.setIfInBounds_toArray, List.set_cons_zero, List.set_cons_succ])
  refine wpList_end ?_
  go_wp2_with fail
  exact bodyPost_ret (results_tmp Tryd.results27 _ _ _) rfl ⟨_, rfl, HS.out, bl⟩
end Go.Proofs.YtebmcjleepnehaaDoor
