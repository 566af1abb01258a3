/- The law SignSigns, walked. -/
import Derived.Test.YtfdjmdfaidiliaaGreatDoorRef464
import Derived.Test.YtfdjmdfaidiliaaGreatDoorLimbs6
import Derived.Test.YtfdjmdfaidiliaaGreatDoorRefEd1
import Derived.Test.YtfdjmdfaidiliaaGreatDoorEdBack
import Derived.Test.YtfdjmdfaidiliaaGreatDoorRefSc4
import Derived.Test.YtfdjmdfaidiliaaGreatDoorFlB
import Derived.Test.YtfdjmdfaidiliaaGreatDoorSgDef
import Derived.Test.YtfdjmdfaidiliaaGreatDoorRefSg1
import Derived.Test.YtfdjmdfaidiliaaGreatDoorRefEd2
import Derived.Test.YtfdjmdfaidiliaaGreatDoorLateG
import Derived.Test.YtfdjmdfaidiliaaGreatDoorScOps
import Derived.Test.YtfdjmdfaidiliaaGreatDoorMixB
import Derived.Test.YtfdjmdfaidiliaaGreatDoorSgCon
namespace Go.Proofs.YtfdjmdfaidiliaaGreatDoor
open Go.RowKit
set_option maxRecDepth 20000

def cp64 (d : List (BitVec 8)) : Nat → List (BitVec 8)
  | 0 => List.replicate 64 0
  | k + 1 => (cp64 d k).set k (d.getD k 0)
theorem cp_len64 (d : List (BitVec 8)) : ∀ k, (cp64 d k).length = 64
  | 0 => by rw [cp64, List.length_replicate]
  | k + 1 => by rw [cp64, List.length_set, cp_len64 d k]
theorem cp_at64 (d : List (BitVec 8)) (t : Nat) : ∀ k, k ≤ 64 → t < k → (cp64 d k).getD t 0 = d.getD t 0
  | 0, _, h => absurd h (Nat.not_lt_zero _)
  | k + 1, hk, h => by
    rw [cp64, getD_set8 _ _ _ _ (by rw [cp_len64]; omega)]
    by_cases e : k = t
    · rw [if_pos e, e]
    · rw [if_neg e]; exact cp_at64 d t k (by omega) (by omega)
theorem cp_eq64 {d : List (BitVec 8)} (h : d.length = 64) : cp64 d 64 = d := by
  apply List.ext_getElem (by rw [cp_len64, h])
  intro i h1 h2
  have := cp_at64 d i 64 (Nat.le_refl _) (by omega)
  simpa [List.getD_eq_getElem?_getD, h1, h2] using this
set_option maxRecDepth 100000 in
theorem run_bldZ64 {w : World} {ρ : Operand → Value} {o : Oper} (ho : o.op = .build 28 #[]) : (execOp ρ o).run Tryz.prog w = .ok (.value (.agg (z8 64).toArray)) w := by
  obtain ⟨dst, op, type, pos, after, guard⟩ := o
  subst ho
  go_simp
  rfl
structure CpI64 (w : World) (x : List (BitVec 8)) (u : World) : Prop where
  bl : Below w.heap.size w u
  R : Arr w.heap.size (z8 64) u
  O : Arr (w.heap.size + 1) (x.map b8) u
  len : x.length = 64
theorem CpI64.below {w u u' : World} {x : List (BitVec 8)} (i : CpI64 w x u) (hb : Below u.heap.size u u') : CpI64 w x u' :=
  ⟨i.bl.trans (hb.mono i.bl.size), i.R.below hb, i.O.below hb, i.len⟩
theorem CpI64.set {w u : World} {x : List (BitVec 8)} (i : CpI64 w x u) {k : Nat} (hk : k < 64) (v : BitVec 8) : CpI64 w (x.set k v) (u.setCell ⟨w.heap.size + 1, k, none⟩ (b8 v)) :=
  ⟨i.bl.setCell (p := ⟨w.heap.size + 1, k, none⟩) (by simp) _, i.R.far (by omega) _ _, by rw [← set_map]; exact i.O.set (by rw [List.length_map, i.len]; exact hk) _, by rw [List.length_set, i.len]⟩
theorem zs_len64 : (z8 64).length = 64 := by unfold z8; rw [List.length_map, List.length_replicate]
set_option maxHeartbeats 1000000 in
theorem refsum64_any (v : Value) (l : List (BitVec 8)) (w : World) (hv : Sl v l w) (hl : l.length ≤ 10000) (hT : Tabs w) :
    Calls Tryz.prog 13 #[v] w fun e w' => e = .returned (.agg ((sum64 l).map b8).toArray) ∧ Below w.heap.size w w' := by
  have HT := Lib.hid hT; clear hT
  have HV := Lib.hid hv; clear hv
  go_enter Tryz.func13, Tryz.ntmps13
  go_upto_region 0 with fail; refine wp_region_lit ?_
  refine wpList_val (run_alc (vs := z8 64) rfl (by kernel_rfl)) rfl ?_; (try simp only [Act.put, List.setIfInBounds_toArray, List.set_cons_zero, List.set_cons_succ])
  refine wpList_end ?_
  go_upto_region 1 with fail; refine wp_region_lit ?_
  refine wpList_val (run_bldZ64 rfl) rfl ?_; (try simp only [Act.put, List.setIfInBounds_toArray, List.set_cons_zero, List.set_cons_succ])
  refine wpList_val (run_alc (vs := z8 64) rfl (by kernel_rfl)) rfl ?_; (try simp only [Act.put, List.setIfInBounds_toArray, List.set_cons_zero, List.set_cons_succ])
  have b1 : Below w.heap.size w ((w.alloc (.cells (z8 64).toArray 28)).alloc (.cells (z8 64).toArray 28)) := ((Below.refl _ _).alloc (Nat.le_refl _) _).alloc (by simp) _
  have R1 := (Arr.new w (z8 64) 28).below ((Below.refl _ _).alloc (Nat.le_refl _) (.cells (z8 64).toArray 28))
  have O1 : Arr (w.heap.size + 1) (z8 64) ((w.alloc (.cells (z8 64).toArray 28)).alloc (.cells (z8 64).toArray 28)) := Arr.at (by simp) (z8 64) _
  rw [show (w.alloc (.cells (z8 64).toArray 28)).heap.size = w.heap.size + 1 by simp]
  generalize (w.alloc (.cells (z8 64).toArray 28)).alloc (.cells (z8 64).toArray 28) = u0 at *
  have HZ : Hid ((Tryz.prog.info? 28).map (·.size) = some (z8 64).length) := Lib.hid (by rw [zs_len64]; kernel_rfl)
  refine wpList_skip (run_stA (vs := z8 64) rfl HZ.out rfl rfl (one8 _) O1.there) rfl rfl ?_
  refine wpList_end ?_
  have hI : Hid (CpI64 w (List.replicate 64 0) (u0.setCells (w.heap.size + 1) 0 (z8 64))) := Lib.hid ⟨below_setCells (by omega) _ _ b1, R1.farAll (by omega) _ _, O1.put rfl, List.length_replicate⟩
  clear b1 R1 O1 HZ
  generalize u0.setCells (w.heap.size + 1) 0 (z8 64) = u1 at *
  go_upto_region 2 with fail; refine wp_region_lit ?_
  refine wpList_callR (run_call0 enters_wide rfl rfl) rfl (wide_any _) (fun vh u2 hR => ?_); (try simp only [Act.put, List.setIfInBounds_toArray, List.set_cons_zero, List.set_cons_succ])
  obtain ⟨h, hvh, hm, hb⟩ := hR
  subst hvh
  have HM := Lib.hid hm; clear hm
  replace hI := Lib.hid (hI.out.below hb)
  clear hb
  have hlt2 := hI.out.O.lt
  refine wpList_val (run_mv (v := v) rfl rfl) rfl ?_; (try simp only [Act.put, List.setIfInBounds_toArray, List.set_cons_zero, List.set_cons_succ])
  refine wpList_callR (run_call2 enters_rsum rfl rfl rfl rfl) rfl (rsum64_any h v l _ (HV.out.below hI.out.bl) hl HM.out (HT.out.below hI.out.bl)) (fun v2 u3 hR => ?_); (try simp only [Act.put, List.setIfInBounds_toArray, List.set_cons_zero, List.set_cons_succ])
  obtain ⟨ho, hb⟩ := hR
  replace hI := Lib.hid (hI.out.below hb)
  clear hb HM HT HV
  obtain ⟨g, c, h2, hc, hg2, AG⟩ := own_arr ho (by omega)
  subst h2
  have HG := Lib.hid AG; clear AG ho
  have hdl := sum_len64 l
  generalize hd : sum64 l = DG at *
  have ED := Lib.hid hd; clear hd
  have HE := Lib.hid (cp_eq64 hdl)
  refine wpList_val (run_asg (v := .slice (some _) _ _) rfl rfl) rfl ?_; (try simp only [Act.put, List.setIfInBounds_toArray, List.set_cons_zero, List.set_cons_succ])
  refine wpList_end ?_
  replace hI : Hid (CpI64 w (cp64 DG 0) u3) := hI
  have hne : w.heap.size + 1 ≠ g := by omega
  clear hg2 hlt2 hc
  go_upto_region 3 with fail; refine wp_region_lit ?_
  (repeat ((first | refine wpList_val (run_mv (v := b32 _) rfl rfl) rfl ?_ | refine wpList_val (run_mv (v := b64 _) rfl rfl) rfl ?_ | refine wpList_val (run_mv (v := b8 _) rfl rfl) rfl ?_ | refine wpList_val (run_mv (v := .int _ _) rfl rfl) rfl ?_ | refine wpList_val (run_mv (v := .bool _) rfl rfl) rfl ?_ | refine wpList_val (run_mv (v := .slice (some _) _ _) rfl rfl) rfl ?_ | refine wpList_val (run_mv (v := .slice _ _ _) rfl rfl) rfl ?_ | refine wpList_val (run_mv (v := .pointer (some _)) rfl rfl) rfl ?_ | refine wpList_val (run_mv (v := .agg _) rfl rfl) rfl ?_ | refine wpList_val (run_asg (v := b32 _) rfl rfl) rfl ?_ | refine wpList_val (run_asg (v := b64 _) rfl rfl) rfl ?_ | refine wpList_val (run_asg (v := b8 _) rfl rfl) rfl ?_ | refine wpList_val (run_asg (v := .int _ _) rfl rfl) rfl ?_ | refine wpList_val (run_asg (v := .bool _) rfl rfl) rfl ?_ | refine wpList_val (run_asg (v := .slice (some _) _ _) rfl rfl) rfl ?_ | refine wpList_val (run_asg (v := .slice _ _ _) rfl rfl) rfl ?_ | refine wpList_val (run_asg (v := .pointer (some _)) rfl rfl) rfl ?_ | refine wpList_val (run_asg (v := .agg _) rfl rfl) rfl ?_ | refine wpList_val (run_mv rfl rfl) rfl ?_ | refine wpList_val (run_asg rfl rfl) rfl ?_ | refine wpList_val (run_xor32 rfl rfl rfl) rfl ?_ | refine wpList_val (run_and32 rfl rfl rfl) rfl ?_ | refine wpList_val (run_or32 rfl rfl rfl) rfl ?_ | refine wpList_val (run_add32 rfl rfl rfl) rfl ?_ | refine wpList_val (run_not32 rfl rfl) rfl ?_ | refine wpList_val (run_xor64 rfl rfl rfl) rfl ?_ | refine wpList_val (run_and64 rfl rfl rfl) rfl ?_ | refine wpList_val (run_or64 rfl rfl rfl) rfl ?_ | refine wpList_val (run_add64 rfl rfl rfl) rfl ?_ | refine wpList_val (run_not64 rfl rfl) rfl ?_ | refine wpList_val (run_xor8 rfl rfl rfl) rfl ?_ | refine wpList_val (run_and8 rfl rfl rfl) rfl ?_ | refine wpList_val (run_or8 rfl rfl rfl) rfl ?_ | refine wpList_val (run_add8 rfl rfl rfl) rfl ?_ | refine wpList_val (run_not8 rfl rfl) rfl ?_ | refine wpList_val (run_cv64_32 rfl rfl) rfl ?_ | refine wpList_val (run_cv8_32 rfl rfl) rfl ?_ | refine wpList_val (run_cv8_64 rfl rfl) rfl ?_ | refine wpList_val (run_cv32_8 rfl rfl) rfl ?_ | refine wpList_val (run_cv64_8 rfl rfl) rfl ?_); (try simp only [Act.put, List.setIfInBounds_toArray, List.set_cons_zero, List.set_cons_succ])))
  refine wpList_end ?_
  go_wp2_with fail
  go_loopw [5] (fun v5 u => ∃ k : Nat, k ≤ 64 ∧ v5 = .int .i64 (k : Int) ∧ CpI64 w (cp64 DG k) u ∧ Arr g (DG.map b8) u) (fun v5 _ => (64 - intOf v5).toNat)
  case atStart => exact ⟨0, by omega, rfl, hI.out, HG.out⟩
  case round =>
    obtain ⟨k, hk, rfl, hJ, hJ2⟩ := hrel
    replace hI := Lib.hid hJ
    replace HG := Lib.hid hJ2
    clear hJ hJ2
    by_cases hkd : k = 64
    · subst hkd
      have hk1 : ¬ (((64 : Nat) : Int) < 64) := by omega
      rw [HE.out] at hI
      have hT := (hI.out.R.put (l' := DG.map b8) (by rw [List.length_map, hdl, zs_len64])).range
      have HL := Lib.hid (size_d64 hdl)
      have HZL := Lib.hid zs_len64
      go_upto_region 7 with fail; refine wp_region_lit ?_
      refine wpList_val (run_ldA (vs := DG.map b8) rfl Tryz.underlying28 HL.out rfl hI.out.O.range) rfl ?_; (try simp only [Act.put, List.setIfInBounds_toArray, List.set_cons_zero, List.set_cons_succ])
      refine wpList_skip (run_stA (vs := DG.map b8) rfl HL.out rfl rfl (one8 _) (by rw [List.length_map, hdl, ← HZL.out]; exact hI.out.R.there)) rfl rfl ?_
      refine wpList_end ?_
      go_wp2_with fail
      refine bodyPost_ret (v := .agg (DG.map b8).toArray) ?_ rfl ⟨by rw [ED.out], below_setCells (Nat.le_refl _) _ _ hI.out.bl⟩
      exact results_arr Tryz.results13 rfl Tryz.underlying28 HL.out hT
    · have hk1 : (k : Int) < 64 := by omega
      have hk2 : k < 64 := by omega
      go_upto_region 6 with fail; refine wp_region_lit ?_
      (repeat ((first | refine wpList_val (run_mv (v := b32 _) rfl rfl) rfl ?_ | refine wpList_val (run_mv (v := b64 _) rfl rfl) rfl ?_ | refine wpList_val (run_mv (v := b8 _) rfl rfl) rfl ?_ | refine wpList_val (run_mv (v := .int _ _) rfl rfl) rfl ?_ | refine wpList_val (run_mv (v := .bool _) rfl rfl) rfl ?_ | refine wpList_val (run_mv (v := .slice (some _) _ _) rfl rfl) rfl ?_ | refine wpList_val (run_mv (v := .slice _ _ _) rfl rfl) rfl ?_ | refine wpList_val (run_mv (v := .pointer (some _)) rfl rfl) rfl ?_ | refine wpList_val (run_mv (v := .agg _) rfl rfl) rfl ?_ | refine wpList_val (run_asg (v := b32 _) rfl rfl) rfl ?_ | refine wpList_val (run_asg (v := b64 _) rfl rfl) rfl ?_ | refine wpList_val (run_asg (v := b8 _) rfl rfl) rfl ?_ | refine wpList_val (run_asg (v := .int _ _) rfl rfl) rfl ?_ | refine wpList_val (run_asg (v := .bool _) rfl rfl) rfl ?_ | refine wpList_val (run_asg (v := .slice (some _) _ _) rfl rfl) rfl ?_ | refine wpList_val (run_asg (v := .slice _ _ _) rfl rfl) rfl ?_ | refine wpList_val (run_asg (v := .pointer (some _)) rfl rfl) rfl ?_ | refine wpList_val (run_asg (v := .agg _) rfl rfl) rfl ?_ | refine wpList_val (run_mv rfl rfl) rfl ?_ | refine wpList_val (run_asg rfl rfl) rfl ?_ | refine wpList_val (run_xor32 rfl rfl rfl) rfl ?_ | refine wpList_val (run_and32 rfl rfl rfl) rfl ?_ | refine wpList_val (run_or32 rfl rfl rfl) rfl ?_ | refine wpList_val (run_add32 rfl rfl rfl) rfl ?_ | refine wpList_val (run_not32 rfl rfl) rfl ?_ | refine wpList_val (run_xor64 rfl rfl rfl) rfl ?_ | refine wpList_val (run_and64 rfl rfl rfl) rfl ?_ | refine wpList_val (run_or64 rfl rfl rfl) rfl ?_ | refine wpList_val (run_add64 rfl rfl rfl) rfl ?_ | refine wpList_val (run_not64 rfl rfl) rfl ?_ | refine wpList_val (run_xor8 rfl rfl rfl) rfl ?_ | refine wpList_val (run_and8 rfl rfl rfl) rfl ?_ | refine wpList_val (run_or8 rfl rfl rfl) rfl ?_ | refine wpList_val (run_add8 rfl rfl rfl) rfl ?_ | refine wpList_val (run_not8 rfl rfl) rfl ?_ | refine wpList_val (run_cv64_32 rfl rfl) rfl ?_ | refine wpList_val (run_cv8_32 rfl rfl) rfl ?_ | refine wpList_val (run_cv8_64 rfl rfl) rfl ?_ | refine wpList_val (run_cv32_8 rfl rfl) rfl ?_ | refine wpList_val (run_cv64_8 rfl rfl) rfl ?_); (try simp only [Act.put, List.setIfInBounds_toArray, List.set_cons_zero, List.set_cons_succ])))
      refine wpList_val (run_ixs rfl Tryz.underlying24 (by kernel_rfl) rfl rfl hk2) rfl ?_; (try simp only [Act.put, List.setIfInBounds_toArray, List.set_cons_zero, List.set_cons_succ])
      rw [Nat.zero_add k]
      refine wpList_val (run_ld8 rfl rfl (HG.out.c k _ (get_map b8 0 (by rw [hdl]; exact hk2)))) rfl ?_; (try simp only [Act.put, List.setIfInBounds_toArray, List.set_cons_zero, List.set_cons_succ])
      refine wpList_val (run_ix0 rfl Tryz.underlying28 (by kernel_rfl) rfl rfl hk2) rfl ?_; (try simp only [Act.put, List.setIfInBounds_toArray, List.set_cons_zero, List.set_cons_succ])
      refine wpList_skip (run_st8 rfl rfl rfl (hI.out.O.c k _ (get_map b8 0 (by rw [hI.out.len]; exact hk2))) (hI.out.O.f _)) rfl rfl ?_
      refine wpList_end ?_
      replace hI := Lib.hid (hI.out.set hk2 (DG.getD k 0))
      replace HG := Lib.hid (HG.out.far hne k (b8 (DG.getD k 0)))
      generalize wr.setCell ⟨w.heap.size + 1, k, none⟩ (b8 (DG.getD k 0)) = u4 at *
      go_wp2_with fail
      go_roundw
      case rel => exact ⟨k + 1, by omega, by go_num, hI.out, HG.out⟩
      case measure => simp [intOf]; omega
theorem enters_refsum64 : Enters 13 := enters_of Tryz.func13 (by kernel_rfl) rfl
end Go.Proofs.YtfdjmdfaidiliaaGreatDoor
namespace Go.Proofs.YtfdjmdfaidiliaaGreatDoor
open Go.RowKit Go.Sort
set_option maxRecDepth 20000

/-- Of's loop: k bytes are in. -/
structure ROfI (w : World) (l : List Int) (g1 g2 k : Nat) (u : World) : Prop where
  bl : Below w.heap.size w u
  L : Row w.heap.size l u
  R : Var4 g1 0 u
  V : Var4 g2 (le ((mask l).take k)) u
theorem ROfI.put {w u u' : World} {l : List Int} {g1 g2 k : Nat} (h : ROfI w l g1 g2 k u) (hw : w.heap.size < g2) (h12 : g1 ≠ g2) {o : Nat} {v : Value} (hu : u' = u.setCell ⟨g2, o, none⟩ v) (hV : Var4 g2 (le ((mask l).take (k + 1))) (u.setCell ⟨g2, o, none⟩ v)) : ROfI w l g1 g2 (k + 1) u' := by
  subst hu
  exact ⟨h.bl.setCell (p := ⟨g2, o, none⟩) (Nat.le_of_lt hw) _, h.L.far (by omega) _ _, h.R.far (Ne.symm h12) _ _, hV⟩

end Go.Proofs.YtfdjmdfaidiliaaGreatDoor
namespace Go.Proofs.YtfdjmdfaidiliaaGreatDoor
open Go.RowKit Go.Sort
set_option maxRecDepth 20000

theorem bz_wordT0 {Z : Int} {k : Nat} (hq : (k : Int) / 8 = 0) : IntKind.u8.wrap ((w0 Z / 2 ^ (8 * (k % 8))).tmod 256) = bz Z k := by
  have h : 0 ≤ w0 Z / 2 ^ (8 * (k % 8)) := Int.ediv_nonneg (w0_word Z).1 (Int.pow_nonneg (by omega))
  rw [← bz_word0 hq, Int.tmod_eq_emod_of_nonneg h, Nat.mul_comm (k % 8) 8, IntKind.wrap_u8', IntKind.wrap_u8', Int.emod_emod]
theorem bz_wordT1 {Z : Int} {k : Nat} (hq : (k : Int) / 8 = 1) : IntKind.u8.wrap ((w1 Z / 2 ^ (8 * (k % 8))).tmod 256) = bz Z k := by
  have h : 0 ≤ w1 Z / 2 ^ (8 * (k % 8)) := Int.ediv_nonneg (w1_word Z).1 (Int.pow_nonneg (by omega))
  rw [← bz_word1 hq, Int.tmod_eq_emod_of_nonneg h, Nat.mul_comm (k % 8) 8, IntKind.wrap_u8', IntKind.wrap_u8', Int.emod_emod]
theorem bz_wordT2 {Z : Int} {k : Nat} (hq : (k : Int) / 8 = 2) : IntKind.u8.wrap ((w2 Z / 2 ^ (8 * (k % 8))).tmod 256) = bz Z k := by
  have h : 0 ≤ w2 Z / 2 ^ (8 * (k % 8)) := Int.ediv_nonneg (w2_word Z).1 (Int.pow_nonneg (by omega))
  rw [← bz_word2 hq, Int.tmod_eq_emod_of_nonneg h, Nat.mul_comm (k % 8) 8, IntKind.wrap_u8', IntKind.wrap_u8', Int.emod_emod]
theorem bz_wordT3 {Z : Int} {k : Nat} (hq : (k : Int) / 8 = 3) : IntKind.u8.wrap ((w3 Z / 2 ^ (8 * (k % 8))).tmod 256) = bz Z k := by
  have h : 0 ≤ w3 Z / 2 ^ (8 * (k % 8)) := Int.ediv_nonneg (w3_word Z).1 (Int.pow_nonneg (by omega))
  rw [← bz_word3 hq, Int.tmod_eq_emod_of_nonneg h, Nat.mul_comm (k % 8) 8, IntKind.wrap_u8', IntKind.wrap_u8', Int.emod_emod]

/-- Bytes' loop: k bytes are told. -/
structure RByI (w : World) (Z : Int) (g1 g2 g3 k : Nat) (u : World) : Prop where
  bl : Below w.heap.size w u
  X : Var4 g2 Z u
  R : Row g1 (List.replicate 32 0) u
  V : Row g3 (bzTo Z k) u

set_option maxHeartbeats 1000000 in
theorem refbytes_any (X : Int) (w : World) (hX : Num X) :
    Calls Tryz.prog 63 #[feV X] w fun e w' => e = .returned (kV (bzAll (X % pp))) ∧ Below w.heap.size w w' := by
  have b1 : Below w.heap.size w (w.alloc (.cells #[.int .u64 (w0 X), .int .u64 (w1 X), .int .u64 (w2 X), .int .u64 (w3 X)] 47)) := (Below.refl _ _).alloc (Nat.le_refl _) _
  have hV := Var4.new w X
  go_enter Tryz.func63, Tryz.ntmps63
  go_upto_region 1 with fail
  have hs : w.heap.size + 1 = (w.alloc (.cells #[.int .u64 (w0 X), .int .u64 (w1 X), .int .u64 (w2 X), .int .u64 (w3 X)] 47)).heap.size := by simp
  rw [hs]
  have l0 := hV.lt
  generalize w.alloc (.cells #[.int .u64 (w0 X), .int .u64 (w1 X), .int .u64 (w2 X), .int .u64 (w3 X)] 47) = u0 at *
  clear hs
  have hR := Row.zero u0
  have b2 : Below u0.heap.size u0 (u0.alloc (.cells #[.int .u8 0, .int .u8 0, .int .u8 0, .int .u8 0, .int .u8 0, .int .u8 0, .int .u8 0, .int .u8 0, .int .u8 0, .int .u8 0, .int .u8 0, .int .u8 0, .int .u8 0, .int .u8 0, .int .u8 0, .int .u8 0, .int .u8 0, .int .u8 0, .int .u8 0, .int .u8 0, .int .u8 0, .int .u8 0, .int .u8 0, .int .u8 0, .int .u8 0, .int .u8 0, .int .u8 0, .int .u8 0, .int .u8 0, .int .u8 0, .int .u8 0, .int .u8 0] 23)) := (Below.refl _ _).alloc (Nat.le_refl _) _
  replace hV := hV.below b2
  replace b1 := b1.trans (b2.mono b1.size)
  generalize u0.alloc (.cells #[.int .u8 0, .int .u8 0, .int .u8 0, .int .u8 0, .int .u8 0, .int .u8 0, .int .u8 0, .int .u8 0, .int .u8 0, .int .u8 0, .int .u8 0, .int .u8 0, .int .u8 0, .int .u8 0, .int .u8 0, .int .u8 0, .int .u8 0, .int .u8 0, .int .u8 0, .int .u8 0, .int .u8 0, .int .u8 0, .int .u8 0, .int .u8 0, .int .u8 0, .int .u8 0, .int .u8 0, .int .u8 0, .int .u8 0, .int .u8 0, .int .u8 0, .int .u8 0] 23) = u1 at *
  generalize u0.heap.size = g1 at *
  clear b2 u0
  obtain ⟨vl, v0, v1, v2, v3, vf0, vf1, vf2, vf3⟩ := id hV
  go_wp2_with fail
  refine (refcanon_any X _ hX).mono ?_
  rintro e u2 ⟨rfl, hb⟩
  replace hR := hR.below hb
  replace b1 := b1.trans (hb.mono b1.size)
  clear vl v0 v1 v2 v3 vf0 vf1 vf2 vf3
  clear hb hV
  generalize hZ : X % pp = Z at *
  have HZ := Lib.hid hZ; clear hZ
  go_upto_region 2 with fail
  have hV := Var4.new u2 Z
  have b2 : Below u2.heap.size u2 (u2.alloc (.cells #[.int .u64 (w0 Z), .int .u64 (w1 Z), .int .u64 (w2 Z), .int .u64 (w3 Z)] 47)) := (Below.refl _ _).alloc (Nat.le_refl _) _
  have l1 := hR.lt
  replace hR := hR.below b2
  replace b1 := b1.trans (b2.mono b1.size)
  generalize u2.alloc (.cells #[.int .u64 (w0 Z), .int .u64 (w1 Z), .int .u64 (w2 Z), .int .u64 (w3 Z)] 47) = u3 at *
  generalize u2.heap.size = g2 at *
  clear b2 u2
  have l2 := hV.lt
  have hB := Row.zero u3
  have b2 : Below u3.heap.size u3 (u3.alloc (.cells #[.int .u8 0, .int .u8 0, .int .u8 0, .int .u8 0, .int .u8 0, .int .u8 0, .int .u8 0, .int .u8 0, .int .u8 0, .int .u8 0, .int .u8 0, .int .u8 0, .int .u8 0, .int .u8 0, .int .u8 0, .int .u8 0, .int .u8 0, .int .u8 0, .int .u8 0, .int .u8 0, .int .u8 0, .int .u8 0, .int .u8 0, .int .u8 0, .int .u8 0, .int .u8 0, .int .u8 0, .int .u8 0, .int .u8 0, .int .u8 0, .int .u8 0, .int .u8 0] 23)) := (Below.refl _ _).alloc (Nat.le_refl _) _
  have HB := Lib.hid hB; clear hB
  go_upto_region 3 with (refine wpList_store_mid rfl 23 (.tmp 4) (.tmp 8) rfl u3.heap.size 0 ((List.replicate 32 0).map (Value.int .u8)).toArray rfl rfl (by simpa using HB.out.thereAt) (by simpa using kV_size (l := List.replicate 32 0) rfl) (kV_one _) ?_)
  replace HB := Lib.hid (HB.out.storeAll (l' := List.replicate 32 0) rfl)
  replace b2 := Below.setCells (Nat.le_refl u3.heap.size) ((List.replicate 32 0).map (Value.int .u8)) 0 b2
  replace hR := hR.below b2
  replace hV := hV.below b2
  replace b1 := b1.trans (b2.mono b1.size)
  generalize (u3.alloc (.cells #[.int .u8 0, .int .u8 0, .int .u8 0, .int .u8 0, .int .u8 0, .int .u8 0, .int .u8 0, .int .u8 0, .int .u8 0, .int .u8 0, .int .u8 0, .int .u8 0, .int .u8 0, .int .u8 0, .int .u8 0, .int .u8 0, .int .u8 0, .int .u8 0, .int .u8 0, .int .u8 0, .int .u8 0, .int .u8 0, .int .u8 0, .int .u8 0, .int .u8 0, .int .u8 0, .int .u8 0, .int .u8 0, .int .u8 0, .int .u8 0, .int .u8 0, .int .u8 0] 23)).setCells u3.heap.size 0 ((List.replicate 32 0).map (Value.int .u8)) = u2 at *
  generalize u3.heap.size = g3 at *
  clear b2 u3
  have hB := HB.out
  rw [← bzTo_zero Z] at hB
  clear HB
  go_wp2_with fail
  go_loopw [5] (fun s u => ∃ k : Nat, k ≤ 32 ∧ s = .int .i64 (k : Int) ∧ RByI w Z g1 g2 g3 k u) (fun s _ => (32 - intOf s).toNat)
  case atStart => exact ⟨0, by omega, rfl, b1, hV, hR, hB⟩
  case round =>
    obtain ⟨k, hk, rfl, hI⟩ := hrel
    clear b1 hV hR hB
    obtain ⟨b1, hV, hR, hB⟩ := id hI
    obtain ⟨vl, v0, v1, v2, v3, vf0, vf1, vf2, vf3⟩ := id hV
    by_cases hlt : k = 32
    · subst hlt
      rw [bzTo_all] at hB
      have hk1 : ¬ (((32 : Nat) : Int) < 32) := by omega
      have HB := Lib.hid hB; clear hB
      have HR := Lib.hid hR; clear hR
      go_wp2_with (first | refine wpList_load_mid rfl 23 (.tmp 4) rfl g3 0 rfl ((bzAll Z).map (Value.int .u8)) (.array 32 5) HB.out.range Tryz.underlying23 rfl (kV_size (bzAll_len Z)) ?_ | refine wpList_store_mid rfl 23 (.tmp 2) _ rfl g1 0 ((bzAll Z).map (Value.int .u8)).toArray rfl rfl (by simpa [bzAll_len] using HR.out.thereAt) (by simpa using kV_size (bzAll_len Z)) (kV_one _) ?_)
      have hT := World.rangeAt_setCells_same wr g1 0 ((bzAll Z).map (Value.int .u8)) (by simpa [bzAll_len] using HR.out.thereAt)
      refine bodyPost_ret (v := kV (bzAll Z)) ?_ rfl ⟨by rw [HZ.out], ?_⟩
      · exact results_key Tryz.results63 rfl (bzAll_len Z) hT
      · exact Below.setCells (by omega) _ _ b1
    · have hk1 : (k : Int) < 32 := by omega
      have hk0 : (0 : Int) ≤ (k : Int) := by omega
      have hk2 : k < 32 := by omega
      have hk3 : k < (bzTo Z k).length := by rw [bzTo_len]; omega
      have hc := hB.c k hk3
      have hf := hB.f k
      have HB := Lib.hid (hB.set hk3 (bz Z k)); clear hB
      have HR := Lib.hid hR; clear hR
      rcases (show (k : Int) / 8 = 0 ∨ (k : Int) / 8 = 1 ∨ (k : Int) / 8 = 2 ∨ (k : Int) / 8 = 3 by omega) with hq | hq | hq | hq
      · have hw := bz_wordT0 (Z := Z) hq
        go_wp2_with fail
        exact ⟨⟨k + 1, by omega, by go_num, b1.setCell (p := ⟨g3, k, none⟩) (show w.heap.size ≤ g3 by omega) _, hV.far (by omega) _ _, HR.out.far (by omega) _ _, by rw [← bzTo_succ]; exact HB.out⟩, by simp [intOf]; omega⟩
      · have hw := bz_wordT1 (Z := Z) hq
        go_wp2_with fail
        exact ⟨⟨k + 1, by omega, by go_num, b1.setCell (p := ⟨g3, k, none⟩) (show w.heap.size ≤ g3 by omega) _, hV.far (by omega) _ _, HR.out.far (by omega) _ _, by rw [← bzTo_succ]; exact HB.out⟩, by simp [intOf]; omega⟩
      · have hw := bz_wordT2 (Z := Z) hq
        go_wp2_with fail
        exact ⟨⟨k + 1, by omega, by go_num, b1.setCell (p := ⟨g3, k, none⟩) (show w.heap.size ≤ g3 by omega) _, hV.far (by omega) _ _, HR.out.far (by omega) _ _, by rw [← bzTo_succ]; exact HB.out⟩, by simp [intOf]; omega⟩
      · have hw := bz_wordT3 (Z := Z) hq
        go_wp2_with fail
        exact ⟨⟨k + 1, by omega, by go_num, b1.setCell (p := ⟨g3, k, none⟩) (show w.heap.size ≤ g3 by omega) _, hV.far (by omega) _ _, HR.out.far (by omega) _ _, by rw [← bzTo_succ]; exact HB.out⟩, by simp [intOf]; omega⟩
end Go.Proofs.YtfdjmdfaidiliaaGreatDoor
namespace Go.Proofs.YtfdjmdfaidiliaaGreatDoor
open Go.RowKit
set_option maxRecDepth 20000

theorem add_top : ∀ b : BitVec 8, b.toNat < 128 → ∀ c, c < 2 → (b + BitVec.ofNat 8 (c * 128)).toNat = b.toNat + 128 * c := by
  intro b hb c hc
  rw [BitVec.toNat_add, BitVec.toNat_ofNat]
  omega
def encA (n c : Nat) : List (BitVec 8) := (sk n).set 31 ((sk n).getD 31 0 + BitVec.ofNat 8 (c * 128))
theorem encA_sk {n : Nat} (h : n < 2 ^ 255) {c : Nat} (hc : c < 2) : encA n c = sk (n + 2 ^ 255 * c) := by
  have h1 := leB_set (l := sk n) (i := 31) (by rw [sk_len]; omega) ((sk n).getD 31 0 + BitVec.ofNat 8 (c * 128))
  rw [add_top _ (top_lt h) c hc, leB_sk] at h1
  have h2 : (2 : Nat) ^ 255 = 256 ^ 31 * 128 := by decide +kernel
  have h3 : (2 : Nat) ^ 255 + 2 ^ 255 ≤ 256 ^ 32 := by decide +kernel
  have h4 : 2 ^ 255 * c ≤ 2 ^ 255 * 1 := Nat.mul_le_mul_left _ (by omega)
  refine leB_inj (by unfold encA; rw [List.length_set, sk_len, sk_len]) ?_
  rw [leB_sk, Nat.mod_eq_of_lt (by omega)]
  unfold encA
  rw [Nat.mod_eq_of_lt (by omega), Nat.mul_add] at h1
  rw [h2, Nat.mul_assoc]
  omega
theorem encA_enc (p : Pt) : encA (p.y % pp).toNat (p.x % pp % 2).toNat = sk (encN p) := by
  rw [encA_sk (y_top p.y) (bit_lt p.x)]
  rfl
theorem rbytesB_any (X : Int) (w : World) (hX : Num X) : Calls Tryz.prog 63 #[feV X] w fun e w' => e = .returned (.agg ((sk (X % pp).toNat).map b8).toArray) ∧ Below w.heap.size w w' := by
  have h := refbytes_any X w hX
  rw [← nat_mod, bzAll_sk, kV_toI] at h
  exact h
theorem enters_rbytes : Enters 63 := enters_of Tryz.func63 (by kernel_rfl) rfl
section
variable {w : World} {ρ : Operand → Value} {o : Oper} {t t' : TypeId} {x y : Operand}
theorem run_mulU {a b : Int} (ho : o.op = .binOp .mul t x y t') (hx : ρ x = .int .u64 a) (hy : ρ y = .int .u64 b) (h0 : 0 ≤ a * b) (h1 : a * b < 18446744073709551616) : (execOp ρ o).run Tryz.prog w = .ok (.value (.int .u64 (a * b))) w := by
  obtain ⟨dst, op, type, pos, after, guard⟩ := o
  subst ho
  have e : IntKind.u64.wrap (a * b) = a * b := by rw [wrap64]; omega
  go_simp
theorem run_cvbit2 {Z : Int} (ho : o.op = .convert 45 5 x) (hx : ρ x = .int .u64 (Z % 2 * 128)) : (execOp ρ o).run Tryz.prog w = .ok (.value (b8 (BitVec.ofNat 8 ((Z % 2).toNat * 128)))) w := by
  rw [run_cv ho Tryz.underlying45 Tryz.underlying5 hx]
  have e : IntKind.u8.wrap (Z % 2 * 128) = ((BitVec.ofNat 8 ((Z % 2).toNat * 128)).toNat : Int) := by rw [wrap8, BitVec.toNat_ofNat]; omega
  rw [e]; rfl
end
set_option maxHeartbeats 8000000 in
theorem eencode_any (p : Pt) (w : World) (hp : p.Nm) : Calls Tryz.prog 35 #[.agg (ptL p).toArray] w fun e w' => e = .returned (.agg ((sk (encN p)).map b8).toArray) ∧ Below w.heap.size w w' := by
  have hM := Lib.hid (Mv.nil w)
  have HE := Lib.hid (encA_enc p)
  have CB : Hid (∀ u, Calls Tryz.prog 63 #[feV p.y] u fun e w' => e = .returned (.agg ((sk (p.y % pp).toNat).map b8).toArray) ∧ Below u.heap.size u w') := Lib.hid fun u => rbytesB_any p.y u hp.2
  have HS : Hid (encA (p.y % pp).toNat (p.x % pp % 2).toNat = (sk (p.y % pp).toNat).set 31 ((sk (p.y % pp).toNat).getD 31 0 + BitVec.ofNat 8 ((p.x % pp % 2).toNat * 128))) := Lib.hid rfl
  rw [HE.out] at HS
  have hyl := sk_len (p.y % pp).toNat
  have hel := sk_len (encN p)
  clear HE
  generalize sk (p.y % pp).toNat = yl at *
  generalize sk (encN p) = el at *
  have hZw := w0_word (p.x % pp)
  have hZ2 : w0 (p.x % pp) % 2 = p.x % pp % 2 := by unfold w0; omega
  generalize hZ : p.x % pp = Z at *
  have CX : Hid (∀ u, Calls Tryz.prog 64 #[feV p.x] u fun e w' => e = .returned (feV Z) ∧ Below u.heap.size u w') := Lib.hid fun u => by rw [← hZ]; exact refcanon_any p.x u hp.1
  clear hZ
  have SY := Lib.hid (szKyB hyl)
  have SE := Lib.hid (szKyB hel)
  have LY : Hid ((yl.map b8).length = (z8 32).length) := Lib.hid (by rw [z8_k32, List.length_map, hyl])
  have LE : Hid ((el.map b8).length = (z8 32).length) := Lib.hid (by rw [z8_k32, List.length_map, hel])
  go_enter Tryz.func35, Tryz.ntmps35
  go_upto_region 0 with fail; refine wp_region_lit ?_
  refine wpList_val (run_boxL (vs := ptL p) rfl rfl) rfl ?_; (try simp only [Act.put, List.setIfInBounds_toArray, List.set_cons_zero, List.set_cons_succ]); replace hM := Lib.hid (hM.out.new (ptL p) 49); generalize w.alloc (.cells (ptL p).toArray 49) = a1 at *; generalize w.heap.size = g1 at *
  refine wpList_val (run_alc (vs := z8 32) rfl (by kernel_rfl)) rfl ?_; (try simp only [Act.put, List.setIfInBounds_toArray, List.set_cons_zero, List.set_cons_succ])
  replace hM := Lib.hid (hM.out.new (z8 32) 23)
  generalize a1.alloc (.cells (z8 32).toArray 23) = a2 at *
  generalize a1.heap.size = g2 at *
  refine wpList_end ?_
  go_upto_region 1 with fail; refine wp_region_lit ?_
  refine wpList_val (run_fad (s := 3) (k := 4) rfl Tryz.underlying49 rfl (by kernel_rfl) rfl rfl) rfl ?_; (try simp only [Act.put, List.setIfInBounds_toArray, List.set_cons_zero, List.set_cons_succ])
  refine wpList_val (run_ldM (vs := feL p.y) rfl Tryz.underlying47 rfl (szFe _) rfl (pt_y (hM.out.get (i := 1) rfl))) rfl ?_; (try simp only [Act.put, List.setIfInBounds_toArray, List.set_cons_zero, List.set_cons_succ])
  refine wpList_enter (run_call1 enters_rbytes rfl rfl rfl) rfl (CB.out _) (fun a3 hb => ?_); (try simp only [Act.put, List.setIfInBounds_toArray, List.set_cons_zero, List.set_cons_succ]); replace hM := Lib.hid (hM.out.below hb); clear hb
  refine wpList_val (run_alc (vs := z8 32) rfl (by kernel_rfl)) rfl ?_; (try simp only [Act.put, List.setIfInBounds_toArray, List.set_cons_zero, List.set_cons_succ])
  replace hM := Lib.hid (hM.out.new (z8 32) 23)
  generalize a3.alloc (.cells (z8 32).toArray 23) = a4 at *
  generalize a3.heap.size = g3 at *
  refine wpList_skip (run_stM (vs := yl.map b8) rfl SY.out rfl rfl (one8B _) (by rw [LY.out]; exact (hM.out.get (i := 0) rfl).there)) rfl rfl ?_
  replace hM := Lib.hid (hM.out.put 0 rfl (m := yl.map b8) LY.out)
  generalize a4.setCells g3 0 (yl.map b8) = a5 at *
  refine wpList_end ?_
  have HC : Hid ((yl.map b8)[31]? = some (b8 (yl.getD 31 0))) := Lib.hid (get_map b8 0 (by omega))
  generalize yl.getD 31 0 = y31 at *
  go_upto_region 2 with fail; refine wp_region_calm 11 (by kernel_rfl) (by kernel_rfl) ?_
  refine wpCalm_step _ (fun V hV => calm_run (run_ix0 (i := 31) rfl Tryz.underlying23 (by kernel_rfl) rfl rfl (by omega))) ?_; (try simp only [Act.put, List.setIfInBounds_toArray, List.set_cons_zero, List.set_cons_succ])
  refine wpCalm_step _ (fun V hV => calm_run (run_ld8 rfl rfl (((hM.out.below hV).get (i := 0) rfl).c 31 _ HC.out))) ?_; (try simp only [Act.put, List.setIfInBounds_toArray, List.set_cons_zero, List.set_cons_succ])
  refine wpCalm_step _ (fun V hV => calm_run (run_fad (s := 3) (k := 0) rfl Tryz.underlying49 rfl (by kernel_rfl) rfl rfl)) ?_; (try simp only [Act.put, List.setIfInBounds_toArray, List.set_cons_zero, List.set_cons_succ])
  refine wpCalm_step _ (fun V hV => calm_run (run_ldM (vs := feL p.x) rfl Tryz.underlying47 rfl (szFe _) rfl (pt_x ((hM.out.below hV).get (i := 2) rfl)))) ?_; (try simp only [Act.put, List.setIfInBounds_toArray, List.set_cons_zero, List.set_cons_succ])
  refine wpCalm_step _ (fun V hV => calm_enter (run_call1 enters_rcanonF rfl rfl rfl) (CX.out V)) ?_; (try simp only [Act.put, List.setIfInBounds_toArray, List.set_cons_zero, List.set_cons_succ])
  refine wpCalm_step _ (fun V hV => calm_run (run_ixv (i := 0) (vs := feL Z) (v := .int .u64 (w0 Z)) rfl Tryz.underlying47 (by kernel_rfl) (isAgg_u64 V) rfl rfl (by omega) rfl)) ?_; (try simp only [Act.put, List.setIfInBounds_toArray, List.set_cons_zero, List.set_cons_succ])
  refine wpCalm_step _ (fun V hV => calm_run (run_remU (b := 2) rfl rfl rfl hZw.1 (by omega))) ?_; (try simp only [Act.put, List.setIfInBounds_toArray, List.set_cons_zero, List.set_cons_succ])
  rw [hZ2]
  refine wpCalm_step _ (fun V hV => calm_run (run_mulU (b := 128) rfl rfl rfl (by omega) (by omega))) ?_; (try simp only [Act.put, List.setIfInBounds_toArray, List.set_cons_zero, List.set_cons_succ])
  refine wpCalm_step _ (fun V hV => calm_run (run_cvbit2 rfl rfl)) ?_; (try simp only [Act.put, List.setIfInBounds_toArray, List.set_cons_zero, List.set_cons_succ])
  refine wpCalm_step _ (fun V hV => calm_run (run_add8 rfl rfl rfl)) ?_; (try simp only [Act.put, List.setIfInBounds_toArray, List.set_cons_zero, List.set_cons_succ])
  refine wpCalm_step _ (fun V hV => calm_run (run_ix0 (i := 31) rfl Tryz.underlying23 (by kernel_rfl) rfl rfl (by omega))) ?_; (try simp only [Act.put, List.setIfInBounds_toArray, List.set_cons_zero, List.set_cons_succ])
  refine wpCalm_done ?_; intro a6 hb; simp only [List.drop_succ_cons, List.drop_zero]
  replace hM := Lib.hid (hM.out.below hb)
  clear hb
  refine wpList_skip (run_st8 rfl rfl rfl ((hM.out.get (i := 0) rfl).c 31 _ HC.out) ((hM.out.get (i := 0) rfl).f 31)) rfl rfl ?_
  refine wpList_end ?_
  have hM2 : Hid (Mv w [(g3, el.map b8), (g2, z8 32), (g1, ptL p)] (a6.setCell ⟨g3, 31, none⟩ (b8 (y31 + BitVec.ofNat 8 ((Z % 2).toNat * 128))))) := Lib.hid (by
    have h := hM.out.set 0 rfl (j := 31) (by rw [List.length_map]; omega) (b8 (y31 + BitVec.ofNat 8 ((Z % 2).toNat * 128)))
    rw [set_map, ← HS.out] at h
    exact h)
  generalize a6.setCell ⟨g3, 31, none⟩ (b8 (y31 + BitVec.ofNat 8 ((Z % 2).toNat * 128))) = a7 at *
  replace hM := hM2
  clear hM2 HC HS hZ2
  go_upto_region 3 with fail; refine wp_region_lit ?_
  refine wpList_val (run_ldM (vs := el.map b8) rfl Tryz.underlying23 rfl SE.out rfl (hM.out.get (i := 0) rfl).range) rfl ?_; (try simp only [Act.put, List.setIfInBounds_toArray, List.set_cons_zero, List.set_cons_succ])
  refine wpList_skip (run_stM (vs := el.map b8) rfl SE.out rfl rfl (one8B _) (by rw [LE.out]; exact (hM.out.get (i := 1) rfl).there)) rfl rfl ?_
  replace hM := Lib.hid (hM.out.put 1 rfl (m := el.map b8) LE.out)
  refine wpList_end ?_; go_wp2_with fail; refine bodyPost_ret (v := .agg (el.map b8).toArray) (results_rowB Tryz.results35 rfl Tryz.underlying23 rfl SE.out (hM.out.get (i := 1) rfl).range) rfl ⟨rfl, hM.out.bl⟩
theorem enters_eencode : Enters 35 := enters_of Tryz.func35 (by kernel_rfl) rfl
end Go.Proofs.YtfdjmdfaidiliaaGreatDoor
namespace Go.Proofs.YtfdjmdfaidiliaaGreatDoor
open Go.RowKit
set_option maxRecDepth 20000

set_option maxHeartbeats 8000000 in
theorem rkey8_any (v : Value) (l : List Nat) (w : World) (hv : Rd v l w) (hl : l.length = 33) : Calls Tryz.prog 45 #[v] w fun e w' => e = .returned (.agg (((l.take 32).map (BitVec.ofNat 8)).map b8).toArray) ∧ Below w.heap.size w w' := by
  obtain ⟨g, f, c, rfl, hg, hr⟩ := hv
  have HC : Hid (∀ V, Below w.heap.size w V → ∀ i, i < 33 → V.cell? ⟨g, f + i, none⟩ = some (iN (l.getD i 0))) := Lib.hid fun V hV i hi => rd_cell (rangeAt_below hr hg hV) (by omega)
  obtain ⟨kb, hkb⟩ : ∃ kb, kb = (l.take 32).map (BitVec.ofNat 8) := ⟨_, rfl⟩
  have hkl : kb.length = 32 := by rw [hkb, List.length_map, List.length_take, hl]; rfl
  have HK : Hid (∀ i, i < 32 → BitVec.ofNat 8 (l.getD i 0) = kb.getD i 0) := Lib.hid fun i hi => by
    rw [hkb, List.getD_eq_getElem?_getD, List.getD_eq_getElem?_getD, List.getElem?_map, List.getElem?_take_of_lt hi, List.getElem?_eq_getElem (by omega)]
    rfl
  rw [← hkb]
  clear hkb hr
  have hM := Lib.hid (Mv.nil w)
  rw [hl]
  go_enter Tryz.func45, Tryz.ntmps45
  go_upto_region 0 with fail; refine wp_region_lit ?_
  refine wpList_val (run_alc (vs := z8 32) rfl (by kernel_rfl)) rfl ?_; (try simp only [Act.put, List.setIfInBounds_toArray, List.set_cons_zero, List.set_cons_succ])
  replace hM := Lib.hid (hM.out.new (z8 32) 23)
  generalize w.alloc (.cells (z8 32).toArray 23) = a1 at *
  generalize hg1 : w.heap.size = g1 at *
  rw [← hg1] at HC
  have EW := Lib.hid hg1
  clear hg1
  refine wpList_end ?_
  go_upto_region 1 with fail; refine wp_region_lit ?_
  refine wpList_val (run_bld (cells := (z8 32).toArray) rfl (by kernel_rfl)) rfl ?_; (try simp only [Act.put, List.setIfInBounds_toArray, List.set_cons_zero, List.set_cons_succ])
  refine wpList_val (run_alc (vs := z8 32) rfl (by kernel_rfl)) rfl ?_; (try simp only [Act.put, List.setIfInBounds_toArray, List.set_cons_zero, List.set_cons_succ])
  replace hM := Lib.hid (hM.out.new (z8 32) 23)
  generalize a1.alloc (.cells (z8 32).toArray 23) = a2 at *
  generalize a1.heap.size = g2 at *
  refine wpList_skip (run_stM (vs := z8 32) rfl szZ rfl rfl (one8s (List.replicate 32 0)) ((hM.out.get (i := 0) rfl).there)) rfl rfl ?_
  replace hM := Lib.hid (hM.out.put 0 rfl (m := z8 32) rfl)
  generalize a2.setCells g2 0 (z8 32) = a3 at *
  refine wpList_end ?_
  go_upto_region 2 with fail; refine wp_region_lit ?_
  (repeat ((first | refine wpList_val (run_mv (v := b32 _) rfl rfl) rfl ?_ | refine wpList_val (run_mv (v := b64 _) rfl rfl) rfl ?_ | refine wpList_val (run_mv (v := b8 _) rfl rfl) rfl ?_ | refine wpList_val (run_mv (v := .int _ _) rfl rfl) rfl ?_ | refine wpList_val (run_mv (v := .bool _) rfl rfl) rfl ?_ | refine wpList_val (run_mv (v := .slice (some _) _ _) rfl rfl) rfl ?_ | refine wpList_val (run_mv (v := .slice _ _ _) rfl rfl) rfl ?_ | refine wpList_val (run_mv (v := .pointer (some _)) rfl rfl) rfl ?_ | refine wpList_val (run_mv (v := .agg _) rfl rfl) rfl ?_ | refine wpList_val (run_asg (v := b32 _) rfl rfl) rfl ?_ | refine wpList_val (run_asg (v := b64 _) rfl rfl) rfl ?_ | refine wpList_val (run_asg (v := b8 _) rfl rfl) rfl ?_ | refine wpList_val (run_asg (v := .int _ _) rfl rfl) rfl ?_ | refine wpList_val (run_asg (v := .bool _) rfl rfl) rfl ?_ | refine wpList_val (run_asg (v := .slice (some _) _ _) rfl rfl) rfl ?_ | refine wpList_val (run_asg (v := .slice _ _ _) rfl rfl) rfl ?_ | refine wpList_val (run_asg (v := .pointer (some _)) rfl rfl) rfl ?_ | refine wpList_val (run_asg (v := .agg _) rfl rfl) rfl ?_ | refine wpList_val (run_mv rfl rfl) rfl ?_ | refine wpList_val (run_asg rfl rfl) rfl ?_ | refine wpList_val (run_xor32 rfl rfl rfl) rfl ?_ | refine wpList_val (run_and32 rfl rfl rfl) rfl ?_ | refine wpList_val (run_or32 rfl rfl rfl) rfl ?_ | refine wpList_val (run_add32 rfl rfl rfl) rfl ?_ | refine wpList_val (run_not32 rfl rfl) rfl ?_ | refine wpList_val (run_xor64 rfl rfl rfl) rfl ?_ | refine wpList_val (run_and64 rfl rfl rfl) rfl ?_ | refine wpList_val (run_or64 rfl rfl rfl) rfl ?_ | refine wpList_val (run_add64 rfl rfl rfl) rfl ?_ | refine wpList_val (run_not64 rfl rfl) rfl ?_ | refine wpList_val (run_xor8 rfl rfl rfl) rfl ?_ | refine wpList_val (run_and8 rfl rfl rfl) rfl ?_ | refine wpList_val (run_or8 rfl rfl rfl) rfl ?_ | refine wpList_val (run_add8 rfl rfl rfl) rfl ?_ | refine wpList_val (run_not8 rfl rfl) rfl ?_ | refine wpList_val (run_cv64_32 rfl rfl) rfl ?_ | refine wpList_val (run_cv8_32 rfl rfl) rfl ?_ | refine wpList_val (run_cv8_64 rfl rfl) rfl ?_ | refine wpList_val (run_cv32_8 rfl rfl) rfl ?_ | refine wpList_val (run_cv64_8 rfl rfl) rfl ?_); (try simp only [Act.put, List.setIfInBounds_toArray, List.set_cons_zero, List.set_cons_succ])))
  refine wpList_end ?_
  go_wp2_with fail
  go_loopw [4] (fun s u => ∃ n : Nat, n ≤ 32 ∧ s = .int .i64 (n : Int) ∧ Mv w [(g2, (flB kb n).map b8), (g1, z8 32)] u) (fun s _ => (32 - intOf s).toNat)
  case atStart => exact ⟨0, by omega, rfl, by rw [flB_zero]; exact hM.out⟩
  case round =>
    obtain ⟨n, hn, rfl, hJ⟩ := hrel
    replace hM := Lib.hid hJ
    clear hJ
    by_cases hlt : n = 32
    · subst hlt
      have hk1 : ¬ (((32 : Nat) : Int) < 32) := by omega
      rw [flB_all hkl] at hM
      have SZ := Lib.hid (szKy hkl)
      have L1 : Hid ((kb.map b8).length = (z8 32).length) := Lib.hid (by rw [z8_32, List.length_map, hkl])
      go_upto_region 6 with fail; refine wp_region_lit ?_
      refine wpList_val (run_ldM (vs := kb.map b8) rfl Tryz.underlying23 rfl SZ.out rfl (hM.out.get (i := 0) rfl).range) rfl ?_; (try simp only [Act.put, List.setIfInBounds_toArray, List.set_cons_zero, List.set_cons_succ])
      refine wpList_skip (run_stM (vs := kb.map b8) rfl SZ.out rfl rfl (one8s _) (by rw [L1.out]; exact (hM.out.get (i := 1) rfl).there)) rfl rfl ?_
      replace hM := Lib.hid (hM.out.put 1 rfl (m := kb.map b8) L1.out)
      refine wpList_end ?_
      go_wp2_with fail
      exact bodyPost_ret (v := .agg (kb.map b8).toArray) (results_rowB Tryz.results45 rfl Tryz.underlying23 rfl SZ.out (hM.out.get (i := 1) rfl).range) rfl ⟨rfl, hM.out.bl⟩
    · have hk1 : (n : Int) < 32 := by omega
      have HC2 : Hid (∀ V, Below w.heap.size w V → V.cell? ⟨g, f + n, none⟩ = some (iN (l.getD n 0))) := Lib.hid fun V hV => HC.out V hV n (by omega)
      have E1 := Lib.hid (HK.out n (by omega))
      have FS := Lib.hid (flB_set hkl (n := n) (by omega))
      have FL : Hid (n < ((flB kb n).map b8).length) := Lib.hid (by rw [List.length_map, flB_len hkl hn]; omega)
      have HG := Lib.hid (get_map b8 0 (l := flB kb n) (i := n) (by rw [flB_len hkl hn]; omega))
      go_upto_region 5 with fail; refine wp_region_lit ?_
      (repeat ((first | refine wpList_val (run_mv (v := b32 _) rfl rfl) rfl ?_ | refine wpList_val (run_mv (v := b64 _) rfl rfl) rfl ?_ | refine wpList_val (run_mv (v := b8 _) rfl rfl) rfl ?_ | refine wpList_val (run_mv (v := .int _ _) rfl rfl) rfl ?_ | refine wpList_val (run_mv (v := .bool _) rfl rfl) rfl ?_ | refine wpList_val (run_mv (v := .slice (some _) _ _) rfl rfl) rfl ?_ | refine wpList_val (run_mv (v := .slice _ _ _) rfl rfl) rfl ?_ | refine wpList_val (run_mv (v := .pointer (some _)) rfl rfl) rfl ?_ | refine wpList_val (run_mv (v := .agg _) rfl rfl) rfl ?_ | refine wpList_val (run_asg (v := b32 _) rfl rfl) rfl ?_ | refine wpList_val (run_asg (v := b64 _) rfl rfl) rfl ?_ | refine wpList_val (run_asg (v := b8 _) rfl rfl) rfl ?_ | refine wpList_val (run_asg (v := .int _ _) rfl rfl) rfl ?_ | refine wpList_val (run_asg (v := .bool _) rfl rfl) rfl ?_ | refine wpList_val (run_asg (v := .slice (some _) _ _) rfl rfl) rfl ?_ | refine wpList_val (run_asg (v := .slice _ _ _) rfl rfl) rfl ?_ | refine wpList_val (run_asg (v := .pointer (some _)) rfl rfl) rfl ?_ | refine wpList_val (run_asg (v := .agg _) rfl rfl) rfl ?_ | refine wpList_val (run_mv rfl rfl) rfl ?_ | refine wpList_val (run_asg rfl rfl) rfl ?_ | refine wpList_val (run_xor32 rfl rfl rfl) rfl ?_ | refine wpList_val (run_and32 rfl rfl rfl) rfl ?_ | refine wpList_val (run_or32 rfl rfl rfl) rfl ?_ | refine wpList_val (run_add32 rfl rfl rfl) rfl ?_ | refine wpList_val (run_not32 rfl rfl) rfl ?_ | refine wpList_val (run_xor64 rfl rfl rfl) rfl ?_ | refine wpList_val (run_and64 rfl rfl rfl) rfl ?_ | refine wpList_val (run_or64 rfl rfl rfl) rfl ?_ | refine wpList_val (run_add64 rfl rfl rfl) rfl ?_ | refine wpList_val (run_not64 rfl rfl) rfl ?_ | refine wpList_val (run_xor8 rfl rfl rfl) rfl ?_ | refine wpList_val (run_and8 rfl rfl rfl) rfl ?_ | refine wpList_val (run_or8 rfl rfl rfl) rfl ?_ | refine wpList_val (run_add8 rfl rfl rfl) rfl ?_ | refine wpList_val (run_not8 rfl rfl) rfl ?_ | refine wpList_val (run_cv64_32 rfl rfl) rfl ?_ | refine wpList_val (run_cv8_32 rfl rfl) rfl ?_ | refine wpList_val (run_cv8_64 rfl rfl) rfl ?_ | refine wpList_val (run_cv32_8 rfl rfl) rfl ?_ | refine wpList_val (run_cv64_8 rfl rfl) rfl ?_); (try simp only [Act.put, List.setIfInBounds_toArray, List.set_cons_zero, List.set_cons_succ])))
      refine wpList_val (run_ixs (i := n) rfl Tryz.underlying72 (by kernel_rfl) rfl rfl (by omega)) rfl ?_; (try simp only [Act.put, List.setIfInBounds_toArray, List.set_cons_zero, List.set_cons_succ])
      refine wpList_val (run_ldi rfl rfl (HC2.out _ hM.out.bl)) rfl ?_; (try simp only [Act.put, List.setIfInBounds_toArray, List.set_cons_zero, List.set_cons_succ])
      refine wpList_val (run_cvi_8 (n := l.getD n 0) rfl rfl) rfl ?_; (try simp only [Act.put, List.setIfInBounds_toArray, List.set_cons_zero, List.set_cons_succ])
      rw [E1.out]
      refine wpList_val (run_ix0 (i := n) rfl Tryz.underlying23 (by kernel_rfl) rfl rfl (by omega)) rfl ?_; (try simp only [Act.put, List.setIfInBounds_toArray, List.set_cons_zero, List.set_cons_succ])
      refine wpList_skip (run_st8 rfl rfl rfl ((hM.out.get (i := 0) rfl).c n _ HG.out) ((hM.out.get (i := 0) rfl).f n)) rfl rfl ?_
      refine wpList_end ?_
      have hM2 : Hid (Mv w [(g2, (flB kb (n + 1)).map b8), (g1, z8 32)] (wr.setCell ⟨g2, n, none⟩ (b8 (kb.getD n 0)))) := Lib.hid (by
        have h := hM.out.set 0 rfl FL.out (b8 (kb.getD n 0))
        rw [FS.out] at h
        exact h)
      generalize wr.setCell ⟨g2, n, none⟩ (b8 (kb.getD n 0)) = a8 at *
      clear hM HG FL FS HC2
      go_wp2_with fail
      exact ⟨⟨n + 1, by omega, by go_num, hM2.out⟩, by simp [intOf]; omega⟩
theorem enters_rkey8 : Enters 45 := enters_of Tryz.func45 (by kernel_rfl) rfl
/-- What is left, as 32 bytes. -/
theorem sk_left {m : List Nat} (hl : m.length = 33) (hd : Dg m) {x : Nat} (h : dv m = x % ell) : (m.take 32).map (BitVec.ofNat 8) = sk (x % ell) := by
  rw [take32 hl hd (by rw [h]; exact Nat.mod_lt _ ell_pos), h]; rfl
theorem take_map_snoc (s : List (BitVec 8)) (k : Nat) (h : k < s.length) : (s.take (k + 1)).map (·.toNat) = (s.take k).map (·.toNat) ++ [(s.getD k 0).toNat] := by
  rw [List.take_succ_eq_append_getElem h, List.map_append]
  simp [h]

set_option maxHeartbeats 8000000 in
theorem rreduce_any (s : List (BitVec 8)) (w : World) (hs : s.length = 64) : Calls Tryz.prog 44 #[.agg (s.map b8).toArray] w fun e w' => e = .returned (.agg ((sk (leB s % ell)).map b8).toArray) ∧ Below w.heap.size w w' := by
  have HR : Hid (∀ m : List Nat, m.length = 33 → Dg m → dv m = leB s % ell → (m.take 32).map (BitVec.ofNat 8) = sk (leB s % ell)) := Lib.hid fun m h1 h2 h3 => sk_left h1 h2 h3
  have HD : Hid (dv ((s.take 64).map (·.toNat)) = leB s) := Lib.hid (by rw [List.take_of_length_le (by omega), leB_dv])
  have hkl := sk_len (leB s % ell)
  generalize sk (leB s % ell) = kb at *
  have SZ := Lib.hid (szKy hkl)
  have L1 : Hid ((kb.map b8).length = (z8 32).length) := Lib.hid (by rw [z8_32, List.length_map, hkl])
  have hM := Lib.hid (Mv.nil w)
  go_enter Tryz.func44, Tryz.ntmps44
  go_upto_region 0 with fail; refine wp_region_lit ?_
  refine wpList_val (run_boxL8 (vs := s.map b8) rfl rfl) rfl ?_; (try simp only [Act.put, List.setIfInBounds_toArray, List.set_cons_zero, List.set_cons_succ])
  replace hM := Lib.hid (hM.out.new (s.map b8) 28)
  generalize w.alloc (.cells (s.map b8).toArray 28) = a1 at *
  generalize w.heap.size = g1 at *
  refine wpList_val (run_alc (vs := z8 32) rfl (by kernel_rfl)) rfl ?_; (try simp only [Act.put, List.setIfInBounds_toArray, List.set_cons_zero, List.set_cons_succ])
  replace hM := Lib.hid (hM.out.new (z8 32) 23)
  generalize a1.alloc (.cells (z8 32).toArray 23) = a2 at *
  generalize a1.heap.size = g2 at *
  refine wpList_end ?_
  have hI := Lib.hid (Io.none a2)
  go_upto_region 1 with fail; refine wp_region_lit ?_
  (repeat ((first | refine wpList_val (run_mv (v := b32 _) rfl rfl) rfl ?_ | refine wpList_val (run_mv (v := b64 _) rfl rfl) rfl ?_ | refine wpList_val (run_mv (v := b8 _) rfl rfl) rfl ?_ | refine wpList_val (run_mv (v := .int _ _) rfl rfl) rfl ?_ | refine wpList_val (run_mv (v := .bool _) rfl rfl) rfl ?_ | refine wpList_val (run_mv (v := .slice (some _) _ _) rfl rfl) rfl ?_ | refine wpList_val (run_mv (v := .slice _ _ _) rfl rfl) rfl ?_ | refine wpList_val (run_mv (v := .pointer (some _)) rfl rfl) rfl ?_ | refine wpList_val (run_mv (v := .agg _) rfl rfl) rfl ?_ | refine wpList_val (run_asg (v := b32 _) rfl rfl) rfl ?_ | refine wpList_val (run_asg (v := b64 _) rfl rfl) rfl ?_ | refine wpList_val (run_asg (v := b8 _) rfl rfl) rfl ?_ | refine wpList_val (run_asg (v := .int _ _) rfl rfl) rfl ?_ | refine wpList_val (run_asg (v := .bool _) rfl rfl) rfl ?_ | refine wpList_val (run_asg (v := .slice (some _) _ _) rfl rfl) rfl ?_ | refine wpList_val (run_asg (v := .slice _ _ _) rfl rfl) rfl ?_ | refine wpList_val (run_asg (v := .pointer (some _)) rfl rfl) rfl ?_ | refine wpList_val (run_asg (v := .agg _) rfl rfl) rfl ?_ | refine wpList_val (run_mv rfl rfl) rfl ?_ | refine wpList_val (run_asg rfl rfl) rfl ?_ | refine wpList_val (run_xor32 rfl rfl rfl) rfl ?_ | refine wpList_val (run_and32 rfl rfl rfl) rfl ?_ | refine wpList_val (run_or32 rfl rfl rfl) rfl ?_ | refine wpList_val (run_add32 rfl rfl rfl) rfl ?_ | refine wpList_val (run_not32 rfl rfl) rfl ?_ | refine wpList_val (run_xor64 rfl rfl rfl) rfl ?_ | refine wpList_val (run_and64 rfl rfl rfl) rfl ?_ | refine wpList_val (run_or64 rfl rfl rfl) rfl ?_ | refine wpList_val (run_add64 rfl rfl rfl) rfl ?_ | refine wpList_val (run_not64 rfl rfl) rfl ?_ | refine wpList_val (run_xor8 rfl rfl rfl) rfl ?_ | refine wpList_val (run_and8 rfl rfl rfl) rfl ?_ | refine wpList_val (run_or8 rfl rfl rfl) rfl ?_ | refine wpList_val (run_add8 rfl rfl rfl) rfl ?_ | refine wpList_val (run_not8 rfl rfl) rfl ?_ | refine wpList_val (run_cv64_32 rfl rfl) rfl ?_ | refine wpList_val (run_cv8_32 rfl rfl) rfl ?_ | refine wpList_val (run_cv8_64 rfl rfl) rfl ?_ | refine wpList_val (run_cv32_8 rfl rfl) rfl ?_ | refine wpList_val (run_cv64_8 rfl rfl) rfl ?_); (try simp only [Act.put, List.setIfInBounds_toArray, List.set_cons_zero, List.set_cons_succ])))
  refine wpList_end ?_
  go_upto_region 2 with fail; refine wp_region_lit ?_
  (repeat ((first | refine wpList_val (run_mv (v := b32 _) rfl rfl) rfl ?_ | refine wpList_val (run_mv (v := b64 _) rfl rfl) rfl ?_ | refine wpList_val (run_mv (v := b8 _) rfl rfl) rfl ?_ | refine wpList_val (run_mv (v := .int _ _) rfl rfl) rfl ?_ | refine wpList_val (run_mv (v := .bool _) rfl rfl) rfl ?_ | refine wpList_val (run_mv (v := .slice (some _) _ _) rfl rfl) rfl ?_ | refine wpList_val (run_mv (v := .slice _ _ _) rfl rfl) rfl ?_ | refine wpList_val (run_mv (v := .pointer (some _)) rfl rfl) rfl ?_ | refine wpList_val (run_mv (v := .agg _) rfl rfl) rfl ?_ | refine wpList_val (run_asg (v := b32 _) rfl rfl) rfl ?_ | refine wpList_val (run_asg (v := b64 _) rfl rfl) rfl ?_ | refine wpList_val (run_asg (v := b8 _) rfl rfl) rfl ?_ | refine wpList_val (run_asg (v := .int _ _) rfl rfl) rfl ?_ | refine wpList_val (run_asg (v := .bool _) rfl rfl) rfl ?_ | refine wpList_val (run_asg (v := .slice (some _) _ _) rfl rfl) rfl ?_ | refine wpList_val (run_asg (v := .slice _ _ _) rfl rfl) rfl ?_ | refine wpList_val (run_asg (v := .pointer (some _)) rfl rfl) rfl ?_ | refine wpList_val (run_asg (v := .agg _) rfl rfl) rfl ?_ | refine wpList_val (run_mv rfl rfl) rfl ?_ | refine wpList_val (run_asg rfl rfl) rfl ?_ | refine wpList_val (run_xor32 rfl rfl rfl) rfl ?_ | refine wpList_val (run_and32 rfl rfl rfl) rfl ?_ | refine wpList_val (run_or32 rfl rfl rfl) rfl ?_ | refine wpList_val (run_add32 rfl rfl rfl) rfl ?_ | refine wpList_val (run_not32 rfl rfl) rfl ?_ | refine wpList_val (run_xor64 rfl rfl rfl) rfl ?_ | refine wpList_val (run_and64 rfl rfl rfl) rfl ?_ | refine wpList_val (run_or64 rfl rfl rfl) rfl ?_ | refine wpList_val (run_add64 rfl rfl rfl) rfl ?_ | refine wpList_val (run_not64 rfl rfl) rfl ?_ | refine wpList_val (run_xor8 rfl rfl rfl) rfl ?_ | refine wpList_val (run_and8 rfl rfl rfl) rfl ?_ | refine wpList_val (run_or8 rfl rfl rfl) rfl ?_ | refine wpList_val (run_add8 rfl rfl rfl) rfl ?_ | refine wpList_val (run_not8 rfl rfl) rfl ?_ | refine wpList_val (run_cv64_32 rfl rfl) rfl ?_ | refine wpList_val (run_cv8_32 rfl rfl) rfl ?_ | refine wpList_val (run_cv8_64 rfl rfl) rfl ?_ | refine wpList_val (run_cv32_8 rfl rfl) rfl ?_ | refine wpList_val (run_cv64_8 rfl rfl) rfl ?_); (try simp only [Act.put, List.setIfInBounds_toArray, List.set_cons_zero, List.set_cons_succ])))
  refine wpList_end ?_
  go_wp2_with fail
  go_loopw [3, 4] (fun s3 s4 u => ∃ n : Nat, n ≤ 64 ∧ s4 = .int .i64 (n : Int) ∧ Io a2 s3 ((s.take n).map (·.toNat)) u) (fun _ s4 _ => (64 - intOf s4).toNat)
  case atStart => exact ⟨0, by omega, rfl, hI.out⟩
  case round =>
    obtain ⟨n, hn, rfl, hJ⟩ := hrel
    replace hI := Lib.hid hJ
    clear hJ
    have hml : ((s.take n).map (·.toNat)).length = n := by rw [List.length_map, List.length_take]; omega
    by_cases hlt : n = 64
    · subst hlt
      have hk1 : ¬ (((64 : Nat) : Int) < 64) := by omega
      have DG := Lib.hid (dg_bytes (s.take 64))
      generalize (s.take 64).map (·.toNat) = m at *
      replace hM := Lib.hid (hM.out.below hI.out.bl)
      have HRd := Lib.hid (hI.out.rd (by intro e; rw [e] at hml; cases hml))
      go_upto_region 6 with fail; refine wp_region_lit ?_
      refine wpList_val (run_mv (v := u3) rfl rfl) rfl ?_; (try simp only [Act.put, List.setIfInBounds_toArray, List.set_cons_zero, List.set_cons_succ])
      refine wpList_callR (run_call1 enters_rleft rfl rfl rfl) rfl (rleft_any _ m _ HRd.out (by omega) DG.out) (fun q1 q2 hR2 => ?_); (try simp only [Act.put, List.setIfInBounds_toArray, List.set_cons_zero, List.set_cons_succ])
      obtain ⟨m2, ⟨k1, k2, k3⟩, hIs⟩ := hR2
      have hE := HR.out m2 k1 k2 (by rw [k3, HD.out])
      have HRd2 := Lib.hid hIs.rd
      replace hM := Lib.hid (hM.out.below hIs.bl)
      clear hIs k2 k3
      refine wpList_enter (run_call1 enters_rkey8 rfl rfl rfl) rfl (rkey8_any _ m2 _ HRd2.out k1) (fun q3 hb => ?_); (try simp only [Act.put, List.setIfInBounds_toArray, List.set_cons_zero, List.set_cons_succ]); replace hM := Lib.hid (hM.out.below hb); clear hb
      rw [hE]
      refine wpList_skip (run_stM (vs := kb.map b8) rfl SZ.out rfl rfl (one8s _) (by rw [L1.out]; exact (hM.out.get (i := 0) rfl).there)) rfl rfl ?_
      replace hM := Lib.hid (hM.out.put 0 rfl (m := kb.map b8) L1.out)
      refine wpList_end ?_
      go_wp2_with fail
      exact bodyPost_ret (v := .agg (kb.map b8).toArray) (results_rowB Tryz.results44 rfl Tryz.underlying23 rfl SZ.out (hM.out.get (i := 0) rfl).range) rfl ⟨rfl, hM.out.bl⟩
    · have hk1 : (n : Int) < 64 := by omega
      have HS := Lib.hid (take_map_snoc s n (by omega))
      have HC := Lib.hid (((hM.out.below hI.out.bl).get (i := 1) rfl).c n _ (get_map b8 0 (l := s) (i := n) (by omega)))
      generalize (s.take n).map (·.toNat) = m at *
      generalize s.getD n 0 = x at *
      go_upto_region 5 with fail; refine wp_region_lit ?_
      refine wpList_val (run_mv (v := u3) rfl rfl) rfl ?_; (try simp only [Act.put, List.setIfInBounds_toArray, List.set_cons_zero, List.set_cons_succ])
      (repeat ((first | refine wpList_val (run_mv (v := b32 _) rfl rfl) rfl ?_ | refine wpList_val (run_mv (v := b64 _) rfl rfl) rfl ?_ | refine wpList_val (run_mv (v := b8 _) rfl rfl) rfl ?_ | refine wpList_val (run_mv (v := .int _ _) rfl rfl) rfl ?_ | refine wpList_val (run_mv (v := .bool _) rfl rfl) rfl ?_ | refine wpList_val (run_mv (v := .slice (some _) _ _) rfl rfl) rfl ?_ | refine wpList_val (run_mv (v := .slice _ _ _) rfl rfl) rfl ?_ | refine wpList_val (run_mv (v := .pointer (some _)) rfl rfl) rfl ?_ | refine wpList_val (run_mv (v := .agg _) rfl rfl) rfl ?_ | refine wpList_val (run_asg (v := b32 _) rfl rfl) rfl ?_ | refine wpList_val (run_asg (v := b64 _) rfl rfl) rfl ?_ | refine wpList_val (run_asg (v := b8 _) rfl rfl) rfl ?_ | refine wpList_val (run_asg (v := .int _ _) rfl rfl) rfl ?_ | refine wpList_val (run_asg (v := .bool _) rfl rfl) rfl ?_ | refine wpList_val (run_asg (v := .slice (some _) _ _) rfl rfl) rfl ?_ | refine wpList_val (run_asg (v := .slice _ _ _) rfl rfl) rfl ?_ | refine wpList_val (run_asg (v := .pointer (some _)) rfl rfl) rfl ?_ | refine wpList_val (run_asg (v := .agg _) rfl rfl) rfl ?_ | refine wpList_val (run_mv rfl rfl) rfl ?_ | refine wpList_val (run_asg rfl rfl) rfl ?_ | refine wpList_val (run_xor32 rfl rfl rfl) rfl ?_ | refine wpList_val (run_and32 rfl rfl rfl) rfl ?_ | refine wpList_val (run_or32 rfl rfl rfl) rfl ?_ | refine wpList_val (run_add32 rfl rfl rfl) rfl ?_ | refine wpList_val (run_not32 rfl rfl) rfl ?_ | refine wpList_val (run_xor64 rfl rfl rfl) rfl ?_ | refine wpList_val (run_and64 rfl rfl rfl) rfl ?_ | refine wpList_val (run_or64 rfl rfl rfl) rfl ?_ | refine wpList_val (run_add64 rfl rfl rfl) rfl ?_ | refine wpList_val (run_not64 rfl rfl) rfl ?_ | refine wpList_val (run_xor8 rfl rfl rfl) rfl ?_ | refine wpList_val (run_and8 rfl rfl rfl) rfl ?_ | refine wpList_val (run_or8 rfl rfl rfl) rfl ?_ | refine wpList_val (run_add8 rfl rfl rfl) rfl ?_ | refine wpList_val (run_not8 rfl rfl) rfl ?_ | refine wpList_val (run_cv64_32 rfl rfl) rfl ?_ | refine wpList_val (run_cv8_32 rfl rfl) rfl ?_ | refine wpList_val (run_cv8_64 rfl rfl) rfl ?_ | refine wpList_val (run_cv32_8 rfl rfl) rfl ?_ | refine wpList_val (run_cv64_8 rfl rfl) rfl ?_); (try simp only [Act.put, List.setIfInBounds_toArray, List.set_cons_zero, List.set_cons_succ])))
      refine wpList_val (run_ix0 (i := n) rfl Tryz.underlying28 (by kernel_rfl) rfl rfl (by omega)) rfl ?_; (try simp only [Act.put, List.setIfInBounds_toArray, List.set_cons_zero, List.set_cons_succ])
      refine wpList_val (run_ld8 rfl rfl HC.out) rfl ?_; (try simp only [Act.put, List.setIfInBounds_toArray, List.set_cons_zero, List.set_cons_succ])
      refine wpList_val (run_cv8i rfl rfl) rfl ?_; (try simp only [Act.put, List.setIfInBounds_toArray, List.set_cons_zero, List.set_cons_succ])
      refine wpList_val (run_bsl (cells := #[iN (x.toNat)]) (z := .int .i64 0) rfl Tryz.underlying72 (by kernel_rfl) (by omega) (by omega) (by kernel_rfl)) rfl ?_; (try simp only [Act.put, List.setIfInBounds_toArray, List.set_cons_zero, List.set_cons_succ]); have hb2 : Below wr.heap.size wr (wr.alloc (.cells #[iN (x.toNat)] 3)) := (Below.refl _ _).alloc (Nat.le_refl _) _; have A2 : Hid (Arr wr.heap.size ([x.toNat].map iN) (wr.alloc (.cells #[iN (x.toNat)] 3))) := Lib.hid (Arr.new wr _ _); replace hI := Lib.hid (hI.out.below hb2); clear hb2; generalize wr.alloc (.cells #[iN (x.toNat)] 3) = ua at *; refine wpList_app (f := iN) (fun _ => rfl) (l := m) (m := [x.toNat]) (bw := 8) (z := .int .i64 0) rfl rfl Tryz.underlying72 (by kernel_rfl) rfl (by omega) rfl hI.out.O rfl A2.out.range (by show m.length + 1 ≤ _; omega) hI.out.bl.size (fun q1 q2 h3 hb3 => ?_); (try simp only [Act.put, List.setIfInBounds_toArray, List.set_cons_zero, List.set_cons_succ]); replace hI : Hid (Io _ q1 (m ++ [x.toNat]) q2) := Lib.hid ⟨hI.out.bl.trans hb3, by rw [List.length_append]; exact h3⟩; clear h3 hb3 A2; clear ua; refine wpList_val (run_asg (v := q1) rfl rfl) rfl ?_; (try simp only [Act.put, List.setIfInBounds_toArray, List.set_cons_zero, List.set_cons_succ]); refine wpList_end ?_
      rw [← HS.out] at hI
      go_wp2_with fail
      exact ⟨⟨n + 1, by omega, by go_num, hI.out⟩, by simp [intOf]; omega⟩
theorem enters_rreduce : Enters 44 := enters_of Tryz.func44 (by kernel_rfl) rfl

end Go.Proofs.YtfdjmdfaidiliaaGreatDoor
namespace Go.Proofs.YtfdjmdfaidiliaaGreatDoor
open Go.RowKit
set_option maxRecDepth 20000

theorem sk_ell : ∀ i, i < 32 → BitVec.ofNat 8 (obL.getD i 0) = (sk ell).getD i 0 := by
  have e : sk ell = (obL.take 32).map (BitVec.ofNat 8) := by decide +kernel
  intro i hi
  rw [e, List.getD_eq_getElem?_getD, List.getD_eq_getElem?_getD, List.getElem?_map, List.getElem?_take_of_lt hi, List.getElem?_eq_getElem (by rw [obL_len]; omega)]
  rfl
theorem getD_le {n : List Nat} {B : Nat} (h : ∀ x ∈ n, x ≤ B) (i : Nat) : n.getD i 0 ≤ B := by
  by_cases hi : i < n.length
  · rw [List.getD_eq_getElem?_getD, List.getElem?_eq_getElem hi]; exact h _ (List.getElem_mem hi)
  · rw [List.getD_eq_getElem?_getD, List.getElem?_eq_none (by omega)]; exact Nat.zero_le _
theorem set_le {n : List Nat} {B B' : Nat} (h : ∀ x ∈ n, x ≤ B) (hB : B ≤ B') {i v : Nat} (hv : v ≤ B') : ∀ x ∈ n.set i v, x ≤ B' := fun x hx => by
  rcases List.mem_or_eq_of_mem_set hx with h1 | h1
  · exact Nat.le_trans (h x h1) hB
  · rw [h1]; exact hv
theorem dv_more {n : List Nat} {i : Nat} (hi : i < n.length) (y : Nat) : dv (n.set i (n.getD i 0 + y)) = dv n + 256 ^ i * y := by
  have := dv_set n i (n.getD i 0 + y) hi
  rw [Nat.mul_add] at this
  omega
/-- A product, and more: what has been added up. -/
structure MdI (a b c : List Nat) (i j k : Nat) (n : List Nat) : Prop where
  len : n.length = 65
  le : ∀ x ∈ n, x ≤ i * 4194304 + 255 + k * 65025
  eq : dv n = dv (c.take j) + dv (a.take i) * dv b + 256 ^ i * a.getD i 0 * dv (b.take k)
section
variable {a b c : List Nat} (ha : a.length = 32) (hb : b.length = 32) (hc : c.length = 32) (da : Dg a) (db : Dg b) (dc : Dg c)
include hc dc
theorem MdI.first {i : Nat} {n : List Nat} (h : MdI a b c i i 0 n) (hle : ∀ x ∈ n, x ≤ i * 4194304) (hi : i < 32) : MdI a b c i (i + 1) 0 (n.set i (n.getD i 0 + c.getD i 0)) := by
  have h1 := getD_le hle i
  have h2 := dc.get i
  have hlen := h.len
  refine ⟨by rw [List.length_set, h.len], set_le h.le (Nat.le_refl _) (by omega), ?_⟩
  rw [dv_more (by omega), h.eq, dv_take c i (by omega)]
  simp only [List.take_zero, dv, Nat.mul_zero]
  omega
omit hc dc
include hb da db
theorem MdI.inner {i j k : Nat} {n : List Nat} (h : MdI a b c i j k n) (hi : i < 32) (hk : k < 32) : MdI a b c i j (k + 1) (n.set (i + k) (n.getD (i + k) 0 + a.getD i 0 * b.getD k 0)) := by
  have h1 := getD_le h.le (i + k)
  have h2 := da.get i
  have h3 := db.get k
  have h4 : a.getD i 0 * b.getD k 0 ≤ 255 * 255 := Nat.mul_le_mul (by omega) (by omega)
  have hlen := h.len
  refine ⟨by rw [List.length_set, h.len], set_le h.le (by omega) (by omega), ?_⟩
  rw [dv_more (by omega), h.eq, dv_take b k (by omega), Nat.mul_add, Nat.pow_add]
  have e : 256 ^ i * 256 ^ k * (a.getD i 0 * b.getD k 0) = 256 ^ i * a.getD i 0 * (256 ^ k * b.getD k 0) := by
    rw [Nat.mul_assoc, Nat.mul_assoc, Nat.mul_left_comm (256 ^ k)]
  rw [e]
  omega
include ha
omit da db
theorem MdI.next {i : Nat} {n : List Nat} (h : MdI a b c i (i + 1) 32 n) (hi : i < 32) : MdI a b c (i + 1) (i + 1) 0 n ∧ ∀ x ∈ n, x ≤ (i + 1) * 4194304 := by
  refine ⟨⟨h.len, fun x hx => by have := h.le x hx; omega, ?_⟩, fun x hx => by have := h.le x hx; omega⟩
  rw [h.eq, dv_take a i (by omega), Nat.add_mul, show b.take 32 = b from List.take_of_length_le (by omega)]
  simp only [List.take_zero, dv, Nat.mul_zero]
  omega
end
/-- Carries go on. -/
structure CrI (V i c : Nat) (n : List Nat) : Prop where
  len : n.length = 65
  le : ∀ x ∈ n, x ≤ 268435456
  cl : c ≤ 268435456
  dg : ∀ j, j < i → n.getD j 0 < 256
  eq : dv n + 256 ^ i * c = V
theorem CrI.step {V i c : Nat} {n : List Nat} (h : CrI V i c n) (hi : i < 65) : CrI V (i + 1) ((c + n.getD i 0) / 256) (n.set i ((c + n.getD i 0) % 256)) := by
  have h1 := getD_le h.le i
  have h2 := h.cl
  have hlen := h.len
  refine ⟨by rw [List.length_set, h.len], set_le h.le (Nat.le_refl _) (by omega), by omega, fun j hj => ?_, ?_⟩
  · rw [List.getD_eq_getElem?_getD, List.getElem?_set]
    by_cases e : i = j
    · subst e; rw [if_pos rfl, if_pos (by omega)]; exact Nat.mod_lt _ (by omega)
    · rw [if_neg e, ← List.getD_eq_getElem?_getD]; exact h.dg j (by omega)
  · have e := dv_set n i ((c + n.getD i 0) % 256) (by omega)
    have e2 := h.eq
    rw [Nat.pow_succ, Nat.mul_assoc]
    generalize n.getD i 0 = x at *
    generalize dv (n.set i ((c + x) % 256)) = D at *
    generalize 256 ^ i = p at *
    have e3 : p * (256 * ((c + x) / 256) + (c + x) % 256) = p * (c + x) := by rw [Nat.div_add_mod]
    rw [Nat.mul_add, Nat.mul_add] at e3
    omega
theorem CrI.done {V c : Nat} {n : List Nat} (h : CrI V 65 c n) (hV : V < 256 ^ 65) : Dg n ∧ dv n = V := by
  refine ⟨fun a ha => ?_, ?_⟩
  · obtain ⟨j, hj, rfl⟩ := List.getElem_of_mem ha
    have := h.dg j (by have := h.len; omega)
    rw [List.getD_eq_getElem?_getD, List.getElem?_eq_getElem hj] at this
    exact this
  · have e := h.eq
    rcases Nat.eq_zero_or_pos c with rfl | hc
    · simpa using e
    · have : 256 ^ 65 * 1 ≤ 256 ^ 65 * c := Nat.mul_le_mul_left _ hc
      omega
theorem mad_lt (a b c : List (BitVec 8)) (ha : a.length = 32) (hb : b.length = 32) (hc : c.length = 32) : leB a * leB b + leB c < 256 ^ 65 := by
  have h1 := leB_lt a
  have h2 := leB_lt b
  have h3 := leB_lt c
  rw [ha] at h1
  rw [hb] at h2
  rw [hc] at h3
  have h4 : leB a * leB b ≤ 256 ^ 32 * 256 ^ 32 := Nat.mul_le_mul (by omega) (by omega)
  rw [← Nat.pow_add] at h4
  have h5 : (256 : Nat) ^ (32 + 32) + 256 ^ 32 < 256 ^ 65 := by decide +kernel
  omega

set_option maxHeartbeats 16000000 in
theorem rmad_any (a b c : List (BitVec 8)) (w : World) (ha : a.length = 32) (hb : b.length = 32) (hc : c.length = 32) : Calls Tryz.prog 23 #[.agg (a.map b8).toArray, .agg (b.map b8).toArray, .agg (c.map b8).toArray] w fun e w' => e = .returned (.agg ((sk ((leB a * leB b + leB c) % ell)).map b8).toArray) ∧ Below w.heap.size w w' := by
  have hV := mad_lt a b c ha hb hc
  obtain ⟨V, hVe⟩ : ∃ V, V = leB a * leB b + leB c := ⟨_, rfl⟩
  rw [← hVe] at hV ⊢
  obtain ⟨A, hA⟩ : ∃ A, A = a.map (·.toNat) := ⟨_, rfl⟩
  obtain ⟨B, hB⟩ : ∃ B, B = b.map (·.toNat) := ⟨_, rfl⟩
  obtain ⟨C, hC⟩ : ∃ C, C = c.map (·.toNat) := ⟨_, rfl⟩
  have lA : A.length = 32 := by rw [hA, List.length_map, ha]
  have lB : B.length = 32 := by rw [hB, List.length_map, hb]
  have lC : C.length = 32 := by rw [hC, List.length_map, hc]
  have dA : Dg A := by rw [hA]; exact dg_bytes a
  have dB : Dg B := by rw [hB]; exact dg_bytes b
  have dC : Dg C := by rw [hC]; exact dg_bytes c
  have gA : Hid (∀ i, i < 32 → (a.getD i 0).toNat = A.getD i 0) := Lib.hid fun i hi => by
    rw [hA, List.getD_eq_getElem?_getD, List.getD_eq_getElem?_getD, List.getElem?_map, List.getElem?_eq_getElem (by omega)]; rfl
  have gB : Hid (∀ i, i < 32 → (b.getD i 0).toNat = B.getD i 0) := Lib.hid fun i hi => by
    rw [hB, List.getD_eq_getElem?_getD, List.getD_eq_getElem?_getD, List.getElem?_map, List.getElem?_eq_getElem (by omega)]; rfl
  have gC : Hid (∀ i, i < 32 → (c.getD i 0).toNat = C.getD i 0) := Lib.hid fun i hi => by
    rw [hC, List.getD_eq_getElem?_getD, List.getD_eq_getElem?_getD, List.getElem?_map, List.getElem?_eq_getElem (by omega)]; rfl
  have S0 : Hid (MdI A B C 0 0 0 (List.replicate 65 0)) := Lib.hid ⟨List.length_replicate, fun x hx => by rw [List.eq_of_mem_replicate hx]; omega, by simp [dv]⟩
  have S00 : Hid (∀ x ∈ List.replicate 65 0, x ≤ 0 * 4194304) := Lib.hid fun x hx => by rw [List.eq_of_mem_replicate hx]; omega
  have S1 : Hid (∀ (i : Nat) (n : List Nat), MdI A B C i i 0 n → (∀ x ∈ n, x ≤ i * 4194304) → i < 32 → MdI A B C i (i + 1) 0 (n.set i (n.getD i 0 + C.getD i 0))) := Lib.hid fun i n h h1 h2 => h.first lC dC h1 h2
  have S2 : Hid (∀ (i j k : Nat) (n : List Nat), MdI A B C i j k n → i < 32 → k < 32 → MdI A B C i j (k + 1) (n.set (i + k) (n.getD (i + k) 0 + A.getD i 0 * B.getD k 0))) := Lib.hid fun i j k n h h1 h2 => h.inner lB dA dB h1 h2
  have S3 : Hid (∀ (i : Nat) (n : List Nat), MdI A B C i (i + 1) 32 n → i < 32 → MdI A B C (i + 1) (i + 1) 0 n ∧ ∀ x ∈ n, x ≤ (i + 1) * 4194304) := Lib.hid fun i n h h1 => h.next lA lB h1
  have S4 : Hid (∀ n : List Nat, MdI A B C 32 32 0 n → (∀ x ∈ n, x ≤ 32 * 4194304) → CrI V 0 0 n) := Lib.hid fun n h h1 => ⟨h.len, fun x hx => by have := h1 x hx; omega, by omega, fun j hj => absurd hj (by omega), by
    rw [h.eq, List.take_of_length_le (by omega), List.take_of_length_le (by omega), hVe, leB_dv, leB_dv, leB_dv, ← hA, ← hB, ← hC]
    simp [dv, Nat.add_comm]⟩
  have S5' : Hid (∀ (i cy : Nat) (n : List Nat), CrI V i cy n → i < 65 → CrI V (i + 1) ((cy + n.getD i 0) / 256) (n.set i ((cy + n.getD i 0) % 256))) := Lib.hid fun i cy n h h1 => h.step h1
  have S6 : Hid (∀ (cy : Nat) (n : List Nat), CrI V 65 cy n → Dg n ∧ dv n = V) := Lib.hid fun cy n h => h.done hV
  have HR : Hid (∀ m : List Nat, m.length = 33 → Dg m → dv m = V % ell → (m.take 32).map (BitVec.ofNat 8) = sk (V % ell)) := Lib.hid fun m h1 h2 h3 => sk_left h1 h2 h3
  have GA : Hid (∀ i, A.getD i 0 < 256) := Lib.hid dA.get
  have GB : Hid (∀ i, B.getD i 0 < 256) := Lib.hid dB.get
  have GC : Hid (∀ i, C.getD i 0 < 256) := Lib.hid dC.get
  clear hA hB hC lA lB lC dA dB dC hVe hV
  have hkl := sk_len (V % ell)
  generalize sk (V % ell) = kb at *
  have SZ := Lib.hid (szKy hkl)
  have L1 : Hid ((kb.map b8).length = (z8 32).length) := Lib.hid (by rw [z8_32, List.length_map, hkl])
  have hM := Lib.hid (Mv.nil w)
  go_enter Tryz.func23, Tryz.ntmps23
  go_upto_region 0 with fail; refine wp_region_lit ?_
  refine wpList_val (run_boxL8 (vs := a.map b8) rfl rfl) rfl ?_; (try simp only [Act.put, List.setIfInBounds_toArray, List.set_cons_zero, List.set_cons_succ]); replace hM := Lib.hid (hM.out.new (a.map b8) 23); generalize w.alloc (.cells (a.map b8).toArray 23) = a1 at *; generalize w.heap.size = g1 at *
  refine wpList_val (run_boxL8 (vs := b.map b8) rfl rfl) rfl ?_; (try simp only [Act.put, List.setIfInBounds_toArray, List.set_cons_zero, List.set_cons_succ]); replace hM := Lib.hid (hM.out.new (b.map b8) 23); generalize a1.alloc (.cells (b.map b8).toArray 23) = a2 at *; generalize a1.heap.size = g2 at *
  refine wpList_val (run_boxL8 (vs := c.map b8) rfl rfl) rfl ?_; (try simp only [Act.put, List.setIfInBounds_toArray, List.set_cons_zero, List.set_cons_succ]); replace hM := Lib.hid (hM.out.new (c.map b8) 23); generalize a2.alloc (.cells (c.map b8).toArray 23) = a3 at *; generalize a2.heap.size = g3 at *
  refine wpList_val (run_alc (vs := z8 32) rfl (by kernel_rfl)) rfl ?_; (try simp only [Act.put, List.setIfInBounds_toArray, List.set_cons_zero, List.set_cons_succ])
  replace hM := Lib.hid (hM.out.new (z8 32) 23)
  generalize a3.alloc (.cells (z8 32).toArray 23) = a4 at *
  generalize a3.heap.size = g4 at *
  refine wpList_end ?_
  go_upto_region 1 with fail; refine wp_region_lit ?_
  refine wpList_val (run_mkI (n := 65) rfl rfl rfl (by omega)) rfl ?_; (try simp only [Act.put, List.setIfInBounds_toArray, List.set_cons_zero, List.set_cons_succ])
  replace hM := Lib.hid (hM.out.new ((List.replicate 65 0).map iN) 3)
  generalize a4.alloc (.cells ((List.replicate 65 0).map iN).toArray 3) = a5 at *
  generalize a4.heap.size = g5 at *
  refine wpList_val (run_asg (v := .slice (some ⟨g5, 0, none⟩) 65 65) rfl rfl) rfl ?_; (try simp only [Act.put, List.setIfInBounds_toArray, List.set_cons_zero, List.set_cons_succ])
  refine wpList_end ?_
  go_upto_region 2 with fail; refine wp_region_lit ?_
  (repeat ((first | refine wpList_val (run_mv (v := b32 _) rfl rfl) rfl ?_ | refine wpList_val (run_mv (v := b64 _) rfl rfl) rfl ?_ | refine wpList_val (run_mv (v := b8 _) rfl rfl) rfl ?_ | refine wpList_val (run_mv (v := .int _ _) rfl rfl) rfl ?_ | refine wpList_val (run_mv (v := .bool _) rfl rfl) rfl ?_ | refine wpList_val (run_mv (v := .slice (some _) _ _) rfl rfl) rfl ?_ | refine wpList_val (run_mv (v := .slice _ _ _) rfl rfl) rfl ?_ | refine wpList_val (run_mv (v := .pointer (some _)) rfl rfl) rfl ?_ | refine wpList_val (run_mv (v := .agg _) rfl rfl) rfl ?_ | refine wpList_val (run_asg (v := b32 _) rfl rfl) rfl ?_ | refine wpList_val (run_asg (v := b64 _) rfl rfl) rfl ?_ | refine wpList_val (run_asg (v := b8 _) rfl rfl) rfl ?_ | refine wpList_val (run_asg (v := .int _ _) rfl rfl) rfl ?_ | refine wpList_val (run_asg (v := .bool _) rfl rfl) rfl ?_ | refine wpList_val (run_asg (v := .slice (some _) _ _) rfl rfl) rfl ?_ | refine wpList_val (run_asg (v := .slice _ _ _) rfl rfl) rfl ?_ | refine wpList_val (run_asg (v := .pointer (some _)) rfl rfl) rfl ?_ | refine wpList_val (run_asg (v := .agg _) rfl rfl) rfl ?_ | refine wpList_val (run_mv rfl rfl) rfl ?_ | refine wpList_val (run_asg rfl rfl) rfl ?_ | refine wpList_val (run_xor32 rfl rfl rfl) rfl ?_ | refine wpList_val (run_and32 rfl rfl rfl) rfl ?_ | refine wpList_val (run_or32 rfl rfl rfl) rfl ?_ | refine wpList_val (run_add32 rfl rfl rfl) rfl ?_ | refine wpList_val (run_not32 rfl rfl) rfl ?_ | refine wpList_val (run_xor64 rfl rfl rfl) rfl ?_ | refine wpList_val (run_and64 rfl rfl rfl) rfl ?_ | refine wpList_val (run_or64 rfl rfl rfl) rfl ?_ | refine wpList_val (run_add64 rfl rfl rfl) rfl ?_ | refine wpList_val (run_not64 rfl rfl) rfl ?_ | refine wpList_val (run_xor8 rfl rfl rfl) rfl ?_ | refine wpList_val (run_and8 rfl rfl rfl) rfl ?_ | refine wpList_val (run_or8 rfl rfl rfl) rfl ?_ | refine wpList_val (run_add8 rfl rfl rfl) rfl ?_ | refine wpList_val (run_not8 rfl rfl) rfl ?_ | refine wpList_val (run_cv64_32 rfl rfl) rfl ?_ | refine wpList_val (run_cv8_32 rfl rfl) rfl ?_ | refine wpList_val (run_cv8_64 rfl rfl) rfl ?_ | refine wpList_val (run_cv32_8 rfl rfl) rfl ?_ | refine wpList_val (run_cv64_8 rfl rfl) rfl ?_); (try simp only [Act.put, List.setIfInBounds_toArray, List.set_cons_zero, List.set_cons_succ])))
  refine wpList_end ?_
  go_wp2_with fail
  go_loopw [8] (fun s u => ∃ (i : Nat) (n : List Nat), i ≤ 32 ∧ s = .int .i64 (i : Int) ∧ MdI A B C i i 0 n ∧ (∀ x ∈ n, x ≤ i * 4194304) ∧ Mv w [(g5, n.map iN), (g4, z8 32), (g3, c.map b8), (g2, b.map b8), (g1, a.map b8)] u) (fun s _ => (32 - intOf s).toNat)
  case atStart => exact ⟨0, List.replicate 65 0, by omega, rfl, S0.out, S00.out, hM.out⟩
  case round =>
    obtain ⟨i, n, hi, rfl, hMd, hle, hJ⟩ := hrel
    replace hM := Lib.hid hJ
    have HMd := Lib.hid hMd
    have HLe := Lib.hid hle
    have hnl := hMd.len
    clear hJ hMd hle
    by_cases hlt : i = 32
    · subst hlt
      have hk1 : ¬ (((32 : Nat) : Int) < 32) := by omega
      have C0 := Lib.hid (S4.out n HMd.out HLe.out)
      go_upto_region 10 with fail; refine wp_region_lit ?_
      (repeat ((first | refine wpList_val (run_mv (v := b32 _) rfl rfl) rfl ?_ | refine wpList_val (run_mv (v := b64 _) rfl rfl) rfl ?_ | refine wpList_val (run_mv (v := b8 _) rfl rfl) rfl ?_ | refine wpList_val (run_mv (v := .int _ _) rfl rfl) rfl ?_ | refine wpList_val (run_mv (v := .bool _) rfl rfl) rfl ?_ | refine wpList_val (run_mv (v := .slice (some _) _ _) rfl rfl) rfl ?_ | refine wpList_val (run_mv (v := .slice _ _ _) rfl rfl) rfl ?_ | refine wpList_val (run_mv (v := .pointer (some _)) rfl rfl) rfl ?_ | refine wpList_val (run_mv (v := .agg _) rfl rfl) rfl ?_ | refine wpList_val (run_asg (v := b32 _) rfl rfl) rfl ?_ | refine wpList_val (run_asg (v := b64 _) rfl rfl) rfl ?_ | refine wpList_val (run_asg (v := b8 _) rfl rfl) rfl ?_ | refine wpList_val (run_asg (v := .int _ _) rfl rfl) rfl ?_ | refine wpList_val (run_asg (v := .bool _) rfl rfl) rfl ?_ | refine wpList_val (run_asg (v := .slice (some _) _ _) rfl rfl) rfl ?_ | refine wpList_val (run_asg (v := .slice _ _ _) rfl rfl) rfl ?_ | refine wpList_val (run_asg (v := .pointer (some _)) rfl rfl) rfl ?_ | refine wpList_val (run_asg (v := .agg _) rfl rfl) rfl ?_ | refine wpList_val (run_mv rfl rfl) rfl ?_ | refine wpList_val (run_asg rfl rfl) rfl ?_ | refine wpList_val (run_xor32 rfl rfl rfl) rfl ?_ | refine wpList_val (run_and32 rfl rfl rfl) rfl ?_ | refine wpList_val (run_or32 rfl rfl rfl) rfl ?_ | refine wpList_val (run_add32 rfl rfl rfl) rfl ?_ | refine wpList_val (run_not32 rfl rfl) rfl ?_ | refine wpList_val (run_xor64 rfl rfl rfl) rfl ?_ | refine wpList_val (run_and64 rfl rfl rfl) rfl ?_ | refine wpList_val (run_or64 rfl rfl rfl) rfl ?_ | refine wpList_val (run_add64 rfl rfl rfl) rfl ?_ | refine wpList_val (run_not64 rfl rfl) rfl ?_ | refine wpList_val (run_xor8 rfl rfl rfl) rfl ?_ | refine wpList_val (run_and8 rfl rfl rfl) rfl ?_ | refine wpList_val (run_or8 rfl rfl rfl) rfl ?_ | refine wpList_val (run_add8 rfl rfl rfl) rfl ?_ | refine wpList_val (run_not8 rfl rfl) rfl ?_ | refine wpList_val (run_cv64_32 rfl rfl) rfl ?_ | refine wpList_val (run_cv8_32 rfl rfl) rfl ?_ | refine wpList_val (run_cv8_64 rfl rfl) rfl ?_ | refine wpList_val (run_cv32_8 rfl rfl) rfl ?_ | refine wpList_val (run_cv64_8 rfl rfl) rfl ?_); (try simp only [Act.put, List.setIfInBounds_toArray, List.set_cons_zero, List.set_cons_succ])))
      refine wpList_end ?_
      go_upto_region 11 with fail; refine wp_region_lit ?_
      (repeat ((first | refine wpList_val (run_mv (v := b32 _) rfl rfl) rfl ?_ | refine wpList_val (run_mv (v := b64 _) rfl rfl) rfl ?_ | refine wpList_val (run_mv (v := b8 _) rfl rfl) rfl ?_ | refine wpList_val (run_mv (v := .int _ _) rfl rfl) rfl ?_ | refine wpList_val (run_mv (v := .bool _) rfl rfl) rfl ?_ | refine wpList_val (run_mv (v := .slice (some _) _ _) rfl rfl) rfl ?_ | refine wpList_val (run_mv (v := .slice _ _ _) rfl rfl) rfl ?_ | refine wpList_val (run_mv (v := .pointer (some _)) rfl rfl) rfl ?_ | refine wpList_val (run_mv (v := .agg _) rfl rfl) rfl ?_ | refine wpList_val (run_asg (v := b32 _) rfl rfl) rfl ?_ | refine wpList_val (run_asg (v := b64 _) rfl rfl) rfl ?_ | refine wpList_val (run_asg (v := b8 _) rfl rfl) rfl ?_ | refine wpList_val (run_asg (v := .int _ _) rfl rfl) rfl ?_ | refine wpList_val (run_asg (v := .bool _) rfl rfl) rfl ?_ | refine wpList_val (run_asg (v := .slice (some _) _ _) rfl rfl) rfl ?_ | refine wpList_val (run_asg (v := .slice _ _ _) rfl rfl) rfl ?_ | refine wpList_val (run_asg (v := .pointer (some _)) rfl rfl) rfl ?_ | refine wpList_val (run_asg (v := .agg _) rfl rfl) rfl ?_ | refine wpList_val (run_mv rfl rfl) rfl ?_ | refine wpList_val (run_asg rfl rfl) rfl ?_ | refine wpList_val (run_xor32 rfl rfl rfl) rfl ?_ | refine wpList_val (run_and32 rfl rfl rfl) rfl ?_ | refine wpList_val (run_or32 rfl rfl rfl) rfl ?_ | refine wpList_val (run_add32 rfl rfl rfl) rfl ?_ | refine wpList_val (run_not32 rfl rfl) rfl ?_ | refine wpList_val (run_xor64 rfl rfl rfl) rfl ?_ | refine wpList_val (run_and64 rfl rfl rfl) rfl ?_ | refine wpList_val (run_or64 rfl rfl rfl) rfl ?_ | refine wpList_val (run_add64 rfl rfl rfl) rfl ?_ | refine wpList_val (run_not64 rfl rfl) rfl ?_ | refine wpList_val (run_xor8 rfl rfl rfl) rfl ?_ | refine wpList_val (run_and8 rfl rfl rfl) rfl ?_ | refine wpList_val (run_or8 rfl rfl rfl) rfl ?_ | refine wpList_val (run_add8 rfl rfl rfl) rfl ?_ | refine wpList_val (run_not8 rfl rfl) rfl ?_ | refine wpList_val (run_cv64_32 rfl rfl) rfl ?_ | refine wpList_val (run_cv8_32 rfl rfl) rfl ?_ | refine wpList_val (run_cv8_64 rfl rfl) rfl ?_ | refine wpList_val (run_cv32_8 rfl rfl) rfl ?_ | refine wpList_val (run_cv64_8 rfl rfl) rfl ?_); (try simp only [Act.put, List.setIfInBounds_toArray, List.set_cons_zero, List.set_cons_succ])))
      refine wpList_end ?_
      go_wp2_with fail
      go_loopw [10, 11] (fun s10 s11 u => ∃ (j cy : Nat) (m : List Nat), j ≤ 65 ∧ s11 = .int .i64 (j : Int) ∧ s10 = .int .i64 (cy : Int) ∧ CrI V j cy m ∧ Mv w [(g5, m.map iN), (g4, z8 32), (g3, c.map b8), (g2, b.map b8), (g1, a.map b8)] u) (fun _ s11 _ => (65 - intOf s11).toNat)
      case atStart => exact ⟨0, 0, n, by omega, rfl, rfl, C0.out, hM.out⟩
      case round =>
        obtain ⟨j, cy, m, hj, rfl, rfl, hCr, hJ⟩ := hrel
        replace hM := Lib.hid hJ
        have HCr := Lib.hid hCr
        have hml := hCr.len
        have hcy := hCr.cl
        clear hJ hCr
        by_cases hj65 : j = 65
        · subst hj65
          have hk2 : ¬ (((65 : Nat) : Int) < 65) := by omega
          obtain ⟨hdg, hdv⟩ := S6.out cy m HCr.out
          have DG := Lib.hid hdg
          have DV := Lib.hid hdv
          clear hdg hdv
          have HRd : Hid (Rd (.slice (some ⟨g5, 0, none⟩) 65 65) m wr) := Lib.hid (by
            have hA := hM.out.get (i := 0) rfl
            exact ⟨g5, 0, 65, by rw [hml], hA.lt, hA.range⟩)
          go_upto_region 17 with fail; refine wp_region_lit ?_
          (repeat ((first | refine wpList_val (run_mv (v := b32 _) rfl rfl) rfl ?_ | refine wpList_val (run_mv (v := b64 _) rfl rfl) rfl ?_ | refine wpList_val (run_mv (v := b8 _) rfl rfl) rfl ?_ | refine wpList_val (run_mv (v := .int _ _) rfl rfl) rfl ?_ | refine wpList_val (run_mv (v := .bool _) rfl rfl) rfl ?_ | refine wpList_val (run_mv (v := .slice (some _) _ _) rfl rfl) rfl ?_ | refine wpList_val (run_mv (v := .slice _ _ _) rfl rfl) rfl ?_ | refine wpList_val (run_mv (v := .pointer (some _)) rfl rfl) rfl ?_ | refine wpList_val (run_mv (v := .agg _) rfl rfl) rfl ?_ | refine wpList_val (run_asg (v := b32 _) rfl rfl) rfl ?_ | refine wpList_val (run_asg (v := b64 _) rfl rfl) rfl ?_ | refine wpList_val (run_asg (v := b8 _) rfl rfl) rfl ?_ | refine wpList_val (run_asg (v := .int _ _) rfl rfl) rfl ?_ | refine wpList_val (run_asg (v := .bool _) rfl rfl) rfl ?_ | refine wpList_val (run_asg (v := .slice (some _) _ _) rfl rfl) rfl ?_ | refine wpList_val (run_asg (v := .slice _ _ _) rfl rfl) rfl ?_ | refine wpList_val (run_asg (v := .pointer (some _)) rfl rfl) rfl ?_ | refine wpList_val (run_asg (v := .agg _) rfl rfl) rfl ?_ | refine wpList_val (run_mv rfl rfl) rfl ?_ | refine wpList_val (run_asg rfl rfl) rfl ?_ | refine wpList_val (run_xor32 rfl rfl rfl) rfl ?_ | refine wpList_val (run_and32 rfl rfl rfl) rfl ?_ | refine wpList_val (run_or32 rfl rfl rfl) rfl ?_ | refine wpList_val (run_add32 rfl rfl rfl) rfl ?_ | refine wpList_val (run_not32 rfl rfl) rfl ?_ | refine wpList_val (run_xor64 rfl rfl rfl) rfl ?_ | refine wpList_val (run_and64 rfl rfl rfl) rfl ?_ | refine wpList_val (run_or64 rfl rfl rfl) rfl ?_ | refine wpList_val (run_add64 rfl rfl rfl) rfl ?_ | refine wpList_val (run_not64 rfl rfl) rfl ?_ | refine wpList_val (run_xor8 rfl rfl rfl) rfl ?_ | refine wpList_val (run_and8 rfl rfl rfl) rfl ?_ | refine wpList_val (run_or8 rfl rfl rfl) rfl ?_ | refine wpList_val (run_add8 rfl rfl rfl) rfl ?_ | refine wpList_val (run_not8 rfl rfl) rfl ?_ | refine wpList_val (run_cv64_32 rfl rfl) rfl ?_ | refine wpList_val (run_cv8_32 rfl rfl) rfl ?_ | refine wpList_val (run_cv8_64 rfl rfl) rfl ?_ | refine wpList_val (run_cv32_8 rfl rfl) rfl ?_ | refine wpList_val (run_cv64_8 rfl rfl) rfl ?_); (try simp only [Act.put, List.setIfInBounds_toArray, List.set_cons_zero, List.set_cons_succ])))
          refine wpList_callR (run_call1 enters_rleft rfl rfl rfl) rfl (rleft_any _ m _ HRd.out (by omega) DG.out) (fun q1 q2 hR2 => ?_); (try simp only [Act.put, List.setIfInBounds_toArray, List.set_cons_zero, List.set_cons_succ])
          obtain ⟨m2, ⟨k1, k2, k3⟩, hIs⟩ := hR2
          have hE := HR.out m2 k1 k2 (by rw [k3, DV.out])
          have HRd2 := Lib.hid hIs.rd
          replace hM := Lib.hid (hM.out.below hIs.bl)
          clear hIs k2 k3
          refine wpList_enter (run_call1 enters_rkey8 rfl rfl rfl) rfl (rkey8_any _ m2 _ HRd2.out k1) (fun q3 hb => ?_); (try simp only [Act.put, List.setIfInBounds_toArray, List.set_cons_zero, List.set_cons_succ]); replace hM := Lib.hid (hM.out.below hb); clear hb
          rw [hE]
          refine wpList_skip (run_stM (vs := kb.map b8) rfl SZ.out rfl rfl (one8s _) (by rw [L1.out]; exact (hM.out.get (i := 1) rfl).there)) rfl rfl ?_
          replace hM := Lib.hid (hM.out.put 1 rfl (m := kb.map b8) L1.out)
          refine wpList_end ?_
          go_wp2_with fail
          exact bodyPost_ret (v := .agg (kb.map b8).toArray) (results_rowB Tryz.results23 rfl Tryz.underlying23 rfl SZ.out (hM.out.get (i := 1) rfl).range) rfl ⟨rfl, hM.out.bl⟩
        · have hk2 : (j : Int) < 65 := by omega
          have HN := Lib.hid (S5'.out j cy m HCr.out (by omega))
          have hx := getD_le HCr.out.le j
          have HG := Lib.hid ((hM.out.get (i := 0) rfl).c j _ (get_map iN 0 (by omega)))
          have HF := Lib.hid ((hM.out.get (i := 0) rfl).f j)
          have HSet : Hid (∀ y : Nat, Mv w [(g5, (m.set j y).map iN), (g4, z8 32), (g3, c.map b8), (g2, b.map b8), (g1, a.map b8)] (wr.setCell ⟨g5, j, none⟩ (iN y))) := Lib.hid fun y => by
            have h := hM.out.set 0 rfl (j := j) (by rw [List.length_map]; omega) (iN y)
            rw [set_map] at h
            exact h
          generalize m.getD j 0 = x at *
          go_upto_region 14 with fail; refine wp_region_lit ?_
          (repeat ((first | refine wpList_val (run_mv (v := b32 _) rfl rfl) rfl ?_ | refine wpList_val (run_mv (v := b64 _) rfl rfl) rfl ?_ | refine wpList_val (run_mv (v := b8 _) rfl rfl) rfl ?_ | refine wpList_val (run_mv (v := .int _ _) rfl rfl) rfl ?_ | refine wpList_val (run_mv (v := .bool _) rfl rfl) rfl ?_ | refine wpList_val (run_mv (v := .slice (some _) _ _) rfl rfl) rfl ?_ | refine wpList_val (run_mv (v := .slice _ _ _) rfl rfl) rfl ?_ | refine wpList_val (run_mv (v := .pointer (some _)) rfl rfl) rfl ?_ | refine wpList_val (run_mv (v := .agg _) rfl rfl) rfl ?_ | refine wpList_val (run_asg (v := b32 _) rfl rfl) rfl ?_ | refine wpList_val (run_asg (v := b64 _) rfl rfl) rfl ?_ | refine wpList_val (run_asg (v := b8 _) rfl rfl) rfl ?_ | refine wpList_val (run_asg (v := .int _ _) rfl rfl) rfl ?_ | refine wpList_val (run_asg (v := .bool _) rfl rfl) rfl ?_ | refine wpList_val (run_asg (v := .slice (some _) _ _) rfl rfl) rfl ?_ | refine wpList_val (run_asg (v := .slice _ _ _) rfl rfl) rfl ?_ | refine wpList_val (run_asg (v := .pointer (some _)) rfl rfl) rfl ?_ | refine wpList_val (run_asg (v := .agg _) rfl rfl) rfl ?_ | refine wpList_val (run_mv rfl rfl) rfl ?_ | refine wpList_val (run_asg rfl rfl) rfl ?_ | refine wpList_val (run_xor32 rfl rfl rfl) rfl ?_ | refine wpList_val (run_and32 rfl rfl rfl) rfl ?_ | refine wpList_val (run_or32 rfl rfl rfl) rfl ?_ | refine wpList_val (run_add32 rfl rfl rfl) rfl ?_ | refine wpList_val (run_not32 rfl rfl) rfl ?_ | refine wpList_val (run_xor64 rfl rfl rfl) rfl ?_ | refine wpList_val (run_and64 rfl rfl rfl) rfl ?_ | refine wpList_val (run_or64 rfl rfl rfl) rfl ?_ | refine wpList_val (run_add64 rfl rfl rfl) rfl ?_ | refine wpList_val (run_not64 rfl rfl) rfl ?_ | refine wpList_val (run_xor8 rfl rfl rfl) rfl ?_ | refine wpList_val (run_and8 rfl rfl rfl) rfl ?_ | refine wpList_val (run_or8 rfl rfl rfl) rfl ?_ | refine wpList_val (run_add8 rfl rfl rfl) rfl ?_ | refine wpList_val (run_not8 rfl rfl) rfl ?_ | refine wpList_val (run_cv64_32 rfl rfl) rfl ?_ | refine wpList_val (run_cv8_32 rfl rfl) rfl ?_ | refine wpList_val (run_cv8_64 rfl rfl) rfl ?_ | refine wpList_val (run_cv32_8 rfl rfl) rfl ?_ | refine wpList_val (run_cv64_8 rfl rfl) rfl ?_); (try simp only [Act.put, List.setIfInBounds_toArray, List.set_cons_zero, List.set_cons_succ])))
          refine wpList_val (run_ixs (i := j) rfl Tryz.underlying72 (by kernel_rfl) rfl rfl (by omega)) rfl ?_; (try simp only [Act.put, List.setIfInBounds_toArray, List.set_cons_zero, List.set_cons_succ])
          rw [Nat.zero_add]
          refine wpList_val (run_ldi rfl rfl HG.out) rfl ?_; (try simp only [Act.put, List.setIfInBounds_toArray, List.set_cons_zero, List.set_cons_succ])
          refine wpList_val (run_addN (a := cy) (b := x) rfl rfl rfl (by omega)) rfl ?_; (try simp only [Act.put, List.setIfInBounds_toArray, List.set_cons_zero, List.set_cons_succ])
          generalize hz : cy + x = z at *
          (repeat ((first | refine wpList_val (run_mv (v := b32 _) rfl rfl) rfl ?_ | refine wpList_val (run_mv (v := b64 _) rfl rfl) rfl ?_ | refine wpList_val (run_mv (v := b8 _) rfl rfl) rfl ?_ | refine wpList_val (run_mv (v := .int _ _) rfl rfl) rfl ?_ | refine wpList_val (run_mv (v := .bool _) rfl rfl) rfl ?_ | refine wpList_val (run_mv (v := .slice (some _) _ _) rfl rfl) rfl ?_ | refine wpList_val (run_mv (v := .slice _ _ _) rfl rfl) rfl ?_ | refine wpList_val (run_mv (v := .pointer (some _)) rfl rfl) rfl ?_ | refine wpList_val (run_mv (v := .agg _) rfl rfl) rfl ?_ | refine wpList_val (run_asg (v := b32 _) rfl rfl) rfl ?_ | refine wpList_val (run_asg (v := b64 _) rfl rfl) rfl ?_ | refine wpList_val (run_asg (v := b8 _) rfl rfl) rfl ?_ | refine wpList_val (run_asg (v := .int _ _) rfl rfl) rfl ?_ | refine wpList_val (run_asg (v := .bool _) rfl rfl) rfl ?_ | refine wpList_val (run_asg (v := .slice (some _) _ _) rfl rfl) rfl ?_ | refine wpList_val (run_asg (v := .slice _ _ _) rfl rfl) rfl ?_ | refine wpList_val (run_asg (v := .pointer (some _)) rfl rfl) rfl ?_ | refine wpList_val (run_asg (v := .agg _) rfl rfl) rfl ?_ | refine wpList_val (run_mv rfl rfl) rfl ?_ | refine wpList_val (run_asg rfl rfl) rfl ?_ | refine wpList_val (run_xor32 rfl rfl rfl) rfl ?_ | refine wpList_val (run_and32 rfl rfl rfl) rfl ?_ | refine wpList_val (run_or32 rfl rfl rfl) rfl ?_ | refine wpList_val (run_add32 rfl rfl rfl) rfl ?_ | refine wpList_val (run_not32 rfl rfl) rfl ?_ | refine wpList_val (run_xor64 rfl rfl rfl) rfl ?_ | refine wpList_val (run_and64 rfl rfl rfl) rfl ?_ | refine wpList_val (run_or64 rfl rfl rfl) rfl ?_ | refine wpList_val (run_add64 rfl rfl rfl) rfl ?_ | refine wpList_val (run_not64 rfl rfl) rfl ?_ | refine wpList_val (run_xor8 rfl rfl rfl) rfl ?_ | refine wpList_val (run_and8 rfl rfl rfl) rfl ?_ | refine wpList_val (run_or8 rfl rfl rfl) rfl ?_ | refine wpList_val (run_add8 rfl rfl rfl) rfl ?_ | refine wpList_val (run_not8 rfl rfl) rfl ?_ | refine wpList_val (run_cv64_32 rfl rfl) rfl ?_ | refine wpList_val (run_cv8_32 rfl rfl) rfl ?_ | refine wpList_val (run_cv8_64 rfl rfl) rfl ?_ | refine wpList_val (run_cv32_8 rfl rfl) rfl ?_ | refine wpList_val (run_cv64_8 rfl rfl) rfl ?_); (try simp only [Act.put, List.setIfInBounds_toArray, List.set_cons_zero, List.set_cons_succ])))
          refine wpList_end ?_
          go_upto_region 15 with fail; refine wp_region_lit ?_
          (repeat ((first | refine wpList_val (run_mv (v := b32 _) rfl rfl) rfl ?_ | refine wpList_val (run_mv (v := b64 _) rfl rfl) rfl ?_ | refine wpList_val (run_mv (v := b8 _) rfl rfl) rfl ?_ | refine wpList_val (run_mv (v := .int _ _) rfl rfl) rfl ?_ | refine wpList_val (run_mv (v := .bool _) rfl rfl) rfl ?_ | refine wpList_val (run_mv (v := .slice (some _) _ _) rfl rfl) rfl ?_ | refine wpList_val (run_mv (v := .slice _ _ _) rfl rfl) rfl ?_ | refine wpList_val (run_mv (v := .pointer (some _)) rfl rfl) rfl ?_ | refine wpList_val (run_mv (v := .agg _) rfl rfl) rfl ?_ | refine wpList_val (run_asg (v := b32 _) rfl rfl) rfl ?_ | refine wpList_val (run_asg (v := b64 _) rfl rfl) rfl ?_ | refine wpList_val (run_asg (v := b8 _) rfl rfl) rfl ?_ | refine wpList_val (run_asg (v := .int _ _) rfl rfl) rfl ?_ | refine wpList_val (run_asg (v := .bool _) rfl rfl) rfl ?_ | refine wpList_val (run_asg (v := .slice (some _) _ _) rfl rfl) rfl ?_ | refine wpList_val (run_asg (v := .slice _ _ _) rfl rfl) rfl ?_ | refine wpList_val (run_asg (v := .pointer (some _)) rfl rfl) rfl ?_ | refine wpList_val (run_asg (v := .agg _) rfl rfl) rfl ?_ | refine wpList_val (run_mv rfl rfl) rfl ?_ | refine wpList_val (run_asg rfl rfl) rfl ?_ | refine wpList_val (run_xor32 rfl rfl rfl) rfl ?_ | refine wpList_val (run_and32 rfl rfl rfl) rfl ?_ | refine wpList_val (run_or32 rfl rfl rfl) rfl ?_ | refine wpList_val (run_add32 rfl rfl rfl) rfl ?_ | refine wpList_val (run_not32 rfl rfl) rfl ?_ | refine wpList_val (run_xor64 rfl rfl rfl) rfl ?_ | refine wpList_val (run_and64 rfl rfl rfl) rfl ?_ | refine wpList_val (run_or64 rfl rfl rfl) rfl ?_ | refine wpList_val (run_add64 rfl rfl rfl) rfl ?_ | refine wpList_val (run_not64 rfl rfl) rfl ?_ | refine wpList_val (run_xor8 rfl rfl rfl) rfl ?_ | refine wpList_val (run_and8 rfl rfl rfl) rfl ?_ | refine wpList_val (run_or8 rfl rfl rfl) rfl ?_ | refine wpList_val (run_add8 rfl rfl rfl) rfl ?_ | refine wpList_val (run_not8 rfl rfl) rfl ?_ | refine wpList_val (run_cv64_32 rfl rfl) rfl ?_ | refine wpList_val (run_cv8_32 rfl rfl) rfl ?_ | refine wpList_val (run_cv8_64 rfl rfl) rfl ?_ | refine wpList_val (run_cv32_8 rfl rfl) rfl ?_ | refine wpList_val (run_cv64_8 rfl rfl) rfl ?_); (try simp only [Act.put, List.setIfInBounds_toArray, List.set_cons_zero, List.set_cons_succ])))
          refine wpList_val (run_remN (a := z) (b := 256) rfl rfl rfl (by omega)) rfl ?_; (try simp only [Act.put, List.setIfInBounds_toArray, List.set_cons_zero, List.set_cons_succ])
          refine wpList_val (run_ixs (i := j) rfl Tryz.underlying72 (by kernel_rfl) rfl rfl (by omega)) rfl ?_; (try simp only [Act.put, List.setIfInBounds_toArray, List.set_cons_zero, List.set_cons_succ])
          rw [Nat.zero_add]
          refine wpList_skip (run_stI (n := z % 256) rfl rfl rfl HG.out HF.out) rfl rfl ?_
          refine wpList_end ?_
          have hM2 := Lib.hid (HSet.out (z % 256))
          generalize wr.setCell ⟨g5, j, none⟩ (iN (z % 256)) = b5 at *
          go_upto_region 16 with fail; refine wp_region_lit ?_
          (repeat ((first | refine wpList_val (run_mv (v := b32 _) rfl rfl) rfl ?_ | refine wpList_val (run_mv (v := b64 _) rfl rfl) rfl ?_ | refine wpList_val (run_mv (v := b8 _) rfl rfl) rfl ?_ | refine wpList_val (run_mv (v := .int _ _) rfl rfl) rfl ?_ | refine wpList_val (run_mv (v := .bool _) rfl rfl) rfl ?_ | refine wpList_val (run_mv (v := .slice (some _) _ _) rfl rfl) rfl ?_ | refine wpList_val (run_mv (v := .slice _ _ _) rfl rfl) rfl ?_ | refine wpList_val (run_mv (v := .pointer (some _)) rfl rfl) rfl ?_ | refine wpList_val (run_mv (v := .agg _) rfl rfl) rfl ?_ | refine wpList_val (run_asg (v := b32 _) rfl rfl) rfl ?_ | refine wpList_val (run_asg (v := b64 _) rfl rfl) rfl ?_ | refine wpList_val (run_asg (v := b8 _) rfl rfl) rfl ?_ | refine wpList_val (run_asg (v := .int _ _) rfl rfl) rfl ?_ | refine wpList_val (run_asg (v := .bool _) rfl rfl) rfl ?_ | refine wpList_val (run_asg (v := .slice (some _) _ _) rfl rfl) rfl ?_ | refine wpList_val (run_asg (v := .slice _ _ _) rfl rfl) rfl ?_ | refine wpList_val (run_asg (v := .pointer (some _)) rfl rfl) rfl ?_ | refine wpList_val (run_asg (v := .agg _) rfl rfl) rfl ?_ | refine wpList_val (run_mv rfl rfl) rfl ?_ | refine wpList_val (run_asg rfl rfl) rfl ?_ | refine wpList_val (run_xor32 rfl rfl rfl) rfl ?_ | refine wpList_val (run_and32 rfl rfl rfl) rfl ?_ | refine wpList_val (run_or32 rfl rfl rfl) rfl ?_ | refine wpList_val (run_add32 rfl rfl rfl) rfl ?_ | refine wpList_val (run_not32 rfl rfl) rfl ?_ | refine wpList_val (run_xor64 rfl rfl rfl) rfl ?_ | refine wpList_val (run_and64 rfl rfl rfl) rfl ?_ | refine wpList_val (run_or64 rfl rfl rfl) rfl ?_ | refine wpList_val (run_add64 rfl rfl rfl) rfl ?_ | refine wpList_val (run_not64 rfl rfl) rfl ?_ | refine wpList_val (run_xor8 rfl rfl rfl) rfl ?_ | refine wpList_val (run_and8 rfl rfl rfl) rfl ?_ | refine wpList_val (run_or8 rfl rfl rfl) rfl ?_ | refine wpList_val (run_add8 rfl rfl rfl) rfl ?_ | refine wpList_val (run_not8 rfl rfl) rfl ?_ | refine wpList_val (run_cv64_32 rfl rfl) rfl ?_ | refine wpList_val (run_cv8_32 rfl rfl) rfl ?_ | refine wpList_val (run_cv8_64 rfl rfl) rfl ?_ | refine wpList_val (run_cv32_8 rfl rfl) rfl ?_ | refine wpList_val (run_cv64_8 rfl rfl) rfl ?_); (try simp only [Act.put, List.setIfInBounds_toArray, List.set_cons_zero, List.set_cons_succ])))
          refine wpList_val (run_quoN (a := z) (b := 256) rfl rfl rfl (by omega) (by omega)) rfl ?_; (try simp only [Act.put, List.setIfInBounds_toArray, List.set_cons_zero, List.set_cons_succ])
          (repeat ((first | refine wpList_val (run_mv (v := b32 _) rfl rfl) rfl ?_ | refine wpList_val (run_mv (v := b64 _) rfl rfl) rfl ?_ | refine wpList_val (run_mv (v := b8 _) rfl rfl) rfl ?_ | refine wpList_val (run_mv (v := .int _ _) rfl rfl) rfl ?_ | refine wpList_val (run_mv (v := .bool _) rfl rfl) rfl ?_ | refine wpList_val (run_mv (v := .slice (some _) _ _) rfl rfl) rfl ?_ | refine wpList_val (run_mv (v := .slice _ _ _) rfl rfl) rfl ?_ | refine wpList_val (run_mv (v := .pointer (some _)) rfl rfl) rfl ?_ | refine wpList_val (run_mv (v := .agg _) rfl rfl) rfl ?_ | refine wpList_val (run_asg (v := b32 _) rfl rfl) rfl ?_ | refine wpList_val (run_asg (v := b64 _) rfl rfl) rfl ?_ | refine wpList_val (run_asg (v := b8 _) rfl rfl) rfl ?_ | refine wpList_val (run_asg (v := .int _ _) rfl rfl) rfl ?_ | refine wpList_val (run_asg (v := .bool _) rfl rfl) rfl ?_ | refine wpList_val (run_asg (v := .slice (some _) _ _) rfl rfl) rfl ?_ | refine wpList_val (run_asg (v := .slice _ _ _) rfl rfl) rfl ?_ | refine wpList_val (run_asg (v := .pointer (some _)) rfl rfl) rfl ?_ | refine wpList_val (run_asg (v := .agg _) rfl rfl) rfl ?_ | refine wpList_val (run_mv rfl rfl) rfl ?_ | refine wpList_val (run_asg rfl rfl) rfl ?_ | refine wpList_val (run_xor32 rfl rfl rfl) rfl ?_ | refine wpList_val (run_and32 rfl rfl rfl) rfl ?_ | refine wpList_val (run_or32 rfl rfl rfl) rfl ?_ | refine wpList_val (run_add32 rfl rfl rfl) rfl ?_ | refine wpList_val (run_not32 rfl rfl) rfl ?_ | refine wpList_val (run_xor64 rfl rfl rfl) rfl ?_ | refine wpList_val (run_and64 rfl rfl rfl) rfl ?_ | refine wpList_val (run_or64 rfl rfl rfl) rfl ?_ | refine wpList_val (run_add64 rfl rfl rfl) rfl ?_ | refine wpList_val (run_not64 rfl rfl) rfl ?_ | refine wpList_val (run_xor8 rfl rfl rfl) rfl ?_ | refine wpList_val (run_and8 rfl rfl rfl) rfl ?_ | refine wpList_val (run_or8 rfl rfl rfl) rfl ?_ | refine wpList_val (run_add8 rfl rfl rfl) rfl ?_ | refine wpList_val (run_not8 rfl rfl) rfl ?_ | refine wpList_val (run_cv64_32 rfl rfl) rfl ?_ | refine wpList_val (run_cv8_32 rfl rfl) rfl ?_ | refine wpList_val (run_cv8_64 rfl rfl) rfl ?_ | refine wpList_val (run_cv32_8 rfl rfl) rfl ?_ | refine wpList_val (run_cv64_8 rfl rfl) rfl ?_); (try simp only [Act.put, List.setIfInBounds_toArray, List.set_cons_zero, List.set_cons_succ])))
          refine wpList_end ?_
          clear HG HF HSet hM
          go_wp2_with fail
          exact ⟨⟨j + 1, z / 256, m.set j (z % 256), by omega, by go_num, rfl, HN.out, hM2.out⟩, by simp [intOf]; omega⟩
    · have hk1 : (i : Int) < 32 := by omega
      have HN := Lib.hid (S1.out i n HMd.out HLe.out (by omega))
      have hx := getD_le HLe.out i
      have hci := GC.out i
      have EC := Lib.hid (gC.out i (by omega))
      have HG : Hid (∀ V', Arr g5 (n.map iN) V' → V'.cell? ⟨g5, i, none⟩ = some (iN (n.getD i 0))) := Lib.hid fun V' h => h.c i _ (get_map iN 0 (by omega))
      have HGC : Hid (∀ V', Arr g3 (c.map b8) V' → V'.cell? ⟨g3, i, none⟩ = some (b8 (c.getD i 0))) := Lib.hid fun V' h => h.c i _ (get_map b8 0 (by omega))
      generalize n.getD i 0 = x at *
      generalize c.getD i 0 = ci at *
      generalize C.getD i 0 = cn at *
      go_upto_region 5 with fail; refine wp_region_calm 10 (by kernel_rfl) (by kernel_rfl) ?_
      (repeat ((first | refine wpCalm_step _ (fun V hV => calm_run (run_mv (v := b32 _) rfl rfl)) ?_ | refine wpCalm_step _ (fun V hV => calm_run (run_mv (v := b64 _) rfl rfl)) ?_ | refine wpCalm_step _ (fun V hV => calm_run (run_mv (v := b8 _) rfl rfl)) ?_ | refine wpCalm_step _ (fun V hV => calm_run (run_mv (v := .int _ _) rfl rfl)) ?_ | refine wpCalm_step _ (fun V hV => calm_run (run_mv (v := .bool _) rfl rfl)) ?_ | refine wpCalm_step _ (fun V hV => calm_run (run_mv (v := .slice (some _) _ _) rfl rfl)) ?_ | refine wpCalm_step _ (fun V hV => calm_run (run_mv (v := .slice _ _ _) rfl rfl)) ?_ | refine wpCalm_step _ (fun V hV => calm_run (run_mv (v := .pointer (some _)) rfl rfl)) ?_ | refine wpCalm_step _ (fun V hV => calm_run (run_mv (v := .agg _) rfl rfl)) ?_ | refine wpCalm_step _ (fun V hV => calm_run (run_asg (v := b32 _) rfl rfl)) ?_ | refine wpCalm_step _ (fun V hV => calm_run (run_asg (v := b64 _) rfl rfl)) ?_ | refine wpCalm_step _ (fun V hV => calm_run (run_asg (v := b8 _) rfl rfl)) ?_ | refine wpCalm_step _ (fun V hV => calm_run (run_asg (v := .int _ _) rfl rfl)) ?_ | refine wpCalm_step _ (fun V hV => calm_run (run_asg (v := .bool _) rfl rfl)) ?_ | refine wpCalm_step _ (fun V hV => calm_run (run_asg (v := .slice (some _) _ _) rfl rfl)) ?_ | refine wpCalm_step _ (fun V hV => calm_run (run_asg (v := .slice _ _ _) rfl rfl)) ?_ | refine wpCalm_step _ (fun V hV => calm_run (run_asg (v := .pointer (some _)) rfl rfl)) ?_ | refine wpCalm_step _ (fun V hV => calm_run (run_asg (v := .agg _) rfl rfl)) ?_ | refine wpCalm_step _ (fun V hV => calm_run (run_mv rfl rfl)) ?_ | refine wpCalm_step _ (fun V hV => calm_run (run_asg rfl rfl)) ?_ | refine wpCalm_step _ (fun V hV => calm_run (run_xor32 rfl rfl rfl)) ?_ | refine wpCalm_step _ (fun V hV => calm_run (run_and32 rfl rfl rfl)) ?_ | refine wpCalm_step _ (fun V hV => calm_run (run_or32 rfl rfl rfl)) ?_ | refine wpCalm_step _ (fun V hV => calm_run (run_add32 rfl rfl rfl)) ?_ | refine wpCalm_step _ (fun V hV => calm_run (run_not32 rfl rfl)) ?_ | refine wpCalm_step _ (fun V hV => calm_run (run_xor64 rfl rfl rfl)) ?_ | refine wpCalm_step _ (fun V hV => calm_run (run_and64 rfl rfl rfl)) ?_ | refine wpCalm_step _ (fun V hV => calm_run (run_or64 rfl rfl rfl)) ?_ | refine wpCalm_step _ (fun V hV => calm_run (run_add64 rfl rfl rfl)) ?_ | refine wpCalm_step _ (fun V hV => calm_run (run_not64 rfl rfl)) ?_ | refine wpCalm_step _ (fun V hV => calm_run (run_xor8 rfl rfl rfl)) ?_ | refine wpCalm_step _ (fun V hV => calm_run (run_and8 rfl rfl rfl)) ?_ | refine wpCalm_step _ (fun V hV => calm_run (run_or8 rfl rfl rfl)) ?_ | refine wpCalm_step _ (fun V hV => calm_run (run_add8 rfl rfl rfl)) ?_ | refine wpCalm_step _ (fun V hV => calm_run (run_not8 rfl rfl)) ?_ | refine wpCalm_step _ (fun V hV => calm_run (run_cv64_32 rfl rfl)) ?_ | refine wpCalm_step _ (fun V hV => calm_run (run_cv8_32 rfl rfl)) ?_ | refine wpCalm_step _ (fun V hV => calm_run (run_cv8_64 rfl rfl)) ?_ | refine wpCalm_step _ (fun V hV => calm_run (run_cv32_8 rfl rfl)) ?_ | refine wpCalm_step _ (fun V hV => calm_run (run_cv64_8 rfl rfl)) ?_); (try simp only [Act.put, List.setIfInBounds_toArray, List.set_cons_zero, List.set_cons_succ])))
      refine wpCalm_step _ (fun V hV => calm_run (run_ixs (i := i) rfl Tryz.underlying72 (by kernel_rfl) rfl rfl (by omega))) ?_; (try simp only [Act.put, List.setIfInBounds_toArray, List.set_cons_zero, List.set_cons_succ])
      refine wpCalm_step _ (fun V hV => calm_run (run_ldi rfl rfl (by rw [Nat.zero_add]; exact HG.out V ((hM.out.below hV).get (i := 0) rfl)))) ?_; (try simp only [Act.put, List.setIfInBounds_toArray, List.set_cons_zero, List.set_cons_succ])
      (repeat ((first | refine wpCalm_step _ (fun V hV => calm_run (run_mv (v := b32 _) rfl rfl)) ?_ | refine wpCalm_step _ (fun V hV => calm_run (run_mv (v := b64 _) rfl rfl)) ?_ | refine wpCalm_step _ (fun V hV => calm_run (run_mv (v := b8 _) rfl rfl)) ?_ | refine wpCalm_step _ (fun V hV => calm_run (run_mv (v := .int _ _) rfl rfl)) ?_ | refine wpCalm_step _ (fun V hV => calm_run (run_mv (v := .bool _) rfl rfl)) ?_ | refine wpCalm_step _ (fun V hV => calm_run (run_mv (v := .slice (some _) _ _) rfl rfl)) ?_ | refine wpCalm_step _ (fun V hV => calm_run (run_mv (v := .slice _ _ _) rfl rfl)) ?_ | refine wpCalm_step _ (fun V hV => calm_run (run_mv (v := .pointer (some _)) rfl rfl)) ?_ | refine wpCalm_step _ (fun V hV => calm_run (run_mv (v := .agg _) rfl rfl)) ?_ | refine wpCalm_step _ (fun V hV => calm_run (run_asg (v := b32 _) rfl rfl)) ?_ | refine wpCalm_step _ (fun V hV => calm_run (run_asg (v := b64 _) rfl rfl)) ?_ | refine wpCalm_step _ (fun V hV => calm_run (run_asg (v := b8 _) rfl rfl)) ?_ | refine wpCalm_step _ (fun V hV => calm_run (run_asg (v := .int _ _) rfl rfl)) ?_ | refine wpCalm_step _ (fun V hV => calm_run (run_asg (v := .bool _) rfl rfl)) ?_ | refine wpCalm_step _ (fun V hV => calm_run (run_asg (v := .slice (some _) _ _) rfl rfl)) ?_ | refine wpCalm_step _ (fun V hV => calm_run (run_asg (v := .slice _ _ _) rfl rfl)) ?_ | refine wpCalm_step _ (fun V hV => calm_run (run_asg (v := .pointer (some _)) rfl rfl)) ?_ | refine wpCalm_step _ (fun V hV => calm_run (run_asg (v := .agg _) rfl rfl)) ?_ | refine wpCalm_step _ (fun V hV => calm_run (run_mv rfl rfl)) ?_ | refine wpCalm_step _ (fun V hV => calm_run (run_asg rfl rfl)) ?_ | refine wpCalm_step _ (fun V hV => calm_run (run_xor32 rfl rfl rfl)) ?_ | refine wpCalm_step _ (fun V hV => calm_run (run_and32 rfl rfl rfl)) ?_ | refine wpCalm_step _ (fun V hV => calm_run (run_or32 rfl rfl rfl)) ?_ | refine wpCalm_step _ (fun V hV => calm_run (run_add32 rfl rfl rfl)) ?_ | refine wpCalm_step _ (fun V hV => calm_run (run_not32 rfl rfl)) ?_ | refine wpCalm_step _ (fun V hV => calm_run (run_xor64 rfl rfl rfl)) ?_ | refine wpCalm_step _ (fun V hV => calm_run (run_and64 rfl rfl rfl)) ?_ | refine wpCalm_step _ (fun V hV => calm_run (run_or64 rfl rfl rfl)) ?_ | refine wpCalm_step _ (fun V hV => calm_run (run_add64 rfl rfl rfl)) ?_ | refine wpCalm_step _ (fun V hV => calm_run (run_not64 rfl rfl)) ?_ | refine wpCalm_step _ (fun V hV => calm_run (run_xor8 rfl rfl rfl)) ?_ | refine wpCalm_step _ (fun V hV => calm_run (run_and8 rfl rfl rfl)) ?_ | refine wpCalm_step _ (fun V hV => calm_run (run_or8 rfl rfl rfl)) ?_ | refine wpCalm_step _ (fun V hV => calm_run (run_add8 rfl rfl rfl)) ?_ | refine wpCalm_step _ (fun V hV => calm_run (run_not8 rfl rfl)) ?_ | refine wpCalm_step _ (fun V hV => calm_run (run_cv64_32 rfl rfl)) ?_ | refine wpCalm_step _ (fun V hV => calm_run (run_cv8_32 rfl rfl)) ?_ | refine wpCalm_step _ (fun V hV => calm_run (run_cv8_64 rfl rfl)) ?_ | refine wpCalm_step _ (fun V hV => calm_run (run_cv32_8 rfl rfl)) ?_ | refine wpCalm_step _ (fun V hV => calm_run (run_cv64_8 rfl rfl)) ?_); (try simp only [Act.put, List.setIfInBounds_toArray, List.set_cons_zero, List.set_cons_succ])))
      refine wpCalm_step _ (fun V hV => calm_run (run_ix0 (i := i) rfl Tryz.underlying23 (by kernel_rfl) rfl rfl (by omega))) ?_; (try simp only [Act.put, List.setIfInBounds_toArray, List.set_cons_zero, List.set_cons_succ])
      refine wpCalm_step _ (fun V hV => calm_run (run_ld8 rfl rfl (HGC.out V ((hM.out.below hV).get (i := 2) rfl)))) ?_; (try simp only [Act.put, List.setIfInBounds_toArray, List.set_cons_zero, List.set_cons_succ])
      refine wpCalm_step _ (fun V hV => calm_run (run_cv8i rfl rfl)) ?_; (try simp only [Act.put, List.setIfInBounds_toArray, List.set_cons_zero, List.set_cons_succ])
      refine wpCalm_step _ (fun V hV => calm_run (run_addN (a := x) (b := ci.toNat) rfl rfl rfl (by rw [EC.out]; omega))) ?_; (try simp only [Act.put, List.setIfInBounds_toArray, List.set_cons_zero, List.set_cons_succ])
      refine wpCalm_step _ (fun V hV => calm_run (run_ixs (i := i) rfl Tryz.underlying72 (by kernel_rfl) rfl rfl (by omega))) ?_; (try simp only [Act.put, List.setIfInBounds_toArray, List.set_cons_zero, List.set_cons_succ])
      refine wpCalm_done ?_; intro a6 hb6; simp only [List.drop_succ_cons, List.drop_zero]
      replace hM := Lib.hid (hM.out.below hb6)
      clear hb6
      rw [EC.out, Nat.zero_add]
      refine wpList_skip (run_stI (n := x + cn) rfl rfl rfl (HG.out _ (hM.out.get (i := 0) rfl)) ((hM.out.get (i := 0) rfl).f i)) rfl rfl ?_
      refine wpList_end ?_
      replace hM : Hid (Mv w [(g5, (n.set i (x + cn)).map iN), (g4, z8 32), (g3, c.map b8), (g2, b.map b8), (g1, a.map b8)] (a6.setCell ⟨g5, i, none⟩ (iN (x + cn)))) := Lib.hid (by
        have h := hM.out.set 0 rfl (j := i) (by rw [List.length_map]; omega) (iN (x + cn))
        rw [set_map] at h
        exact h)
      generalize a6.setCell ⟨g5, i, none⟩ (iN (x + cn)) = a7 at *
      generalize n.set i (x + cn) = n1 at *
      clear HG HGC HMd HLe hx hci EC
      go_upto_region 6 with fail; refine wp_region_lit ?_
      (repeat ((first | refine wpList_val (run_mv (v := b32 _) rfl rfl) rfl ?_ | refine wpList_val (run_mv (v := b64 _) rfl rfl) rfl ?_ | refine wpList_val (run_mv (v := b8 _) rfl rfl) rfl ?_ | refine wpList_val (run_mv (v := .int _ _) rfl rfl) rfl ?_ | refine wpList_val (run_mv (v := .bool _) rfl rfl) rfl ?_ | refine wpList_val (run_mv (v := .slice (some _) _ _) rfl rfl) rfl ?_ | refine wpList_val (run_mv (v := .slice _ _ _) rfl rfl) rfl ?_ | refine wpList_val (run_mv (v := .pointer (some _)) rfl rfl) rfl ?_ | refine wpList_val (run_mv (v := .agg _) rfl rfl) rfl ?_ | refine wpList_val (run_asg (v := b32 _) rfl rfl) rfl ?_ | refine wpList_val (run_asg (v := b64 _) rfl rfl) rfl ?_ | refine wpList_val (run_asg (v := b8 _) rfl rfl) rfl ?_ | refine wpList_val (run_asg (v := .int _ _) rfl rfl) rfl ?_ | refine wpList_val (run_asg (v := .bool _) rfl rfl) rfl ?_ | refine wpList_val (run_asg (v := .slice (some _) _ _) rfl rfl) rfl ?_ | refine wpList_val (run_asg (v := .slice _ _ _) rfl rfl) rfl ?_ | refine wpList_val (run_asg (v := .pointer (some _)) rfl rfl) rfl ?_ | refine wpList_val (run_asg (v := .agg _) rfl rfl) rfl ?_ | refine wpList_val (run_mv rfl rfl) rfl ?_ | refine wpList_val (run_asg rfl rfl) rfl ?_ | refine wpList_val (run_xor32 rfl rfl rfl) rfl ?_ | refine wpList_val (run_and32 rfl rfl rfl) rfl ?_ | refine wpList_val (run_or32 rfl rfl rfl) rfl ?_ | refine wpList_val (run_add32 rfl rfl rfl) rfl ?_ | refine wpList_val (run_not32 rfl rfl) rfl ?_ | refine wpList_val (run_xor64 rfl rfl rfl) rfl ?_ | refine wpList_val (run_and64 rfl rfl rfl) rfl ?_ | refine wpList_val (run_or64 rfl rfl rfl) rfl ?_ | refine wpList_val (run_add64 rfl rfl rfl) rfl ?_ | refine wpList_val (run_not64 rfl rfl) rfl ?_ | refine wpList_val (run_xor8 rfl rfl rfl) rfl ?_ | refine wpList_val (run_and8 rfl rfl rfl) rfl ?_ | refine wpList_val (run_or8 rfl rfl rfl) rfl ?_ | refine wpList_val (run_add8 rfl rfl rfl) rfl ?_ | refine wpList_val (run_not8 rfl rfl) rfl ?_ | refine wpList_val (run_cv64_32 rfl rfl) rfl ?_ | refine wpList_val (run_cv8_32 rfl rfl) rfl ?_ | refine wpList_val (run_cv8_64 rfl rfl) rfl ?_ | refine wpList_val (run_cv32_8 rfl rfl) rfl ?_ | refine wpList_val (run_cv64_8 rfl rfl) rfl ?_); (try simp only [Act.put, List.setIfInBounds_toArray, List.set_cons_zero, List.set_cons_succ])))
      refine wpList_end ?_
      go_wp2_with fail
      go_loopw [9] (fun s u => ∃ (k : Nat) (m : List Nat), k ≤ 32 ∧ s = .int .i64 (k : Int) ∧ MdI A B C i (i + 1) k m ∧ Mv w [(g5, m.map iN), (g4, z8 32), (g3, c.map b8), (g2, b.map b8), (g1, a.map b8)] u) (fun s _ => (32 - intOf s).toNat)
      case atStart => exact ⟨0, n1, by omega, rfl, HN.out, hM.out⟩
      case round =>
        obtain ⟨k, m, hk, rfl, hMd, hJ⟩ := hrel
        replace hM := Lib.hid hJ
        have HMd := Lib.hid hMd
        have hml := hMd.len
        have hle := hMd.le
        clear hJ hMd
        by_cases hlk : k = 32
        · subst hlk
          have hk2 : ¬ (((32 : Nat) : Int) < 32) := by omega
          obtain ⟨h1, h2⟩ := S3.out i m HMd.out (by omega)
          have H1 := Lib.hid h1
          have H2 := Lib.hid h2
          clear h1 h2 hle
          go_wp2_with fail
          exact ⟨⟨i + 1, m, by omega, by go_num, H1.out, H2.out, hM.out⟩, by simp [intOf]; omega⟩
        · have hk2 : (k : Int) < 32 := by omega
          have HN2 := Lib.hid (S2.out i (i + 1) k m HMd.out (by omega) (by omega))
          have hx := getD_le hle (i + k)
          clear hle
          have EA := Lib.hid (gA.out i (by omega))
          have EB := Lib.hid (gB.out k (by omega))
          have hai := GA.out i
          have hbk := GB.out k
          have HG : Hid (∀ V', Arr g5 (m.map iN) V' → V'.cell? ⟨g5, i + k, none⟩ = some (iN (m.getD (i + k) 0))) := Lib.hid fun V' h => h.c (i + k) _ (get_map iN 0 (by omega))
          have HGA : Hid (∀ V', Arr g1 (a.map b8) V' → V'.cell? ⟨g1, i, none⟩ = some (b8 (a.getD i 0))) := Lib.hid fun V' h => h.c i _ (get_map b8 0 (by omega))
          have HGB : Hid (∀ V', Arr g2 (b.map b8) V' → V'.cell? ⟨g2, k, none⟩ = some (b8 (b.getD k 0))) := Lib.hid fun V' h => h.c k _ (get_map b8 0 (by omega))
          generalize m.getD (i + k) 0 = x at *
          generalize a.getD i 0 = ai at *
          generalize b.getD k 0 = bk at *
          generalize A.getD i 0 = an at *
          generalize B.getD k 0 = bn' at *
          have hp : an * bn' ≤ 255 * 255 := Nat.mul_le_mul (by omega) (by omega)
          go_upto_region 9 with fail; refine wp_region_calm 17 (by kernel_rfl) (by kernel_rfl) ?_
          (repeat ((first | refine wpCalm_step _ (fun V hV => calm_run (run_mv (v := b32 _) rfl rfl)) ?_ | refine wpCalm_step _ (fun V hV => calm_run (run_mv (v := b64 _) rfl rfl)) ?_ | refine wpCalm_step _ (fun V hV => calm_run (run_mv (v := b8 _) rfl rfl)) ?_ | refine wpCalm_step _ (fun V hV => calm_run (run_mv (v := .int _ _) rfl rfl)) ?_ | refine wpCalm_step _ (fun V hV => calm_run (run_mv (v := .bool _) rfl rfl)) ?_ | refine wpCalm_step _ (fun V hV => calm_run (run_mv (v := .slice (some _) _ _) rfl rfl)) ?_ | refine wpCalm_step _ (fun V hV => calm_run (run_mv (v := .slice _ _ _) rfl rfl)) ?_ | refine wpCalm_step _ (fun V hV => calm_run (run_mv (v := .pointer (some _)) rfl rfl)) ?_ | refine wpCalm_step _ (fun V hV => calm_run (run_mv (v := .agg _) rfl rfl)) ?_ | refine wpCalm_step _ (fun V hV => calm_run (run_asg (v := b32 _) rfl rfl)) ?_ | refine wpCalm_step _ (fun V hV => calm_run (run_asg (v := b64 _) rfl rfl)) ?_ | refine wpCalm_step _ (fun V hV => calm_run (run_asg (v := b8 _) rfl rfl)) ?_ | refine wpCalm_step _ (fun V hV => calm_run (run_asg (v := .int _ _) rfl rfl)) ?_ | refine wpCalm_step _ (fun V hV => calm_run (run_asg (v := .bool _) rfl rfl)) ?_ | refine wpCalm_step _ (fun V hV => calm_run (run_asg (v := .slice (some _) _ _) rfl rfl)) ?_ | refine wpCalm_step _ (fun V hV => calm_run (run_asg (v := .slice _ _ _) rfl rfl)) ?_ | refine wpCalm_step _ (fun V hV => calm_run (run_asg (v := .pointer (some _)) rfl rfl)) ?_ | refine wpCalm_step _ (fun V hV => calm_run (run_asg (v := .agg _) rfl rfl)) ?_ | refine wpCalm_step _ (fun V hV => calm_run (run_mv rfl rfl)) ?_ | refine wpCalm_step _ (fun V hV => calm_run (run_asg rfl rfl)) ?_ | refine wpCalm_step _ (fun V hV => calm_run (run_xor32 rfl rfl rfl)) ?_ | refine wpCalm_step _ (fun V hV => calm_run (run_and32 rfl rfl rfl)) ?_ | refine wpCalm_step _ (fun V hV => calm_run (run_or32 rfl rfl rfl)) ?_ | refine wpCalm_step _ (fun V hV => calm_run (run_add32 rfl rfl rfl)) ?_ | refine wpCalm_step _ (fun V hV => calm_run (run_not32 rfl rfl)) ?_ | refine wpCalm_step _ (fun V hV => calm_run (run_xor64 rfl rfl rfl)) ?_ | refine wpCalm_step _ (fun V hV => calm_run (run_and64 rfl rfl rfl)) ?_ | refine wpCalm_step _ (fun V hV => calm_run (run_or64 rfl rfl rfl)) ?_ | refine wpCalm_step _ (fun V hV => calm_run (run_add64 rfl rfl rfl)) ?_ | refine wpCalm_step _ (fun V hV => calm_run (run_not64 rfl rfl)) ?_ | refine wpCalm_step _ (fun V hV => calm_run (run_xor8 rfl rfl rfl)) ?_ | refine wpCalm_step _ (fun V hV => calm_run (run_and8 rfl rfl rfl)) ?_ | refine wpCalm_step _ (fun V hV => calm_run (run_or8 rfl rfl rfl)) ?_ | refine wpCalm_step _ (fun V hV => calm_run (run_add8 rfl rfl rfl)) ?_ | refine wpCalm_step _ (fun V hV => calm_run (run_not8 rfl rfl)) ?_ | refine wpCalm_step _ (fun V hV => calm_run (run_cv64_32 rfl rfl)) ?_ | refine wpCalm_step _ (fun V hV => calm_run (run_cv8_32 rfl rfl)) ?_ | refine wpCalm_step _ (fun V hV => calm_run (run_cv8_64 rfl rfl)) ?_ | refine wpCalm_step _ (fun V hV => calm_run (run_cv32_8 rfl rfl)) ?_ | refine wpCalm_step _ (fun V hV => calm_run (run_cv64_8 rfl rfl)) ?_); (try simp only [Act.put, List.setIfInBounds_toArray, List.set_cons_zero, List.set_cons_succ])))
          refine wpCalm_step _ (fun V hV => calm_run (run_addN (a := i) (b := k) rfl rfl rfl (by omega))) ?_; (try simp only [Act.put, List.setIfInBounds_toArray, List.set_cons_zero, List.set_cons_succ])
          refine wpCalm_step _ (fun V hV => calm_run (run_ixs (i := i + k) rfl Tryz.underlying72 (by kernel_rfl) rfl rfl (by omega))) ?_; (try simp only [Act.put, List.setIfInBounds_toArray, List.set_cons_zero, List.set_cons_succ])
          refine wpCalm_step _ (fun V hV => calm_run (run_ldi rfl rfl (by rw [Nat.zero_add]; exact HG.out V ((hM.out.below hV).get (i := 0) rfl)))) ?_; (try simp only [Act.put, List.setIfInBounds_toArray, List.set_cons_zero, List.set_cons_succ])
          (repeat ((first | refine wpCalm_step _ (fun V hV => calm_run (run_mv (v := b32 _) rfl rfl)) ?_ | refine wpCalm_step _ (fun V hV => calm_run (run_mv (v := b64 _) rfl rfl)) ?_ | refine wpCalm_step _ (fun V hV => calm_run (run_mv (v := b8 _) rfl rfl)) ?_ | refine wpCalm_step _ (fun V hV => calm_run (run_mv (v := .int _ _) rfl rfl)) ?_ | refine wpCalm_step _ (fun V hV => calm_run (run_mv (v := .bool _) rfl rfl)) ?_ | refine wpCalm_step _ (fun V hV => calm_run (run_mv (v := .slice (some _) _ _) rfl rfl)) ?_ | refine wpCalm_step _ (fun V hV => calm_run (run_mv (v := .slice _ _ _) rfl rfl)) ?_ | refine wpCalm_step _ (fun V hV => calm_run (run_mv (v := .pointer (some _)) rfl rfl)) ?_ | refine wpCalm_step _ (fun V hV => calm_run (run_mv (v := .agg _) rfl rfl)) ?_ | refine wpCalm_step _ (fun V hV => calm_run (run_asg (v := b32 _) rfl rfl)) ?_ | refine wpCalm_step _ (fun V hV => calm_run (run_asg (v := b64 _) rfl rfl)) ?_ | refine wpCalm_step _ (fun V hV => calm_run (run_asg (v := b8 _) rfl rfl)) ?_ | refine wpCalm_step _ (fun V hV => calm_run (run_asg (v := .int _ _) rfl rfl)) ?_ | refine wpCalm_step _ (fun V hV => calm_run (run_asg (v := .bool _) rfl rfl)) ?_ | refine wpCalm_step _ (fun V hV => calm_run (run_asg (v := .slice (some _) _ _) rfl rfl)) ?_ | refine wpCalm_step _ (fun V hV => calm_run (run_asg (v := .slice _ _ _) rfl rfl)) ?_ | refine wpCalm_step _ (fun V hV => calm_run (run_asg (v := .pointer (some _)) rfl rfl)) ?_ | refine wpCalm_step _ (fun V hV => calm_run (run_asg (v := .agg _) rfl rfl)) ?_ | refine wpCalm_step _ (fun V hV => calm_run (run_mv rfl rfl)) ?_ | refine wpCalm_step _ (fun V hV => calm_run (run_asg rfl rfl)) ?_ | refine wpCalm_step _ (fun V hV => calm_run (run_xor32 rfl rfl rfl)) ?_ | refine wpCalm_step _ (fun V hV => calm_run (run_and32 rfl rfl rfl)) ?_ | refine wpCalm_step _ (fun V hV => calm_run (run_or32 rfl rfl rfl)) ?_ | refine wpCalm_step _ (fun V hV => calm_run (run_add32 rfl rfl rfl)) ?_ | refine wpCalm_step _ (fun V hV => calm_run (run_not32 rfl rfl)) ?_ | refine wpCalm_step _ (fun V hV => calm_run (run_xor64 rfl rfl rfl)) ?_ | refine wpCalm_step _ (fun V hV => calm_run (run_and64 rfl rfl rfl)) ?_ | refine wpCalm_step _ (fun V hV => calm_run (run_or64 rfl rfl rfl)) ?_ | refine wpCalm_step _ (fun V hV => calm_run (run_add64 rfl rfl rfl)) ?_ | refine wpCalm_step _ (fun V hV => calm_run (run_not64 rfl rfl)) ?_ | refine wpCalm_step _ (fun V hV => calm_run (run_xor8 rfl rfl rfl)) ?_ | refine wpCalm_step _ (fun V hV => calm_run (run_and8 rfl rfl rfl)) ?_ | refine wpCalm_step _ (fun V hV => calm_run (run_or8 rfl rfl rfl)) ?_ | refine wpCalm_step _ (fun V hV => calm_run (run_add8 rfl rfl rfl)) ?_ | refine wpCalm_step _ (fun V hV => calm_run (run_not8 rfl rfl)) ?_ | refine wpCalm_step _ (fun V hV => calm_run (run_cv64_32 rfl rfl)) ?_ | refine wpCalm_step _ (fun V hV => calm_run (run_cv8_32 rfl rfl)) ?_ | refine wpCalm_step _ (fun V hV => calm_run (run_cv8_64 rfl rfl)) ?_ | refine wpCalm_step _ (fun V hV => calm_run (run_cv32_8 rfl rfl)) ?_ | refine wpCalm_step _ (fun V hV => calm_run (run_cv64_8 rfl rfl)) ?_); (try simp only [Act.put, List.setIfInBounds_toArray, List.set_cons_zero, List.set_cons_succ])))
          refine wpCalm_step _ (fun V hV => calm_run (run_ix0 (i := i) rfl Tryz.underlying23 (by kernel_rfl) rfl rfl (by omega))) ?_; (try simp only [Act.put, List.setIfInBounds_toArray, List.set_cons_zero, List.set_cons_succ])
          refine wpCalm_step _ (fun V hV => calm_run (run_ld8 rfl rfl (HGA.out V ((hM.out.below hV).get (i := 4) rfl)))) ?_; (try simp only [Act.put, List.setIfInBounds_toArray, List.set_cons_zero, List.set_cons_succ])
          refine wpCalm_step _ (fun V hV => calm_run (run_cv8i rfl rfl)) ?_; (try simp only [Act.put, List.setIfInBounds_toArray, List.set_cons_zero, List.set_cons_succ])
          (repeat ((first | refine wpCalm_step _ (fun V hV => calm_run (run_mv (v := b32 _) rfl rfl)) ?_ | refine wpCalm_step _ (fun V hV => calm_run (run_mv (v := b64 _) rfl rfl)) ?_ | refine wpCalm_step _ (fun V hV => calm_run (run_mv (v := b8 _) rfl rfl)) ?_ | refine wpCalm_step _ (fun V hV => calm_run (run_mv (v := .int _ _) rfl rfl)) ?_ | refine wpCalm_step _ (fun V hV => calm_run (run_mv (v := .bool _) rfl rfl)) ?_ | refine wpCalm_step _ (fun V hV => calm_run (run_mv (v := .slice (some _) _ _) rfl rfl)) ?_ | refine wpCalm_step _ (fun V hV => calm_run (run_mv (v := .slice _ _ _) rfl rfl)) ?_ | refine wpCalm_step _ (fun V hV => calm_run (run_mv (v := .pointer (some _)) rfl rfl)) ?_ | refine wpCalm_step _ (fun V hV => calm_run (run_mv (v := .agg _) rfl rfl)) ?_ | refine wpCalm_step _ (fun V hV => calm_run (run_asg (v := b32 _) rfl rfl)) ?_ | refine wpCalm_step _ (fun V hV => calm_run (run_asg (v := b64 _) rfl rfl)) ?_ | refine wpCalm_step _ (fun V hV => calm_run (run_asg (v := b8 _) rfl rfl)) ?_ | refine wpCalm_step _ (fun V hV => calm_run (run_asg (v := .int _ _) rfl rfl)) ?_ | refine wpCalm_step _ (fun V hV => calm_run (run_asg (v := .bool _) rfl rfl)) ?_ | refine wpCalm_step _ (fun V hV => calm_run (run_asg (v := .slice (some _) _ _) rfl rfl)) ?_ | refine wpCalm_step _ (fun V hV => calm_run (run_asg (v := .slice _ _ _) rfl rfl)) ?_ | refine wpCalm_step _ (fun V hV => calm_run (run_asg (v := .pointer (some _)) rfl rfl)) ?_ | refine wpCalm_step _ (fun V hV => calm_run (run_asg (v := .agg _) rfl rfl)) ?_ | refine wpCalm_step _ (fun V hV => calm_run (run_mv rfl rfl)) ?_ | refine wpCalm_step _ (fun V hV => calm_run (run_asg rfl rfl)) ?_ | refine wpCalm_step _ (fun V hV => calm_run (run_xor32 rfl rfl rfl)) ?_ | refine wpCalm_step _ (fun V hV => calm_run (run_and32 rfl rfl rfl)) ?_ | refine wpCalm_step _ (fun V hV => calm_run (run_or32 rfl rfl rfl)) ?_ | refine wpCalm_step _ (fun V hV => calm_run (run_add32 rfl rfl rfl)) ?_ | refine wpCalm_step _ (fun V hV => calm_run (run_not32 rfl rfl)) ?_ | refine wpCalm_step _ (fun V hV => calm_run (run_xor64 rfl rfl rfl)) ?_ | refine wpCalm_step _ (fun V hV => calm_run (run_and64 rfl rfl rfl)) ?_ | refine wpCalm_step _ (fun V hV => calm_run (run_or64 rfl rfl rfl)) ?_ | refine wpCalm_step _ (fun V hV => calm_run (run_add64 rfl rfl rfl)) ?_ | refine wpCalm_step _ (fun V hV => calm_run (run_not64 rfl rfl)) ?_ | refine wpCalm_step _ (fun V hV => calm_run (run_xor8 rfl rfl rfl)) ?_ | refine wpCalm_step _ (fun V hV => calm_run (run_and8 rfl rfl rfl)) ?_ | refine wpCalm_step _ (fun V hV => calm_run (run_or8 rfl rfl rfl)) ?_ | refine wpCalm_step _ (fun V hV => calm_run (run_add8 rfl rfl rfl)) ?_ | refine wpCalm_step _ (fun V hV => calm_run (run_not8 rfl rfl)) ?_ | refine wpCalm_step _ (fun V hV => calm_run (run_cv64_32 rfl rfl)) ?_ | refine wpCalm_step _ (fun V hV => calm_run (run_cv8_32 rfl rfl)) ?_ | refine wpCalm_step _ (fun V hV => calm_run (run_cv8_64 rfl rfl)) ?_ | refine wpCalm_step _ (fun V hV => calm_run (run_cv32_8 rfl rfl)) ?_ | refine wpCalm_step _ (fun V hV => calm_run (run_cv64_8 rfl rfl)) ?_); (try simp only [Act.put, List.setIfInBounds_toArray, List.set_cons_zero, List.set_cons_succ])))
          refine wpCalm_step _ (fun V hV => calm_run (run_ix0 (i := k) rfl Tryz.underlying23 (by kernel_rfl) rfl rfl (by omega))) ?_; (try simp only [Act.put, List.setIfInBounds_toArray, List.set_cons_zero, List.set_cons_succ])
          refine wpCalm_step _ (fun V hV => calm_run (run_ld8 rfl rfl (HGB.out V ((hM.out.below hV).get (i := 3) rfl)))) ?_; (try simp only [Act.put, List.setIfInBounds_toArray, List.set_cons_zero, List.set_cons_succ])
          refine wpCalm_step _ (fun V hV => calm_run (run_cv8i rfl rfl)) ?_; (try simp only [Act.put, List.setIfInBounds_toArray, List.set_cons_zero, List.set_cons_succ])
          refine wpCalm_step _ (fun V hV => calm_run (run_mulN (a := ai.toNat) (b := bk.toNat) rfl rfl rfl (by rw [EA.out, EB.out]; omega))) ?_; (try simp only [Act.put, List.setIfInBounds_toArray, List.set_cons_zero, List.set_cons_succ])
          refine wpCalm_step _ (fun V hV => calm_run (run_addN (a := x) (b := ai.toNat * bk.toNat) rfl rfl rfl (by rw [EA.out, EB.out]; omega))) ?_; (try simp only [Act.put, List.setIfInBounds_toArray, List.set_cons_zero, List.set_cons_succ])
          refine wpCalm_step _ (fun V hV => calm_run (run_ixs (i := i + k) rfl Tryz.underlying72 (by kernel_rfl) rfl rfl (by omega))) ?_; (try simp only [Act.put, List.setIfInBounds_toArray, List.set_cons_zero, List.set_cons_succ])
          refine wpCalm_done ?_; intro b6 hb6; simp only [List.drop_succ_cons, List.drop_zero]
          replace hM := Lib.hid (hM.out.below hb6)
          clear hb6
          rw [EA.out, EB.out, Nat.zero_add]
          refine wpList_skip (run_stI (n := x + an * bn') rfl rfl rfl (HG.out _ (hM.out.get (i := 0) rfl)) ((hM.out.get (i := 0) rfl).f (i + k))) rfl rfl ?_
          refine wpList_end ?_
          replace hM : Hid (Mv w [(g5, (m.set (i + k) (x + an * bn')).map iN), (g4, z8 32), (g3, c.map b8), (g2, b.map b8), (g1, a.map b8)] (b6.setCell ⟨g5, i + k, none⟩ (iN (x + an * bn')))) := Lib.hid (by
            have h := hM.out.set 0 rfl (j := i + k) (by rw [List.length_map]; omega) (iN (x + an * bn'))
            rw [set_map] at h
            exact h)
          generalize b6.setCell ⟨g5, i + k, none⟩ (iN (x + an * bn')) = b7 at *
          generalize m.set (i + k) (x + an * bn') = m1 at *
          clear HG HGA HGB HMd hx hai hbk EA EB hp
          go_wp2_with fail
          exact ⟨⟨k + 1, m1, by omega, by go_num, HN2.out, hM.out⟩, by simp [intOf]; omega⟩
theorem enters_rmad : Enters 23 := enters_of Tryz.func23 (by kernel_rfl) rfl
end Go.Proofs.YtfdjmdfaidiliaaGreatDoor
namespace Go.Proofs.YtfdjmdfaidiliaaGreatDoor
open Go.RowKit
set_option maxRecDepth 20000

theorem sl_nil9 (w : World) : Sl (.slice none 0 0) [] w := ⟨none, 0, rfl, Nat.le_refl _, fun h => absurd rfl h⟩
theorem two_set {a b a' b' : List (BitVec 8)} {n : Nat} {x y : BitVec 8} (h1 : a.set n x = a') (h2 : b.set n y = b') (ha : a.length = 32) (hn : n < 32) : ((a ++ b).set n x).set (32 + n) y = a' ++ b' := by
  have e : 32 + n - (a.set n x).length = n := by rw [List.length_set, ha]; omega
  rw [List.set_append_left _ _ (by omega), List.set_append_right _ _ (by rw [List.length_set]; omega), e, h1, h2]
set_option maxHeartbeats 4000000 in
theorem stimes9_any (k : List (BitVec 8)) (w : World) (hk : k.length = 32) : Calls Tryz.prog 15 #[.agg (k.map b8).toArray] w fun e w' => e = .returned (.agg ((tmB (leB k)).map b8).toArray) ∧ Below w.heap.size w w' := by
  obtain ⟨B, hB⟩ : ∃ B, B = bs := ⟨_, rfl⟩
  obtain ⟨Q, hQ⟩ : ∃ Q, Q = pmul bs (leB k) := ⟨_, rfl⟩
  have nB : B.Nm := by rw [hB]; exact bs_ok.nm
  have nQ : Q.Nm := by rw [hQ]; exact (pmul_ok _ _).nm
  have e1 : mulP (leB k) B = Q := by rw [hB, hQ, mul_bs]
  have CB : Hid (∀ u : World, Calls Tryz.prog 37 #[] u fun e w' => e = .returned (.agg (ptL B).toArray) ∧ Below u.heap.size u w') := Lib.hid fun u => by rw [hB]; exact ebase_any u
  have CM : Hid (∀ u : World, Calls Tryz.prog 36 #[.agg (k.map b8).toArray, .agg (ptL B).toArray] u fun e w' => e = .returned (.agg (ptL Q).toArray) ∧ Below u.heap.size u w') := Lib.hid fun u => by rw [← e1]; exact emulP_any k B u hk nB
  have CE : Hid (∀ u : World, Calls Tryz.prog 35 #[.agg (ptL Q).toArray] u fun e w' => e = .returned (.agg ((tmB (leB k)).map b8).toArray) ∧ Below u.heap.size u w') := Lib.hid fun u => by
    have h := eencode_any Q u nQ
    rw [hQ] at h
    rw [hQ]; exact h
  have hl := tmB_len (leB k)
  clear hB hQ e1
  generalize tmB (leB k) = R at *
  have SK := Lib.hid (szKy hk)
  have SR := Lib.hid (szKy hl)
  have LR : Hid ((R.map b8).length = (z8 32).length) := Lib.hid (by rw [z8_32, List.length_map, hl])
  have hM := Lib.hid (Mv.nil w)
  go_enter Tryz.func15, Tryz.ntmps15
  go_upto_region 0 with fail; refine wp_region_lit ?_
  refine wpList_val (run_boxL8 (vs := k.map b8) rfl rfl) rfl ?_; (try simp only [Act.put, List.setIfInBounds_toArray, List.set_cons_zero, List.set_cons_succ]); replace hM := Lib.hid (hM.out.new (k.map b8) 23); generalize w.alloc (.cells (k.map b8).toArray 23) = a1 at *; generalize w.heap.size = g1 at *
  refine wpList_val (run_alc (vs := z8 32) rfl (by kernel_rfl)) rfl ?_; (try simp only [Act.put, List.setIfInBounds_toArray, List.set_cons_zero, List.set_cons_succ]); replace hM := Lib.hid (hM.out.new (z8 32) 23); generalize a1.alloc (.cells (z8 32).toArray 23) = a2 at *; generalize a1.heap.size = g2 at *
  refine wpList_end ?_
  go_upto_region 1 with fail; refine wp_region_calm 4 (by kernel_rfl) (by kernel_rfl) ?_
  refine wpCalm_step _ (fun V hV => calm_run (run_ldM (vs := k.map b8) rfl Tryz.underlying23 rfl SK.out rfl (((hM.out.below hV).get (i := 1) rfl).range))) ?_; (try simp only [Act.put, List.setIfInBounds_toArray, List.set_cons_zero, List.set_cons_succ])
  refine wpCalm_step _ (fun V hV => calm_enter (run_call0 enters_ebase rfl rfl) (CB.out V)) ?_; (try simp only [Act.put, List.setIfInBounds_toArray, List.set_cons_zero, List.set_cons_succ])
  refine wpCalm_step _ (fun V hV => calm_enter (run_call2 enters_emulP rfl rfl rfl rfl) (CM.out V)) ?_; (try simp only [Act.put, List.setIfInBounds_toArray, List.set_cons_zero, List.set_cons_succ])
  refine wpCalm_step _ (fun V hV => calm_enter (run_call1 enters_eencode rfl rfl rfl) (CE.out V)) ?_; (try simp only [Act.put, List.setIfInBounds_toArray, List.set_cons_zero, List.set_cons_succ])
  refine wpCalm_done ?_; intro a5 hb; simp only [List.drop_succ_cons, List.drop_zero]
  replace hM := Lib.hid (hM.out.below hb)
  clear hb
  refine wpList_skip (run_stM (vs := R.map b8) rfl SR.out rfl rfl (one8s _) (by rw [LR.out]; exact (hM.out.get (i := 0) rfl).there)) rfl rfl ?_; replace hM := Lib.hid (hM.out.put 0 rfl (m := R.map b8) (LR.out))
  refine wpList_end ?_; go_wp2_with fail; refine bodyPost_ret (v := .agg (R.map b8).toArray) (results_rowB Tryz.results15 rfl Tryz.underlying23 rfl SR.out (hM.out.get (i := 0) rfl).range) rfl ⟨rfl, hM.out.bl⟩
theorem enters_stimes9 : Enters 15 := enters_of Tryz.func15 (by kernel_rfl) rfl
set_option maxHeartbeats 4000000 in
theorem number_any (v : Value) (b : List (BitVec 8)) (w : World) (hv : Sl v b w) (hl : b.length ≤ 10000) (hT : Tabs w) : Calls Tryz.prog 21 #[v] w fun e w' => e = .returned (.agg ((nmB b).map b8).toArray) ∧ Below w.heap.size w w' := by
  have HT := Lib.hid hT; clear hT
  have HV := Lib.hid hv; clear hv
  have CR : Hid (∀ u : World, Calls Tryz.prog 44 #[.agg ((sum64 b).map b8).toArray] u fun e w' => e = .returned (.agg ((nmB b).map b8).toArray) ∧ Below u.heap.size u w') := Lib.hid fun u => rreduce_any (sum64 b) u (sum64_len b)
  have hnl := nmB_len b
  generalize nmB b = R at *
  have SR := Lib.hid (szKy hnl)
  have LR : Hid ((R.map b8).length = (z8 32).length) := Lib.hid (by rw [z8_32, List.length_map, hnl])
  have CS : Hid (∀ u : World, Sl v b u → Tabs u → Calls Tryz.prog 13 #[v] u fun e w' => e = .returned (.agg ((sum64 b).map b8).toArray) ∧ Below u.heap.size u w') := Lib.hid fun u h1 h2 => refsum64_any v b u h1 hl h2
  generalize sum64 b = D at *
  have hM := Lib.hid (Mv.nil w)
  go_enter Tryz.func21, Tryz.ntmps21
  go_upto_region 0 with fail; refine wp_region_lit ?_
  refine wpList_val (run_alc (vs := z8 32) rfl (by kernel_rfl)) rfl ?_; (try simp only [Act.put, List.setIfInBounds_toArray, List.set_cons_zero, List.set_cons_succ]); replace hM := Lib.hid (hM.out.new (z8 32) 23); generalize w.alloc (.cells (z8 32).toArray 23) = a1 at *; generalize w.heap.size = g1 at *
  refine wpList_end ?_
  go_upto_region 1 with fail; refine wp_region_lit ?_
  refine wpList_val (run_mv (v := v) rfl rfl) rfl ?_; (try simp only [Act.put, List.setIfInBounds_toArray, List.set_cons_zero, List.set_cons_succ])
  refine wpList_enter (run_call1 enters_refsum64 rfl rfl rfl) rfl (CS.out _ (HV.out.below hM.out.bl) (HT.out.below hM.out.bl)) (fun a2 hb => ?_); (try simp only [Act.put, List.setIfInBounds_toArray, List.set_cons_zero, List.set_cons_succ]); replace hM := Lib.hid (hM.out.below hb); clear hb
  refine wpList_enter (run_call1 enters_rreduce rfl rfl rfl) rfl (CR.out _) (fun a3 hb => ?_); (try simp only [Act.put, List.setIfInBounds_toArray, List.set_cons_zero, List.set_cons_succ]); replace hM := Lib.hid (hM.out.below hb); clear hb
  refine wpList_skip (run_stM (vs := R.map b8) rfl SR.out rfl rfl (one8s _) (by rw [LR.out]; exact (hM.out.get (i := 0) rfl).there)) rfl rfl ?_; replace hM := Lib.hid (hM.out.put 0 rfl (m := R.map b8) (LR.out))
  refine wpList_end ?_; go_wp2_with fail; refine bodyPost_ret (v := .agg (R.map b8).toArray) (results_rowB Tryz.results21 rfl Tryz.underlying23 rfl SR.out (hM.out.get (i := 0) rfl).range) rfl ⟨rfl, hM.out.bl⟩
theorem enters_number : Enters 21 := enters_of Tryz.func21 (by kernel_rfl) rfl
set_option maxHeartbeats 8000000 in
theorem rpublic_any (k : List (BitVec 8)) (w : World) (hk : k.length = 32) (hT : Tabs w) : Calls Tryz.prog 6 #[.agg (k.map b8).toArray] w fun e w' => e = .returned (.agg ((pubB k).map b8).toArray) ∧ Below w.heap.size w w' := by
  have HT := Lib.hid hT; clear hT
  have HR := Lib.hid (pubB_len k)
  obtain ⟨D, hD⟩ : ∃ D, D = sum64 k := ⟨_, rfl⟩
  obtain ⟨A, hA⟩ : ∃ A, A = secA k := ⟨_, rfl⟩
  obtain ⟨R, hR⟩ : ∃ R, R = pubB k := ⟨_, rfl⟩
  obtain ⟨X, hX⟩ : ∃ X, X = D.take 32 := ⟨_, rfl⟩
  have lD : D.length = 64 := by rw [hD]; exact sum64_len k
  have lA : A.length = 32 := by rw [hA]; exact secA_len k
  have lR : R.length = 32 := by rw [hR]; exact pubB_len k
  have lX : X.length = 32 := by rw [hX, List.length_take, lD]; rfl
  have CS : Hid (∀ (v : Value) (u : World), Sl v k u → Tabs u → Calls Tryz.prog 13 #[v] u fun e w' => e = .returned (.agg (D.map b8).toArray) ∧ Below u.heap.size u w') := Lib.hid fun v u h1 h2 => by rw [hD]; exact refsum64_any v k u h1 (by omega) h2
  have CC : Hid (∀ u : World, Calls Tryz.prog 16 #[.agg (X.map b8).toArray] u fun e w' => e = .returned (.agg (A.map b8).toArray) ∧ Below u.heap.size u w') := Lib.hid fun u => by
    have h := rclampB_any X u lX
    rw [hX, hD] at h
    rw [hX, hD, hA]; exact h
  have CT : Hid (∀ u : World, Calls Tryz.prog 15 #[.agg (A.map b8).toArray] u fun e w' => e = .returned (.agg (R.map b8).toArray) ∧ Below u.heap.size u w') := Lib.hid fun u => by
    have h := stimes9_any A u lA
    rw [hA] at h
    rw [hA, hR]; exact h
  have CH : Hid (∀ u : World, Calls Tryz.prog 12 #[.agg (D.map b8).toArray] u fun e w' => ∃ v', e = .returned v' ∧ ((∃ v1 v2, v' = .tuple #[v1, v2] ∧ Sl v1 X w' ∧ Sl v2 (D.drop 32) w') ∧ Below u.heap.size u w')) := Lib.hid fun u => by rw [hX]; exact halves_any D u lD
  rw [← hR]
  clear hD hA hR hX HR
  have SK := Lib.hid (szKy hk)
  have SR := Lib.hid (szKy lR)
  have LR : Hid ((R.map b8).length = (z8 32).length) := Lib.hid (by rw [z8_32, List.length_map, lR])
  have hM := Lib.hid (Mv.nil w)
  go_enter Tryz.func6, Tryz.ntmps6
  go_upto_region 0 with fail; refine wp_region_lit ?_
  refine wpList_val (run_boxL8 (vs := k.map b8) rfl rfl) rfl ?_; (try simp only [Act.put, List.setIfInBounds_toArray, List.set_cons_zero, List.set_cons_succ]); replace hM := Lib.hid (hM.out.new (k.map b8) 23); generalize w.alloc (.cells (k.map b8).toArray 23) = a1 at *; generalize w.heap.size = g1 at *
  refine wpList_val (run_alc (vs := z8 32) rfl (by kernel_rfl)) rfl ?_; (try simp only [Act.put, List.setIfInBounds_toArray, List.set_cons_zero, List.set_cons_succ]); replace hM := Lib.hid (hM.out.new (z8 32) 23); generalize a1.alloc (.cells (z8 32).toArray 23) = a2 at *; generalize a1.heap.size = g2 at *
  refine wpList_end ?_
  go_upto_region 1 with fail; refine wp_region_lit ?_
  refine wpList_val (run_ldM (vs := k.map b8) rfl Tryz.underlying23 rfl SK.out rfl ((hM.out.get (i := 1) rfl).range)) rfl ?_; (try simp only [Act.put, List.setIfInBounds_toArray, List.set_cons_zero, List.set_cons_succ])
  refine wpList_callR (run_call1 enters_rsliceG rfl rfl rfl) rfl (rsliceG_any k _ hk) (fun vk a3 hR => ?_); (try simp only [Act.put, List.setIfInBounds_toArray, List.set_cons_zero, List.set_cons_succ])
  have H1 := Lib.hid hR.sl
  replace hM := Lib.hid (hM.out.below hR.bl)
  clear hR
  refine wpList_enter (run_call1 enters_refsum64 rfl rfl rfl) rfl (CS.out _ _ H1.out (HT.out.below hM.out.bl)) (fun a4 hb => ?_); (try simp only [Act.put, List.setIfInBounds_toArray, List.set_cons_zero, List.set_cons_succ]); replace hM := Lib.hid (hM.out.below hb); clear hb
  clear H1
  refine wpList_callR (run_call1 enters_halves rfl rfl rfl) rfl (CH.out _) (fun vh a5 hR => ?_); (try simp only [Act.put, List.setIfInBounds_toArray, List.set_cons_zero, List.set_cons_succ])
  obtain ⟨⟨v1, v2, rfl, H1, -⟩, hb⟩ := hR
  replace hM := Lib.hid (hM.out.below hb)
  replace H1 := Lib.hid H1
  clear hb
  refine wpList_val (run_mv (v := .tuple _) rfl rfl) rfl ?_; (try simp only [Act.put, List.setIfInBounds_toArray, List.set_cons_zero, List.set_cons_succ])
  refine wpList_val (run_xtr (v := v1) rfl rfl rfl) rfl ?_; (try simp only [Act.put, List.setIfInBounds_toArray, List.set_cons_zero, List.set_cons_succ])
  refine wpList_val (run_xtr (v := v2) rfl rfl rfl) rfl ?_; (try simp only [Act.put, List.setIfInBounds_toArray, List.set_cons_zero, List.set_cons_succ])
  refine wpList_val (run_asg (v := v1) rfl rfl) rfl ?_; (try simp only [Act.put, List.setIfInBounds_toArray, List.set_cons_zero, List.set_cons_succ])
  refine wpList_val (run_asg (v := v2) rfl rfl) rfl ?_; (try simp only [Act.put, List.setIfInBounds_toArray, List.set_cons_zero, List.set_cons_succ])
  refine wpList_end ?_
  go_upto_region 2 with fail; refine wp_region_lit ?_
  refine wpList_val (run_mv (v := v1) rfl rfl) rfl ?_; (try simp only [Act.put, List.setIfInBounds_toArray, List.set_cons_zero, List.set_cons_succ])
  refine wpList_enter (run_call1 enters_rkeyG rfl rfl rfl) rfl (rkeyG_any v1 X _ H1.out lX) (fun a6 hb => ?_); (try simp only [Act.put, List.setIfInBounds_toArray, List.set_cons_zero, List.set_cons_succ]); replace hM := Lib.hid (hM.out.below hb); clear hb
  refine wpList_enter (run_call1 enters_rclampB rfl rfl rfl) rfl (CC.out _) (fun a7 hb => ?_); (try simp only [Act.put, List.setIfInBounds_toArray, List.set_cons_zero, List.set_cons_succ]); replace hM := Lib.hid (hM.out.below hb); clear hb
  refine wpList_enter (run_call1 enters_stimes9 rfl rfl rfl) rfl (CT.out _) (fun a8 hb => ?_); (try simp only [Act.put, List.setIfInBounds_toArray, List.set_cons_zero, List.set_cons_succ]); replace hM := Lib.hid (hM.out.below hb); clear hb
  refine wpList_skip (run_stM (vs := R.map b8) rfl SR.out rfl rfl (one8s _) (by rw [LR.out]; exact (hM.out.get (i := 0) rfl).there)) rfl rfl ?_; replace hM := Lib.hid (hM.out.put 0 rfl (m := R.map b8) (LR.out))
  refine wpList_end ?_; go_wp2_with fail; refine bodyPost_ret (v := .agg (R.map b8).toArray) (results_rowB Tryz.results6 rfl Tryz.underlying23 rfl SR.out (hM.out.get (i := 0) rfl).range) rfl ⟨rfl, hM.out.bl⟩
theorem enters_rpublic : Enters 6 := enters_of Tryz.func6 (by kernel_rfl) rfl
set_option maxHeartbeats 16000000 in
theorem rsign_any (s : List (BitVec 8)) (vb : Value) (b : List (BitVec 8)) (w : World) (hs : s.length = 32) (hb : Sl vb b w) (hbl : b.length ≤ 9000) (hT : Tabs w) : Calls Tryz.prog 8 #[.agg (s.map b8).toArray, vb] w fun e w' => e = .returned (.agg ((sigB s b).map b8).toArray) ∧ Below w.heap.size w w' := by
  have HT := Lib.hid hT; clear hT
  have HB := Lib.hid hb; clear hb
  obtain ⟨D, hD⟩ : ∃ D, D = sum64 s := ⟨_, rfl⟩
  obtain ⟨A, hA⟩ : ∃ A, A = secA s := ⟨_, rfl⟩
  obtain ⟨X, hX⟩ : ∃ X, X = D.take 32 := ⟨_, rfl⟩
  obtain ⟨Y, hY⟩ : ∃ Y, Y = D.drop 32 := ⟨_, rfl⟩
  obtain ⟨R, hR⟩ : ∃ R, R = sgR s b := ⟨_, rfl⟩
  obtain ⟨F0, hF⟩ : ∃ F0, F0 = sgF s b := ⟨_, rfl⟩
  obtain ⟨P0, hP⟩ : ∃ P0, P0 = pubB s := ⟨_, rfl⟩
  obtain ⟨K, hK⟩ : ∃ K, K = sgK s b := ⟨_, rfl⟩
  obtain ⟨S0, hS0⟩ : ∃ S0, S0 = sgS s b := ⟨_, rfl⟩
  have lD : D.length = 64 := by rw [hD]; exact sum64_len s
  have lA : A.length = 32 := by rw [hA]; exact secA_len s
  have lX : X.length = 32 := by rw [hX, List.length_take, lD]; rfl
  have lY : Y.length = 32 := by rw [hY, List.length_drop, lD]
  have lR : R.length = 32 := by rw [hR]; exact sgR_len s b
  have lF : F0.length = 32 := by rw [hF]; exact sgF_len s b
  have lP : P0.length = 32 := by rw [hP]; exact pubB_len s
  have lK : K.length = 32 := by rw [hK]; exact sgK_len s b
  have lS : S0.length = 32 := by rw [hS0]; exact sgS_len s b
  have CS : Hid (∀ (v : Value) (u : World), Sl v s u → Tabs u → Calls Tryz.prog 13 #[v] u fun e w' => e = .returned (.agg (D.map b8).toArray) ∧ Below u.heap.size u w') := Lib.hid fun v u h1 h2 => by rw [hD]; exact refsum64_any v s u h1 (by omega) h2
  have CH : Hid (∀ u : World, Calls Tryz.prog 12 #[.agg (D.map b8).toArray] u fun e w' => ∃ v', e = .returned v' ∧ ((∃ v1 v2, v' = .tuple #[v1, v2] ∧ Sl v1 X w' ∧ Sl v2 Y w') ∧ Below u.heap.size u w')) := Lib.hid fun u => by rw [hX, hY]; exact halves_any D u lD
  have CC : Hid (∀ u : World, Calls Tryz.prog 16 #[.agg (X.map b8).toArray] u fun e w' => e = .returned (.agg (A.map b8).toArray) ∧ Below u.heap.size u w') := Lib.hid fun u => by
    have h := rclampB_any X u lX
    rw [hX, hD] at h
    rw [hX, hD, hA]; exact h
  have CN : Hid (∀ (v : Value) (u : World), Sl v (Y ++ b ++ []) u → Tabs u → Calls Tryz.prog 21 #[v] u fun e w' => e = .returned (.agg (R.map b8).toArray) ∧ Below u.heap.size u w') := Lib.hid fun v u h1 h2 => by
    rw [List.append_nil] at h1
    have h := number_any v (Y ++ b) u h1 (by rw [List.length_append]; omega) h2
    rw [hY, hD] at h
    rw [hR]; exact h
  have CF : Hid (∀ u : World, Calls Tryz.prog 15 #[.agg (R.map b8).toArray] u fun e w' => e = .returned (.agg (F0.map b8).toArray) ∧ Below u.heap.size u w') := Lib.hid fun u => by
    have h := stimes9_any R u lR
    rw [hR] at h
    rw [hR, hF]; exact h
  have CP : Hid (∀ u : World, Calls Tryz.prog 15 #[.agg (A.map b8).toArray] u fun e w' => e = .returned (.agg (P0.map b8).toArray) ∧ Below u.heap.size u w') := Lib.hid fun u => by
    have h := stimes9_any A u lA
    rw [hA] at h
    rw [hA, hP]; exact h
  have CK : Hid (∀ (v : Value) (u : World), Sl v (F0 ++ P0 ++ b) u → Tabs u → Calls Tryz.prog 21 #[v] u fun e w' => e = .returned (.agg (K.map b8).toArray) ∧ Below u.heap.size u w') := Lib.hid fun v u h1 h2 => by
    have h := number_any v (F0 ++ P0 ++ b) u h1 (by rw [List.length_append, List.length_append]; omega) h2
    rw [hF, hP] at h
    rw [hK]; exact h
  have CM : Hid (∀ u : World, Calls Tryz.prog 23 #[.agg (K.map b8).toArray, .agg (A.map b8).toArray, .agg (R.map b8).toArray] u fun e w' => e = .returned (.agg (S0.map b8).toArray) ∧ Below u.heap.size u w') := Lib.hid fun u => by
    have h := rmad_any K A R u lK lA lR
    rw [hK, hA, hR] at h
    rw [hK, hA, hR, hS0]; exact h
  have ES : Hid (sigB s b = F0 ++ S0) := Lib.hid (by rw [hF, hS0]; rfl)
  have lG : (sigB s b).length = 64 := sigB_len s b
  clear hD hA hX hY hR hF hP hK hS0
  generalize sigB s b = G0 at *
  obtain ⟨Z, hZ⟩ : ∃ Z : List (BitVec 8), Z = List.replicate 32 0 := ⟨_, rfl⟩
  have lZ : Z.length = 32 := by rw [hZ]; exact List.length_replicate
  have EZ : Hid (z8 64 = (mixB F0 Z 0 ++ mixB S0 Z 0).map b8) := Lib.hid (by rw [mixB_zero, mixB_zero, hZ]; rfl)
  have ED : Hid (mixB F0 Z 32 ++ mixB S0 Z 32 = G0) := Lib.hid (by
    rw [ES.out]; unfold mixB
    rw [List.take_of_length_le (by omega), List.take_of_length_le (by omega), List.drop_of_length_le (by omega), List.append_nil, List.append_nil])
  clear hZ
  have Ss := Lib.hid (szKy hs)
  have SA := Lib.hid (szKy lA)
  have SR := Lib.hid (szKy lR)
  have SF := Lib.hid (szKy lF)
  have SK := Lib.hid (szKy lK)
  have SS := Lib.hid (szKy lS)
  have SG := Lib.hid (szSg lG)
  have LA : Hid ((A.map b8).length = (z8 32).length) := Lib.hid (by rw [z8_32, List.length_map, lA])
  have LR : Hid ((R.map b8).length = (z8 32).length) := Lib.hid (by rw [z8_32, List.length_map, lR])
  have LF : Hid ((F0.map b8).length = (z8 32).length) := Lib.hid (by rw [z8_32, List.length_map, lF])
  have LK : Hid ((K.map b8).length = (z8 32).length) := Lib.hid (by rw [z8_32, List.length_map, lK])
  have LS : Hid ((S0.map b8).length = (z8 32).length) := Lib.hid (by rw [z8_32, List.length_map, lS])
  have LG : Hid ((G0.map b8).length = (z8 64).length) := Lib.hid (by rw [List.length_map, lG]; rfl)
  have hM := Lib.hid (Mv.nil w)
  go_enter Tryz.func8, Tryz.ntmps8
  go_upto_region 0 with fail; refine wp_region_lit ?_
  refine wpList_val (run_boxL8 (vs := s.map b8) rfl rfl) rfl ?_; (try simp only [Act.put, List.setIfInBounds_toArray, List.set_cons_zero, List.set_cons_succ]); replace hM := Lib.hid (hM.out.new (s.map b8) 23); generalize w.alloc (.cells (s.map b8).toArray 23) = a1 at *; generalize w.heap.size = g1 at *
  refine wpList_val (run_alc (vs := z8 64) rfl (by kernel_rfl)) rfl ?_; (try simp only [Act.put, List.setIfInBounds_toArray, List.set_cons_zero, List.set_cons_succ]); replace hM := Lib.hid (hM.out.new (z8 64) 28); generalize a1.alloc (.cells (z8 64).toArray 28) = a2 at *; generalize a1.heap.size = g2 at *
  refine wpList_end ?_
  go_upto_region 1 with fail; refine wp_region_lit ?_
  refine wpList_val (run_ldM (vs := s.map b8) rfl Tryz.underlying23 rfl Ss.out rfl ((hM.out.get (i := 1) rfl).range)) rfl ?_; (try simp only [Act.put, List.setIfInBounds_toArray, List.set_cons_zero, List.set_cons_succ])
  refine wpList_callR (run_call1 enters_rsliceG rfl rfl rfl) rfl (rsliceG_any s _ hs) (fun vk a3 hR => ?_); (try simp only [Act.put, List.setIfInBounds_toArray, List.set_cons_zero, List.set_cons_succ])
  have H1 := Lib.hid hR.sl
  replace hM := Lib.hid (hM.out.below hR.bl)
  clear hR
  refine wpList_enter (run_call1 enters_refsum64 rfl rfl rfl) rfl (CS.out _ _ H1.out (HT.out.below hM.out.bl)) (fun a4 hb => ?_); (try simp only [Act.put, List.setIfInBounds_toArray, List.set_cons_zero, List.set_cons_succ]); replace hM := Lib.hid (hM.out.below hb); clear hb
  clear H1
  refine wpList_callR (run_call1 enters_halves rfl rfl rfl) rfl (CH.out _) (fun vh a5 hR => ?_); (try simp only [Act.put, List.setIfInBounds_toArray, List.set_cons_zero, List.set_cons_succ])
  obtain ⟨⟨v1, v2, rfl, H1, H2⟩, hb⟩ := hR
  replace hM := Lib.hid (hM.out.below hb)
  replace H1 := Lib.hid H1
  replace H2 := Lib.hid H2
  clear hb
  refine wpList_val (run_mv (v := .tuple _) rfl rfl) rfl ?_; (try simp only [Act.put, List.setIfInBounds_toArray, List.set_cons_zero, List.set_cons_succ])
  refine wpList_val (run_xtr (v := v1) rfl rfl rfl) rfl ?_; (try simp only [Act.put, List.setIfInBounds_toArray, List.set_cons_zero, List.set_cons_succ])
  refine wpList_val (run_xtr (v := v2) rfl rfl rfl) rfl ?_; (try simp only [Act.put, List.setIfInBounds_toArray, List.set_cons_zero, List.set_cons_succ])
  refine wpList_val (run_asg (v := v1) rfl rfl) rfl ?_; (try simp only [Act.put, List.setIfInBounds_toArray, List.set_cons_zero, List.set_cons_succ])
  refine wpList_val (run_asg (v := v2) rfl rfl) rfl ?_; (try simp only [Act.put, List.setIfInBounds_toArray, List.set_cons_zero, List.set_cons_succ])
  refine wpList_end ?_
  have hM5 := hM
  replace HT := Lib.hid (HT.out.below hM5.out.bl)
  replace HB := Lib.hid (HB.out.below hM5.out.bl)
  replace hM := Lib.hid (Mv.nil a5)
  go_upto_region 2 with fail; refine wp_region_lit ?_
  refine wpList_val (run_mv (v := v1) rfl rfl) rfl ?_; (try simp only [Act.put, List.setIfInBounds_toArray, List.set_cons_zero, List.set_cons_succ])
  refine wpList_enter (run_call1 enters_rkeyG rfl rfl rfl) rfl (rkeyG_any v1 X _ H1.out lX) (fun a6 hb => ?_); (try simp only [Act.put, List.setIfInBounds_toArray, List.set_cons_zero, List.set_cons_succ]); replace hM := Lib.hid (hM.out.below hb); clear hb
  refine wpList_enter (run_call1 enters_rclampB rfl rfl rfl) rfl (CC.out _) (fun a7 hb => ?_); (try simp only [Act.put, List.setIfInBounds_toArray, List.set_cons_zero, List.set_cons_succ]); replace hM := Lib.hid (hM.out.below hb); clear hb
  refine wpList_val (run_alc (vs := z8 32) rfl (by kernel_rfl)) rfl ?_; (try simp only [Act.put, List.setIfInBounds_toArray, List.set_cons_zero, List.set_cons_succ]); replace hM := Lib.hid (hM.out.new (z8 32) 23); generalize a7.alloc (.cells (z8 32).toArray 23) = a8 at *; generalize a7.heap.size = g3 at *
  refine wpList_skip (run_stM (vs := A.map b8) rfl SA.out rfl rfl (one8s _) (by rw [LA.out]; exact (hM.out.get (i := 0) rfl).there)) rfl rfl ?_; replace hM := Lib.hid (hM.out.put 0 rfl (m := A.map b8) (LA.out))
  refine wpList_end ?_
  generalize a8.setCells g3 0 (A.map b8) = a9 at *
  go_upto_region 3 with fail; refine wp_region_lit ?_
  refine wpList_val (run_mv (v := v2) rfl rfl) rfl ?_; (try simp only [Act.put, List.setIfInBounds_toArray, List.set_cons_zero, List.set_cons_succ])
  refine wpList_val (run_mv (v := vb) rfl rfl) rfl ?_; (try simp only [Act.put, List.setIfInBounds_toArray, List.set_cons_zero, List.set_cons_succ])
  refine wpList_callR (run_call3 enters_three rfl rfl rfl rfl rfl) rfl (three_any v2 Y vb b _ [] _ (H2.out.below hM.out.bl) (HB.out.below hM.out.bl) (sl_nil9 _) (by simp; omega)) (fun v3 b1 hR => ?_); (try simp only [Act.put, List.setIfInBounds_toArray, List.set_cons_zero, List.set_cons_succ])
  obtain ⟨H3, hb⟩ := hR
  replace hM := Lib.hid (hM.out.below hb)
  replace H3 := Lib.hid H3
  clear hb
  refine wpList_enter (run_call1 enters_number rfl rfl rfl) rfl (CN.out _ _ H3.out (HT.out.below hM.out.bl)) (fun b2 hb => ?_); (try simp only [Act.put, List.setIfInBounds_toArray, List.set_cons_zero, List.set_cons_succ]); replace hM := Lib.hid (hM.out.below hb); clear hb
  clear H3
  refine wpList_val (run_alc (vs := z8 32) rfl (by kernel_rfl)) rfl ?_; (try simp only [Act.put, List.setIfInBounds_toArray, List.set_cons_zero, List.set_cons_succ]); replace hM := Lib.hid (hM.out.new (z8 32) 23); generalize b2.alloc (.cells (z8 32).toArray 23) = b3 at *; generalize b2.heap.size = g4 at *
  refine wpList_skip (run_stM (vs := R.map b8) rfl SR.out rfl rfl (one8s _) (by rw [LR.out]; exact (hM.out.get (i := 0) rfl).there)) rfl rfl ?_; replace hM := Lib.hid (hM.out.put 0 rfl (m := R.map b8) (LR.out))
  refine wpList_end ?_
  generalize b3.setCells g4 0 (R.map b8) = b4 at *
  go_upto_region 4 with fail; refine wp_region_lit ?_
  refine wpList_val (run_ldM (vs := R.map b8) rfl Tryz.underlying23 rfl SR.out rfl ((hM.out.get (i := 0) rfl).range)) rfl ?_; (try simp only [Act.put, List.setIfInBounds_toArray, List.set_cons_zero, List.set_cons_succ])
  refine wpList_enter (run_call1 enters_stimes9 rfl rfl rfl) rfl (CF.out _) (fun b5 hb => ?_); (try simp only [Act.put, List.setIfInBounds_toArray, List.set_cons_zero, List.set_cons_succ]); replace hM := Lib.hid (hM.out.below hb); clear hb
  refine wpList_val (run_alc (vs := z8 32) rfl (by kernel_rfl)) rfl ?_; (try simp only [Act.put, List.setIfInBounds_toArray, List.set_cons_zero, List.set_cons_succ]); replace hM := Lib.hid (hM.out.new (z8 32) 23); generalize b5.alloc (.cells (z8 32).toArray 23) = d1 at *; generalize b5.heap.size = g5 at *
  refine wpList_skip (run_stM (vs := F0.map b8) rfl SF.out rfl rfl (one8s _) (by rw [LF.out]; exact (hM.out.get (i := 0) rfl).there)) rfl rfl ?_; replace hM := Lib.hid (hM.out.put 0 rfl (m := F0.map b8) (LF.out))
  refine wpList_end ?_
  generalize d1.setCells g5 0 (F0.map b8) = d2 at *
  go_upto_region 5 with fail
  go_cut [10] (fun s10 u => ∃ g, s10 = .pointer (some ⟨g, 0, none⟩) ∧ Mv a5 [(g, K.map b8), (g5, F0.map b8), (g4, R.map b8), (g3, A.map b8)] u)
  case first =>
    refine wp_region_noPanic ?_; refine wp_region_late (S := fun _ V => Below d2.heap.size d2 V) (by kernel_rfl) ((Below.refl _ _).drew) (fun hS => ?_)
    refine wpAnyL_take 0 rfl rfl (by kernel_rfl) (by kernel_rfl) (by kernel_rfl) (fun _ _ _ h => h) rfl (fun V hV => run_ldM (vs := F0.map b8) rfl Tryz.underlying23 rfl SF.out rfl (((hM.out.below hV).get (i := 0) rfl).range)) hS ?_; (try simp only [Act.put, List.setIfInBounds_toArray, List.set_cons_zero, List.set_cons_succ])
    refine wpAnyL_take 2 rfl rfl (by kernel_rfl) (by kernel_rfl) (by kernel_rfl) (fun _ _ _ h => h) rfl (fun V hV => run_ldM (vs := A.map b8) rfl Tryz.underlying23 rfl SA.out rfl (((hM.out.below hV).get (i := 2) rfl).range)) hS ?_; (try simp only [Act.put, List.setIfInBounds_toArray, List.set_cons_zero, List.set_cons_succ])
    refine wpAnyL_take 5 rfl rfl (by kernel_rfl) (by kernel_rfl) (by kernel_rfl) (fun _ _ _ h => h) rfl (fun V hV => run_mv (v := vb) rfl rfl) hS ?_; (try simp only [Act.put, List.setIfInBounds_toArray, List.set_cons_zero, List.set_cons_succ])
    refine wpAnyL_two 1 8 (by kernel_rfl) ?_ ?_
    · refine wpOp_call 1 rfl rfl rfl (run_call1 enters_rsliceG rfl rfl rfl) (rsliceG_any F0 _ lF) (fun vc2 wc1 hR => ?_); (try simp only [Act.put, List.setIfInBounds_toArray, List.set_cons_zero, List.set_cons_succ])
      have hb := hR.bl
      have H1 := Lib.hid hR.sl
      clear hR
      replace hS := hS.trans (hb.mono hS.size)
      clear hb
      refine ⟨hS, ?_⟩
      refine wpAnyL_two 3 8 (by kernel_rfl) ?_ ?_
      · refine wpOp_call 3 rfl rfl rfl (run_call1 enters_stimes9 rfl rfl rfl) (calls_eq (CP.out _)) (fun vc4 wc3 hR => ?_); (try simp only [Act.put, List.setIfInBounds_toArray, List.set_cons_zero, List.set_cons_succ])
        obtain ⟨rfl, hb⟩ := hR
        replace hS := hS.trans (hb.mono hS.size)
        replace H1 := Lib.hid (H1.out.below hb)
        clear hb
        refine ⟨hS, ?_⟩
        refine wpAnyL_two 4 8 (by kernel_rfl) ?_ ?_
        · refine wpOp_call 4 rfl rfl rfl (run_call1 enters_rsliceG rfl rfl rfl) (rsliceG_any P0 _ lP) (fun vc6 wc5 hR => ?_); (try simp only [Act.put, List.setIfInBounds_toArray, List.set_cons_zero, List.set_cons_succ])
          have hb := hR.bl
          have H2 := Lib.hid hR.sl
          clear hR
          replace hS := hS.trans (hb.mono hS.size)
          replace H1 := Lib.hid (H1.out.below hb)
          clear hb
          refine ⟨hS, ?_⟩
          refine wpAnyL_two 6 8 (by kernel_rfl) ?_ ?_
          · refine wpOp_call 6 rfl rfl rfl (run_call3 enters_three rfl rfl rfl rfl rfl) (three_any _ F0 _ P0 _ b _ H1.out H2.out (HB.out.below (hM.out.below hS).bl) (by omega)) (fun vc8 wc7 hR => ?_); (try simp only [Act.put, List.setIfInBounds_toArray, List.set_cons_zero, List.set_cons_succ])
            obtain ⟨H3, hb⟩ := hR
            replace H3 := Lib.hid H3
            replace hS := hS.trans (hb.mono hS.size)
            replace H1 := Lib.hid (H1.out.below hb)
            replace H2 := Lib.hid (H2.out.below hb)
            clear hb
            refine ⟨hS, ?_⟩
            refine wpAnyL_two 7 8 (by kernel_rfl) ?_ ?_
            · refine wpOp_call 7 rfl rfl rfl (run_call1 enters_number rfl rfl rfl) (calls_eq (CK.out _ _ H3.out (HT.out.below (hM.out.below hS).bl))) (fun vc10 wc9 hR => ?_); (try simp only [Act.put, List.setIfInBounds_toArray, List.set_cons_zero, List.set_cons_succ])
              obtain ⟨rfl, hb⟩ := hR
              replace hS := hS.trans (hb.mono hS.size)
              replace H1 := Lib.hid (H1.out.below hb)
              replace H2 := Lib.hid (H2.out.below hb)
              replace H3 := Lib.hid (H3.out.below hb)
              clear hb
              refine ⟨hS, ?_⟩
              refine wpAnyL_val 8 (by kernel_rfl) rfl rfl rfl (run_alc (vs := z8 32) rfl (by kernel_rfl)) (hS.alloc hS.size _) ?_; (try simp only [Act.put, List.setIfInBounds_toArray, List.set_cons_zero, List.set_cons_succ])
              have hb : Below wc9.heap.size wc9 (wc9.alloc (.cells (z8 32).toArray 23)) := (Below.refl _ _).alloc (Nat.le_refl _) _
              replace H1 := Lib.hid (H1.out.below hb)
              replace H2 := Lib.hid (H2.out.below hb)
              replace H3 := Lib.hid (H3.out.below hb)
              clear hb
              have hg := hS.size
              have A1 := Lib.hid (Arr.new wc9 (z8 32) 23)
              replace hS := hS.alloc hg (.cells (z8 32).toArray 23)
              generalize wc9.alloc (.cells (z8 32).toArray 23) = wa11 at *
              generalize wc9.heap.size = gA at *
              refine wpAnyL_skip 9 (by kernel_rfl) rfl rfl rfl (run_stM (vs := K.map b8) rfl SK.out rfl rfl (one8s _) (by rw [LK.out]; exact A1.out.there)) (below_setCells hg _ _ hS) ?_
              replace hS := below_setCells hg (K.map b8) 0 hS
              replace A1 := Lib.hid (A1.out.put (l' := K.map b8) LK.out)
              generalize wa11.setCells gA 0 (K.map b8) = wz at *
              refine wpAnyL_done (by kernel_rfl) ?_ _; refine NoPanic.normal ?_
              go_wp2_with fail
              go_meet
              exact ⟨gA, rfl, hM.out.add hS hg A1.out⟩
            · refine wpOp_val 8 rfl rfl rfl (run_alc (vs := z8 32) rfl (by kernel_rfl)) ?_; (try simp only [Act.put, List.setIfInBounds_toArray, List.set_cons_zero, List.set_cons_succ])
              have hb : Below wc7.heap.size wc7 (wc7.alloc (.cells (z8 32).toArray 23)) := (Below.refl _ _).alloc (Nat.le_refl _) _
              replace H1 := Lib.hid (H1.out.below hb)
              replace H2 := Lib.hid (H2.out.below hb)
              replace H3 := Lib.hid (H3.out.below hb)
              clear hb
              have hg := hS.size
              have A1 := Lib.hid (Arr.new wc7 (z8 32) 23)
              replace hS := hS.alloc hg (.cells (z8 32).toArray 23)
              generalize wc7.alloc (.cells (z8 32).toArray 23) = wa12 at *
              generalize wc7.heap.size = gA at *
              refine ⟨hS, ?_⟩
              refine wpAnyL_call 7 (by kernel_rfl) rfl rfl rfl (run_call1 enters_number rfl rfl rfl) (calls_eq (CK.out _ _ H3.out (HT.out.below (hM.out.below hS).bl))) (fun v w h => hS.trans ((h.2).mono hS.size)) (fun vc14 wc13 hR => ?_); (try simp only [Act.put, List.setIfInBounds_toArray, List.set_cons_zero, List.set_cons_succ])
              obtain ⟨rfl, hb⟩ := hR
              replace hS := hS.trans (hb.mono hS.size)
              replace A1 := Lib.hid (A1.out.below hb)
              replace H1 := Lib.hid (H1.out.below hb)
              replace H2 := Lib.hid (H2.out.below hb)
              replace H3 := Lib.hid (H3.out.below hb)
              clear hb
              refine wpAnyL_skip 9 (by kernel_rfl) rfl rfl rfl (run_stM (vs := K.map b8) rfl SK.out rfl rfl (one8s _) (by rw [LK.out]; exact A1.out.there)) (below_setCells hg _ _ hS) ?_
              replace hS := below_setCells hg (K.map b8) 0 hS
              replace A1 := Lib.hid (A1.out.put (l' := K.map b8) LK.out)
              generalize wc13.setCells gA 0 (K.map b8) = wz at *
              refine wpAnyL_done (by kernel_rfl) ?_ _; refine NoPanic.normal ?_
              go_wp2_with fail
              go_meet
              exact ⟨gA, rfl, hM.out.add hS hg A1.out⟩
          · refine wpOp_val 8 rfl rfl rfl (run_alc (vs := z8 32) rfl (by kernel_rfl)) ?_; (try simp only [Act.put, List.setIfInBounds_toArray, List.set_cons_zero, List.set_cons_succ])
            have hb : Below wc5.heap.size wc5 (wc5.alloc (.cells (z8 32).toArray 23)) := (Below.refl _ _).alloc (Nat.le_refl _) _
            replace H1 := Lib.hid (H1.out.below hb)
            replace H2 := Lib.hid (H2.out.below hb)
            clear hb
            have hg := hS.size
            have A1 := Lib.hid (Arr.new wc5 (z8 32) 23)
            replace hS := hS.alloc hg (.cells (z8 32).toArray 23)
            generalize wc5.alloc (.cells (z8 32).toArray 23) = wa15 at *
            generalize wc5.heap.size = gA at *
            refine ⟨hS, ?_⟩
            refine wpAnyL_call 6 (by kernel_rfl) rfl rfl rfl (run_call3 enters_three rfl rfl rfl rfl rfl) (three_any _ F0 _ P0 _ b _ H1.out H2.out (HB.out.below (hM.out.below hS).bl) (by omega)) (fun v w h => hS.trans ((h.2).mono hS.size)) (fun vc17 wc16 hR => ?_); (try simp only [Act.put, List.setIfInBounds_toArray, List.set_cons_zero, List.set_cons_succ])
            obtain ⟨H3, hb⟩ := hR
            replace H3 := Lib.hid H3
            replace hS := hS.trans (hb.mono hS.size)
            replace A1 := Lib.hid (A1.out.below hb)
            replace H1 := Lib.hid (H1.out.below hb)
            replace H2 := Lib.hid (H2.out.below hb)
            clear hb
            refine wpAnyL_call 7 (by kernel_rfl) rfl rfl rfl (run_call1 enters_number rfl rfl rfl) (calls_eq (CK.out _ _ H3.out (HT.out.below (hM.out.below hS).bl))) (fun v w h => hS.trans ((h.2).mono hS.size)) (fun vc19 wc18 hR => ?_); (try simp only [Act.put, List.setIfInBounds_toArray, List.set_cons_zero, List.set_cons_succ])
            obtain ⟨rfl, hb⟩ := hR
            replace hS := hS.trans (hb.mono hS.size)
            replace A1 := Lib.hid (A1.out.below hb)
            replace H1 := Lib.hid (H1.out.below hb)
            replace H2 := Lib.hid (H2.out.below hb)
            replace H3 := Lib.hid (H3.out.below hb)
            clear hb
            refine wpAnyL_skip 9 (by kernel_rfl) rfl rfl rfl (run_stM (vs := K.map b8) rfl SK.out rfl rfl (one8s _) (by rw [LK.out]; exact A1.out.there)) (below_setCells hg _ _ hS) ?_
            replace hS := below_setCells hg (K.map b8) 0 hS
            replace A1 := Lib.hid (A1.out.put (l' := K.map b8) LK.out)
            generalize wc18.setCells gA 0 (K.map b8) = wz at *
            refine wpAnyL_done (by kernel_rfl) ?_ _; refine NoPanic.normal ?_
            go_wp2_with fail
            go_meet
            exact ⟨gA, rfl, hM.out.add hS hg A1.out⟩
        · refine wpOp_val 8 rfl rfl rfl (run_alc (vs := z8 32) rfl (by kernel_rfl)) ?_; (try simp only [Act.put, List.setIfInBounds_toArray, List.set_cons_zero, List.set_cons_succ])
          have hb : Below wc3.heap.size wc3 (wc3.alloc (.cells (z8 32).toArray 23)) := (Below.refl _ _).alloc (Nat.le_refl _) _
          replace H1 := Lib.hid (H1.out.below hb)
          clear hb
          have hg := hS.size
          have A1 := Lib.hid (Arr.new wc3 (z8 32) 23)
          replace hS := hS.alloc hg (.cells (z8 32).toArray 23)
          generalize wc3.alloc (.cells (z8 32).toArray 23) = wa20 at *
          generalize wc3.heap.size = gA at *
          refine ⟨hS, ?_⟩
          refine wpAnyL_call 4 (by kernel_rfl) rfl rfl rfl (run_call1 enters_rsliceG rfl rfl rfl) (rsliceG_any P0 _ lP) (fun v w h => hS.trans ((h.bl).mono hS.size)) (fun vc22 wc21 hR => ?_); (try simp only [Act.put, List.setIfInBounds_toArray, List.set_cons_zero, List.set_cons_succ])
          have hb := hR.bl
          have H2 := Lib.hid hR.sl
          clear hR
          replace hS := hS.trans (hb.mono hS.size)
          replace A1 := Lib.hid (A1.out.below hb)
          replace H1 := Lib.hid (H1.out.below hb)
          clear hb
          refine wpAnyL_call 6 (by kernel_rfl) rfl rfl rfl (run_call3 enters_three rfl rfl rfl rfl rfl) (three_any _ F0 _ P0 _ b _ H1.out H2.out (HB.out.below (hM.out.below hS).bl) (by omega)) (fun v w h => hS.trans ((h.2).mono hS.size)) (fun vc24 wc23 hR => ?_); (try simp only [Act.put, List.setIfInBounds_toArray, List.set_cons_zero, List.set_cons_succ])
          obtain ⟨H3, hb⟩ := hR
          replace H3 := Lib.hid H3
          replace hS := hS.trans (hb.mono hS.size)
          replace A1 := Lib.hid (A1.out.below hb)
          replace H1 := Lib.hid (H1.out.below hb)
          replace H2 := Lib.hid (H2.out.below hb)
          clear hb
          refine wpAnyL_call 7 (by kernel_rfl) rfl rfl rfl (run_call1 enters_number rfl rfl rfl) (calls_eq (CK.out _ _ H3.out (HT.out.below (hM.out.below hS).bl))) (fun v w h => hS.trans ((h.2).mono hS.size)) (fun vc26 wc25 hR => ?_); (try simp only [Act.put, List.setIfInBounds_toArray, List.set_cons_zero, List.set_cons_succ])
          obtain ⟨rfl, hb⟩ := hR
          replace hS := hS.trans (hb.mono hS.size)
          replace A1 := Lib.hid (A1.out.below hb)
          replace H1 := Lib.hid (H1.out.below hb)
          replace H2 := Lib.hid (H2.out.below hb)
          replace H3 := Lib.hid (H3.out.below hb)
          clear hb
          refine wpAnyL_skip 9 (by kernel_rfl) rfl rfl rfl (run_stM (vs := K.map b8) rfl SK.out rfl rfl (one8s _) (by rw [LK.out]; exact A1.out.there)) (below_setCells hg _ _ hS) ?_
          replace hS := below_setCells hg (K.map b8) 0 hS
          replace A1 := Lib.hid (A1.out.put (l' := K.map b8) LK.out)
          generalize wc25.setCells gA 0 (K.map b8) = wz at *
          refine wpAnyL_done (by kernel_rfl) ?_ _; refine NoPanic.normal ?_
          go_wp2_with fail
          go_meet
          exact ⟨gA, rfl, hM.out.add hS hg A1.out⟩
      · refine wpOp_val 8 rfl rfl rfl (run_alc (vs := z8 32) rfl (by kernel_rfl)) ?_; (try simp only [Act.put, List.setIfInBounds_toArray, List.set_cons_zero, List.set_cons_succ])
        have hb : Below wc1.heap.size wc1 (wc1.alloc (.cells (z8 32).toArray 23)) := (Below.refl _ _).alloc (Nat.le_refl _) _
        replace H1 := Lib.hid (H1.out.below hb)
        clear hb
        have hg := hS.size
        have A1 := Lib.hid (Arr.new wc1 (z8 32) 23)
        replace hS := hS.alloc hg (.cells (z8 32).toArray 23)
        generalize wc1.alloc (.cells (z8 32).toArray 23) = wa27 at *
        generalize wc1.heap.size = gA at *
        refine ⟨hS, ?_⟩
        refine wpAnyL_call 3 (by kernel_rfl) rfl rfl rfl (run_call1 enters_stimes9 rfl rfl rfl) (calls_eq (CP.out _)) (fun v w h => hS.trans ((h.2).mono hS.size)) (fun vc29 wc28 hR => ?_); (try simp only [Act.put, List.setIfInBounds_toArray, List.set_cons_zero, List.set_cons_succ])
        obtain ⟨rfl, hb⟩ := hR
        replace hS := hS.trans (hb.mono hS.size)
        replace A1 := Lib.hid (A1.out.below hb)
        replace H1 := Lib.hid (H1.out.below hb)
        clear hb
        refine wpAnyL_call 4 (by kernel_rfl) rfl rfl rfl (run_call1 enters_rsliceG rfl rfl rfl) (rsliceG_any P0 _ lP) (fun v w h => hS.trans ((h.bl).mono hS.size)) (fun vc31 wc30 hR => ?_); (try simp only [Act.put, List.setIfInBounds_toArray, List.set_cons_zero, List.set_cons_succ])
        have hb := hR.bl
        have H2 := Lib.hid hR.sl
        clear hR
        replace hS := hS.trans (hb.mono hS.size)
        replace A1 := Lib.hid (A1.out.below hb)
        replace H1 := Lib.hid (H1.out.below hb)
        clear hb
        refine wpAnyL_call 6 (by kernel_rfl) rfl rfl rfl (run_call3 enters_three rfl rfl rfl rfl rfl) (three_any _ F0 _ P0 _ b _ H1.out H2.out (HB.out.below (hM.out.below hS).bl) (by omega)) (fun v w h => hS.trans ((h.2).mono hS.size)) (fun vc33 wc32 hR => ?_); (try simp only [Act.put, List.setIfInBounds_toArray, List.set_cons_zero, List.set_cons_succ])
        obtain ⟨H3, hb⟩ := hR
        replace H3 := Lib.hid H3
        replace hS := hS.trans (hb.mono hS.size)
        replace A1 := Lib.hid (A1.out.below hb)
        replace H1 := Lib.hid (H1.out.below hb)
        replace H2 := Lib.hid (H2.out.below hb)
        clear hb
        refine wpAnyL_call 7 (by kernel_rfl) rfl rfl rfl (run_call1 enters_number rfl rfl rfl) (calls_eq (CK.out _ _ H3.out (HT.out.below (hM.out.below hS).bl))) (fun v w h => hS.trans ((h.2).mono hS.size)) (fun vc35 wc34 hR => ?_); (try simp only [Act.put, List.setIfInBounds_toArray, List.set_cons_zero, List.set_cons_succ])
        obtain ⟨rfl, hb⟩ := hR
        replace hS := hS.trans (hb.mono hS.size)
        replace A1 := Lib.hid (A1.out.below hb)
        replace H1 := Lib.hid (H1.out.below hb)
        replace H2 := Lib.hid (H2.out.below hb)
        replace H3 := Lib.hid (H3.out.below hb)
        clear hb
        refine wpAnyL_skip 9 (by kernel_rfl) rfl rfl rfl (run_stM (vs := K.map b8) rfl SK.out rfl rfl (one8s _) (by rw [LK.out]; exact A1.out.there)) (below_setCells hg _ _ hS) ?_
        replace hS := below_setCells hg (K.map b8) 0 hS
        replace A1 := Lib.hid (A1.out.put (l' := K.map b8) LK.out)
        generalize wc34.setCells gA 0 (K.map b8) = wz at *
        refine wpAnyL_done (by kernel_rfl) ?_ _; refine NoPanic.normal ?_
        go_wp2_with fail
        go_meet
        exact ⟨gA, rfl, hM.out.add hS hg A1.out⟩
    · refine wpOp_val 8 rfl rfl rfl (run_alc (vs := z8 32) rfl (by kernel_rfl)) ?_; (try simp only [Act.put, List.setIfInBounds_toArray, List.set_cons_zero, List.set_cons_succ])
      have hg := hS.size
      have A1 := Lib.hid (Arr.new d2.drew (z8 32) 23)
      replace hS := hS.alloc hg (.cells (z8 32).toArray 23)
      generalize d2.drew.alloc (.cells (z8 32).toArray 23) = wa36 at *
      generalize d2.drew.heap.size = gA at *
      refine ⟨hS, ?_⟩
      refine wpAnyL_call 1 (by kernel_rfl) rfl rfl rfl (run_call1 enters_rsliceG rfl rfl rfl) (rsliceG_any F0 _ lF) (fun v w h => hS.trans ((h.bl).mono hS.size)) (fun vc38 wc37 hR => ?_); (try simp only [Act.put, List.setIfInBounds_toArray, List.set_cons_zero, List.set_cons_succ])
      have hb := hR.bl
      have H1 := Lib.hid hR.sl
      clear hR
      replace hS := hS.trans (hb.mono hS.size)
      replace A1 := Lib.hid (A1.out.below hb)
      clear hb
      refine wpAnyL_call 3 (by kernel_rfl) rfl rfl rfl (run_call1 enters_stimes9 rfl rfl rfl) (calls_eq (CP.out _)) (fun v w h => hS.trans ((h.2).mono hS.size)) (fun vc40 wc39 hR => ?_); (try simp only [Act.put, List.setIfInBounds_toArray, List.set_cons_zero, List.set_cons_succ])
      obtain ⟨rfl, hb⟩ := hR
      replace hS := hS.trans (hb.mono hS.size)
      replace A1 := Lib.hid (A1.out.below hb)
      replace H1 := Lib.hid (H1.out.below hb)
      clear hb
      refine wpAnyL_call 4 (by kernel_rfl) rfl rfl rfl (run_call1 enters_rsliceG rfl rfl rfl) (rsliceG_any P0 _ lP) (fun v w h => hS.trans ((h.bl).mono hS.size)) (fun vc42 wc41 hR => ?_); (try simp only [Act.put, List.setIfInBounds_toArray, List.set_cons_zero, List.set_cons_succ])
      have hb := hR.bl
      have H2 := Lib.hid hR.sl
      clear hR
      replace hS := hS.trans (hb.mono hS.size)
      replace A1 := Lib.hid (A1.out.below hb)
      replace H1 := Lib.hid (H1.out.below hb)
      clear hb
      refine wpAnyL_call 6 (by kernel_rfl) rfl rfl rfl (run_call3 enters_three rfl rfl rfl rfl rfl) (three_any _ F0 _ P0 _ b _ H1.out H2.out (HB.out.below (hM.out.below hS).bl) (by omega)) (fun v w h => hS.trans ((h.2).mono hS.size)) (fun vc44 wc43 hR => ?_); (try simp only [Act.put, List.setIfInBounds_toArray, List.set_cons_zero, List.set_cons_succ])
      obtain ⟨H3, hb⟩ := hR
      replace H3 := Lib.hid H3
      replace hS := hS.trans (hb.mono hS.size)
      replace A1 := Lib.hid (A1.out.below hb)
      replace H1 := Lib.hid (H1.out.below hb)
      replace H2 := Lib.hid (H2.out.below hb)
      clear hb
      refine wpAnyL_call 7 (by kernel_rfl) rfl rfl rfl (run_call1 enters_number rfl rfl rfl) (calls_eq (CK.out _ _ H3.out (HT.out.below (hM.out.below hS).bl))) (fun v w h => hS.trans ((h.2).mono hS.size)) (fun vc46 wc45 hR => ?_); (try simp only [Act.put, List.setIfInBounds_toArray, List.set_cons_zero, List.set_cons_succ])
      obtain ⟨rfl, hb⟩ := hR
      replace hS := hS.trans (hb.mono hS.size)
      replace A1 := Lib.hid (A1.out.below hb)
      replace H1 := Lib.hid (H1.out.below hb)
      replace H2 := Lib.hid (H2.out.below hb)
      replace H3 := Lib.hid (H3.out.below hb)
      clear hb
      refine wpAnyL_skip 9 (by kernel_rfl) rfl rfl rfl (run_stM (vs := K.map b8) rfl SK.out rfl rfl (one8s _) (by rw [LK.out]; exact A1.out.there)) (below_setCells hg _ _ hS) ?_
      replace hS := below_setCells hg (K.map b8) 0 hS
      replace A1 := Lib.hid (A1.out.put (l' := K.map b8) LK.out)
      generalize wc45.setCells gA 0 (K.map b8) = wz at *
      refine wpAnyL_done (by kernel_rfl) ?_ _; refine NoPanic.normal ?_
      go_wp2_with fail
      go_meet
      exact ⟨gA, rfl, hM.out.add hS hg A1.out⟩
  case rest =>
    obtain ⟨g6, rfl, hJ⟩ := hcut
    replace hM := Lib.hid hJ
    clear hJ
    generalize hw7 : wc = d3 at *
    clear hw7
    go_upto_region 6 with fail; refine wp_region_lit ?_
    refine wpList_val (run_ldM (vs := K.map b8) rfl Tryz.underlying23 rfl SK.out rfl ((hM.out.get (i := 0) rfl).range)) rfl ?_; (try simp only [Act.put, List.setIfInBounds_toArray, List.set_cons_zero, List.set_cons_succ])
    refine wpList_val (run_ldM (vs := A.map b8) rfl Tryz.underlying23 rfl SA.out rfl ((hM.out.get (i := 3) rfl).range)) rfl ?_; (try simp only [Act.put, List.setIfInBounds_toArray, List.set_cons_zero, List.set_cons_succ])
    refine wpList_val (run_ldM (vs := R.map b8) rfl Tryz.underlying23 rfl SR.out rfl ((hM.out.get (i := 2) rfl).range)) rfl ?_; (try simp only [Act.put, List.setIfInBounds_toArray, List.set_cons_zero, List.set_cons_succ])
    refine wpList_enter (run_call3 enters_rmad rfl rfl rfl rfl rfl) rfl (CM.out _) (fun d4 hb => ?_); (try simp only [Act.put, List.setIfInBounds_toArray, List.set_cons_zero, List.set_cons_succ]); replace hM := Lib.hid (hM.out.below hb); clear hb
    refine wpList_val (run_alc (vs := z8 32) rfl (by kernel_rfl)) rfl ?_; (try simp only [Act.put, List.setIfInBounds_toArray, List.set_cons_zero, List.set_cons_succ]); replace hM := Lib.hid (hM.out.new (z8 32) 23); generalize d4.alloc (.cells (z8 32).toArray 23) = d5 at *; generalize d4.heap.size = g7 at *
    refine wpList_skip (run_stM (vs := S0.map b8) rfl SS.out rfl rfl (one8s _) (by rw [LS.out]; exact (hM.out.get (i := 0) rfl).there)) rfl rfl ?_; replace hM := Lib.hid (hM.out.put 0 rfl (m := S0.map b8) (LS.out))
    refine wpList_end ?_
    generalize d5.setCells g7 0 (S0.map b8) = d6 at *
    go_upto_region 7 with fail; refine wp_region_lit ?_
    refine wpList_val (run_bldW0 (cells := (z8 64).toArray) rfl (by kernel_rfl)) rfl ?_; (try simp only [Act.put, List.setIfInBounds_toArray, List.set_cons_zero, List.set_cons_succ])
    refine wpList_val (run_alc (vs := z8 64) rfl (by kernel_rfl)) rfl ?_; (try simp only [Act.put, List.setIfInBounds_toArray, List.set_cons_zero, List.set_cons_succ]); replace hM := Lib.hid (hM.out.new (z8 64) 28); generalize d6.alloc (.cells (z8 64).toArray 28) = d7 at *; generalize d6.heap.size = g8 at *
    refine wpList_skip (run_stM (vs := z8 64) rfl szSz rfl rfl (one8s (List.replicate 64 0)) ((hM.out.get (i := 0) rfl).there)) rfl rfl ?_
    replace hM := Lib.hid (hM.out.put 0 rfl (m := z8 64) rfl)
    generalize d7.setCells g8 0 (z8 64) = d8 at *
    refine wpList_end ?_
    rw [EZ.out] at hM
    clear EZ
    go_upto_region 8 with fail; refine wp_region_lit ?_
    (repeat ((first | refine wpList_val (run_mv (v := b32 _) rfl rfl) rfl ?_ | refine wpList_val (run_mv (v := b64 _) rfl rfl) rfl ?_ | refine wpList_val (run_mv (v := b8 _) rfl rfl) rfl ?_ | refine wpList_val (run_mv (v := .int _ _) rfl rfl) rfl ?_ | refine wpList_val (run_mv (v := .bool _) rfl rfl) rfl ?_ | refine wpList_val (run_mv (v := .slice (some _) _ _) rfl rfl) rfl ?_ | refine wpList_val (run_mv (v := .slice _ _ _) rfl rfl) rfl ?_ | refine wpList_val (run_mv (v := .pointer (some _)) rfl rfl) rfl ?_ | refine wpList_val (run_mv (v := .agg _) rfl rfl) rfl ?_ | refine wpList_val (run_asg (v := b32 _) rfl rfl) rfl ?_ | refine wpList_val (run_asg (v := b64 _) rfl rfl) rfl ?_ | refine wpList_val (run_asg (v := b8 _) rfl rfl) rfl ?_ | refine wpList_val (run_asg (v := .int _ _) rfl rfl) rfl ?_ | refine wpList_val (run_asg (v := .bool _) rfl rfl) rfl ?_ | refine wpList_val (run_asg (v := .slice (some _) _ _) rfl rfl) rfl ?_ | refine wpList_val (run_asg (v := .slice _ _ _) rfl rfl) rfl ?_ | refine wpList_val (run_asg (v := .pointer (some _)) rfl rfl) rfl ?_ | refine wpList_val (run_asg (v := .agg _) rfl rfl) rfl ?_ | refine wpList_val (run_mv rfl rfl) rfl ?_ | refine wpList_val (run_asg rfl rfl) rfl ?_ | refine wpList_val (run_xor32 rfl rfl rfl) rfl ?_ | refine wpList_val (run_and32 rfl rfl rfl) rfl ?_ | refine wpList_val (run_or32 rfl rfl rfl) rfl ?_ | refine wpList_val (run_add32 rfl rfl rfl) rfl ?_ | refine wpList_val (run_not32 rfl rfl) rfl ?_ | refine wpList_val (run_xor64 rfl rfl rfl) rfl ?_ | refine wpList_val (run_and64 rfl rfl rfl) rfl ?_ | refine wpList_val (run_or64 rfl rfl rfl) rfl ?_ | refine wpList_val (run_add64 rfl rfl rfl) rfl ?_ | refine wpList_val (run_not64 rfl rfl) rfl ?_ | refine wpList_val (run_xor8 rfl rfl rfl) rfl ?_ | refine wpList_val (run_and8 rfl rfl rfl) rfl ?_ | refine wpList_val (run_or8 rfl rfl rfl) rfl ?_ | refine wpList_val (run_add8 rfl rfl rfl) rfl ?_ | refine wpList_val (run_not8 rfl rfl) rfl ?_ | refine wpList_val (run_cv64_32 rfl rfl) rfl ?_ | refine wpList_val (run_cv8_32 rfl rfl) rfl ?_ | refine wpList_val (run_cv8_64 rfl rfl) rfl ?_ | refine wpList_val (run_cv32_8 rfl rfl) rfl ?_ | refine wpList_val (run_cv64_8 rfl rfl) rfl ?_); (try simp only [Act.put, List.setIfInBounds_toArray, List.set_cons_zero, List.set_cons_succ])))
    refine wpList_end ?_
    go_wp2_with fail
    go_loopw [13] (fun z u => ∃ n : Nat, n ≤ 32 ∧ z = .int .i64 (n : Int) ∧ Mv a5 [(g8, (mixB F0 Z n ++ mixB S0 Z n).map b8), (g7, S0.map b8), (g6, K.map b8), (g5, F0.map b8), (g4, R.map b8), (g3, A.map b8)] u) (fun z _ => (32 - intOf z).toNat)
    case atStart => exact ⟨0, by omega, rfl, hM.out⟩
    case round =>
      obtain ⟨n, hn, rfl, hJ⟩ := hrel
      replace hM := Lib.hid hJ
      clear hJ
      by_cases hlt : n = 32
      · subst hlt
        have hk1 : ¬ (((32 : Nat) : Int) < 32) := by omega
        rw [ED.out] at hM
        go_upto_region 13 with fail; refine wp_region_lit ?_
        refine wpList_val (run_ldM (vs := G0.map b8) rfl Tryz.underlying28 rfl SG.out rfl ((hM.out.get (i := 0) rfl).range)) rfl ?_; (try simp only [Act.put, List.setIfInBounds_toArray, List.set_cons_zero, List.set_cons_succ])
        replace hM := Lib.hid (hM5.out.below hM.out.bl)
        refine wpList_skip (run_stM (vs := G0.map b8) rfl SG.out rfl rfl (one8s _) (by rw [LG.out]; exact (hM.out.get (i := 0) rfl).there)) rfl rfl ?_; replace hM := Lib.hid (hM.out.put 0 rfl (m := G0.map b8) (LG.out))
        refine wpList_end ?_; go_wp2_with fail; refine bodyPost_ret (v := .agg (G0.map b8).toArray) (results_rowB Tryz.results8 rfl Tryz.underlying28 rfl SG.out (hM.out.get (i := 0) rfl).range) rfl ⟨rfl, hM.out.bl⟩
      · have hk1 : (n : Int) < 32 := by omega
        have hn2 : n < 32 := by omega
        have m1 := mixB_len (X := F0) (l := Z) (n := n) (by omega) (by omega)
        have m2 := mixB_len (X := S0) (l := Z) (n := n) (by omega) (by omega)
        rw [lZ] at m1 m2
        have n1 := mixB_set (X := F0) (l := Z) (n := n) (by omega) (by omega)
        have n2 := mixB_set (X := S0) (l := Z) (n := n) (by omega) (by omega)
        have NX := Lib.hid (two_set n1 n2 m1 hn2)
        have hl1 : (mixB F0 Z n ++ mixB S0 Z n).length = 64 := by rw [List.length_append, m1, m2]
        have hl2 : ((mixB F0 Z n ++ mixB S0 Z n).set n (F0.getD n 0)).length = 64 := by rw [List.length_set, hl1]
        have HL1 := Lib.hid (get_map b8 0 (l := mixB F0 Z n ++ mixB S0 Z n) (i := n) (by omega))
        have HL2 := Lib.hid (get_map b8 0 (l := (mixB F0 Z n ++ mixB S0 Z n).set n (F0.getD n 0)) (i := 32 + n) (by omega))
        have HB1 := Lib.hid (get_map b8 0 (l := F0) (i := n) (by omega))
        have HB2 := Lib.hid (get_map b8 0 (l := S0) (i := n) (by omega))
        have FL1 : Hid (n < ((mixB F0 Z n ++ mixB S0 Z n).map b8).length) := Lib.hid (by rw [List.length_map]; omega)
        have FL2 : Hid (32 + n < (((mixB F0 Z n ++ mixB S0 Z n).set n (F0.getD n 0)).map b8).length) := Lib.hid (by rw [List.length_map]; omega)
        clear n1 n2 m1 m2
        generalize hNn : mixB F0 Z (n + 1) ++ mixB S0 Z (n + 1) = FN at *
        have ENn := Lib.hid hNn
        clear hNn
        generalize mixB F0 Z n ++ mixB S0 Z n = Fn at *
        generalize F0.getD n 0 = x at *
        generalize S0.getD n 0 = y at *
        go_upto_region 11 with fail; refine wp_region_lit ?_
        (repeat ((first | refine wpList_val (run_mv (v := b32 _) rfl rfl) rfl ?_ | refine wpList_val (run_mv (v := b64 _) rfl rfl) rfl ?_ | refine wpList_val (run_mv (v := b8 _) rfl rfl) rfl ?_ | refine wpList_val (run_mv (v := .int _ _) rfl rfl) rfl ?_ | refine wpList_val (run_mv (v := .bool _) rfl rfl) rfl ?_ | refine wpList_val (run_mv (v := .slice (some _) _ _) rfl rfl) rfl ?_ | refine wpList_val (run_mv (v := .slice _ _ _) rfl rfl) rfl ?_ | refine wpList_val (run_mv (v := .pointer (some _)) rfl rfl) rfl ?_ | refine wpList_val (run_mv (v := .agg _) rfl rfl) rfl ?_ | refine wpList_val (run_asg (v := b32 _) rfl rfl) rfl ?_ | refine wpList_val (run_asg (v := b64 _) rfl rfl) rfl ?_ | refine wpList_val (run_asg (v := b8 _) rfl rfl) rfl ?_ | refine wpList_val (run_asg (v := .int _ _) rfl rfl) rfl ?_ | refine wpList_val (run_asg (v := .bool _) rfl rfl) rfl ?_ | refine wpList_val (run_asg (v := .slice (some _) _ _) rfl rfl) rfl ?_ | refine wpList_val (run_asg (v := .slice _ _ _) rfl rfl) rfl ?_ | refine wpList_val (run_asg (v := .pointer (some _)) rfl rfl) rfl ?_ | refine wpList_val (run_asg (v := .agg _) rfl rfl) rfl ?_ | refine wpList_val (run_mv rfl rfl) rfl ?_ | refine wpList_val (run_asg rfl rfl) rfl ?_ | refine wpList_val (run_xor32 rfl rfl rfl) rfl ?_ | refine wpList_val (run_and32 rfl rfl rfl) rfl ?_ | refine wpList_val (run_or32 rfl rfl rfl) rfl ?_ | refine wpList_val (run_add32 rfl rfl rfl) rfl ?_ | refine wpList_val (run_not32 rfl rfl) rfl ?_ | refine wpList_val (run_xor64 rfl rfl rfl) rfl ?_ | refine wpList_val (run_and64 rfl rfl rfl) rfl ?_ | refine wpList_val (run_or64 rfl rfl rfl) rfl ?_ | refine wpList_val (run_add64 rfl rfl rfl) rfl ?_ | refine wpList_val (run_not64 rfl rfl) rfl ?_ | refine wpList_val (run_xor8 rfl rfl rfl) rfl ?_ | refine wpList_val (run_and8 rfl rfl rfl) rfl ?_ | refine wpList_val (run_or8 rfl rfl rfl) rfl ?_ | refine wpList_val (run_add8 rfl rfl rfl) rfl ?_ | refine wpList_val (run_not8 rfl rfl) rfl ?_ | refine wpList_val (run_cv64_32 rfl rfl) rfl ?_ | refine wpList_val (run_cv8_32 rfl rfl) rfl ?_ | refine wpList_val (run_cv8_64 rfl rfl) rfl ?_ | refine wpList_val (run_cv32_8 rfl rfl) rfl ?_ | refine wpList_val (run_cv64_8 rfl rfl) rfl ?_); (try simp only [Act.put, List.setIfInBounds_toArray, List.set_cons_zero, List.set_cons_succ])))
        refine wpList_val (run_ix0 (i := n) rfl Tryz.underlying23 (by kernel_rfl) rfl rfl hn2) rfl ?_; (try simp only [Act.put, List.setIfInBounds_toArray, List.set_cons_zero, List.set_cons_succ])
        refine wpList_val (run_ld8 rfl rfl ((hM.out.get (i := 3) rfl).c _ _ HB1.out)) rfl ?_; (try simp only [Act.put, List.setIfInBounds_toArray, List.set_cons_zero, List.set_cons_succ])
        refine wpList_val (run_ix0 (i := n) rfl Tryz.underlying28 (by kernel_rfl) rfl rfl (by omega)) rfl ?_; (try simp only [Act.put, List.setIfInBounds_toArray, List.set_cons_zero, List.set_cons_succ])
        refine wpList_skip (run_st8 rfl rfl rfl ((hM.out.get (i := 0) rfl).c _ _ HL1.out) ((hM.out.get (i := 0) rfl).f _)) rfl rfl ?_
        refine wpList_end ?_
        replace hM := Lib.hid (hM.out.set 0 rfl FL1.out (b8 x))
        rw [set_map] at hM
        generalize wr.setCell ⟨g8, n, none⟩ (b8 x) = e1 at *
        go_upto_region 12 with fail; refine wp_region_lit ?_
        (repeat ((first | refine wpList_val (run_mv (v := b32 _) rfl rfl) rfl ?_ | refine wpList_val (run_mv (v := b64 _) rfl rfl) rfl ?_ | refine wpList_val (run_mv (v := b8 _) rfl rfl) rfl ?_ | refine wpList_val (run_mv (v := .int _ _) rfl rfl) rfl ?_ | refine wpList_val (run_mv (v := .bool _) rfl rfl) rfl ?_ | refine wpList_val (run_mv (v := .slice (some _) _ _) rfl rfl) rfl ?_ | refine wpList_val (run_mv (v := .slice _ _ _) rfl rfl) rfl ?_ | refine wpList_val (run_mv (v := .pointer (some _)) rfl rfl) rfl ?_ | refine wpList_val (run_mv (v := .agg _) rfl rfl) rfl ?_ | refine wpList_val (run_asg (v := b32 _) rfl rfl) rfl ?_ | refine wpList_val (run_asg (v := b64 _) rfl rfl) rfl ?_ | refine wpList_val (run_asg (v := b8 _) rfl rfl) rfl ?_ | refine wpList_val (run_asg (v := .int _ _) rfl rfl) rfl ?_ | refine wpList_val (run_asg (v := .bool _) rfl rfl) rfl ?_ | refine wpList_val (run_asg (v := .slice (some _) _ _) rfl rfl) rfl ?_ | refine wpList_val (run_asg (v := .slice _ _ _) rfl rfl) rfl ?_ | refine wpList_val (run_asg (v := .pointer (some _)) rfl rfl) rfl ?_ | refine wpList_val (run_asg (v := .agg _) rfl rfl) rfl ?_ | refine wpList_val (run_mv rfl rfl) rfl ?_ | refine wpList_val (run_asg rfl rfl) rfl ?_ | refine wpList_val (run_xor32 rfl rfl rfl) rfl ?_ | refine wpList_val (run_and32 rfl rfl rfl) rfl ?_ | refine wpList_val (run_or32 rfl rfl rfl) rfl ?_ | refine wpList_val (run_add32 rfl rfl rfl) rfl ?_ | refine wpList_val (run_not32 rfl rfl) rfl ?_ | refine wpList_val (run_xor64 rfl rfl rfl) rfl ?_ | refine wpList_val (run_and64 rfl rfl rfl) rfl ?_ | refine wpList_val (run_or64 rfl rfl rfl) rfl ?_ | refine wpList_val (run_add64 rfl rfl rfl) rfl ?_ | refine wpList_val (run_not64 rfl rfl) rfl ?_ | refine wpList_val (run_xor8 rfl rfl rfl) rfl ?_ | refine wpList_val (run_and8 rfl rfl rfl) rfl ?_ | refine wpList_val (run_or8 rfl rfl rfl) rfl ?_ | refine wpList_val (run_add8 rfl rfl rfl) rfl ?_ | refine wpList_val (run_not8 rfl rfl) rfl ?_ | refine wpList_val (run_cv64_32 rfl rfl) rfl ?_ | refine wpList_val (run_cv8_32 rfl rfl) rfl ?_ | refine wpList_val (run_cv8_64 rfl rfl) rfl ?_ | refine wpList_val (run_cv32_8 rfl rfl) rfl ?_ | refine wpList_val (run_cv64_8 rfl rfl) rfl ?_); (try simp only [Act.put, List.setIfInBounds_toArray, List.set_cons_zero, List.set_cons_succ])))
        refine wpList_val (run_addN (a := 32) (b := n) rfl rfl rfl (by omega)) rfl ?_; (try simp only [Act.put, List.setIfInBounds_toArray, List.set_cons_zero, List.set_cons_succ])
        (repeat ((first | refine wpList_val (run_mv (v := b32 _) rfl rfl) rfl ?_ | refine wpList_val (run_mv (v := b64 _) rfl rfl) rfl ?_ | refine wpList_val (run_mv (v := b8 _) rfl rfl) rfl ?_ | refine wpList_val (run_mv (v := .int _ _) rfl rfl) rfl ?_ | refine wpList_val (run_mv (v := .bool _) rfl rfl) rfl ?_ | refine wpList_val (run_mv (v := .slice (some _) _ _) rfl rfl) rfl ?_ | refine wpList_val (run_mv (v := .slice _ _ _) rfl rfl) rfl ?_ | refine wpList_val (run_mv (v := .pointer (some _)) rfl rfl) rfl ?_ | refine wpList_val (run_mv (v := .agg _) rfl rfl) rfl ?_ | refine wpList_val (run_asg (v := b32 _) rfl rfl) rfl ?_ | refine wpList_val (run_asg (v := b64 _) rfl rfl) rfl ?_ | refine wpList_val (run_asg (v := b8 _) rfl rfl) rfl ?_ | refine wpList_val (run_asg (v := .int _ _) rfl rfl) rfl ?_ | refine wpList_val (run_asg (v := .bool _) rfl rfl) rfl ?_ | refine wpList_val (run_asg (v := .slice (some _) _ _) rfl rfl) rfl ?_ | refine wpList_val (run_asg (v := .slice _ _ _) rfl rfl) rfl ?_ | refine wpList_val (run_asg (v := .pointer (some _)) rfl rfl) rfl ?_ | refine wpList_val (run_asg (v := .agg _) rfl rfl) rfl ?_ | refine wpList_val (run_mv rfl rfl) rfl ?_ | refine wpList_val (run_asg rfl rfl) rfl ?_ | refine wpList_val (run_xor32 rfl rfl rfl) rfl ?_ | refine wpList_val (run_and32 rfl rfl rfl) rfl ?_ | refine wpList_val (run_or32 rfl rfl rfl) rfl ?_ | refine wpList_val (run_add32 rfl rfl rfl) rfl ?_ | refine wpList_val (run_not32 rfl rfl) rfl ?_ | refine wpList_val (run_xor64 rfl rfl rfl) rfl ?_ | refine wpList_val (run_and64 rfl rfl rfl) rfl ?_ | refine wpList_val (run_or64 rfl rfl rfl) rfl ?_ | refine wpList_val (run_add64 rfl rfl rfl) rfl ?_ | refine wpList_val (run_not64 rfl rfl) rfl ?_ | refine wpList_val (run_xor8 rfl rfl rfl) rfl ?_ | refine wpList_val (run_and8 rfl rfl rfl) rfl ?_ | refine wpList_val (run_or8 rfl rfl rfl) rfl ?_ | refine wpList_val (run_add8 rfl rfl rfl) rfl ?_ | refine wpList_val (run_not8 rfl rfl) rfl ?_ | refine wpList_val (run_cv64_32 rfl rfl) rfl ?_ | refine wpList_val (run_cv8_32 rfl rfl) rfl ?_ | refine wpList_val (run_cv8_64 rfl rfl) rfl ?_ | refine wpList_val (run_cv32_8 rfl rfl) rfl ?_ | refine wpList_val (run_cv64_8 rfl rfl) rfl ?_); (try simp only [Act.put, List.setIfInBounds_toArray, List.set_cons_zero, List.set_cons_succ])))
        refine wpList_val (run_ix0 (i := n) rfl Tryz.underlying23 (by kernel_rfl) rfl rfl hn2) rfl ?_; (try simp only [Act.put, List.setIfInBounds_toArray, List.set_cons_zero, List.set_cons_succ])
        refine wpList_val (run_ld8 rfl rfl ((hM.out.get (i := 1) rfl).c _ _ HB2.out)) rfl ?_; (try simp only [Act.put, List.setIfInBounds_toArray, List.set_cons_zero, List.set_cons_succ])
        refine wpList_val (run_ix0 (i := 32 + n) rfl Tryz.underlying28 (by kernel_rfl) rfl rfl (by omega)) rfl ?_; (try simp only [Act.put, List.setIfInBounds_toArray, List.set_cons_zero, List.set_cons_succ])
        refine wpList_skip (run_st8 rfl rfl rfl ((hM.out.get (i := 0) rfl).c _ _ HL2.out) ((hM.out.get (i := 0) rfl).f _)) rfl rfl ?_
        refine wpList_end ?_
        replace hM := Lib.hid (hM.out.set 0 rfl FL2.out (b8 y))
        rw [set_map, NX.out] at hM
        generalize e1.setCell ⟨g8, 32 + n, none⟩ (b8 y) = e2 at *
        clear HL1 HL2 HB1 HB2 FL1 FL2 NX
        go_wp2_with fail
        exact ⟨⟨n + 1, by omega, by go_num, by rw [ENn.out]; exact hM.out⟩, by simp [intOf]; omega⟩
theorem enters_rsign : Enters 8 := enters_of Tryz.func8 (by kernel_rfl) rfl
end Go.Proofs.YtfdjmdfaidiliaaGreatDoor
namespace Go.Proofs.YtfdjmdfaidiliaaGreatDoor
open Go.RowKit
set_option maxRecDepth 20000

set_option maxHeartbeats 8000000 in
theorem signSigns_any (HP : PubC) (HS : SigC) (HV : VerC) (k : List (BitVec 8)) (vb : Value) (b : List (BitVec 8)) (w : World) (hk : k.length = 32) (hb : Sl vb b w) (hbl : b.length ≤ 140737488351232) (hW : W9 w) :
    Calls Tryz.prog 3 #[.agg (k.map b8).toArray, vb] w fun e w' => e = .returned (.bool true) ∧ Below w.heap.size w w' := by
  have HW := Lib.hid hW; clear hW
  have HB := Lib.hid hb
  obtain ⟨ab, cb, rfl, -, -⟩ := hb
  obtain ⟨P, hP⟩ : ∃ P, P = pubB k := ⟨_, rfl⟩
  obtain ⟨G, hG⟩ : ∃ G, G = sigB k b := ⟨_, rfl⟩
  have lP : P.length = 32 := by rw [hP]; exact pubB_len k
  have lG : G.length = 64 := by rw [hG]; exact sigB_len k b
  have CP : Hid (∀ u : World, W9 u → Calls Tryz.prog 5 #[.agg (k.map b8).toArray] u fun e w' => e = .returned (.agg (P.map b8).toArray) ∧ Below u.heap.size u w') := Lib.hid fun u h0 => by rw [hP]; exact HP k u hk h0
  have CQ : Hid (∀ u : World, W9 u → Calls Tryz.prog 6 #[.agg (k.map b8).toArray] u fun e w' => e = .returned (.agg (P.map b8).toArray) ∧ Below u.heap.size u w') := Lib.hid fun u h0 => by rw [hP]; exact rpublic_any k u hk h0.t
  have CS : Hid (∀ u : World, b.length ≤ 300 → Sl (.slice ab b.length cb) b u → W9 u → Calls Tryz.prog 7 #[.agg (k.map b8).toArray, .slice ab b.length cb] u fun e w' => e = .returned (.agg (G.map b8).toArray) ∧ Below u.heap.size u w') := Lib.hid fun u h0 h1 h2 => by rw [hG]; exact HS k _ b u hk h1 h0 h2
  have CR : Hid (∀ u : World, b.length ≤ 300 → Sl (.slice ab b.length cb) b u → W9 u → Calls Tryz.prog 8 #[.agg (k.map b8).toArray, .slice ab b.length cb] u fun e w' => e = .returned (.agg (G.map b8).toArray) ∧ Below u.heap.size u w') := Lib.hid fun u h0 h1 h2 => by rw [hG]; exact rsign_any k _ b u hk h1 (by omega) h2.t
  clear hP hG
  have SK := Lib.hid (szKy hk)
  have hM := Lib.hid (Mv.nil w)
  go_enter Tryz.func3, Tryz.ntmps3
  go_upto_region 0 with fail; refine wp_region_lit ?_
  refine wpList_val (run_boxL8 (vs := k.map b8) rfl rfl) rfl ?_; (try simp only [Act.put, List.setIfInBounds_toArray, List.set_cons_zero, List.set_cons_succ]); replace hM := Lib.hid (hM.out.new (k.map b8) 23); generalize w.alloc (.cells (k.map b8).toArray 23) = a1 at *; generalize w.heap.size = g1 at *
  refine wpList_val (run_asg (v := .bool false) rfl rfl) rfl ?_; (try simp only [Act.put, List.setIfInBounds_toArray, List.set_cons_zero, List.set_cons_succ])
  refine wpList_end ?_
  go_upto_region 1 with fail; refine wp_region_lit ?_
  (repeat ((first | refine wpList_val (run_mv (v := b32 _) rfl rfl) rfl ?_ | refine wpList_val (run_mv (v := b64 _) rfl rfl) rfl ?_ | refine wpList_val (run_mv (v := b8 _) rfl rfl) rfl ?_ | refine wpList_val (run_mv (v := .int _ _) rfl rfl) rfl ?_ | refine wpList_val (run_mv (v := .bool _) rfl rfl) rfl ?_ | refine wpList_val (run_mv (v := .slice (some _) _ _) rfl rfl) rfl ?_ | refine wpList_val (run_mv (v := .slice _ _ _) rfl rfl) rfl ?_ | refine wpList_val (run_mv (v := .pointer (some _)) rfl rfl) rfl ?_ | refine wpList_val (run_mv (v := .agg _) rfl rfl) rfl ?_ | refine wpList_val (run_asg (v := b32 _) rfl rfl) rfl ?_ | refine wpList_val (run_asg (v := b64 _) rfl rfl) rfl ?_ | refine wpList_val (run_asg (v := b8 _) rfl rfl) rfl ?_ | refine wpList_val (run_asg (v := .int _ _) rfl rfl) rfl ?_ | refine wpList_val (run_asg (v := .bool _) rfl rfl) rfl ?_ | refine wpList_val (run_asg (v := .slice (some _) _ _) rfl rfl) rfl ?_ | refine wpList_val (run_asg (v := .slice _ _ _) rfl rfl) rfl ?_ | refine wpList_val (run_asg (v := .pointer (some _)) rfl rfl) rfl ?_ | refine wpList_val (run_asg (v := .agg _) rfl rfl) rfl ?_ | refine wpList_val (run_mv rfl rfl) rfl ?_ | refine wpList_val (run_asg rfl rfl) rfl ?_ | refine wpList_val (run_xor32 rfl rfl rfl) rfl ?_ | refine wpList_val (run_and32 rfl rfl rfl) rfl ?_ | refine wpList_val (run_or32 rfl rfl rfl) rfl ?_ | refine wpList_val (run_add32 rfl rfl rfl) rfl ?_ | refine wpList_val (run_not32 rfl rfl) rfl ?_ | refine wpList_val (run_xor64 rfl rfl rfl) rfl ?_ | refine wpList_val (run_and64 rfl rfl rfl) rfl ?_ | refine wpList_val (run_or64 rfl rfl rfl) rfl ?_ | refine wpList_val (run_add64 rfl rfl rfl) rfl ?_ | refine wpList_val (run_not64 rfl rfl) rfl ?_ | refine wpList_val (run_xor8 rfl rfl rfl) rfl ?_ | refine wpList_val (run_and8 rfl rfl rfl) rfl ?_ | refine wpList_val (run_or8 rfl rfl rfl) rfl ?_ | refine wpList_val (run_add8 rfl rfl rfl) rfl ?_ | refine wpList_val (run_not8 rfl rfl) rfl ?_ | refine wpList_val (run_cv64_32 rfl rfl) rfl ?_ | refine wpList_val (run_cv8_32 rfl rfl) rfl ?_ | refine wpList_val (run_cv8_64 rfl rfl) rfl ?_ | refine wpList_val (run_cv32_8 rfl rfl) rfl ?_ | refine wpList_val (run_cv64_8 rfl rfl) rfl ?_); (try simp only [Act.put, List.setIfInBounds_toArray, List.set_cons_zero, List.set_cons_succ])))
  refine wpList_val (run_len rfl Tryz.underlying24 rfl) rfl ?_; (try simp only [Act.put, List.setIfInBounds_toArray, List.set_cons_zero, List.set_cons_succ])
  by_cases hlt : 300 < b.length
  · refine wpList_val (run_gtrb (c := true) rfl rfl rfl (decide_eq_true (by omega))) rfl ?_; (try simp only [Act.put, List.setIfInBounds_toArray, List.set_cons_zero, List.set_cons_succ])
    refine wpList_val (run_mv (v := .bool true) rfl rfl) rfl ?_; (try simp only [Act.put, List.setIfInBounds_toArray, List.set_cons_zero, List.set_cons_succ])
    refine wpList_pass rfl ?_; (try simp only [Act.put, List.setIfInBounds_toArray, List.set_cons_zero, List.set_cons_succ])
    refine wpList_pass rfl ?_; (try simp only [Act.put, List.setIfInBounds_toArray, List.set_cons_zero, List.set_cons_succ])
    refine wpList_val (run_pick (b := true) (v := .bool true) rfl rfl rfl) rfl ?_; (try simp only [Act.put, List.setIfInBounds_toArray, List.set_cons_zero, List.set_cons_succ])
    refine wpList_end ?_
    go_upto_region 2 with fail; refine wp_region_lit ?_
    refine wpList_enter (run_call0 enters_known9 rfl rfl) rfl (known9_any HP HV _ (HW.out.below hM.out.bl)) (fun a3 hb3 => ?_); (try simp only [Act.put, List.setIfInBounds_toArray, List.set_cons_zero, List.set_cons_succ])
    refine wpList_val (run_asg (v := .bool true) rfl rfl) rfl ?_; (try simp only [Act.put, List.setIfInBounds_toArray, List.set_cons_zero, List.set_cons_succ])
    refine wpList_end ?_
    replace hM := Lib.hid (hM.out.below hb3)
    go_wp2_with fail
    go_ret
    exact ⟨rfl, hM.out.bl⟩
  · refine wpList_val (run_gtrb (c := false) rfl rfl rfl (decide_eq_false (by omega))) rfl ?_; (try simp only [Act.put, List.setIfInBounds_toArray, List.set_cons_zero, List.set_cons_succ])
    refine wpList_val (run_mv (v := .bool false) rfl rfl) rfl ?_; (try simp only [Act.put, List.setIfInBounds_toArray, List.set_cons_zero, List.set_cons_succ])
    refine wpList_enterG (run_call0 enters_known9 rfl rfl) rfl (known9_any HP HV _ (HW.out.below hM.out.bl)) (fun a3 hb3 => ?_); (try simp only [Act.put, List.setIfInBounds_toArray, List.set_cons_zero, List.set_cons_succ])
    replace hM := Lib.hid (hM.out.below hb3)
    clear hb3
    refine wpList_valG (run_notB rfl rfl) rfl ?_; (try simp only [Act.put, List.setIfInBounds_toArray, List.set_cons_zero, List.set_cons_succ])
    refine wpList_val (run_pick (b := false) (v := .bool false) rfl rfl rfl) rfl ?_; (try simp only [Act.put, List.setIfInBounds_toArray, List.set_cons_zero, List.set_cons_succ])
    refine wpList_end ?_
    go_upto_region 3 with fail
    refine wp_region_noPanic ?_; refine wp_region_late (S := fun _ V => Below a3.heap.size a3 V) (by kernel_rfl) ((Below.refl _ _).drew) (fun hS => ?_)
    refine wpAnyL_take 0 rfl rfl (by kernel_rfl) (by kernel_rfl) (by kernel_rfl) (fun _ _ _ h => h) rfl (fun V hV => run_ldM (vs := k.map b8) rfl Tryz.underlying23 rfl SK.out rfl (((hM.out.below hV).get (i := 0) rfl).range)) hS ?_; (try simp only [Act.put, List.setIfInBounds_toArray, List.set_cons_zero, List.set_cons_succ])
    refine wpAnyL_take 2 rfl rfl (by kernel_rfl) (by kernel_rfl) (by kernel_rfl) (fun _ _ _ h => h) rfl (fun V hV => run_ldM (vs := k.map b8) rfl Tryz.underlying23 rfl SK.out rfl (((hM.out.below hV).get (i := 0) rfl).range)) hS ?_; (try simp only [Act.put, List.setIfInBounds_toArray, List.set_cons_zero, List.set_cons_succ])
    refine wpAnyL_call 1 (by kernel_rfl) rfl rfl rfl (run_call1 enters_spublic rfl rfl rfl) (calls_eq (CP.out _ (HW.out.below (hM.out.below hS).bl))) (fun v w h => hS.trans (h.2.mono hS.size)) (fun v wl1 hR => ?_); (try simp only [Act.put, List.setIfInBounds_toArray, List.set_cons_zero, List.set_cons_succ]); obtain ⟨rfl, hb⟩ := hR; replace hS := hS.trans (hb.mono hS.size); clear hb
    refine wpAnyL_call 3 (by kernel_rfl) rfl rfl rfl (run_call1 enters_rpublic rfl rfl rfl) (calls_eq (CQ.out _ (HW.out.below (hM.out.below hS).bl))) (fun v w h => hS.trans (h.2.mono hS.size)) (fun v wl2 hR => ?_); (try simp only [Act.put, List.setIfInBounds_toArray, List.set_cons_zero, List.set_cons_succ]); obtain ⟨rfl, hb⟩ := hR; replace hS := hS.trans (hb.mono hS.size); clear hb
    refine wpAnyL_take 4 rfl rfl (by kernel_rfl) (by kernel_rfl) (by kernel_rfl) (fun _ _ _ h => h) rfl (fun V hV => run_eqKyB (c := true) lP lP rfl rfl rfl (by simp)) hS ?_; (try simp only [Act.put, List.setIfInBounds_toArray, List.set_cons_zero, List.set_cons_succ])
    refine wpAnyL_take 5 rfl rfl (by kernel_rfl) (by kernel_rfl) (by kernel_rfl) (fun _ _ _ h => h) rfl (fun V hV => run_mv (v := .bool true) rfl rfl) hS ?_; (try simp only [Act.put, List.setIfInBounds_toArray, List.set_cons_zero, List.set_cons_succ])
    refine wpAnyL_take 6 rfl rfl (by kernel_rfl) (by kernel_rfl) (by kernel_rfl) (fun _ _ _ h => h) rfl (fun V hV => run_ldM (vs := k.map b8) rfl Tryz.underlying23 rfl SK.out rfl (((hM.out.below hV).get (i := 0) rfl).range)) hS ?_; (try simp only [Act.put, List.setIfInBounds_toArray, List.set_cons_zero, List.set_cons_succ])
    refine wpAnyL_take 7 rfl rfl (by kernel_rfl) (by kernel_rfl) (by kernel_rfl) (fun _ _ _ h => h) rfl (fun V hV => run_mv (v := .slice ab b.length cb) rfl rfl) hS ?_; (try simp only [Act.put, List.setIfInBounds_toArray, List.set_cons_zero, List.set_cons_succ])
    refine wpAnyL_take 9 rfl rfl (by kernel_rfl) (by kernel_rfl) (by kernel_rfl) (fun _ _ _ h => h) rfl (fun V hV => run_ldM (vs := k.map b8) rfl Tryz.underlying23 rfl SK.out rfl (((hM.out.below hV).get (i := 0) rfl).range)) hS ?_; (try simp only [Act.put, List.setIfInBounds_toArray, List.set_cons_zero, List.set_cons_succ])
    refine wpAnyL_take 10 rfl rfl (by kernel_rfl) (by kernel_rfl) (by kernel_rfl) (fun _ _ _ h => h) rfl (fun V hV => run_mv (v := .slice ab b.length cb) rfl rfl) hS ?_; (try simp only [Act.put, List.setIfInBounds_toArray, List.set_cons_zero, List.set_cons_succ])
    refine wpAnyL_call 8 (by kernel_rfl) rfl rfl rfl (run_call2 enters_ssign rfl rfl rfl rfl) (calls_eq (CS.out _ (by omega) (HB.out.below (hM.out.below hS).bl) (HW.out.below (hM.out.below hS).bl))) (fun v w h => hS.trans (h.2.mono hS.size)) (fun v wl3 hR => ?_); (try simp only [Act.put, List.setIfInBounds_toArray, List.set_cons_zero, List.set_cons_succ]); obtain ⟨rfl, hb⟩ := hR; replace hS := hS.trans (hb.mono hS.size); clear hb
    refine wpAnyL_call 11 (by kernel_rfl) rfl rfl rfl (run_call2 enters_rsign rfl rfl rfl rfl) (calls_eq (CR.out _ (by omega) (HB.out.below (hM.out.below hS).bl) (HW.out.below (hM.out.below hS).bl))) (fun v w h => hS.trans (h.2.mono hS.size)) (fun v wl4 hR => ?_); (try simp only [Act.put, List.setIfInBounds_toArray, List.set_cons_zero, List.set_cons_succ]); obtain ⟨rfl, hb⟩ := hR; replace hS := hS.trans (hb.mono hS.size); clear hb
    refine wpAnyL_take 12 rfl rfl (by kernel_rfl) (by kernel_rfl) (by kernel_rfl) (fun _ _ _ h => h) rfl (fun V hV => run_eqSgB (c := true) lG lG rfl rfl rfl (by simp)) hS ?_; (try simp only [Act.put, List.setIfInBounds_toArray, List.set_cons_zero, List.set_cons_succ])
    refine wpAnyL_take 13 rfl rfl (by kernel_rfl) (by kernel_rfl) (by kernel_rfl) (fun _ _ _ h => h) rfl (fun V hV => run_pick (b := true) (v := .bool true) rfl rfl rfl) hS ?_; (try simp only [Act.put, List.setIfInBounds_toArray, List.set_cons_zero, List.set_cons_succ])
    refine wpAnyL_take 14 rfl rfl (by kernel_rfl) (by kernel_rfl) (by kernel_rfl) (fun _ _ _ h => h) rfl (fun V hV => run_asg (v := .bool true) rfl rfl) hS ?_; (try simp only [Act.put, List.setIfInBounds_toArray, List.set_cons_zero, List.set_cons_succ])
    refine wpAnyL_done (by kernel_rfl) ?_ _; refine NoPanic.normal ?_
    replace hM := Lib.hid (hM.out.below hS)
    go_wp2_with fail
    go_ret
    exact ⟨rfl, hM.out.bl⟩
end Go.Proofs.YtfdjmdfaidiliaaGreatDoor
