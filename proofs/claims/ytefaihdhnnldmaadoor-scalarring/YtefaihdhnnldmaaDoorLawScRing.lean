/- The law ScalarRing, walked. -/
import Derived.Test.YtefaihdhnnldmaaDoorScKnown
namespace Go.Proofs.YtefaihdhnnldmaaDoor
open Go.RowKit
set_option maxRecDepth 20000

def mdK (a b c : List (BitVec 8)) : List (BitVec 8) := sk ((leB a * leB b + leB c) % ell)
theorem mdK_len (a b c : List (BitVec 8)) : (mdK a b c).length = 32 := sk_len _
theorem leB_sk_mod (n : Nat) : leB (sk (n % ell)) = n % ell := by rw [leB_sk, Nat.mod_eq_of_lt (Nat.lt_trans (Nat.mod_lt _ ell_pos) ell_lt)]
theorem leB_mdK (a b c : List (BitVec 8)) : leB (mdK a b c) = (leB a * leB b + leB c) % ell := leB_sk_mod _
theorem leB_none : leB (List.replicate 32 0) = 0 := by decide +kernel
theorem leB_one : leB (kB 1) = 1 := by decide +kernel
theorem mdK_comm (a b c : List (BitVec 8)) : mdK a b c = mdK b a c := by unfold mdK; rw [Nat.mul_comm]
theorem mdK_left {a b c n : List (BitVec 8)} (hn : leB n = 0) : mdK (mdK a b n) c n = mdK a (mdK b c n) n := by
  rw [mdK, mdK.eq_def a (mdK b c n), leB_mdK, leB_mdK, hn, Nat.add_zero, Nat.add_zero, Nat.add_zero, Nat.add_zero, Nat.mod_mul_mod, Nat.mul_mod_mod, Nat.mul_assoc]
theorem mdK_more {a b c n o : List (BitVec 8)} (hn : leB n = 0) (ho : leB o = 1) : mdK a b c = mdK o (mdK a b n) c := by
  rw [mdK, mdK.eq_def o, leB_mdK, hn, ho, Nat.one_mul, Nat.add_zero, Nat.mod_add_mod]
theorem mdK_rest {s n o : List (BitVec 8)} (hn : leB n = 0) (ho : leB o = 1) : mdK o (sk (leB s % ell)) n = sk (leB s % ell) := by
  rw [mdK, hn, ho, leB_sk_mod, Nat.one_mul, Nat.add_zero, Nat.mod_mod]
set_option maxHeartbeats 16000000 in
theorem scalarRing_any (a b c s : List (BitVec 8)) (w : World) (ha : a.length = 32) (hb : b.length = 32) (hc : c.length = 32) (hs : s.length = 64) (hG : SG w) : Calls Tryd.prog 6 #[.agg (a.map b8).toArray, .agg (b.map b8).toArray, .agg (c.map b8).toArray, .agg (s.map b8).toArray] w fun e w' => e = .returned (.bool true) ∧ Below w.heap.size w w' := by
  have HG := Lib.hid hG; clear hG
  obtain ⟨N, hN⟩ : ∃ N : List (BitVec 8), N = List.replicate 32 0 := ⟨_, rfl⟩
  obtain ⟨E, hE⟩ : ∃ E, E = kB 1 := ⟨_, rfl⟩
  obtain ⟨R, hR⟩ : ∃ R, R = sk (leB s % ell) := ⟨_, rfl⟩
  obtain ⟨X, hX⟩ : ∃ X, X = mdK a b N := ⟨_, rfl⟩
  obtain ⟨Y, hY⟩ : ∃ Y, Y = mdK X c N := ⟨_, rfl⟩
  obtain ⟨V, hV⟩ : ∃ V, V = mdK b c N := ⟨_, rfl⟩
  obtain ⟨U, hU⟩ : ∃ U, U = mdK a b c := ⟨_, rfl⟩
  have nN : leB N = 0 := by rw [hN, leB_none]
  have nE : leB E = 1 := by rw [hE, leB_one]
  have lN : N.length = 32 := by rw [hN]; exact List.length_replicate
  have lE : E.length = 32 := by rw [hE]; rfl
  have lR : R.length = 32 := by rw [hR]; exact sk_len _
  have lX : X.length = 32 := by rw [hX]; exact mdK_len _ _ _
  have lY : Y.length = 32 := by rw [hY]; exact mdK_len _ _ _
  have lV : V.length = 32 := by rw [hV]; exact mdK_len _ _ _
  have lU : U.length = 32 := by rw [hU]; exact mdK_len _ _ _
  have e1 : R = mdK E R N := by rw [hR, mdK_rest nN nE]
  have e2 : X = mdK b a N := by rw [hX, mdK_comm]
  have e6 : Y = mdK a V N := by rw [hY, hX, hV, mdK_left nN]
  have e8 : U = mdK E X c := by rw [hU, hX]; exact mdK_more nN nE
  have c1 : decide (leB R < ell) = true := by rw [hR, leB_sk_mod]; exact decide_eq_true (Nat.mod_lt _ ell_pos)
  have c2 : decide (leB X < ell) = true := by rw [hX, leB_mdK]; exact decide_eq_true (Nat.mod_lt _ ell_pos)
  have CR : Hid (∀ u : World, SG u → Calls Tryd.prog 11 #[.agg (s.map b8).toArray] u fun e w' => e = .returned (.agg (R.map b8).toArray) ∧ Below u.heap.size u w') := Lib.hid fun u h => by rw [hR]; exact sreduce_any s u hs h
  have CC1 : Hid (∀ u : World, SG u → Calls Tryd.prog 13 #[.agg (R.map b8).toArray] u fun e w' => e = .returned (.bool true) ∧ Below u.heap.size u w') := Lib.hid fun u h => by rw [← c1]; exact scanon_any R u lR h
  have CC2 : Hid (∀ u : World, SG u → Calls Tryd.prog 13 #[.agg (X.map b8).toArray] u fun e w' => e = .returned (.bool true) ∧ Below u.heap.size u w') := Lib.hid fun u h => by rw [← c2]; exact scanon_any X u lX h
  have M0 : Hid (∀ u : World, SG u → Calls Tryd.prog 8 #[.agg (a.map b8).toArray, .agg (b.map b8).toArray, .agg (N.map b8).toArray] u fun e w' => e = .returned (.agg (X.map b8).toArray) ∧ Below u.heap.size u w') := Lib.hid fun u h => by
    have h := smad_any a b N u ha hb lN h
    have e : X = sk ((leB a * leB b + leB N) % ell) := hX
    rw [← e] at h; exact h
  have M1 : Hid (∀ u : World, SG u → Calls Tryd.prog 8 #[.agg (E.map b8).toArray, .agg (R.map b8).toArray, .agg (N.map b8).toArray] u fun e w' => e = .returned (.agg (R.map b8).toArray) ∧ Below u.heap.size u w') := Lib.hid fun u h => by
    have h := smad_any E R N u lE lR lN h
    have e : R = sk ((leB E * leB R + leB N) % ell) := e1
    rw [← e] at h; exact h
  have M2 : Hid (∀ u : World, SG u → Calls Tryd.prog 8 #[.agg (b.map b8).toArray, .agg (a.map b8).toArray, .agg (N.map b8).toArray] u fun e w' => e = .returned (.agg (X.map b8).toArray) ∧ Below u.heap.size u w') := Lib.hid fun u h => by
    have h := smad_any b a N u hb ha lN h
    have e : X = sk ((leB b * leB a + leB N) % ell) := e2
    rw [← e] at h; exact h
  have M4 : Hid (∀ u : World, SG u → Calls Tryd.prog 8 #[.agg (X.map b8).toArray, .agg (c.map b8).toArray, .agg (N.map b8).toArray] u fun e w' => e = .returned (.agg (Y.map b8).toArray) ∧ Below u.heap.size u w') := Lib.hid fun u h => by
    have h := smad_any X c N u lX hc lN h
    have e : Y = sk ((leB X * leB c + leB N) % ell) := hY
    rw [← e] at h; exact h
  have M5 : Hid (∀ u : World, SG u → Calls Tryd.prog 8 #[.agg (b.map b8).toArray, .agg (c.map b8).toArray, .agg (N.map b8).toArray] u fun e w' => e = .returned (.agg (V.map b8).toArray) ∧ Below u.heap.size u w') := Lib.hid fun u h => by
    have h := smad_any b c N u hb hc lN h
    have e : V = sk ((leB b * leB c + leB N) % ell) := hV
    rw [← e] at h; exact h
  have M6 : Hid (∀ u : World, SG u → Calls Tryd.prog 8 #[.agg (a.map b8).toArray, .agg (V.map b8).toArray, .agg (N.map b8).toArray] u fun e w' => e = .returned (.agg (Y.map b8).toArray) ∧ Below u.heap.size u w') := Lib.hid fun u h => by
    have h := smad_any a V N u ha lV lN h
    have e : Y = sk ((leB a * leB V + leB N) % ell) := e6
    rw [← e] at h; exact h
  have M7 : Hid (∀ u : World, SG u → Calls Tryd.prog 8 #[.agg (a.map b8).toArray, .agg (b.map b8).toArray, .agg (c.map b8).toArray] u fun e w' => e = .returned (.agg (U.map b8).toArray) ∧ Below u.heap.size u w') := Lib.hid fun u h => by
    have h := smad_any a b c u ha hb hc h
    have e : U = sk ((leB a * leB b + leB c) % ell) := hU
    rw [← e] at h; exact h
  have M8 : Hid (∀ u : World, SG u → Calls Tryd.prog 8 #[.agg (E.map b8).toArray, .agg (X.map b8).toArray, .agg (c.map b8).toArray] u fun e w' => e = .returned (.agg (U.map b8).toArray) ∧ Below u.heap.size u w') := Lib.hid fun u h => by
    have h := smad_any E X c u lE lX hc h
    have e : U = sk ((leB E * leB X + leB c) % ell) := e8
    rw [← e] at h; exact h
  have M3 := M0
  have B0 : Hid (Tryd.prog.built 24 [] = some (N.map b8).toArray) := Lib.hid (by rw [hN]; exact built_k0)
  have B1 : Hid (Tryd.prog.built 24 [(0, .int .u8 1)] = some (E.map b8).toArray) := Lib.hid (by rw [hE]; exact built_kB 1)
  clear hN hE hR hX hY hV hU nN nE e1 e2 e6 e8 c1 c2
  have SA := Lib.hid (szKy ha)
  have SB := Lib.hid (szKy hb)
  have SC := Lib.hid (szKy hc)
  have SN := Lib.hid (szKy lN)
  have SE := Lib.hid (szKy lE)
  have SR := Lib.hid (szKy lR)
  have SX := Lib.hid (szKy lX)
  have SS := Lib.hid (szSg hs)
  have LN : Hid ((N.map b8).length = (z8 32).length) := Lib.hid (by rw [z8_32, List.length_map, lN])
  have LE : Hid ((E.map b8).length = (z8 32).length) := Lib.hid (by rw [z8_32, List.length_map, lE])
  have LR : Hid ((R.map b8).length = (z8 32).length) := Lib.hid (by rw [z8_32, List.length_map, lR])
  have LX : Hid ((X.map b8).length = (z8 32).length) := Lib.hid (by rw [z8_32, List.length_map, lX])
  have hM := Lib.hid (Mv.nil w)
  go_enter Tryd.func6, Tryd.ntmps6
  go_upto_region 0 with fail; refine wp_region_lit ?_
  refine wpList_val (run_boxL8 (vs := a.map b8) rfl rfl) rfl ?_; (try simp only [Act.put, List.setIfInBounds_toArray, List.set_cons_zero, List.set_cons_succ]); replace hM := Lib.hid (hM.out.new (a.map b8) 24); generalize w.alloc (.cells (a.map b8).toArray 24) = a1 at *; generalize w.heap.size = g1 at *
  refine wpList_val (run_boxL8 (vs := b.map b8) rfl rfl) rfl ?_; (try simp only [Act.put, List.setIfInBounds_toArray, List.set_cons_zero, List.set_cons_succ]); replace hM := Lib.hid (hM.out.new (b.map b8) 24); generalize a1.alloc (.cells (b.map b8).toArray 24) = a2 at *; generalize a1.heap.size = g2 at *
  refine wpList_val (run_boxL8 (vs := c.map b8) rfl rfl) rfl ?_; (try simp only [Act.put, List.setIfInBounds_toArray, List.set_cons_zero, List.set_cons_succ]); replace hM := Lib.hid (hM.out.new (c.map b8) 24); generalize a2.alloc (.cells (c.map b8).toArray 24) = a3 at *; generalize a2.heap.size = g3 at *
  refine wpList_val (run_boxL8 (vs := s.map b8) rfl rfl) rfl ?_; (try simp only [Act.put, List.setIfInBounds_toArray, List.set_cons_zero, List.set_cons_succ]); replace hM := Lib.hid (hM.out.new (s.map b8) 30); generalize a3.alloc (.cells (s.map b8).toArray 30) = a4 at *; generalize a3.heap.size = g4 at *
  refine wpList_val (run_asg (v := .bool false) rfl rfl) rfl ?_; (try simp only [Act.put, List.setIfInBounds_toArray, List.set_cons_zero, List.set_cons_succ])
  refine wpList_end ?_
  go_upto_region 1 with fail; refine wp_region_lit ?_
  refine wpList_val (run_bldW0 (cells := (N.map b8).toArray) rfl B0.out) rfl ?_; (try simp only [Act.put, List.setIfInBounds_toArray, List.set_cons_zero, List.set_cons_succ])
  refine wpList_val (run_alc (vs := z8 32) rfl (by kernel_rfl)) rfl ?_; (try simp only [Act.put, List.setIfInBounds_toArray, List.set_cons_zero, List.set_cons_succ]); replace hM := Lib.hid (hM.out.new (z8 32) 24); generalize a4.alloc (.cells (z8 32).toArray 24) = a5 at *; generalize a4.heap.size = g5 at *
  refine wpList_skip (run_stM (vs := N.map b8) rfl SN.out rfl rfl (one8s _) (by rw [LN.out]; exact (hM.out.get (i := 0) rfl).there)) rfl rfl ?_; replace hM := Lib.hid (hM.out.put 0 rfl (m := N.map b8) (LN.out))
  refine wpList_end ?_
  generalize a5.setCells g5 0 (N.map b8) = a6 at *
  go_upto_region 2 with fail; refine wp_region_lit ?_
  refine wpList_val (run_bld1 (v := .int .u8 1) rfl rfl B1.out) rfl ?_; (try simp only [Act.put, List.setIfInBounds_toArray, List.set_cons_zero, List.set_cons_succ])
  refine wpList_val (run_alc (vs := z8 32) rfl (by kernel_rfl)) rfl ?_; (try simp only [Act.put, List.setIfInBounds_toArray, List.set_cons_zero, List.set_cons_succ]); replace hM := Lib.hid (hM.out.new (z8 32) 24); generalize a6.alloc (.cells (z8 32).toArray 24) = a7 at *; generalize a6.heap.size = g6 at *
  refine wpList_skip (run_stM (vs := E.map b8) rfl SE.out rfl rfl (one8s _) (by rw [LE.out]; exact (hM.out.get (i := 0) rfl).there)) rfl rfl ?_; replace hM := Lib.hid (hM.out.put 0 rfl (m := E.map b8) (LE.out))
  refine wpList_end ?_
  generalize a7.setCells g6 0 (E.map b8) = a8 at *
  go_upto_region 3 with fail; refine wp_region_lit ?_
  refine wpList_val (run_ldM (vs := s.map b8) rfl Tryd.underlying30 rfl SS.out rfl ((hM.out.get (i := 2) rfl).range)) rfl ?_; (try simp only [Act.put, List.setIfInBounds_toArray, List.set_cons_zero, List.set_cons_succ])
  refine wpList_enter (run_call1 enters_sreduce rfl rfl rfl) rfl (CR.out _ (HG.out.below hM.out.bl)) (fun a9 hb => ?_); (try simp only [Act.put, List.setIfInBounds_toArray, List.set_cons_zero, List.set_cons_succ]); replace hM := Lib.hid (hM.out.below hb); clear hb
  refine wpList_val (run_alc (vs := z8 32) rfl (by kernel_rfl)) rfl ?_; (try simp only [Act.put, List.setIfInBounds_toArray, List.set_cons_zero, List.set_cons_succ]); replace hM := Lib.hid (hM.out.new (z8 32) 24); generalize a9.alloc (.cells (z8 32).toArray 24) = d1 at *; generalize a9.heap.size = g7 at *
  refine wpList_skip (run_stM (vs := R.map b8) rfl SR.out rfl rfl (one8s _) (by rw [LR.out]; exact (hM.out.get (i := 0) rfl).there)) rfl rfl ?_; replace hM := Lib.hid (hM.out.put 0 rfl (m := R.map b8) (LR.out))
  refine wpList_end ?_
  generalize d1.setCells g7 0 (R.map b8) = d2 at *
  go_upto_region 4 with fail; refine wp_region_lit ?_
  refine wpList_val (run_ldM (vs := a.map b8) rfl Tryd.underlying24 rfl SA.out rfl ((hM.out.get (i := 6) rfl).range)) rfl ?_; (try simp only [Act.put, List.setIfInBounds_toArray, List.set_cons_zero, List.set_cons_succ])
  refine wpList_val (run_ldM (vs := b.map b8) rfl Tryd.underlying24 rfl SB.out rfl ((hM.out.get (i := 5) rfl).range)) rfl ?_; (try simp only [Act.put, List.setIfInBounds_toArray, List.set_cons_zero, List.set_cons_succ])
  refine wpList_val (run_ldM (vs := N.map b8) rfl Tryd.underlying24 rfl SN.out rfl ((hM.out.get (i := 2) rfl).range)) rfl ?_; (try simp only [Act.put, List.setIfInBounds_toArray, List.set_cons_zero, List.set_cons_succ])
  refine wpList_enter (run_call3 enters_smad rfl rfl rfl rfl rfl) rfl (M0.out _ (HG.out.below hM.out.bl)) (fun d3 hb => ?_); (try simp only [Act.put, List.setIfInBounds_toArray, List.set_cons_zero, List.set_cons_succ]); replace hM := Lib.hid (hM.out.below hb); clear hb
  refine wpList_val (run_alc (vs := z8 32) rfl (by kernel_rfl)) rfl ?_; (try simp only [Act.put, List.setIfInBounds_toArray, List.set_cons_zero, List.set_cons_succ]); replace hM := Lib.hid (hM.out.new (z8 32) 24); generalize d3.alloc (.cells (z8 32).toArray 24) = d5 at *; generalize d3.heap.size = g8 at *
  refine wpList_skip (run_stM (vs := X.map b8) rfl SX.out rfl rfl (one8s _) (by rw [LX.out]; exact (hM.out.get (i := 0) rfl).there)) rfl rfl ?_; replace hM := Lib.hid (hM.out.put 0 rfl (m := X.map b8) (LX.out))
  refine wpList_end ?_
  generalize d5.setCells g8 0 (X.map b8) = d4 at *
  go_upto_region 5 with fail
  refine wp_region_noPanic ?_; refine wp_region_late (S := fun _ V => Below d4.heap.size d4 V) (by kernel_rfl) ((Below.refl _ _).drew) (fun hS => ?_)
  refine wpAnyL_call 0 (by kernel_rfl) rfl rfl rfl (run_call0 enters_known8 rfl rfl) (calls_eq (known8_any _ (HG.out.below (hM.out.below hS).bl))) (fun v w h => hS.trans (h.2.mono hS.size)) (fun v v1 hR => ?_); (try simp only [Act.put, List.setIfInBounds_toArray, List.set_cons_zero, List.set_cons_succ]); obtain ⟨rfl, hb⟩ := hR; replace hS := hS.trans (hb.mono hS.size); clear hb
  refine wpAnyL_take 1 rfl rfl (by kernel_rfl) (by kernel_rfl) (by kernel_rfl) (fun _ _ _ h => h) rfl (fun V hV => run_mv (v := .bool true) rfl rfl) hS ?_; (try simp only [Act.put, List.setIfInBounds_toArray, List.set_cons_zero, List.set_cons_succ])
  refine wpAnyL_take 2 rfl rfl (by kernel_rfl) (by kernel_rfl) (by kernel_rfl) (fun _ _ _ h => h) rfl (fun V hV => run_ldM (vs := R.map b8) rfl Tryd.underlying24 rfl SR.out rfl (((hM.out.below hV).get (i := 1) rfl).range)) hS ?_; (try simp only [Act.put, List.setIfInBounds_toArray, List.set_cons_zero, List.set_cons_succ])
  refine wpAnyL_call 3 (by kernel_rfl) rfl rfl rfl (run_call1 enters_scanon rfl rfl rfl) (calls_eq (CC1.out _ (HG.out.below (hM.out.below hS).bl))) (fun v w h => hS.trans (h.2.mono hS.size)) (fun v v2 hR => ?_); (try simp only [Act.put, List.setIfInBounds_toArray, List.set_cons_zero, List.set_cons_succ]); obtain ⟨rfl, hb⟩ := hR; replace hS := hS.trans (hb.mono hS.size); clear hb
  refine wpAnyL_take 4 rfl rfl (by kernel_rfl) (by kernel_rfl) (by kernel_rfl) (fun _ _ _ h => h) rfl (fun V hV => run_pick (b := true) (v := .bool true) rfl rfl rfl) hS ?_; (try simp only [Act.put, List.setIfInBounds_toArray, List.set_cons_zero, List.set_cons_succ])
  refine wpAnyL_take 5 rfl rfl (by kernel_rfl) (by kernel_rfl) (by kernel_rfl) (fun _ _ _ h => h) rfl (fun V hV => run_mv (v := .bool true) rfl rfl) hS ?_; (try simp only [Act.put, List.setIfInBounds_toArray, List.set_cons_zero, List.set_cons_succ])
  refine wpAnyL_take 6 rfl rfl (by kernel_rfl) (by kernel_rfl) (by kernel_rfl) (fun _ _ _ h => h) rfl (fun V hV => run_ldM (vs := E.map b8) rfl Tryd.underlying24 rfl SE.out rfl (((hM.out.below hV).get (i := 2) rfl).range)) hS ?_; (try simp only [Act.put, List.setIfInBounds_toArray, List.set_cons_zero, List.set_cons_succ])
  refine wpAnyL_take 7 rfl rfl (by kernel_rfl) (by kernel_rfl) (by kernel_rfl) (fun _ _ _ h => h) rfl (fun V hV => run_ldM (vs := R.map b8) rfl Tryd.underlying24 rfl SR.out rfl (((hM.out.below hV).get (i := 1) rfl).range)) hS ?_; (try simp only [Act.put, List.setIfInBounds_toArray, List.set_cons_zero, List.set_cons_succ])
  refine wpAnyL_take 8 rfl rfl (by kernel_rfl) (by kernel_rfl) (by kernel_rfl) (fun _ _ _ h => h) rfl (fun V hV => run_ldM (vs := N.map b8) rfl Tryd.underlying24 rfl SN.out rfl (((hM.out.below hV).get (i := 3) rfl).range)) hS ?_; (try simp only [Act.put, List.setIfInBounds_toArray, List.set_cons_zero, List.set_cons_succ])
  refine wpAnyL_take 10 rfl rfl (by kernel_rfl) (by kernel_rfl) (by kernel_rfl) (fun _ _ _ h => h) rfl (fun V hV => run_ldM (vs := R.map b8) rfl Tryd.underlying24 rfl SR.out rfl (((hM.out.below hV).get (i := 1) rfl).range)) hS ?_; (try simp only [Act.put, List.setIfInBounds_toArray, List.set_cons_zero, List.set_cons_succ])
  refine wpAnyL_call 9 (by kernel_rfl) rfl rfl rfl (run_call3 enters_smad rfl rfl rfl rfl rfl) (calls_eq (M1.out _ (HG.out.below (hM.out.below hS).bl))) (fun v w h => hS.trans (h.2.mono hS.size)) (fun v v3 hR => ?_); (try simp only [Act.put, List.setIfInBounds_toArray, List.set_cons_zero, List.set_cons_succ]); obtain ⟨rfl, hb⟩ := hR; replace hS := hS.trans (hb.mono hS.size); clear hb
  refine wpAnyL_take 11 rfl rfl (by kernel_rfl) (by kernel_rfl) (by kernel_rfl) (fun _ _ _ h => h) rfl (fun V hV => run_eqKyB (c := true) lR lR rfl rfl rfl (by simp)) hS ?_; (try simp only [Act.put, List.setIfInBounds_toArray, List.set_cons_zero, List.set_cons_succ])
  refine wpAnyL_take 12 rfl rfl (by kernel_rfl) (by kernel_rfl) (by kernel_rfl) (fun _ _ _ h => h) rfl (fun V hV => run_pick (b := true) (v := .bool true) rfl rfl rfl) hS ?_; (try simp only [Act.put, List.setIfInBounds_toArray, List.set_cons_zero, List.set_cons_succ])
  refine wpAnyL_take 13 rfl rfl (by kernel_rfl) (by kernel_rfl) (by kernel_rfl) (fun _ _ _ h => h) rfl (fun V hV => run_mv (v := .bool true) rfl rfl) hS ?_; (try simp only [Act.put, List.setIfInBounds_toArray, List.set_cons_zero, List.set_cons_succ])
  refine wpAnyL_take 14 rfl rfl (by kernel_rfl) (by kernel_rfl) (by kernel_rfl) (fun _ _ _ h => h) rfl (fun V hV => run_ldM (vs := X.map b8) rfl Tryd.underlying24 rfl SX.out rfl (((hM.out.below hV).get (i := 0) rfl).range)) hS ?_; (try simp only [Act.put, List.setIfInBounds_toArray, List.set_cons_zero, List.set_cons_succ])
  refine wpAnyL_take 15 rfl rfl (by kernel_rfl) (by kernel_rfl) (by kernel_rfl) (fun _ _ _ h => h) rfl (fun V hV => run_ldM (vs := b.map b8) rfl Tryd.underlying24 rfl SB.out rfl (((hM.out.below hV).get (i := 6) rfl).range)) hS ?_; (try simp only [Act.put, List.setIfInBounds_toArray, List.set_cons_zero, List.set_cons_succ])
  refine wpAnyL_take 16 rfl rfl (by kernel_rfl) (by kernel_rfl) (by kernel_rfl) (fun _ _ _ h => h) rfl (fun V hV => run_ldM (vs := a.map b8) rfl Tryd.underlying24 rfl SA.out rfl (((hM.out.below hV).get (i := 7) rfl).range)) hS ?_; (try simp only [Act.put, List.setIfInBounds_toArray, List.set_cons_zero, List.set_cons_succ])
  refine wpAnyL_take 17 rfl rfl (by kernel_rfl) (by kernel_rfl) (by kernel_rfl) (fun _ _ _ h => h) rfl (fun V hV => run_ldM (vs := N.map b8) rfl Tryd.underlying24 rfl SN.out rfl (((hM.out.below hV).get (i := 3) rfl).range)) hS ?_; (try simp only [Act.put, List.setIfInBounds_toArray, List.set_cons_zero, List.set_cons_succ])
  refine wpAnyL_call 18 (by kernel_rfl) rfl rfl rfl (run_call3 enters_smad rfl rfl rfl rfl rfl) (calls_eq (M2.out _ (HG.out.below (hM.out.below hS).bl))) (fun v w h => hS.trans (h.2.mono hS.size)) (fun v v4 hR => ?_); (try simp only [Act.put, List.setIfInBounds_toArray, List.set_cons_zero, List.set_cons_succ]); obtain ⟨rfl, hb⟩ := hR; replace hS := hS.trans (hb.mono hS.size); clear hb
  refine wpAnyL_take 19 rfl rfl (by kernel_rfl) (by kernel_rfl) (by kernel_rfl) (fun _ _ _ h => h) rfl (fun V hV => run_eqKyB (c := true) lX lX rfl rfl rfl (by simp)) hS ?_; (try simp only [Act.put, List.setIfInBounds_toArray, List.set_cons_zero, List.set_cons_succ])
  refine wpAnyL_take 20 rfl rfl (by kernel_rfl) (by kernel_rfl) (by kernel_rfl) (fun _ _ _ h => h) rfl (fun V hV => run_pick (b := true) (v := .bool true) rfl rfl rfl) hS ?_; (try simp only [Act.put, List.setIfInBounds_toArray, List.set_cons_zero, List.set_cons_succ])
  refine wpAnyL_take 21 rfl rfl (by kernel_rfl) (by kernel_rfl) (by kernel_rfl) (fun _ _ _ h => h) rfl (fun V hV => run_mv (v := .bool true) rfl rfl) hS ?_; (try simp only [Act.put, List.setIfInBounds_toArray, List.set_cons_zero, List.set_cons_succ])
  refine wpAnyL_take 22 rfl rfl (by kernel_rfl) (by kernel_rfl) (by kernel_rfl) (fun _ _ _ h => h) rfl (fun V hV => run_ldM (vs := a.map b8) rfl Tryd.underlying24 rfl SA.out rfl (((hM.out.below hV).get (i := 7) rfl).range)) hS ?_; (try simp only [Act.put, List.setIfInBounds_toArray, List.set_cons_zero, List.set_cons_succ])
  refine wpAnyL_take 23 rfl rfl (by kernel_rfl) (by kernel_rfl) (by kernel_rfl) (fun _ _ _ h => h) rfl (fun V hV => run_ldM (vs := b.map b8) rfl Tryd.underlying24 rfl SB.out rfl (((hM.out.below hV).get (i := 6) rfl).range)) hS ?_; (try simp only [Act.put, List.setIfInBounds_toArray, List.set_cons_zero, List.set_cons_succ])
  refine wpAnyL_take 24 rfl rfl (by kernel_rfl) (by kernel_rfl) (by kernel_rfl) (fun _ _ _ h => h) rfl (fun V hV => run_ldM (vs := N.map b8) rfl Tryd.underlying24 rfl SN.out rfl (((hM.out.below hV).get (i := 3) rfl).range)) hS ?_; (try simp only [Act.put, List.setIfInBounds_toArray, List.set_cons_zero, List.set_cons_succ])
  refine wpAnyL_take 26 rfl rfl (by kernel_rfl) (by kernel_rfl) (by kernel_rfl) (fun _ _ _ h => h) rfl (fun V hV => run_ldM (vs := c.map b8) rfl Tryd.underlying24 rfl SC.out rfl (((hM.out.below hV).get (i := 5) rfl).range)) hS ?_; (try simp only [Act.put, List.setIfInBounds_toArray, List.set_cons_zero, List.set_cons_succ])
  refine wpAnyL_take 27 rfl rfl (by kernel_rfl) (by kernel_rfl) (by kernel_rfl) (fun _ _ _ h => h) rfl (fun V hV => run_ldM (vs := N.map b8) rfl Tryd.underlying24 rfl SN.out rfl (((hM.out.below hV).get (i := 3) rfl).range)) hS ?_; (try simp only [Act.put, List.setIfInBounds_toArray, List.set_cons_zero, List.set_cons_succ])
  refine wpAnyL_take 29 rfl rfl (by kernel_rfl) (by kernel_rfl) (by kernel_rfl) (fun _ _ _ h => h) rfl (fun V hV => run_ldM (vs := a.map b8) rfl Tryd.underlying24 rfl SA.out rfl (((hM.out.below hV).get (i := 7) rfl).range)) hS ?_; (try simp only [Act.put, List.setIfInBounds_toArray, List.set_cons_zero, List.set_cons_succ])
  refine wpAnyL_take 30 rfl rfl (by kernel_rfl) (by kernel_rfl) (by kernel_rfl) (fun _ _ _ h => h) rfl (fun V hV => run_ldM (vs := b.map b8) rfl Tryd.underlying24 rfl SB.out rfl (((hM.out.below hV).get (i := 6) rfl).range)) hS ?_; (try simp only [Act.put, List.setIfInBounds_toArray, List.set_cons_zero, List.set_cons_succ])
  refine wpAnyL_take 31 rfl rfl (by kernel_rfl) (by kernel_rfl) (by kernel_rfl) (fun _ _ _ h => h) rfl (fun V hV => run_ldM (vs := c.map b8) rfl Tryd.underlying24 rfl SC.out rfl (((hM.out.below hV).get (i := 5) rfl).range)) hS ?_; (try simp only [Act.put, List.setIfInBounds_toArray, List.set_cons_zero, List.set_cons_succ])
  refine wpAnyL_take 32 rfl rfl (by kernel_rfl) (by kernel_rfl) (by kernel_rfl) (fun _ _ _ h => h) rfl (fun V hV => run_ldM (vs := N.map b8) rfl Tryd.underlying24 rfl SN.out rfl (((hM.out.below hV).get (i := 3) rfl).range)) hS ?_; (try simp only [Act.put, List.setIfInBounds_toArray, List.set_cons_zero, List.set_cons_succ])
  refine wpAnyL_take 34 rfl rfl (by kernel_rfl) (by kernel_rfl) (by kernel_rfl) (fun _ _ _ h => h) rfl (fun V hV => run_ldM (vs := N.map b8) rfl Tryd.underlying24 rfl SN.out rfl (((hM.out.below hV).get (i := 3) rfl).range)) hS ?_; (try simp only [Act.put, List.setIfInBounds_toArray, List.set_cons_zero, List.set_cons_succ])
  refine wpAnyL_call 25 (by kernel_rfl) rfl rfl rfl (run_call3 enters_smad rfl rfl rfl rfl rfl) (calls_eq (M3.out _ (HG.out.below (hM.out.below hS).bl))) (fun v w h => hS.trans (h.2.mono hS.size)) (fun v v5 hR => ?_); (try simp only [Act.put, List.setIfInBounds_toArray, List.set_cons_zero, List.set_cons_succ]); obtain ⟨rfl, hb⟩ := hR; replace hS := hS.trans (hb.mono hS.size); clear hb
  refine wpAnyL_call 28 (by kernel_rfl) rfl rfl rfl (run_call3 enters_smad rfl rfl rfl rfl rfl) (calls_eq (M4.out _ (HG.out.below (hM.out.below hS).bl))) (fun v w h => hS.trans (h.2.mono hS.size)) (fun v v6 hR => ?_); (try simp only [Act.put, List.setIfInBounds_toArray, List.set_cons_zero, List.set_cons_succ]); obtain ⟨rfl, hb⟩ := hR; replace hS := hS.trans (hb.mono hS.size); clear hb
  refine wpAnyL_call 33 (by kernel_rfl) rfl rfl rfl (run_call3 enters_smad rfl rfl rfl rfl rfl) (calls_eq (M5.out _ (HG.out.below (hM.out.below hS).bl))) (fun v w h => hS.trans (h.2.mono hS.size)) (fun v v7 hR => ?_); (try simp only [Act.put, List.setIfInBounds_toArray, List.set_cons_zero, List.set_cons_succ]); obtain ⟨rfl, hb⟩ := hR; replace hS := hS.trans (hb.mono hS.size); clear hb
  refine wpAnyL_call 35 (by kernel_rfl) rfl rfl rfl (run_call3 enters_smad rfl rfl rfl rfl rfl) (calls_eq (M6.out _ (HG.out.below (hM.out.below hS).bl))) (fun v w h => hS.trans (h.2.mono hS.size)) (fun v v8 hR => ?_); (try simp only [Act.put, List.setIfInBounds_toArray, List.set_cons_zero, List.set_cons_succ]); obtain ⟨rfl, hb⟩ := hR; replace hS := hS.trans (hb.mono hS.size); clear hb
  refine wpAnyL_take 36 rfl rfl (by kernel_rfl) (by kernel_rfl) (by kernel_rfl) (fun _ _ _ h => h) rfl (fun V hV => run_eqKyB (c := true) lY lY rfl rfl rfl (by simp)) hS ?_; (try simp only [Act.put, List.setIfInBounds_toArray, List.set_cons_zero, List.set_cons_succ])
  refine wpAnyL_take 37 rfl rfl (by kernel_rfl) (by kernel_rfl) (by kernel_rfl) (fun _ _ _ h => h) rfl (fun V hV => run_pick (b := true) (v := .bool true) rfl rfl rfl) hS ?_; (try simp only [Act.put, List.setIfInBounds_toArray, List.set_cons_zero, List.set_cons_succ])
  refine wpAnyL_take 38 rfl rfl (by kernel_rfl) (by kernel_rfl) (by kernel_rfl) (fun _ _ _ h => h) rfl (fun V hV => run_mv (v := .bool true) rfl rfl) hS ?_; (try simp only [Act.put, List.setIfInBounds_toArray, List.set_cons_zero, List.set_cons_succ])
  refine wpAnyL_take 39 rfl rfl (by kernel_rfl) (by kernel_rfl) (by kernel_rfl) (fun _ _ _ h => h) rfl (fun V hV => run_ldM (vs := a.map b8) rfl Tryd.underlying24 rfl SA.out rfl (((hM.out.below hV).get (i := 7) rfl).range)) hS ?_; (try simp only [Act.put, List.setIfInBounds_toArray, List.set_cons_zero, List.set_cons_succ])
  refine wpAnyL_take 40 rfl rfl (by kernel_rfl) (by kernel_rfl) (by kernel_rfl) (fun _ _ _ h => h) rfl (fun V hV => run_ldM (vs := b.map b8) rfl Tryd.underlying24 rfl SB.out rfl (((hM.out.below hV).get (i := 6) rfl).range)) hS ?_; (try simp only [Act.put, List.setIfInBounds_toArray, List.set_cons_zero, List.set_cons_succ])
  refine wpAnyL_take 41 rfl rfl (by kernel_rfl) (by kernel_rfl) (by kernel_rfl) (fun _ _ _ h => h) rfl (fun V hV => run_ldM (vs := c.map b8) rfl Tryd.underlying24 rfl SC.out rfl (((hM.out.below hV).get (i := 5) rfl).range)) hS ?_; (try simp only [Act.put, List.setIfInBounds_toArray, List.set_cons_zero, List.set_cons_succ])
  refine wpAnyL_take 43 rfl rfl (by kernel_rfl) (by kernel_rfl) (by kernel_rfl) (fun _ _ _ h => h) rfl (fun V hV => run_ldM (vs := E.map b8) rfl Tryd.underlying24 rfl SE.out rfl (((hM.out.below hV).get (i := 2) rfl).range)) hS ?_; (try simp only [Act.put, List.setIfInBounds_toArray, List.set_cons_zero, List.set_cons_succ])
  refine wpAnyL_take 44 rfl rfl (by kernel_rfl) (by kernel_rfl) (by kernel_rfl) (fun _ _ _ h => h) rfl (fun V hV => run_ldM (vs := X.map b8) rfl Tryd.underlying24 rfl SX.out rfl (((hM.out.below hV).get (i := 0) rfl).range)) hS ?_; (try simp only [Act.put, List.setIfInBounds_toArray, List.set_cons_zero, List.set_cons_succ])
  refine wpAnyL_take 45 rfl rfl (by kernel_rfl) (by kernel_rfl) (by kernel_rfl) (fun _ _ _ h => h) rfl (fun V hV => run_ldM (vs := c.map b8) rfl Tryd.underlying24 rfl SC.out rfl (((hM.out.below hV).get (i := 5) rfl).range)) hS ?_; (try simp only [Act.put, List.setIfInBounds_toArray, List.set_cons_zero, List.set_cons_succ])
  refine wpAnyL_call 42 (by kernel_rfl) rfl rfl rfl (run_call3 enters_smad rfl rfl rfl rfl rfl) (calls_eq (M7.out _ (HG.out.below (hM.out.below hS).bl))) (fun v w h => hS.trans (h.2.mono hS.size)) (fun v v9 hR => ?_); (try simp only [Act.put, List.setIfInBounds_toArray, List.set_cons_zero, List.set_cons_succ]); obtain ⟨rfl, hb⟩ := hR; replace hS := hS.trans (hb.mono hS.size); clear hb
  refine wpAnyL_call 46 (by kernel_rfl) rfl rfl rfl (run_call3 enters_smad rfl rfl rfl rfl rfl) (calls_eq (M8.out _ (HG.out.below (hM.out.below hS).bl))) (fun v w h => hS.trans (h.2.mono hS.size)) (fun v v10 hR => ?_); (try simp only [Act.put, List.setIfInBounds_toArray, List.set_cons_zero, List.set_cons_succ]); obtain ⟨rfl, hb⟩ := hR; replace hS := hS.trans (hb.mono hS.size); clear hb
  refine wpAnyL_take 47 rfl rfl (by kernel_rfl) (by kernel_rfl) (by kernel_rfl) (fun _ _ _ h => h) rfl (fun V hV => run_eqKyB (c := true) lU lU rfl rfl rfl (by simp)) hS ?_; (try simp only [Act.put, List.setIfInBounds_toArray, List.set_cons_zero, List.set_cons_succ])
  refine wpAnyL_take 48 rfl rfl (by kernel_rfl) (by kernel_rfl) (by kernel_rfl) (fun _ _ _ h => h) rfl (fun V hV => run_pick (b := true) (v := .bool true) rfl rfl rfl) hS ?_; (try simp only [Act.put, List.setIfInBounds_toArray, List.set_cons_zero, List.set_cons_succ])
  refine wpAnyL_take 49 rfl rfl (by kernel_rfl) (by kernel_rfl) (by kernel_rfl) (fun _ _ _ h => h) rfl (fun V hV => run_mv (v := .bool true) rfl rfl) hS ?_; (try simp only [Act.put, List.setIfInBounds_toArray, List.set_cons_zero, List.set_cons_succ])
  refine wpAnyL_take 50 rfl rfl (by kernel_rfl) (by kernel_rfl) (by kernel_rfl) (fun _ _ _ h => h) rfl (fun V hV => run_ldM (vs := X.map b8) rfl Tryd.underlying24 rfl SX.out rfl (((hM.out.below hV).get (i := 0) rfl).range)) hS ?_; (try simp only [Act.put, List.setIfInBounds_toArray, List.set_cons_zero, List.set_cons_succ])
  refine wpAnyL_call 51 (by kernel_rfl) rfl rfl rfl (run_call1 enters_scanon rfl rfl rfl) (calls_eq (CC2.out _ (HG.out.below (hM.out.below hS).bl))) (fun v w h => hS.trans (h.2.mono hS.size)) (fun v v11 hR => ?_); (try simp only [Act.put, List.setIfInBounds_toArray, List.set_cons_zero, List.set_cons_succ]); obtain ⟨rfl, hb⟩ := hR; replace hS := hS.trans (hb.mono hS.size); clear hb
  refine wpAnyL_take 52 rfl rfl (by kernel_rfl) (by kernel_rfl) (by kernel_rfl) (fun _ _ _ h => h) rfl (fun V hV => run_pick (b := true) (v := .bool true) rfl rfl rfl) hS ?_; (try simp only [Act.put, List.setIfInBounds_toArray, List.set_cons_zero, List.set_cons_succ])
  refine wpAnyL_take 53 rfl rfl (by kernel_rfl) (by kernel_rfl) (by kernel_rfl) (fun _ _ _ h => h) rfl (fun V hV => run_asg (v := .bool true) rfl rfl) hS ?_; (try simp only [Act.put, List.setIfInBounds_toArray, List.set_cons_zero, List.set_cons_succ])
  refine wpAnyL_done (by kernel_rfl) ?_ _; refine NoPanic.normal ?_
  replace hM := Lib.hid (hM.out.below hS)
  go_wp2_with fail
  go_ret
  exact ⟨rfl, hM.out.bl⟩
end Go.Proofs.YtefaihdhnnldmaaDoor
