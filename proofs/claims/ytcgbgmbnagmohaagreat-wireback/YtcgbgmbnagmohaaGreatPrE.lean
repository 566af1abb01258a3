import Derived.Test.YtcgbgmbnagmohaaGreatLy
import Derived.Test.YtcgbgmbnagmohaaGreatPrC
import Derived.Test.YtcgbgmbnagmohaaGreatPr4
namespace Go.Proofs.YtcgbgmbnagmohaaGreat
open Go.RowKit
set_option maxRecDepth 20000
attribute [local irreducible] wpList
set_option maxHeartbeats 400000 in
theorem caEv_short (g : Nat) (x : Value) (w : World) (hc : w.cell? ⟨g, 0, none⟩ = some x) (hz : w.frozen? ⟨g, 0, none⟩ = false) :
    CallsD Tryz.prog 113 #[.pointer (some ⟨g, 0, none⟩)] (.panicking [{ v := .iface 197 (.agg #[]), recovered := false }]) w fun e u' w' =>
      e = .returned (.tuple #[]) ∧ u' = .panicking [{ v := .iface 197 (.agg #[]), recovered := true }] ∧ w' = w.setCell ⟨g, 0, none⟩ (.int .u16 10) := by
  refine callsD_of_wpS Tryz.func113 rfl fun c₀ cs hu => ?_
  apply wpS_seq
  apply wpS_region
  simp [wpOpsS, go_sem, recoverD, hu, Tryz.ntmps113, Exit.thenS]
  refine wpS_of_wp ?_
  have ht := ta_short
  go_wp2
  simp [bodyPostS, results, Tryz.results113, go_sem]
set_option maxHeartbeats 400000 in
theorem caEv_form (g : Nat) (x : Value) (w : World) (hc : w.cell? ⟨g, 0, none⟩ = some x) (hz : w.frozen? ⟨g, 0, none⟩ = false) :
    CallsD Tryz.prog 113 #[.pointer (some ⟨g, 0, none⟩)] (.panicking [{ v := .iface 200 (.agg #[]), recovered := false }]) w fun e u' w' =>
      e = .returned (.tuple #[]) ∧ u' = .panicking [{ v := .iface 200 (.agg #[]), recovered := true }] ∧ w' = w.setCell ⟨g, 0, none⟩ (.int .u16 11) := by
  refine callsD_of_wpS Tryz.func113 rfl fun c₀ cs hu => ?_
  apply wpS_seq
  apply wpS_region
  simp [wpOpsS, go_sem, recoverD, hu, Tryz.ntmps113, Exit.thenS]
  refine wpS_of_wp ?_
  have ht := ta_form
  go_wp2
  simp [bodyPostS, results, Tryz.results113, go_sem]
set_option maxHeartbeats 400000 in
theorem caEv_idle (g : Nat) (w : World) : CallsD Tryz.prog 113 #[.pointer (some ⟨g, 0, none⟩)] .returning w fun e u' w' => e = .returned (.tuple #[]) ∧ u' = .returning ∧ w' = w := by
  refine callsD_of_wpS Tryz.func113 rfl fun c₀ cs hu => ?_
  apply wpS_seq
  apply wpS_region
  simp [wpOpsS, go_sem, recoverD, hu, Tryz.ntmps113, Exit.thenS]
  refine wpS_of_wp ?_
  go_wp2
  cases c₀
  simp_all [bodyPostS, results, Tryz.results113, go_sem]
theorem caEv_pan (g : Nat) (x : Value) (e : Int) (w : World) (hc : w.cell? ⟨g, 0, none⟩ = some x) (hz : w.frozen? ⟨g, 0, none⟩ = false) : CallsD Tryz.prog 113 #[.pointer (some ⟨g, 0, none⟩)] (.panicking [pan e]) w fun en u' w' => en = .returned (.tuple #[]) ∧ u' = .panicking [panR e] ∧ w' = w.setCell ⟨g, 0, none⟩ (.int .u16 (errOf e)) := by
  by_cases h : e = 10
  · have h1 : pan e = { v := .iface 197 (.agg #[]), recovered := false } := by unfold pan; rw [if_pos h]
    have h2 : panR e = { v := .iface 197 (.agg #[]), recovered := true } := by unfold panR; rw [h1]
    rw [h1, h2, show errOf e = 10 by unfold errOf; rw [if_pos h]]
    exact caEv_short g x w hc hz
  · have h1 : pan e = { v := .iface 200 (.agg #[]), recovered := false } := by unfold pan; rw [if_neg h]
    have h2 : panR e = { v := .iface 200 (.agg #[]), recovered := true } := by unfold panR; rw [h1]
    rw [h1, h2, show errOf e = 11 by unfold errOf; rw [if_neg h]]
    exact caEv_form g x w hc hz
theorem enters_rxEv : Enters 61 := qan Tryz.func61 (by kernel_rfl) rfl
theorem enters_ryEv : Enters 21 := qan Tryz.func21 (by kernel_rfl) rfl
set_option maxHeartbeats 8000000 in
theorem rxEv_any (a0 : Option Addr) (b : List (BitVec 8)) (c0 : Nat) (x : MEv) (err : Int) (H : rdEv b = (x, err)) (w : World) (hb : Sl (.slice a0 b.length c0) b w) : Calls Tryz.prog 61 #[.slice a0 b.length c0, .func (.func 62) #[] #[]] w fun r w' => ∃ v', r = .returned v' ∧ ((∃ X : List Value, v' = .tuple #[.agg X.toArray, .int .u16 err] ∧ X.length = 72 ∧ One X ∧ Fro w.heap.size (evAt x X) w') ∧ Below w.heap.size w w') := by
  rcases HM : evM b (0, 0) with ⟨⟨q, e⟩, y⟩
  have hok : ok3 e := by have h := evM_ok (b := b) (s := (0, 0)) (.inl rfl); rw [HM] at h; exact h
  have HX3 : Hid (60000 < b.length → x = zEv ∧ err = 3) := Lib.hid fun h => by
    have hz : evM ([] : List (BitVec 8)) (0, 3) = evM ([] : List (BitVec 8)) (0, 3) := rfl
    have hs : (evM ([] : List (BitVec 8)) (0, 3)).1 = (0, 3) := evM_stay (show (3 : Int) ≠ 0 by decide)
    simp only [rdEv, rdEvA, qb0, if_pos h] at H
    rw [hs] at H
    simp only [endM, if_neg (fun h : (3 : Int) = 0 ∧ (0 : Nat) < ([] : List (BitVec 8)).length => absurd h.1 (by decide)), if_neg (show ¬ (3 : Int) = 0 by decide), Prod.mk.injEq] at H
    exact ⟨H.1.symm, H.2.symm⟩
  have HX : Hid (¬ 60000 < b.length → if endM b.length q e = 0 then x = y ∧ err = 0 else x = zEv ∧ err = endM b.length q e) := Lib.hid fun h => by
    simp only [rdEv, rdEvA, qb0, if_neg h, HM] at H
    by_cases h2 : endM b.length q e = 0
    · rw [if_pos h2] at H ⊢; simp only [Prod.mk.injEq] at H; exact ⟨H.1.symm, H.2.symm⟩
    · rw [if_neg h2] at H ⊢; simp only [Prod.mk.injEq] at H; exact ⟨H.1.symm, H.2.symm⟩
  have HH := Lib.hid HM
  have HS := Lib.hid hb
  clear H HM hb
  have E := Lib.hid (Ev.start (w := w) (F := fun _ => True) fun _ _ => trivial)
  generalize hlen : b.length = m at *
  have HLN := Lib.hid hlen
  clear hlen
  go_enter_defers Tryz.func61, Tryz.ntmps61
  go_upto_region 0 with fail; refine wp_region_lit ?_
  refine qaa (qa3 (vs := (evR ((.int .i64 0)) ((.int .i64 0)) ((.bool false)) (z8 32) ((.int .i64 0)) ((.int .i64 0)) (hdR (z8 32) ((.int .i64 0)) ((.int .i64 0))) ((.slice none 0 0)))) rfl (by kernel_rfl)) rfl ?_; (try simp only [Act.put, lyy])
  replace E := Lib.hid (E.out.new ((evR ((.int .i64 0)) ((.int .i64 0)) ((.bool false)) (z8 32) ((.int .i64 0)) ((.int .i64 0)) (hdR (z8 32) ((.int .i64 0)) ((.int .i64 0))) ((.slice none 0 0)))) 38)
  generalize hw0 : w.alloc (.cells ((evR ((.int .i64 0)) ((.int .i64 0)) ((.bool false)) (z8 32) ((.int .i64 0)) ((.int .i64 0)) (hdR (z8 32) ((.int .i64 0)) ((.int .i64 0))) ((.slice none 0 0))) : List Value).toArray 38) = a1 at E ⊢
  clear hw0
  obtain ⟨g1, hg0⟩ : ∃ k, k = w.heap.size := ⟨_, rfl⟩
  rw [← hg0] at E ⊢
  clear hg0
  refine qaa (run_alc1 (v := .int .u16 0) rfl (by kernel_rfl) rfl) rfl ?_; (try simp only [Act.put, lyy])
  replace E := Lib.hid (E.out.new ([.int .u16 0]) 49)
  generalize a1.alloc (.cells ([.int .u16 0] : List Value).toArray 49) = a2 at *
  generalize a1.heap.size = g2 at *
  refine qab ?_
  go_upto_region 1 with fail; refine wp_region_lit ?_
  refine qaa (qad (v := .slice a0 m c0) rfl rfl) rfl ?_; (try simp only [Act.put, lyy])
  refine qaa (qa4 rfl Tryz.underlying22 rfl) rfl ?_; (try simp only [Act.put, lyy])
  by_cases hlong : 60000 < m
  · refine qaa (qbi (c := true) rfl rfl rfl (decide_eq_true (by omega))) rfl ?_; (try simp only [Act.put, lyy])
    refine qab ?_
    go_upto_region 2 with fail; refine wp_region_lit ?_
    refine qaa (qat (vs := (evR ((.int .i64 0)) ((.int .i64 0)) ((.bool false)) (z8 32) ((.int .i64 0)) ((.int .i64 0)) (hdR (z8 32) ((.int .i64 0)) ((.int .i64 0))) ((.slice none 0 0)))) rfl Tryz.underlying38 rfl (szR (qbk (qac 32) (qa9 (qac 32))) (by kernel_rfl)) rfl (E.out.get (i := 1) rfl).range) rfl ?_; (try simp only [Act.put, lyy])
    refine qal (qa0 (vs := (evR ((.int .i64 0)) ((.int .i64 0)) ((.bool false)) (z8 32) ((.int .i64 0)) ((.int .i64 0)) (hdR (z8 32) ((.int .i64 0)) ((.int .i64 0))) ((.slice none 0 0)))) rfl (szR (qbk (qac 32) (qa9 (qac 32))) (by kernel_rfl)) rfl rfl (One.all (evR_one rfl rfl rfl (One.b8 _) rfl rfl (hdR_one (One.b8 _) rfl rfl) rfl)) ((E.out.get (i := 1) rfl).thereM (by have q1 : ((evR ((.int .i64 0)) ((.int .i64 0)) ((.bool false)) (z8 32) ((.int .i64 0)) ((.int .i64 0)) (hdR (z8 32) ((.int .i64 0)) ((.int .i64 0))) ((.slice none 0 0))) : List Value).length = 72 := (qbk (qac 32) (qa9 (qac 32))); omega))) rfl rfl ?_
    replace E := Lib.hid (E.out.put 1 rfl (m := (evR ((.int .i64 0)) ((.int .i64 0)) ((.bool false)) (z8 32) ((.int .i64 0)) ((.int .i64 0)) (hdR (z8 32) ((.int .i64 0)) ((.int .i64 0))) ((.slice none 0 0)))) rfl)
    generalize a2.setCells g1 0 ((evR ((.int .i64 0)) ((.int .i64 0)) ((.bool false)) (z8 32) ((.int .i64 0)) ((.int .i64 0)) (hdR (z8 32) ((.int .i64 0)) ((.int .i64 0))) ((.slice none 0 0)))) = a3 at *
    refine qal (qb5 (v := .int .u16 3) rfl (by kernel_rfl) rfl rfl rfl rfl ((E.out.get (i := 0) rfl).c 0 _ rfl) ((E.out.get (i := 0) rfl).f 0)) rfl rfl ?_
    replace E := Lib.hid (E.out.set 0 rfl (j := 0) (by show 0 < 1; omega) (.int .u16 3))
    replace E := Lib.hid (show Ev _ [(g2, [.int .u16 3]), (g1, (evR ((.int .i64 0)) ((.int .i64 0)) ((.bool false)) (z8 32) ((.int .i64 0)) ((.int .i64 0)) (hdR (z8 32) ((.int .i64 0)) ((.int .i64 0))) ((.slice none 0 0))))] _ _ _ _ from E.out)
    generalize a3.setCell ⟨g2, 0, none⟩ (.int .u16 3) = a4 at *
    refine qab ?_
    go_wp2_with fail
    obtain ⟨rfl, rfl⟩ := HX3.out hlong
    exact ⟨_, qbb Tryz.results61 rfl rfl Tryz.underlying38 rfl Tryz.underlying49 rfl (szR (qbk (qac 32) (qa9 (qac 32))) (by kernel_rfl)) (E.out.get (i := 1) rfl).range ((E.out.get (i := 0) rfl).c 0 _ rfl), _, rfl, ⟨_, rfl, (qbk (qac 32) (qa9 (qac 32))), (evR_one rfl rfl rfl (One.b8 _) rfl rfl (hdR_one (One.b8 _) rfl rfl) rfl), fun V _ => evAt_zero V⟩, E.out.bl⟩
  · refine qaa (qbi (c := false) rfl rfl rfl (decide_eq_false (by omega))) rfl ?_; (try simp only [Act.put, lyy])
    refine qab ?_
    have hx := HX.out hlong
    clear HX3 HX
    go_upto_region 3 with fail; refine wp_region_lit ?_
    refine qaa (run_mkf (v := .pointer (some ⟨g2, 0, none⟩)) rfl rfl) rfl ?_; (try simp only [Act.put, lyy])
    refine qc7 (d := { target := .fn (.func 113) #[.pointer (some ⟨g2, 0, none⟩)], args := #[] }) (run_defer rfl rfl) rfl ?_; (try simp only [Act.put])
    refine qab ?_
    go_upto_region 4 with fail; refine wp_region_lit ?_
    refine qaa (qad (v := .slice a0 m c0) rfl rfl) rfl ?_; (try simp only [Act.put, lyy])
    refine qaa (qa7 (cells := #[.slice a0 m c0]) (ps := [(0, .slice a0 m c0)]) rfl rfl (by kernel_rfl)) rfl ?_; (try simp only [Act.put, lyy])
    refine qaa (qa3 (vs := [.slice none 0 0]) rfl (by kernel_rfl)) rfl ?_; (try simp only [Act.put, lyy])
    replace E := Lib.hid (E.out.new ([.slice none 0 0]) 199)
    generalize a2.alloc (.cells ([.slice none 0 0] : List Value).toArray 199) = a5 at *
    generalize a2.heap.size = g3 at *
    refine qal (qa0 (vs := [.slice a0 m c0]) rfl (szR (n := 1) rfl (by kernel_rfl)) rfl rfl (One.all (One.cons rfl One.nil)) ((E.out.get (i := 0) rfl).thereM (by show 0 + 1 ≤ 1; omega))) rfl rfl ?_
    replace E := Lib.hid (E.out.put 0 rfl (m := [.slice a0 m c0]) rfl)
    replace E := Lib.hid (show Ev _ [(g3, [.slice a0 m c0]), (g2, [.int .u16 0]), (g1, (evR ((.int .i64 0)) ((.int .i64 0)) ((.bool false)) (z8 32) ((.int .i64 0)) ((.int .i64 0)) (hdR (z8 32) ((.int .i64 0)) ((.int .i64 0))) ((.slice none 0 0))))] _ _ _ _ from E.out)
    generalize a5.setCells g3 0 [.slice a0 m c0] = a6 at *
    refine qab ?_
    have HR : Hid (RdS a6.heap.size g3 b 0 a6) := Lib.hid (by have hA := E.out.get (i := 0) rfl; have hg := (E.out.mv.all (g3, [.slice a0 m c0]) (List.mem_cons_self ..)).1; have hS := HS.out; have hq := HLN.out; subst hq; exact rdS_new hA E.out.bl hg hS)
    clear HS
    go_upto_region 5 with fail; refine wp_region_lit ?_
    refine qaa (qad (v := .func (.func 62) #[] #[]) rfl rfl) rfl ?_; (try simp only [Act.put, lyy])
    refine qaj (qcc enters_renv rfl rfl rfl) rfl (renv_any _ g3 b 0 q e y _ HH.out HR.out) (fun v a7 hs hk hr hT => ?_) (fun a7 hs hk => ?pana)
    case pana =>
      go_wp2_with fail
      replace hs : e ≠ 0 := hs
      replace E := Lib.hid (E.out.callIn hk (H0 := fun _ => True) fun _ _ => trivial)
      have hen : endM m q e = e := by unfold endM; rw [if_neg (fun h => hs h.1)]
      rw [hen, if_neg hs] at hx
      obtain ⟨rfl, rfl⟩ := hx
      have her := errOf_ok hok hs
      refine leaves_cons (f := 113) (args := #[.pointer (some ⟨g2, 0, none⟩)]) (by simp) (by simp [go_sem]) ?_
      refine (caEv_pan g2 _ err _ ((E.out.get (i := 0) rfl).c 0 _ rfl) ((E.out.get (i := 0) rfl).f 0)).mono ?_
      rintro en u1 w1 ⟨rfl, rfl, rfl⟩
      replace E := Lib.hid (E.out.set 0 rfl (j := 0) (by show 0 < 1; omega) (.int .u16 (errOf err)))
      rw [her] at E
      rw [her]
      replace E := Lib.hid (show Ev _ [(g2, [.int .u16 err]), (g1, (evR ((.int .i64 0)) ((.int .i64 0)) ((.bool false)) (z8 32) ((.int .i64 0)) ((.int .i64 0)) (hdR (z8 32) ((.int .i64 0)) ((.int .i64 0))) ((.slice none 0 0))))] _ _ _ _ from E.out)
      exact ⟨_, qbb Tryz.results61 rfl rfl Tryz.underlying38 rfl Tryz.underlying49 rfl (szR (qbk (qac 32) (qa9 (qac 32))) (by kernel_rfl)) (E.out.get (i := 1) rfl).range ((E.out.get (i := 0) rfl).c 0 _ rfl), _, rfl, ⟨_, rfl, (qbk (qac 32) (qa9 (qac 32))), (evR_one rfl rfl rfl (One.b8 _) rfl rfl (hdR_one (One.b8 _) rfl rfl) rfl), fun V _ => evAt_zero V⟩, E.out.bl⟩
    (try simp only [Act.put, lyy])
    replace hs : e = 0 := hs
    subst hs
    obtain ⟨X, rfl, lX, oX, fX⟩ := hT
    replace E := Lib.hid (E.out.callIn hk (H0 := evAt y X) fX)
    have hB7 := hr.Bu
    have HR2 := Lib.hid hr
    clear hk hr HR fX
    refine qaa (qa3 (vs := (evR ((.int .i64 0)) ((.int .i64 0)) ((.bool false)) (z8 32) ((.int .i64 0)) ((.int .i64 0)) (hdR (z8 32) ((.int .i64 0)) ((.int .i64 0))) ((.slice none 0 0)))) rfl (by kernel_rfl)) rfl ?_; (try simp only [Act.put, lyy])
    replace HR2 := Lib.hid (HR2.out.below ((Below.refl _ _).alloc (Nat.le_refl _) (.cells ((evR ((.int .i64 0)) ((.int .i64 0)) ((.bool false)) (z8 32) ((.int .i64 0)) ((.int .i64 0)) (hdR (z8 32) ((.int .i64 0)) ((.int .i64 0))) ((.slice none 0 0))) : List Value).toArray 38)))
    replace E := Lib.hid (E.out.new ((evR ((.int .i64 0)) ((.int .i64 0)) ((.bool false)) (z8 32) ((.int .i64 0)) ((.int .i64 0)) (hdR (z8 32) ((.int .i64 0)) ((.int .i64 0))) ((.slice none 0 0)))) 38)
    generalize a7.alloc (.cells ((evR ((.int .i64 0)) ((.int .i64 0)) ((.bool false)) (z8 32) ((.int .i64 0)) ((.int .i64 0)) (hdR (z8 32) ((.int .i64 0)) ((.int .i64 0))) ((.slice none 0 0))) : List Value).toArray 38) = a8 at *
    have hG4 : a6.heap.size ≤ a7.heap.size := hB7
    generalize a7.heap.size = g4 at *
    refine qal (qa0 (vs := X) rfl (szR lX (by kernel_rfl)) rfl rfl (One.all oX) ((E.out.get (i := 0) rfl).thereM (by have q1 : ((evR ((.int .i64 0)) ((.int .i64 0)) ((.bool false)) (z8 32) ((.int .i64 0)) ((.int .i64 0)) (hdR (z8 32) ((.int .i64 0)) ((.int .i64 0))) ((.slice none 0 0))) : List Value).length = 72 := (qbk (qac 32) (qa9 (qac 32))); omega))) rfl rfl ?_
    replace HR2 := Lib.hid (HR2.out.step (qbe hG4 X 0 (Below.refl _ a8)))
    replace E := Lib.hid (E.out.put 0 rfl (m := X) (lX.trans (show ((evR ((.int .i64 0)) ((.int .i64 0)) ((.bool false)) (z8 32) ((.int .i64 0)) ((.int .i64 0)) (hdR (z8 32) ((.int .i64 0)) ((.int .i64 0))) ((.slice none 0 0))) : List Value).length = 72 from (qbk (qac 32) (qa9 (qac 32)))).symm))
    replace E := Lib.hid (show Ev _ [(g4, X), (g2, [.int .u16 0]), (g1, (evR ((.int .i64 0)) ((.int .i64 0)) ((.bool false)) (z8 32) ((.int .i64 0)) ((.int .i64 0)) (hdR (z8 32) ((.int .i64 0)) ((.int .i64 0))) ((.slice none 0 0))))] _ _ _ _ from E.out)
    generalize a8.setCells g4 0 X = a9 at *
    refine qab ?_
    obtain ⟨hq, -, -, al, cl, hA, -⟩ := HR2.out
    have hdl : (b.drop q).length = m - q := by rw [List.length_drop, HLN.out]
    have HA := Lib.hid hA
    clear hA HR2
    generalize (b.drop q).length = r at *
    go_upto_region 6 with fail; refine wp_region_lit ?_
    refine qaa (qai (s := 0) (k := 0) rfl Tryz.underlying199 rfl (by kernel_rfl) rfl rfl) rfl ?_; (try simp only [Act.put, lyy])
    refine qaa (qam (v := .slice al r cl) rfl Tryz.underlying22 rfl rfl (HA.out.c 0 _ rfl)) rfl ?_; (try simp only [Act.put, lyy])
    refine qaa (qa4 rfl Tryz.underlying22 rfl) rfl ?_; (try simp only [Act.put, lyy])
    by_cases hleft : q < m
    · refine qaa (qbi (c := true) rfl rfl rfl (decide_eq_true (by omega))) rfl ?_; (try simp only [Act.put, lyy])
      refine qab ?_
      have hen : endM m q 0 = 11 := by unfold endM; rw [if_pos ⟨rfl, hleft⟩]
      rw [hen, if_neg nz11] at hx
      obtain ⟨rfl, rfl⟩ := hx
      go_upto_region 7 with fail; refine wp_region_lit ?_
      refine qaa (run_bld (cells := #[]) rfl (by kernel_rfl)) rfl ?_; (try simp only [Act.put, lyy])
      refine qaa (run_mki (v := .agg #[]) rfl (by kernel_rfl) rfl) rfl ?_; (try simp only [Act.put, lyy])
      refine qb3 rfl rfl rfl ?_
      go_wp2_with fail
      refine leaves_cons (f := 113) (args := #[.pointer (some ⟨g2, 0, none⟩)]) (by simp) (by simp [go_sem]) ?_
      refine (caEv_form g2 _ _ ((E.out.get (i := 1) rfl).c 0 _ rfl) ((E.out.get (i := 1) rfl).f 0)).mono ?_
      rintro en u1 w1 ⟨rfl, rfl, rfl⟩
      replace E := Lib.hid (E.out.set 1 rfl (j := 0) (by show 0 < 1; omega) (.int .u16 (11)))
      replace E := Lib.hid (show Ev _ [(g4, X), (g2, [.int .u16 11]), (g1, (evR ((.int .i64 0)) ((.int .i64 0)) ((.bool false)) (z8 32) ((.int .i64 0)) ((.int .i64 0)) (hdR (z8 32) ((.int .i64 0)) ((.int .i64 0))) ((.slice none 0 0))))] _ _ _ _ from E.out)
      exact ⟨_, qbb Tryz.results61 rfl rfl Tryz.underlying38 rfl Tryz.underlying49 rfl (szR (qbk (qac 32) (qa9 (qac 32))) (by kernel_rfl)) (E.out.get (i := 2) rfl).range ((E.out.get (i := 1) rfl).c 0 _ rfl), _, rfl, ⟨_, rfl, (qbk (qac 32) (qa9 (qac 32))), (evR_one rfl rfl rfl (One.b8 _) rfl rfl (hdR_one (One.b8 _) rfl rfl) rfl), fun V _ => evAt_zero V⟩, E.out.bl⟩
    · refine qaa (qbi (c := false) rfl rfl rfl (decide_eq_false (by omega))) rfl ?_; (try simp only [Act.put, lyy])
      refine qab ?_
      have hen : endM m q 0 = 0 := by unfold endM; rw [if_neg (fun h => hleft h.2)]
      rw [hen, if_pos rfl] at hx
      obtain ⟨rfl, rfl⟩ := hx
      go_upto_region 8 with fail; refine wp_region_lit ?_
      refine qaa (qat (vs := X) rfl Tryz.underlying38 rfl (szR lX (by kernel_rfl)) rfl (E.out.get (i := 0) rfl).range) rfl ?_; (try simp only [Act.put, lyy])
      refine qal (qa0 (vs := X) rfl (szR lX (by kernel_rfl)) rfl rfl (One.all oX) ((E.out.get (i := 2) rfl).thereM (by have q1 : ((evR ((.int .i64 0)) ((.int .i64 0)) ((.bool false)) (z8 32) ((.int .i64 0)) ((.int .i64 0)) (hdR (z8 32) ((.int .i64 0)) ((.int .i64 0))) ((.slice none 0 0))) : List Value).length = 72 := (qbk (qac 32) (qa9 (qac 32))); omega))) rfl rfl ?_
      replace E := Lib.hid (E.out.put 2 rfl (m := X) (lX.trans (show ((evR ((.int .i64 0)) ((.int .i64 0)) ((.bool false)) (z8 32) ((.int .i64 0)) ((.int .i64 0)) (hdR (z8 32) ((.int .i64 0)) ((.int .i64 0))) ((.slice none 0 0))) : List Value).length = 72 from (qbk (qac 32) (qa9 (qac 32)))).symm))
      generalize a9.setCells g1 0 X = b1 at *
      refine qal (qb5 (v := .int .u16 0) rfl (by kernel_rfl) rfl rfl rfl rfl ((E.out.get (i := 1) rfl).c 0 _ rfl) ((E.out.get (i := 1) rfl).f 0)) rfl rfl ?_
      replace E := Lib.hid (E.out.set 1 rfl (j := 0) (by show 0 < 1; omega) (.int .u16 0))
      replace E := Lib.hid (show Ev _ [(g4, X), (g2, [.int .u16 0]), (g1, X)] _ _ _ _ from E.out)
      generalize b1.setCell ⟨g2, 0, none⟩ (.int .u16 0) = b2 at *
      refine qab ?_
      go_wp2_with fail
      refine leaves_cons (f := 113) (args := #[.pointer (some ⟨g2, 0, none⟩)]) (by simp) (by simp [go_sem]) ?_
      refine (caEv_idle g2 _).mono ?_
      rintro en u1 w1 ⟨rfl, rfl, rfl⟩
      exact ⟨_, qbb Tryz.results61 rfl rfl Tryz.underlying38 rfl Tryz.underlying49 rfl (szR lX (by kernel_rfl)) (E.out.get (i := 2) rfl).range ((E.out.get (i := 1) rfl).c 0 _ rfl), _, rfl, ⟨_, rfl, lX, oX, fun V hV => (E.out.tell V hV).1⟩, E.out.bl⟩
set_option maxHeartbeats 8000000 in
theorem ryEv_any (a0 : Option Addr) (b : List (BitVec 8)) (c0 : Nat) (x : MEv) (err : Int) (H : rdEv b = (x, err)) (w : World) (hb : Sl (.slice a0 b.length c0) b w) : Calls Tryz.prog 21 #[.slice a0 b.length c0] w fun r w' => ∃ v', r = .returned v' ∧ ((∃ X : List Value, v' = .tuple #[.agg X.toArray, .int .u16 err] ∧ X.length = 72 ∧ One X ∧ Fro w.heap.size (evAt x X) w') ∧ Below w.heap.size w w') := by
  have HC : Hid (∀ u : World, Below w.heap.size w u → Calls Tryz.prog 61 #[.slice a0 b.length c0, .func (.func 62) #[] #[]] u fun r w' => ∃ v', r = .returned v' ∧ ((∃ X : List Value, v' = .tuple #[.agg X.toArray, .int .u16 err] ∧ X.length = 72 ∧ One X ∧ Fro u.heap.size (evAt x X) w') ∧ Below u.heap.size u w')) := Lib.hid fun u hu => rxEv_any a0 b c0 x err H u (hb.below hu)
  clear H hb
  generalize b.length = m at *
  have E := Lib.hid (Ev.start (w := w) (F := fun _ => True) fun _ _ => trivial)
  go_enter Tryz.func21, Tryz.ntmps21
  go_upto_region 0 with fail; refine wp_region_lit ?_
  refine qaa (qa3 (vs := (evR ((.int .i64 0)) ((.int .i64 0)) ((.bool false)) (z8 32) ((.int .i64 0)) ((.int .i64 0)) (hdR (z8 32) ((.int .i64 0)) ((.int .i64 0))) ((.slice none 0 0)))) rfl (by kernel_rfl)) rfl ?_; (try simp only [Act.put, lyy])
  replace E := Lib.hid (E.out.new ((evR ((.int .i64 0)) ((.int .i64 0)) ((.bool false)) (z8 32) ((.int .i64 0)) ((.int .i64 0)) (hdR (z8 32) ((.int .i64 0)) ((.int .i64 0))) ((.slice none 0 0)))) 38)
  generalize hw0 : w.alloc (.cells ((evR ((.int .i64 0)) ((.int .i64 0)) ((.bool false)) (z8 32) ((.int .i64 0)) ((.int .i64 0)) (hdR (z8 32) ((.int .i64 0)) ((.int .i64 0))) ((.slice none 0 0))) : List Value).toArray 38) = a1 at E ⊢
  clear hw0
  obtain ⟨g1, hg0⟩ : ∃ k, k = w.heap.size := ⟨_, rfl⟩
  rw [← hg0] at E ⊢
  clear hg0
  refine qaa (qak (v := .int .u16 0) rfl rfl) rfl ?_; (try simp only [Act.put, lyy])
  refine qab ?_
  go_upto_region 1 with fail; refine wp_region_lit ?_
  refine qaa (qad (v := .slice a0 m c0) rfl rfl) rfl ?_; (try simp only [Act.put, lyy])
  refine qag (qaf enters_rxEv rfl rfl rfl rfl) rfl (HC.out _ E.out.bl) (fun v a2 hR => ?_); (try simp only [Act.put, lyy])
  obtain ⟨⟨X, rfl, lX, oX, fX⟩, hb⟩ := hR
  replace E := Lib.hid (E.out.call hb fX)
  clear hb fX HC
  refine qaa (qbt (v := .agg X.toArray) rfl rfl rfl) rfl ?_; (try simp only [Act.put, lyy])
  refine qaa (qbt (v := .int .u16 err) rfl rfl rfl) rfl ?_; (try simp only [Act.put, lyy])
  refine qal (qa0 (vs := X) rfl (szR lX (by kernel_rfl)) rfl rfl (One.all oX) ((E.out.get (i := 0) rfl).thereM (by have q1 : ((evR ((.int .i64 0)) ((.int .i64 0)) ((.bool false)) (z8 32) ((.int .i64 0)) ((.int .i64 0)) (hdR (z8 32) ((.int .i64 0)) ((.int .i64 0))) ((.slice none 0 0))) : List Value).length = 72 := (qbk (qac 32) (qa9 (qac 32))); omega))) rfl rfl ?_
  replace E := Lib.hid (E.out.put 0 rfl (m := X) (lX.trans (show ((evR ((.int .i64 0)) ((.int .i64 0)) ((.bool false)) (z8 32) ((.int .i64 0)) ((.int .i64 0)) (hdR (z8 32) ((.int .i64 0)) ((.int .i64 0))) ((.slice none 0 0))) : List Value).length = 72 from (qbk (qac 32) (qa9 (qac 32)))).symm))
  replace E := Lib.hid (show Ev _ [(g1, X)] _ _ _ _ from E.out)
  generalize a2.setCells g1 0 X = a3 at *
  refine qaa (qak (v := .int .u16 err) rfl rfl) rfl ?_; (try simp only [Act.put, lyy])
  refine qab ?_
  go_wp2_with fail
  exact bodyPost_ret (v := .tuple #[.agg X.toArray, .int .u16 err]) (results_rowT Tryz.results21 rfl Tryz.underlying38 rfl (szR lX (by kernel_rfl)) (E.out.get (i := 0) rfl).range) rfl ⟨_, rfl, ⟨_, rfl, lX, oX, fun V hV => (E.out.tell V hV).1⟩, E.out.bl⟩
end Go.Proofs.YtcgbgmbnagmohaaGreat
