import Derived.Test.YtcgbgmbnagmohaaGreatLy
import Derived.Test.YtcgbgmbnagmohaaGreatPrC
import Derived.Test.YtcgbgmbnagmohaaGreatPr7
import Derived.Test.YtcgbgmbnagmohaaGreatPw6
import Derived.Test.YtcgbgmbnagmohaaGreatPrU
import Derived.Test.YtcgbgmbnagmohaaGreatPrL
import Derived.Test.YtcgbgmbnagmohaaGreatEqS
import Derived.Test.YtcgbgmbnagmohaaGreatSlA
import Derived.Test.YtcgbgmbnagmohaaGreatSm1
import Derived.Test.YtcgbgmbnagmohaaGreatCh3
import Derived.Deep.CutBlock
import Derived.Test.YtcgbgmbnagmohaaGreatPrQ
import Derived.Test.YtcgbgmbnagmohaaGreatCh5
import Derived.Test.YtcgbgmbnagmohaaGreatCh7
import Derived.Test.YtcgbgmbnagmohaaGreatCh6
import Derived.Test.YtcgbgmbnagmohaaGreatCh8
namespace Go.Proofs.YtcgbgmbnagmohaaGreat
open Go.RowKit
set_option maxRecDepth 20000
attribute [local irreducible] wpList
theorem rdAcA_stay {b : List (BitVec 8)} {i : Nat} {e : Int} (h : e ≠ 0) : (rdAcA b (i, e)).1 = (i, e) := by
  show (tkM b (slsM b (lsM b (nM b 1099511627776 (nM b 1099511627776 (byM b (nM b 1099511627776 (i, e)).1).1).1).1).1).1).1 = _
  rw [qbu h, byM_stay h, qbu h, qbu h, lsM_stay h, slsM_stay h, tkM_stay h]
theorem acAt_zero (V : World) : acAt zAc (acR (.int .i64 0) (.string ⟨#[]⟩) (.int .i64 0) (.int .i64 0) (lsR (.int .i64 0) (.int .i64 0) (z8 32) (.slice none 0 0) (z8 64)) (.slice none 0 0) (.slice none 0 0)) V := ⟨_, none, 0, none, 0, rfl, lsAt_zero V, slR_nil _ _ _, slR_nil _ _ _⟩
set_option maxHeartbeats 400000 in
theorem caAc_short (g : Nat) (x : Value) (w : World) (hc : w.cell? ⟨g, 0, none⟩ = some x) (hz : w.frozen? ⟨g, 0, none⟩ = false) :
    CallsD Tryz.prog 138 #[.pointer (some ⟨g, 0, none⟩)] (.panicking [{ v := .iface 197 (.agg #[]), recovered := false }]) w fun e u' w' =>
      e = .returned (.tuple #[]) ∧ u' = .panicking [{ v := .iface 197 (.agg #[]), recovered := true }] ∧ w' = w.setCell ⟨g, 0, none⟩ (.int .u16 10) := by
  refine callsD_of_wpS Tryz.func138 rfl fun c₀ cs hu => ?_
  apply wpS_seq
  apply wpS_region
  simp [wpOpsS, go_sem, recoverD, hu, Tryz.ntmps138, Exit.thenS]
  refine wpS_of_wp ?_
  have ht := ta_short
  go_wp2
  simp [bodyPostS, results, Tryz.results138, go_sem]
set_option maxHeartbeats 400000 in
theorem caAc_form (g : Nat) (x : Value) (w : World) (hc : w.cell? ⟨g, 0, none⟩ = some x) (hz : w.frozen? ⟨g, 0, none⟩ = false) :
    CallsD Tryz.prog 138 #[.pointer (some ⟨g, 0, none⟩)] (.panicking [{ v := .iface 200 (.agg #[]), recovered := false }]) w fun e u' w' =>
      e = .returned (.tuple #[]) ∧ u' = .panicking [{ v := .iface 200 (.agg #[]), recovered := true }] ∧ w' = w.setCell ⟨g, 0, none⟩ (.int .u16 11) := by
  refine callsD_of_wpS Tryz.func138 rfl fun c₀ cs hu => ?_
  apply wpS_seq
  apply wpS_region
  simp [wpOpsS, go_sem, recoverD, hu, Tryz.ntmps138, Exit.thenS]
  refine wpS_of_wp ?_
  have ht := ta_form
  go_wp2
  simp [bodyPostS, results, Tryz.results138, go_sem]
set_option maxHeartbeats 400000 in
theorem caAc_idle (g : Nat) (w : World) : CallsD Tryz.prog 138 #[.pointer (some ⟨g, 0, none⟩)] .returning w fun e u' w' => e = .returned (.tuple #[]) ∧ u' = .returning ∧ w' = w := by
  refine callsD_of_wpS Tryz.func138 rfl fun c₀ cs hu => ?_
  apply wpS_seq
  apply wpS_region
  simp [wpOpsS, go_sem, recoverD, hu, Tryz.ntmps138, Exit.thenS]
  refine wpS_of_wp ?_
  go_wp2
  cases c₀
  simp_all [bodyPostS, results, Tryz.results138, go_sem]
theorem caAc_pan (g : Nat) (x : Value) (e : Int) (w : World) (hc : w.cell? ⟨g, 0, none⟩ = some x) (hz : w.frozen? ⟨g, 0, none⟩ = false) : CallsD Tryz.prog 138 #[.pointer (some ⟨g, 0, none⟩)] (.panicking [pan e]) w fun en u' w' => en = .returned (.tuple #[]) ∧ u' = .panicking [panR e] ∧ w' = w.setCell ⟨g, 0, none⟩ (.int .u16 (errOf e)) := by
  by_cases h : e = 10
  · have h1 : pan e = { v := .iface 197 (.agg #[]), recovered := false } := by unfold pan; rw [if_pos h]
    have h2 : panR e = { v := .iface 197 (.agg #[]), recovered := true } := by unfold panR; rw [h1]
    rw [h1, h2, show errOf e = 10 by unfold errOf; rw [if_pos h]]
    exact caAc_short g x w hc hz
  · have h1 : pan e = { v := .iface 200 (.agg #[]), recovered := false } := by unfold pan; rw [if_neg h]
    have h2 : panR e = { v := .iface 200 (.agg #[]), recovered := true } := by unfold panR; rw [h1]
    rw [h1, h2, show errOf e = 11 by unfold errOf; rw [if_neg h]]
    exact caAc_form g x w hc hz
theorem enters_rxAc : Enters 73 := qan Tryz.func73 (by kernel_rfl) rfl
theorem enters_ryAc : Enters 27 := qan Tryz.func27 (by kernel_rfl) rfl
set_option maxHeartbeats 8000000 in
theorem rxAc_any (a0 : Option Addr) (b : List (BitVec 8)) (c0 : Nat) (x : MAc) (err : Int) (H : rdAc b = (x, err)) (w : World) (hb : Sl (.slice a0 b.length c0) b w) : Calls Tryz.prog 73 #[.slice a0 b.length c0, .func (.func 74) #[] #[]] w fun r w' => ∃ v', r = .returned v' ∧ ((∃ X : List Value, v' = .tuple #[.agg X.toArray, .int .u16 err] ∧ X.length = 105 ∧ One X ∧ Fro w.heap.size (acAt x X) w') ∧ Below w.heap.size w w') := by
  rcases HM : rdAcA b (0, 0) with ⟨⟨q, e⟩, y⟩
  have hok : ok3 e := by have h := rdAcA_ok (b := b) (s := (0, 0)) (.inl rfl); rw [HM] at h; exact h
  have HX3 : Hid (60000 < b.length → x = zAc ∧ err = 3) := Lib.hid fun h => by
    have hz : rdAcA ([] : List (BitVec 8)) (0, 3) = rdAcA ([] : List (BitVec 8)) (0, 3) := rfl
    have hs : (rdAcA ([] : List (BitVec 8)) (0, 3)).1 = (0, 3) := rdAcA_stay (show (3 : Int) ≠ 0 by decide)
    simp only [rdAc, qb0, if_pos h] at H
    rw [hs] at H
    simp only [endM, if_neg (fun h : (3 : Int) = 0 ∧ (0 : Nat) < ([] : List (BitVec 8)).length => absurd h.1 (by decide)), if_neg (show ¬ (3 : Int) = 0 by decide), Prod.mk.injEq] at H
    exact ⟨H.1.symm, H.2.symm⟩
  have HX : Hid (¬ 60000 < b.length → if endM b.length q e = 0 then x = y ∧ err = 0 else x = zAc ∧ err = endM b.length q e) := Lib.hid fun h => by
    simp only [rdAc, qb0, if_neg h, HM] at H
    by_cases h2 : endM b.length q e = 0
    · rw [if_pos h2] at H ⊢; simp only [Prod.mk.injEq] at H; exact ⟨H.1.symm, H.2.symm⟩
    · rw [if_neg h2] at H ⊢; simp only [Prod.mk.injEq] at H; exact ⟨H.1.symm, H.2.symm⟩
  have HH := Lib.hid HM
  have HS := Lib.hid hb
  clear H HM hb
  have E := Lib.hid (Ev.start (w := w) (F := fun _ => True) fun _ _ => trivial)
  generalize hlen : b.length = m at *
  have HLN := Lib.hid hlen
  clear hlen
  go_enter_defers Tryz.func73, Tryz.ntmps73
  go_upto_region 0 with fail; refine wp_region_lit ?_
  refine qaa (qa3 (vs := (acR ((.int .i64 0)) ((.string ⟨#[]⟩)) ((.int .i64 0)) ((.int .i64 0)) (lsR ((.int .i64 0)) ((.int .i64 0)) (z8 32) ((.slice none 0 0)) (z8 64)) ((.slice none 0 0)) ((.slice none 0 0)))) rfl (by kernel_rfl)) rfl ?_; (try simp only [Act.put, lyy])
  replace E := Lib.hid (E.out.new ((acR ((.int .i64 0)) ((.string ⟨#[]⟩)) ((.int .i64 0)) ((.int .i64 0)) (lsR ((.int .i64 0)) ((.int .i64 0)) (z8 32) ((.slice none 0 0)) (z8 64)) ((.slice none 0 0)) ((.slice none 0 0)))) 60)
  generalize hw0 : w.alloc (.cells ((acR ((.int .i64 0)) ((.string ⟨#[]⟩)) ((.int .i64 0)) ((.int .i64 0)) (lsR ((.int .i64 0)) ((.int .i64 0)) (z8 32) ((.slice none 0 0)) (z8 64)) ((.slice none 0 0)) ((.slice none 0 0))) : List Value).toArray 60) = a1 at E ⊢
  clear hw0
  obtain ⟨g1, hg0⟩ : ∃ k, k = w.heap.size := ⟨_, rfl⟩
  rw [← hg0] at E ⊢
  clear hg0
  refine qaa (run_alc1 (v := .int .u16 0) rfl (by kernel_rfl) rfl) rfl ?_; (try simp only [Act.put, lyy])
  replace E := Lib.hid (E.out.new ([.int .u16 0]) 49)
  generalize a1.alloc (.cells ([.int .u16 0] : List Value).toArray 49) = a2 at *
  generalize a1.heap.size = g2 at *
  refine qab ?_
  go_upto_region 1 with fail; refine wp_region_lit ?_
  refine qaa (qad (v := .slice a0 m c0) rfl rfl) rfl ?_; (try simp only [Act.put, lyy])
  refine qaa (qa4 rfl Tryz.underlying22 rfl) rfl ?_; (try simp only [Act.put, lyy])
  by_cases hlong : 60000 < m
  · refine qaa (qbi (c := true) rfl rfl rfl (decide_eq_true (by omega))) rfl ?_; (try simp only [Act.put, lyy])
    refine qab ?_
    go_upto_region 2 with fail; refine wp_region_lit ?_
    refine qaa (qat (vs := (acR ((.int .i64 0)) ((.string ⟨#[]⟩)) ((.int .i64 0)) ((.int .i64 0)) (lsR ((.int .i64 0)) ((.int .i64 0)) (z8 32) ((.slice none 0 0)) (z8 64)) ((.slice none 0 0)) ((.slice none 0 0)))) rfl Tryz.underlying60 rfl (szR (qbq (qas (qac 32) (qac 64))) (by kernel_rfl)) rfl (E.out.get (i := 1) rfl).range) rfl ?_; (try simp only [Act.put, lyy])
    refine qal (qa0 (vs := (acR ((.int .i64 0)) ((.string ⟨#[]⟩)) ((.int .i64 0)) ((.int .i64 0)) (lsR ((.int .i64 0)) ((.int .i64 0)) (z8 32) ((.slice none 0 0)) (z8 64)) ((.slice none 0 0)) ((.slice none 0 0)))) rfl (szR (qbq (qas (qac 32) (qac 64))) (by kernel_rfl)) rfl rfl (One.all (acR_one rfl rfl rfl rfl (qch rfl rfl (One.b8 _) rfl (One.b8 _)) rfl rfl)) ((E.out.get (i := 1) rfl).thereM (by have q1 : ((acR ((.int .i64 0)) ((.string ⟨#[]⟩)) ((.int .i64 0)) ((.int .i64 0)) (lsR ((.int .i64 0)) ((.int .i64 0)) (z8 32) ((.slice none 0 0)) (z8 64)) ((.slice none 0 0)) ((.slice none 0 0))) : List Value).length = 105 := (qbq (qas (qac 32) (qac 64))); omega))) rfl rfl ?_
    replace E := Lib.hid (E.out.put 1 rfl (m := (acR ((.int .i64 0)) ((.string ⟨#[]⟩)) ((.int .i64 0)) ((.int .i64 0)) (lsR ((.int .i64 0)) ((.int .i64 0)) (z8 32) ((.slice none 0 0)) (z8 64)) ((.slice none 0 0)) ((.slice none 0 0)))) rfl)
    generalize a2.setCells g1 0 ((acR ((.int .i64 0)) ((.string ⟨#[]⟩)) ((.int .i64 0)) ((.int .i64 0)) (lsR ((.int .i64 0)) ((.int .i64 0)) (z8 32) ((.slice none 0 0)) (z8 64)) ((.slice none 0 0)) ((.slice none 0 0)))) = a3 at *
    refine qal (qb5 (v := .int .u16 3) rfl (by kernel_rfl) rfl rfl rfl rfl ((E.out.get (i := 0) rfl).c 0 _ rfl) ((E.out.get (i := 0) rfl).f 0)) rfl rfl ?_
    replace E := Lib.hid (E.out.set 0 rfl (j := 0) (by show 0 < 1; omega) (.int .u16 3))
    replace E := Lib.hid (show Ev _ [(g2, [.int .u16 3]), (g1, (acR ((.int .i64 0)) ((.string ⟨#[]⟩)) ((.int .i64 0)) ((.int .i64 0)) (lsR ((.int .i64 0)) ((.int .i64 0)) (z8 32) ((.slice none 0 0)) (z8 64)) ((.slice none 0 0)) ((.slice none 0 0))))] _ _ _ _ from E.out)
    generalize a3.setCell ⟨g2, 0, none⟩ (.int .u16 3) = a4 at *
    refine qab ?_
    go_wp2_with fail
    obtain ⟨rfl, rfl⟩ := HX3.out hlong
    exact ⟨_, qbb Tryz.results73 rfl rfl Tryz.underlying60 rfl Tryz.underlying49 rfl (szR (qbq (qas (qac 32) (qac 64))) (by kernel_rfl)) (E.out.get (i := 1) rfl).range ((E.out.get (i := 0) rfl).c 0 _ rfl), _, rfl, ⟨_, rfl, (qbq (qas (qac 32) (qac 64))), (acR_one rfl rfl rfl rfl (qch rfl rfl (One.b8 _) rfl (One.b8 _)) rfl rfl), fun V _ => acAt_zero V⟩, E.out.bl⟩
  · refine qaa (qbi (c := false) rfl rfl rfl (decide_eq_false (by omega))) rfl ?_; (try simp only [Act.put, lyy])
    refine qab ?_
    have hx := HX.out hlong
    clear HX3 HX
    go_upto_region 3 with fail; refine wp_region_lit ?_
    refine qaa (run_mkf (v := .pointer (some ⟨g2, 0, none⟩)) rfl rfl) rfl ?_; (try simp only [Act.put, lyy])
    refine qc7 (d := { target := .fn (.func 138) #[.pointer (some ⟨g2, 0, none⟩)], args := #[] }) (run_defer rfl rfl) rfl ?_; (try simp only [Act.put])
    refine qab ?_
    go_upto_region 4 with fail; refine wp_region_lit ?_
    refine qaa (qad (v := .slice a0 m c0) rfl rfl) rfl ?_; (try simp only [Act.put, lyy])
    refine qaa (qa7 (cells := #[.slice a0 m c0]) (ps := [(0, .slice a0 m c0)]) rfl rfl (by kernel_rfl)) rfl ?_; (try simp only [Act.put, lyy])
    refine qaa (qa3 (vs := [.slice none 0 0]) rfl (by kernel_rfl)) rfl ?_; (try simp only [Act.put, lyy])
    replace E := Lib.hid (E.out.new ([.slice none 0 0]) 199)
    generalize a2.alloc (.cells ([.slice none 0 0] : List Value).toArray 199) = a5 at *
    generalize a2.heap.size = g3 at *
    refine qal (qa0 (vs := [.slice a0 m c0]) rfl (szR (n := 1) rfl (by kernel_rfl)) rfl rfl (One.all (One.cons rfl One.nil)) ((E.out.get (i := 0) rfl).thereM (by show 0 + 1 ≤ 1; omega))) rfl rfl ?_
    replace E := Lib.hid (E.out.put 0 rfl (m := [.slice a0 m c0]) rfl)
    replace E := Lib.hid (show Ev _ [(g3, [.slice a0 m c0]), (g2, [.int .u16 0]), (g1, (acR ((.int .i64 0)) ((.string ⟨#[]⟩)) ((.int .i64 0)) ((.int .i64 0)) (lsR ((.int .i64 0)) ((.int .i64 0)) (z8 32) ((.slice none 0 0)) (z8 64)) ((.slice none 0 0)) ((.slice none 0 0))))] _ _ _ _ from E.out)
    generalize a5.setCells g3 0 [.slice a0 m c0] = a6 at *
    refine qab ?_
    have HR : Hid (RdS a6.heap.size g3 b 0 a6) := Lib.hid (by have hA := E.out.get (i := 0) rfl; have hg := (E.out.mv.all (g3, [.slice a0 m c0]) (List.mem_cons_self ..)).1; have hS := HS.out; have hq := HLN.out; subst hq; exact rdS_new hA E.out.bl hg hS)
    clear HS
    go_upto_region 5 with fail; refine wp_region_lit ?_
    refine qaa (qad (v := .func (.func 74) #[] #[]) rfl rfl) rfl ?_; (try simp only [Act.put, lyy])
    refine qaj (qcc enters_racc rfl rfl rfl) rfl (racc_any _ g3 b 0 q e y _ HH.out HR.out) (fun v a7 hs hk hr hT => ?_) (fun a7 hs hk => ?pana)
    case pana =>
      go_wp2_with fail
      replace hs : e ≠ 0 := hs
      replace E := Lib.hid (E.out.callIn hk (H0 := fun _ => True) fun _ _ => trivial)
      have hen : endM m q e = e := by unfold endM; rw [if_neg (fun h => hs h.1)]
      rw [hen, if_neg hs] at hx
      obtain ⟨rfl, rfl⟩ := hx
      have her := errOf_ok hok hs
      refine leaves_cons (f := 138) (args := #[.pointer (some ⟨g2, 0, none⟩)]) (by simp) (by simp [go_sem]) ?_
      refine (caAc_pan g2 _ err _ ((E.out.get (i := 0) rfl).c 0 _ rfl) ((E.out.get (i := 0) rfl).f 0)).mono ?_
      rintro en u1 w1 ⟨rfl, rfl, rfl⟩
      replace E := Lib.hid (E.out.set 0 rfl (j := 0) (by show 0 < 1; omega) (.int .u16 (errOf err)))
      rw [her] at E
      rw [her]
      replace E := Lib.hid (show Ev _ [(g2, [.int .u16 err]), (g1, (acR ((.int .i64 0)) ((.string ⟨#[]⟩)) ((.int .i64 0)) ((.int .i64 0)) (lsR ((.int .i64 0)) ((.int .i64 0)) (z8 32) ((.slice none 0 0)) (z8 64)) ((.slice none 0 0)) ((.slice none 0 0))))] _ _ _ _ from E.out)
      exact ⟨_, qbb Tryz.results73 rfl rfl Tryz.underlying60 rfl Tryz.underlying49 rfl (szR (qbq (qas (qac 32) (qac 64))) (by kernel_rfl)) (E.out.get (i := 1) rfl).range ((E.out.get (i := 0) rfl).c 0 _ rfl), _, rfl, ⟨_, rfl, (qbq (qas (qac 32) (qac 64))), (acR_one rfl rfl rfl rfl (qch rfl rfl (One.b8 _) rfl (One.b8 _)) rfl rfl), fun V _ => acAt_zero V⟩, E.out.bl⟩
    (try simp only [Act.put, lyy])
    replace hs : e = 0 := hs
    subst hs
    obtain ⟨X, rfl, lX, oX, fX⟩ := hT
    replace E := Lib.hid (E.out.callIn hk (H0 := acAt y X) fX)
    have hB7 := hr.Bu
    have HR2 := Lib.hid hr
    clear hk hr HR fX
    refine qaa (qa3 (vs := (acR ((.int .i64 0)) ((.string ⟨#[]⟩)) ((.int .i64 0)) ((.int .i64 0)) (lsR ((.int .i64 0)) ((.int .i64 0)) (z8 32) ((.slice none 0 0)) (z8 64)) ((.slice none 0 0)) ((.slice none 0 0)))) rfl (by kernel_rfl)) rfl ?_; (try simp only [Act.put, lyy])
    replace HR2 := Lib.hid (HR2.out.below ((Below.refl _ _).alloc (Nat.le_refl _) (.cells ((acR ((.int .i64 0)) ((.string ⟨#[]⟩)) ((.int .i64 0)) ((.int .i64 0)) (lsR ((.int .i64 0)) ((.int .i64 0)) (z8 32) ((.slice none 0 0)) (z8 64)) ((.slice none 0 0)) ((.slice none 0 0))) : List Value).toArray 60)))
    replace E := Lib.hid (E.out.new ((acR ((.int .i64 0)) ((.string ⟨#[]⟩)) ((.int .i64 0)) ((.int .i64 0)) (lsR ((.int .i64 0)) ((.int .i64 0)) (z8 32) ((.slice none 0 0)) (z8 64)) ((.slice none 0 0)) ((.slice none 0 0)))) 60)
    generalize a7.alloc (.cells ((acR ((.int .i64 0)) ((.string ⟨#[]⟩)) ((.int .i64 0)) ((.int .i64 0)) (lsR ((.int .i64 0)) ((.int .i64 0)) (z8 32) ((.slice none 0 0)) (z8 64)) ((.slice none 0 0)) ((.slice none 0 0))) : List Value).toArray 60) = a8 at *
    have hG4 : a6.heap.size ≤ a7.heap.size := hB7
    generalize a7.heap.size = g4 at *
    refine qal (qa0 (vs := X) rfl (szR lX (by kernel_rfl)) rfl rfl (One.all oX) ((E.out.get (i := 0) rfl).thereM (by have q1 : ((acR ((.int .i64 0)) ((.string ⟨#[]⟩)) ((.int .i64 0)) ((.int .i64 0)) (lsR ((.int .i64 0)) ((.int .i64 0)) (z8 32) ((.slice none 0 0)) (z8 64)) ((.slice none 0 0)) ((.slice none 0 0))) : List Value).length = 105 := (qbq (qas (qac 32) (qac 64))); omega))) rfl rfl ?_
    replace HR2 := Lib.hid (HR2.out.step (qbe hG4 X 0 (Below.refl _ a8)))
    replace E := Lib.hid (E.out.put 0 rfl (m := X) (lX.trans (show ((acR ((.int .i64 0)) ((.string ⟨#[]⟩)) ((.int .i64 0)) ((.int .i64 0)) (lsR ((.int .i64 0)) ((.int .i64 0)) (z8 32) ((.slice none 0 0)) (z8 64)) ((.slice none 0 0)) ((.slice none 0 0))) : List Value).length = 105 from (qbq (qas (qac 32) (qac 64)))).symm))
    replace E := Lib.hid (show Ev _ [(g4, X), (g2, [.int .u16 0]), (g1, (acR ((.int .i64 0)) ((.string ⟨#[]⟩)) ((.int .i64 0)) ((.int .i64 0)) (lsR ((.int .i64 0)) ((.int .i64 0)) (z8 32) ((.slice none 0 0)) (z8 64)) ((.slice none 0 0)) ((.slice none 0 0))))] _ _ _ _ from E.out)
    generalize a8.setCells g4 0 X = a9 at *
    refine qab ?_
    obtain ⟨hq, -, -, al, cl, hA, -⟩ := HR2.out
    have hdl : (b.drop q).length = m - q := by rw [List.length_drop, HLN.out]
    have HA := Lib.hid hA
    clear hA HR2
    generalize (b.drop q).length = r at *
    go_upto_region 6 with fail; refine wp_region_lit ?_
    refine qaa (qai (s := 0) (k := 0) rfl Tryz.underlying199 rfl (by kernel_rfl) rfl rfl) rfl ?_; (try simp only [Act.put, lyy])
    refine qaa (qam (v := .slice al r cl) rfl Tryz.underlying22 rfl rfl (HA.out.c 0 _ rfl)) rfl ?_; (try simp only [Act.put, lyy])
    refine qaa (qa4 rfl Tryz.underlying22 rfl) rfl ?_; (try simp only [Act.put, lyy])
    by_cases hleft : q < m
    · refine qaa (qbi (c := true) rfl rfl rfl (decide_eq_true (by omega))) rfl ?_; (try simp only [Act.put, lyy])
      refine qab ?_
      have hen : endM m q 0 = 11 := by unfold endM; rw [if_pos ⟨rfl, hleft⟩]
      rw [hen, if_neg nz11] at hx
      obtain ⟨rfl, rfl⟩ := hx
      go_upto_region 7 with fail; refine wp_region_lit ?_
      refine qaa (run_bld (cells := #[]) rfl (by kernel_rfl)) rfl ?_; (try simp only [Act.put, lyy])
      refine qaa (run_mki (v := .agg #[]) rfl (by kernel_rfl) rfl) rfl ?_; (try simp only [Act.put, lyy])
      refine qb3 rfl rfl rfl ?_
      go_wp2_with fail
      refine leaves_cons (f := 138) (args := #[.pointer (some ⟨g2, 0, none⟩)]) (by simp) (by simp [go_sem]) ?_
      refine (caAc_form g2 _ _ ((E.out.get (i := 1) rfl).c 0 _ rfl) ((E.out.get (i := 1) rfl).f 0)).mono ?_
      rintro en u1 w1 ⟨rfl, rfl, rfl⟩
      replace E := Lib.hid (E.out.set 1 rfl (j := 0) (by show 0 < 1; omega) (.int .u16 (11)))
      replace E := Lib.hid (show Ev _ [(g4, X), (g2, [.int .u16 11]), (g1, (acR ((.int .i64 0)) ((.string ⟨#[]⟩)) ((.int .i64 0)) ((.int .i64 0)) (lsR ((.int .i64 0)) ((.int .i64 0)) (z8 32) ((.slice none 0 0)) (z8 64)) ((.slice none 0 0)) ((.slice none 0 0))))] _ _ _ _ from E.out)
      exact ⟨_, qbb Tryz.results73 rfl rfl Tryz.underlying60 rfl Tryz.underlying49 rfl (szR (qbq (qas (qac 32) (qac 64))) (by kernel_rfl)) (E.out.get (i := 2) rfl).range ((E.out.get (i := 1) rfl).c 0 _ rfl), _, rfl, ⟨_, rfl, (qbq (qas (qac 32) (qac 64))), (acR_one rfl rfl rfl rfl (qch rfl rfl (One.b8 _) rfl (One.b8 _)) rfl rfl), fun V _ => acAt_zero V⟩, E.out.bl⟩
    · refine qaa (qbi (c := false) rfl rfl rfl (decide_eq_false (by omega))) rfl ?_; (try simp only [Act.put, lyy])
      refine qab ?_
      have hen : endM m q 0 = 0 := by unfold endM; rw [if_neg (fun h => hleft h.2)]
      rw [hen, if_pos rfl] at hx
      obtain ⟨rfl, rfl⟩ := hx
      go_upto_region 8 with fail; refine wp_region_lit ?_
      refine qaa (qat (vs := X) rfl Tryz.underlying60 rfl (szR lX (by kernel_rfl)) rfl (E.out.get (i := 0) rfl).range) rfl ?_; (try simp only [Act.put, lyy])
      refine qal (qa0 (vs := X) rfl (szR lX (by kernel_rfl)) rfl rfl (One.all oX) ((E.out.get (i := 2) rfl).thereM (by have q1 : ((acR ((.int .i64 0)) ((.string ⟨#[]⟩)) ((.int .i64 0)) ((.int .i64 0)) (lsR ((.int .i64 0)) ((.int .i64 0)) (z8 32) ((.slice none 0 0)) (z8 64)) ((.slice none 0 0)) ((.slice none 0 0))) : List Value).length = 105 := (qbq (qas (qac 32) (qac 64))); omega))) rfl rfl ?_
      replace E := Lib.hid (E.out.put 2 rfl (m := X) (lX.trans (show ((acR ((.int .i64 0)) ((.string ⟨#[]⟩)) ((.int .i64 0)) ((.int .i64 0)) (lsR ((.int .i64 0)) ((.int .i64 0)) (z8 32) ((.slice none 0 0)) (z8 64)) ((.slice none 0 0)) ((.slice none 0 0))) : List Value).length = 105 from (qbq (qas (qac 32) (qac 64)))).symm))
      generalize a9.setCells g1 0 X = b1 at *
      refine qal (qb5 (v := .int .u16 0) rfl (by kernel_rfl) rfl rfl rfl rfl ((E.out.get (i := 1) rfl).c 0 _ rfl) ((E.out.get (i := 1) rfl).f 0)) rfl rfl ?_
      replace E := Lib.hid (E.out.set 1 rfl (j := 0) (by show 0 < 1; omega) (.int .u16 0))
      replace E := Lib.hid (show Ev _ [(g4, X), (g2, [.int .u16 0]), (g1, X)] _ _ _ _ from E.out)
      generalize b1.setCell ⟨g2, 0, none⟩ (.int .u16 0) = b2 at *
      refine qab ?_
      go_wp2_with fail
      refine leaves_cons (f := 138) (args := #[.pointer (some ⟨g2, 0, none⟩)]) (by simp) (by simp [go_sem]) ?_
      refine (caAc_idle g2 _).mono ?_
      rintro en u1 w1 ⟨rfl, rfl, rfl⟩
      exact ⟨_, qbb Tryz.results73 rfl rfl Tryz.underlying60 rfl Tryz.underlying49 rfl (szR lX (by kernel_rfl)) (E.out.get (i := 2) rfl).range ((E.out.get (i := 1) rfl).c 0 _ rfl), _, rfl, ⟨_, rfl, lX, oX, fun V hV => (E.out.tell V hV).1⟩, E.out.bl⟩
set_option maxHeartbeats 8000000 in
theorem ryAc_any (a0 : Option Addr) (b : List (BitVec 8)) (c0 : Nat) (x : MAc) (err : Int) (H : rdAc b = (x, err)) (w : World) (hb : Sl (.slice a0 b.length c0) b w) : Calls Tryz.prog 27 #[.slice a0 b.length c0] w fun r w' => ∃ v', r = .returned v' ∧ ((∃ X : List Value, v' = .tuple #[.agg X.toArray, .int .u16 err] ∧ X.length = 105 ∧ One X ∧ Fro w.heap.size (acAt x X) w') ∧ Below w.heap.size w w') := by
  have HC : Hid (∀ u : World, Below w.heap.size w u → Calls Tryz.prog 73 #[.slice a0 b.length c0, .func (.func 74) #[] #[]] u fun r w' => ∃ v', r = .returned v' ∧ ((∃ X : List Value, v' = .tuple #[.agg X.toArray, .int .u16 err] ∧ X.length = 105 ∧ One X ∧ Fro u.heap.size (acAt x X) w') ∧ Below u.heap.size u w')) := Lib.hid fun u hu => rxAc_any a0 b c0 x err H u (hb.below hu)
  clear H hb
  generalize b.length = m at *
  have E := Lib.hid (Ev.start (w := w) (F := fun _ => True) fun _ _ => trivial)
  go_enter Tryz.func27, Tryz.ntmps27
  go_upto_region 0 with fail; refine wp_region_lit ?_
  refine qaa (qa3 (vs := (acR ((.int .i64 0)) ((.string ⟨#[]⟩)) ((.int .i64 0)) ((.int .i64 0)) (lsR ((.int .i64 0)) ((.int .i64 0)) (z8 32) ((.slice none 0 0)) (z8 64)) ((.slice none 0 0)) ((.slice none 0 0)))) rfl (by kernel_rfl)) rfl ?_; (try simp only [Act.put, lyy])
  replace E := Lib.hid (E.out.new ((acR ((.int .i64 0)) ((.string ⟨#[]⟩)) ((.int .i64 0)) ((.int .i64 0)) (lsR ((.int .i64 0)) ((.int .i64 0)) (z8 32) ((.slice none 0 0)) (z8 64)) ((.slice none 0 0)) ((.slice none 0 0)))) 60)
  generalize hw0 : w.alloc (.cells ((acR ((.int .i64 0)) ((.string ⟨#[]⟩)) ((.int .i64 0)) ((.int .i64 0)) (lsR ((.int .i64 0)) ((.int .i64 0)) (z8 32) ((.slice none 0 0)) (z8 64)) ((.slice none 0 0)) ((.slice none 0 0))) : List Value).toArray 60) = a1 at E ⊢
  clear hw0
  obtain ⟨g1, hg0⟩ : ∃ k, k = w.heap.size := ⟨_, rfl⟩
  rw [← hg0] at E ⊢
  clear hg0
  refine qaa (qak (v := .int .u16 0) rfl rfl) rfl ?_; (try simp only [Act.put, lyy])
  refine qab ?_
  go_upto_region 1 with fail; refine wp_region_lit ?_
  refine qaa (qad (v := .slice a0 m c0) rfl rfl) rfl ?_; (try simp only [Act.put, lyy])
  refine qag (qaf enters_rxAc rfl rfl rfl rfl) rfl (HC.out _ E.out.bl) (fun v a2 hR => ?_); (try simp only [Act.put, lyy])
  obtain ⟨⟨X, rfl, lX, oX, fX⟩, hb⟩ := hR
  replace E := Lib.hid (E.out.call hb fX)
  clear hb fX HC
  refine qaa (qbt (v := .agg X.toArray) rfl rfl rfl) rfl ?_; (try simp only [Act.put, lyy])
  refine qaa (qbt (v := .int .u16 err) rfl rfl rfl) rfl ?_; (try simp only [Act.put, lyy])
  refine qal (qa0 (vs := X) rfl (szR lX (by kernel_rfl)) rfl rfl (One.all oX) ((E.out.get (i := 0) rfl).thereM (by have q1 : ((acR ((.int .i64 0)) ((.string ⟨#[]⟩)) ((.int .i64 0)) ((.int .i64 0)) (lsR ((.int .i64 0)) ((.int .i64 0)) (z8 32) ((.slice none 0 0)) (z8 64)) ((.slice none 0 0)) ((.slice none 0 0))) : List Value).length = 105 := (qbq (qas (qac 32) (qac 64))); omega))) rfl rfl ?_
  replace E := Lib.hid (E.out.put 0 rfl (m := X) (lX.trans (show ((acR ((.int .i64 0)) ((.string ⟨#[]⟩)) ((.int .i64 0)) ((.int .i64 0)) (lsR ((.int .i64 0)) ((.int .i64 0)) (z8 32) ((.slice none 0 0)) (z8 64)) ((.slice none 0 0)) ((.slice none 0 0))) : List Value).length = 105 from (qbq (qas (qac 32) (qac 64)))).symm))
  replace E := Lib.hid (show Ev _ [(g1, X)] _ _ _ _ from E.out)
  generalize a2.setCells g1 0 X = a3 at *
  refine qaa (qak (v := .int .u16 err) rfl rfl) rfl ?_; (try simp only [Act.put, lyy])
  refine qab ?_
  go_wp2_with fail
  exact bodyPost_ret (v := .tuple #[.agg X.toArray, .int .u16 err]) (results_rowT Tryz.results27 rfl Tryz.underlying60 rfl (szR lX (by kernel_rfl)) (E.out.get (i := 0) rfl).range) rfl ⟨_, rfl, ⟨_, rfl, lX, oX, fun V hV => (E.out.tell V hV).1⟩, E.out.bl⟩
end Go.Proofs.YtcgbgmbnagmohaaGreat
namespace Go.Proofs.YtcgbgmbnagmohaaGreat
open Go.RowKit
set_option maxRecDepth 20000
theorem getD_at (pre : List (BitVec 8)) (x : BitVec 8) (post : List (BitVec 8)) : (pre ++ x :: post).getD pre.length 0 = x := by simp
theorem gnL_viF {most : Int} : ∀ (k m n t : Nat) (pre post : List (BitVec 8)), m < 128 ^ (k + 1) → (0 < m ∨ k = 5) → ((n + m * t : Nat) : Int) ≤ most → gnL (pre ++ (viF k m ++ post)) most (k + 1) pre.length n t = (pre.length + (viF k m).length, 0, ((n + m * t : Nat) : Int))
  | 0, m, n, t, pre, post, hm, h0, hN => by
    have hm' : m < 128 := by simpa using hm
    have hb : (BitVec.ofNat 8 m).toNat = m := by simp; omega
    rw [viF, gnL, if_neg (by simp), show pre ++ ([BitVec.ofNat 8 m] ++ post) = pre ++ BitVec.ofNat 8 m :: post from rfl, getD_at, hb, if_pos hm', Nat.mod_eq_of_lt hm', if_neg (fun h => h.elim (fun h => by omega) (fun h => by omega))]
    rfl
  | k + 1, m, n, t, pre, post, hm, h0, hN => by
    rw [viF]
    by_cases h1 : m ≤ 127
    · have hb : (BitVec.ofNat 8 m).toNat = m := by simp; omega
      rw [if_pos h1, gnL, if_neg (by simp), show pre ++ ([BitVec.ofNat 8 m] ++ post) = pre ++ BitVec.ofNat 8 m :: post from rfl, getD_at, hb, if_pos (by omega), Nat.mod_eq_of_lt (by omega), if_neg (fun h => h.elim (fun h => by omega) (fun h => by omega))]
      rfl
    · have hb : (BitVec.ofNat 8 (m % 128 + 128)).toNat = m % 128 + 128 := by simp; omega
      rw [if_neg h1, gnL, if_neg (by simp), show pre ++ (BitVec.ofNat 8 (m % 128 + 128) :: viF k (m / 128) ++ post) = pre ++ BitVec.ofNat 8 (m % 128 + 128) :: (viF k (m / 128) ++ post) from rfl, getD_at, hb, if_neg (by omega)]
      have hd : m / 128 < 128 ^ (k + 1) := by rw [Nat.pow_succ] at hm; exact Nat.div_lt_of_lt_mul (by rwa [Nat.mul_comm] at hm)
      have hs : n + (m % 128 + 128) % 128 * t + m / 128 * (t * 128) = n + m * t := by
        rw [Nat.add_mod_right, Nat.mod_mod, ← Nat.mul_assoc, Nat.mul_right_comm, Nat.add_assoc, ← Nat.add_mul]
        congr 2
        omega
      have ih := gnL_viF k (m / 128) (n + (m % 128 + 128) % 128 * t) (t * 128) (pre ++ [BitVec.ofNat 8 (m % 128 + 128)]) post hd (.inl (by omega)) (by rw [hs]; exact hN)
      rw [hs, List.append_assoc, List.length_append] at ih
      rw [show (pre ++ BitVec.ofNat 8 (m % 128 + 128) :: (viF k (m / 128) ++ post)) = pre ++ ([BitVec.ofNat 8 (m % 128 + 128)] ++ (viF k (m / 128) ++ post)) from rfl]
      rw [show pre.length + 1 = pre.length + [BitVec.ofNat 8 (m % 128 + 128)].length from rfl, ih]
      simp only [List.length_cons, List.length_nil]
      congr 1
      omega
def Rds {α : Type} (m : List (BitVec 8) → Nat × Int → (Nat × Int) × α) (l : List (BitVec 8)) (x : α) : Prop := ∀ pre post : List (BitVec 8), m (pre ++ (l ++ post)) (pre.length, 0) = ((pre.length + l.length, 0), x)
def Cut {α : Type} (m : List (BitVec 8) → Nat × Int → (Nat × Int) × α) (l : List (BitVec 8)) : Prop := ∀ (pre t u : List (BitVec 8)), l = t ++ u → u ≠ [] → (m (pre ++ t) (pre.length, 0)).1.2 = 10
def Stay {α : Type} (m : List (BitVec 8) → Nat × Int → (Nat × Int) × α) : Prop := ∀ (b : List (BitVec 8)) (i : Nat) (e : Int), e ≠ 0 → (m b (i, e)).1 = (i, e)
theorem rds_n {n most : Int} (h0 : 0 ≤ n) (h1 : n ≤ most) (h2 : most ≤ 1099511627776) : Rds (fun b => nM b most) (viB n) n := fun pre post => by
  have hc : ((clN n : Nat) : Int) = n := by unfold clN; omega
  have hl := clN_le n
  have h := gnL_viF (most := most) 5 (clN n) 0 1 pre post (Nat.lt_of_le_of_lt hl (by decide)) (.inr rfl) (by rw [Nat.zero_add, Nat.mul_one, hc]; exact h1)
  rw [Nat.zero_add, Nat.mul_one, hc] at h
  simp only [nM, gn, if_pos]
  unfold viB
  rw [h]
theorem tk_all {m i n : Nat} (h : i + n ≤ m) : tkE m i 0 n = 0 := by
  unfold tkE
  rw [if_neg (fun h2 => by omega)]
theorem rds_k {n : Nat} {k : List (BitVec 8)} (hk : k.length = n) : Rds (kM n) k k := fun pre post => by
  have h := tk_all (m := (pre ++ (k ++ post)).length) (i := pre.length) (n := n) (by simp only [List.length_append]; omega)
  simp only [kM, tkI, gkX, h, if_pos]
  rw [List.drop_left, List.take_append_of_le_length (by omega), List.take_of_length_le (by omega), hk]
theorem rds_tr (b : Bool) : Rds trM (trB b) b := fun pre post => by
  have h := tk_all (m := (pre ++ (trB b ++ post)).length) (i := pre.length) (n := 1) (by simp only [List.length_append, trB, List.length_cons, List.length_nil]; omega)
  simp only [trM, h, if_pos]
  rw [show pre ++ (trB b ++ post) = pre ++ (if b then 1 else 0) :: post from rfl, getD_at]
  cases b <;> rfl
theorem rds_by {l : List (BitVec 8)} (hl : l.length ≤ 60000) : Rds byM (txB l) l := fun pre post => by
  have h1 := rds_n (n := (l.length : Int)) (most := 60000) (by omega) (by omega) (by omega) pre (l ++ post)
  have h2 := tk_all (m := (pre ++ (viB (l.length : Int) ++ (l ++ post))).length) (i := pre.length + (viB (l.length : Int)).length) (n := l.length) (by simp only [List.length_append]; omega)
  have e : pre ++ (txB l ++ post) = pre ++ (viB (l.length : Int) ++ (l ++ post)) := by unfold txB; rw [List.append_assoc]
  rw [e]
  simp only [byM, h1, Int.toNat_natCast, tkI, h2, if_pos]
  rw [show pre ++ (viB (l.length : Int) ++ (l ++ post)) = (pre ++ viB (l.length : Int)) ++ (l ++ post) by rw [List.append_assoc], show pre.length + (viB (l.length : Int)).length = (pre ++ viB (l.length : Int)).length by rw [List.length_append], List.drop_left, List.take_left]
  unfold txB
  simp only [List.length_append, Nat.add_assoc]
section
variable {α β γ : Type} {m1 : List (BitVec 8) → Nat × Int → (Nat × Int) × α} {m2 : List (BitVec 8) → Nat × Int → (Nat × Int) × β} {l1 l2 : List (BitVec 8)} {x1 : α} {x2 : β}
def seqM (m1 : List (BitVec 8) → Nat × Int → (Nat × Int) × α) (m2 : List (BitVec 8) → Nat × Int → (Nat × Int) × β) (f : α → β → γ) (b : List (BitVec 8)) (s : Nat × Int) : (Nat × Int) × γ := ((m2 b (m1 b s).1).1, f (m1 b s).2 (m2 b (m1 b s).1).2)
theorem Rds.seq (h1 : Rds m1 l1 x1) (h2 : Rds m2 l2 x2) (f : α → β → γ) : Rds (seqM m1 m2 f) (l1 ++ l2) (f x1 x2) := fun pre post => by
  have e1 := h1 pre (l2 ++ post)
  have e2 := h2 (pre ++ l1) post
  rw [List.length_append, List.append_assoc] at e2
  unfold seqM
  rw [List.append_assoc, e1, e2, List.length_append, Nat.add_assoc]
theorem Cut.seq (h1 : Cut m1 l1) (r1 : Rds m1 l1 x1) (h2 : Cut m2 l2) (s2 : Stay m2) (f : α → β → γ) : Cut (seqM m1 m2 f) (l1 ++ l2) := fun pre t u he hu => by
  unfold seqM
  rcases List.append_eq_append_iff.1 he with ⟨a, ha, hb⟩ | ⟨a, ha, hb⟩
  · -- t = l1 ++ a, l2 = a ++ u
    subst ha
    have e1 := r1 pre a
    have e2 := h2 (pre ++ l1) a u hb hu
    rw [List.length_append, List.append_assoc] at e2
    rw [e1]
    exact e2
  · -- l1 = t ++ a, u = a ++ l2
    by_cases h0 : a = []
    · subst h0
      rw [List.append_nil] at ha
      subst ha
      have e1 := r1 pre []
      rw [List.append_nil] at e1
      have e2 := h2 (pre ++ l1) [] l2 rfl (by rw [List.nil_append] at hb; rw [← hb]; exact hu)
      rw [List.length_append, List.append_nil] at e2
      rw [e1]
      exact e2
    · have e1 := h1 pre t a ha h0
      have h10 : (m1 (pre ++ t) (pre.length, 0)).1.2 ≠ 0 := by rw [e1]; decide
      have e2 := s2 (pre ++ t) (m1 (pre ++ t) (pre.length, 0)).1.1 _ h10
      rw [show (m1 (pre ++ t) (pre.length, 0)).1 = ((m1 (pre ++ t) (pre.length, 0)).1.1, (m1 (pre ++ t) (pre.length, 0)).1.2) from rfl, e2]
      exact e1
theorem Rds.as {m m' : List (BitVec 8) → Nat × Int → (Nat × Int) × α} {l l' : List (BitVec 8)} {x x' : α} (h : Rds m l x) (hm : ∀ b s, m' b s = m b s) (hl : l' = l) (hx : x' = x) : Rds m' l' x' := fun pre post => by rw [hl, hx, hm]; exact h pre post
theorem Cut.as {m m' : List (BitVec 8) → Nat × Int → (Nat × Int) × α} {l l' : List (BitVec 8)} (h : Cut m l) (hm : ∀ b s, m' b s = m b s) (hl : l' = l) : Cut m' l' := fun pre t u he hu => by rw [hm]; rw [hl] at he; exact h pre t u he hu
end
theorem rds_rows {α : Type} {g : List (BitVec 8) → Nat × Int → (Nat × Int) × α} {enc : α → List (BitVec 8)} : ∀ (ms : List α), (∀ m ∈ ms, Rds g (enc m) m) → Rds (fun b s => rowsM (g b) ms.length s) (ms.flatMap enc) ms
  | [], _ => fun pre post => by simp [qdb]
  | m :: ms, h => fun pre post => by
    have e1 := h m (List.mem_cons_self ..) pre (ms.flatMap enc ++ post)
    have e2 := rds_rows ms (fun x hx => h x (List.mem_cons_of_mem _ hx)) (pre ++ enc m) post
    rw [List.flatMap_cons, List.append_assoc, List.length_cons]
    show rowsM _ _ _ = _
    rw [qdc _ _ rfl, e1]
    simp only [List.append_assoc, List.length_append] at e2 ⊢
    rw [e2, Nat.add_assoc]
theorem rds_al {α : Type} {g : List (BitVec 8) → Nat × Int → (Nat × Int) × α} {enc : α → List (BitVec 8)} {ms : List α} (hl : ms.length ≤ 60000) (h : ∀ m ∈ ms, Rds g (enc m) m) : Rds (fun b s => rowsM (g b) (nM b 60000 s).2.toNat (nM b 60000 s).1) (alB enc ms) ms := fun pre post => by
  have e1 := rds_n (n := (ms.length : Int)) (most := 60000) (by omega) (by omega) (by omega) pre (ms.flatMap enc ++ post)
  simp only at e1
  have e2 := rds_rows ms h (pre ++ viB (ms.length : Int)) post
  unfold alB
  rw [List.append_assoc]
  show rowsM _ _ _ = _
  rw [e1, Int.toNat_natCast]
  simp only [List.append_assoc, List.length_append] at e2 ⊢
  rw [e2, Nat.add_assoc]
theorem rds_us {m : MUs} (h0 : 0 ≤ m.acc) (h1 : m.acc ≤ 1099511627776) (hn : m.name.length ≤ 60000) : Rds usM (usB m) m :=
  (((rds_by hn).seq (rds_n h0 h1 (by omega)) Prod.mk).seq (rds_tr m.sure) (fun p s => (⟨p.1, p.2, s⟩ : MUs))).as (fun _ _ => rfl) rfl rfl
theorem rds_uss {ms : List MUs} (hl : ms.length ≤ 60000) (h : ∀ m ∈ ms, 0 ≤ m.acc ∧ m.acc ≤ 1099511627776 ∧ m.name.length ≤ 60000) : Rds ussM (alB usB ms) ms := rds_al hl fun m hm => rds_us (h m hm).1 (h m hm).2.1 (h m hm).2.2
theorem rdUs_back {ms : List MUs} (hl : ms.length ≤ 60000) (h : ∀ m ∈ ms, 0 ≤ m.acc ∧ m.acc ≤ 1099511627776 ∧ m.name.length ≤ 60000) (hb : (alB usB ms).length ≤ 60000) : rdUs (alB usB ms) = (ms, 0) := by
  have e := rds_uss hl h [] []
  rw [List.nil_append, List.append_nil, List.length_nil, Nat.zero_add] at e
  have hs : (alB usB ms, (0 : Int)) = qb0 (alB usB ms) := by unfold qb0; rw [if_neg (by omega)]
  unfold rdUs
  rw [← hs]
  have hE : endM (alB usB ms).length (alB usB ms).length 0 = 0 := by unfold endM; rw [if_neg (fun h => absurd h.2 (Nat.lt_irrefl _))]
  simp only [e, hE, if_pos]
end Go.Proofs.YtcgbgmbnagmohaaGreat
namespace Go.Proofs.YtcgbgmbnagmohaaGreat
open Go.RowKit
set_option maxRecDepth 20000
attribute [local irreducible] wpList
theorem kn1 : alB usB [⟨[97], 300, true⟩] = [1, 1, 97, 172, 2, 1] := by decide +kernel
theorem kn2 : rdUs [1, 1, 97, 172, 2, 1] = ([⟨[97], 300, true⟩], 0) := by rfl
theorem kn3 : rdLs [] = (zLs, 10) := by rfl
theorem kn5 : strOf [1, 1, 97, 172, 2, 1] = ⟨#[1, 1, 97, 172, 2, 1]⟩ := by rfl
theorem enters_kn10 : Enters 5 := qan Tryz.func5 (by kernel_rfl) rfl
set_option maxHeartbeats 8000000 in
theorem known10_any (w : World) : Calls Tryz.prog 5 #[] w fun e w' => e = .returned (.bool true) ∧ Below w.heap.size w w' := by
  have E := Lib.hid (Ev.start (w := w) (F := fun _ => True) fun _ _ => trivial)
  obtain ⟨us, hus⟩ : ∃ us : List MUs, us = [⟨[97], 300, true⟩] := ⟨_, rfl⟩
  obtain ⟨B, hB⟩ : ∃ B : List (BitVec 8), B = [1, 1, 97, 172, 2, 1] := ⟨_, rfl⟩
  have hul : us.length = 1 := by rw [hus]; rfl
  have K1 : Hid (alB usB us = B) := Lib.hid (by rw [hus, hB]; exact kn1)
  have K2 : Hid (rdUs B = (us, 0)) := Lib.hid (by rw [hus, hB]; exact kn2)
  have KB : Hid (strOf B = ⟨#[1, 1, 97, 172, 2, 1]⟩) := Lib.hid (by rw [hB]; exact kn5)
  have HU := Lib.hid hus
  have hBl : B.length ≤ 100000000000 := by rw [hB]; decide
  clear hB hus
  go_enter Tryz.func5, Tryz.ntmps5
  go_upto_region 0 with fail; refine wp_region_lit ?_
  refine qaa (qak (v := .bool false) rfl rfl) rfl ?_; (try simp only [Act.put, List.setIfInBounds_toArray, List.set_cons_zero])
  refine qab ?_
  go_upto_region 1 with fail; refine wp_region_lit ?_
  refine qaa (qa7 (cells := (usR (.string ⟨#[97]⟩) (.int .i64 300) (.bool true)).toArray) (ps := [(0, .string ⟨#[97]⟩), (1, .int .i64 300), (2, .bool true)]) rfl rfl (usR_all rfl rfl rfl)) rfl ?_; (try simp only [Act.put, lyy])
  refine qaa (qcg (m := usR (.string ⟨#[97]⟩) (.int .i64 300) (.bool true)) (z := 3) (zv := .agg ([.string ⟨#[]⟩, .int .i64 0, .bool false] : List Value).toArray) rfl Tryz.underlying63 (by kernel_rfl) rfl qcx (by omega) (by omega)) rfl ?_; (try simp only [Act.put, lyy])
  have HA := Lib.hid (Arr.new w (usR (.string ⟨#[97]⟩) (.int .i64 300) (.bool true)) 88)
  replace E := Lib.hid (E.out.new (usR (.string ⟨#[97]⟩) (.int .i64 300) (.bool true)) 88)
  generalize w.alloc (.cells (usR (.string ⟨#[97]⟩) (.int .i64 300) (.bool true)).toArray 88) = a1 at *
  obtain ⟨g1, hg1⟩ : ∃ k, k = w.heap.size := ⟨_, rfl⟩
  rw [← hg1] at E HA ⊢
  clear hg1
  have HS : Hid (Fro 0 (SlR 3 usAt us (some ⟨g1, 0, none⟩) 1) a1) := Lib.hid (by rw [HU.out]; exact slR_sole HA.out qcx fun _ _ => rfl)
  have HC : Hid (Calls Tryz.prog 30 #[.slice (some ⟨g1, 0, none⟩) 1 1] a1 fun e w' => ∃ v', e = .returned v' ∧ S5 a1 v' B w') := Lib.hid (by
    have h := xUss_any a1 us (some ⟨g1, 0, none⟩) 1 (by omega) HS.out (by rw [K1.out]; exact hBl)
    rw [K1.out, hul] at h
    exact h)
  refine qag (qaq enters_xUss rfl rfl rfl) rfl HC.out (fun v2 a2 hR => ?_); (try simp only [Act.put, lyy])
  have hs9 := hR.sl
  obtain ⟨ax, cx, rfl, -, -⟩ := id hs9
  replace E := Lib.hid (E.out.call hR.bl (fro_sl hR.O))
  clear hR hs9 HS HC HA
  refine qaa (qak (v := .slice ax B.length cx) rfl rfl) rfl ?_; (try simp only [Act.put, lyy])
  refine qab ?_
  go_upto_region 2 with fail; refine wp_region_lit ?_
  refine qaa (qad (v := .slice ax B.length cx) rfl rfl) rfl ?_; (try simp only [Act.put, lyy])
  refine qag (qaq enters_ryUs rfl rfl rfl) rfl (ryUs_any ax B cx us 0 K2.out _ E.out.h.1) (fun v3 a3 hR => ?_); (try simp only [Act.put, lyy])
  obtain ⟨⟨ay, cy, rfl, fy⟩, hb⟩ := hR
  rw [hul]
  replace E := Lib.hid (E.out.call hb fy)
  clear hb fy
  refine qaa (qad (v := .tuple #[.slice ay 1 cy, .int .u16 0]) rfl rfl) rfl ?_; (try simp only [Act.put, lyy])
  refine qaa (qbt (v := .slice ay 1 cy) rfl rfl rfl) rfl ?_; (try simp only [Act.put, lyy])
  refine qaa (qbt (v := .int .u16 0) rfl rfl rfl) rfl ?_; (try simp only [Act.put, lyy])
  refine qaa (qak (v := .slice ay 1 cy) rfl rfl) rfl ?_; (try simp only [Act.put, lyy])
  refine qaa (qak (v := .int .u16 0) rfl rfl) rfl ?_; (try simp only [Act.put, lyy])
  refine qab ?_
  go_upto_region 3 with fail; refine wp_region_lit ?_
  refine qag (qaq enters_ryLs rfl rfl rfl) rfl (ryLs_any none [] 0 zLs 10 kn3 _ (sl_nilR _)) (fun v4 a4 hR => ?_); (try simp only [Act.put, lyy])
  obtain ⟨⟨X, rfl, lX, oX, fX⟩, hb⟩ := hR
  replace E := Lib.hid (E.out.call hb fX)
  clear hb fX
  refine qaa (qad (v := .tuple #[.agg X.toArray, .int .u16 10]) rfl rfl) rfl ?_; (try simp only [Act.put, lyy])
  refine qaa (qbt (v := .agg X.toArray) rfl rfl rfl) rfl ?_; (try simp only [Act.put, lyy])
  refine qaa (qbt (v := .int .u16 10) rfl rfl rfl) rfl ?_; (try simp only [Act.put, lyy])
  refine qaa (qa3 (vs := lsR ((.int .i64 0)) ((.int .i64 0)) (z8 32) ((.slice none 0 0)) (z8 64)) rfl (by kernel_rfl)) rfl ?_; (try simp only [Act.put, lyy])
  replace E := Lib.hid (E.out.new (lsR ((.int .i64 0)) ((.int .i64 0)) (z8 32) ((.slice none 0 0)) (z8 64)) 32)
  generalize a4.alloc (.cells (lsR ((.int .i64 0)) ((.int .i64 0)) (z8 32) ((.slice none 0 0)) (z8 64)).toArray 32) = a5 at *
  generalize a4.heap.size = g5 at *
  refine qal (qa0 (vs := X) rfl (szR lX (by kernel_rfl)) rfl rfl (One.all oX) ((E.out.get (i := 0) rfl).thereM (by have q1 : (lsR ((.int .i64 0)) ((.int .i64 0)) (z8 32) ((.slice none 0 0)) (z8 64) : List Value).length = 99 := (qas (qac 32) (qac 64)); omega))) rfl rfl ?_
  replace E := Lib.hid (E.out.put 0 rfl (m := X) (lX.trans (show (lsR ((.int .i64 0)) ((.int .i64 0)) (z8 32) ((.slice none 0 0)) (z8 64) : List Value).length = 99 from (qas (qac 32) (qac 64))).symm))
  generalize a5.setCells g5 0 X = a6 at *
  refine qaa (qak (v := .int .u16 10) rfl rfl) rfl ?_; (try simp only [Act.put, lyy])
  refine qab ?_
  have hY := E.out.h.2.1
  obtain ⟨g, f, cs, rfl, -, hcl, hcr, hct⟩ := slR_at hY (i := 0) (by omega)
  have hcs : cs = usR (.string ⟨#[97]⟩) (.int .i64 300) (.bool true) := by
    have h := hct
    have e : us[0]'(by omega) = ⟨[97], 300, true⟩ := by simp only [HU.out, List.getElem_cons_zero]
    rw [e] at h
    exact h
  subst hcs
  have HCR : Hid (a6.rangeAt g (f + 0 * 3) (usR (.string ⟨#[97]⟩) (.int .i64 300) (.bool true))) := Lib.hid hcr
  have HSl := Lib.hid E.out.h.2.2.1
  have HBl := Lib.hid E.out.bl
  clear hcr hct hY hcl
  go_upto_region 4 with fail; refine wp_region_lit ?_
  refine qaa (qad (v := .slice ax B.length cx) rfl rfl) rfl ?_; (try simp only [Act.put, lyy])
  refine qaa (run_str rfl rfl HSl.out) rfl ?_; (try simp only [Act.put, lyy])
  rw [KB.out]
  refine qaa (run_eqstr rfl rfl rfl) rfl ?_; (try simp only [Act.put, lyy])
  refine qaa (qad (v := .bool true) rfl rfl) rfl ?_; (try simp only [Act.put, lyy])
  refine qae (qad (v := .int .u16 0) rfl rfl) rfl ?_; (try simp only [Act.put, lyy])
  refine qae (qbp (c := true) rfl rfl rfl rfl) rfl ?_; (try simp only [Act.put, lyy])
  refine qaa (qaw (b := true) (v := .bool true) rfl rfl rfl) rfl ?_; (try simp only [Act.put, lyy])
  refine qaa (qad (v := .bool true) rfl rfl) rfl ?_; (try simp only [Act.put, lyy])
  refine qae (qad (v := .slice (some _) 1 cy) rfl rfl) rfl ?_; (try simp only [Act.put, lyy])
  refine qae (qa4 rfl Tryz.underlying63 rfl) rfl ?_; (try simp only [Act.put, lyy])
  refine qae (qbp (c := true) rfl rfl rfl rfl) rfl ?_; (try simp only [Act.put, lyy])
  refine qaa (qaw (b := true) (v := .bool true) rfl rfl rfl) rfl ?_; (try simp only [Act.put, lyy])
  refine qaa (qad (v := .bool true) rfl rfl) rfl ?_; (try simp only [Act.put, lyy])
  refine qae (qad (v := .slice (some ⟨g, f, none⟩) 1 cy) rfl rfl) rfl ?_; (try simp only [Act.put, lyy])
  refine qae (qca (z := 3) (i := 0) rfl Tryz.underlying63 (by kernel_rfl) rfl rfl (by omega)) rfl ?_; (try simp only [Act.put, lyy])
  refine qae (qat (vs := usR (.string ⟨#[97]⟩) (.int .i64 300) (.bool true)) rfl Tryz.underlying88 rfl (szR qcx (by kernel_rfl)) rfl HCR.out) rfl ?_; (try simp only [Act.put, lyy])
  refine qae (qa7 (cells := (usR (.string ⟨#[97]⟩) (.int .i64 300) (.bool true)).toArray) (ps := [(0, .string ⟨#[97]⟩), (1, .int .i64 300), (2, .bool true)]) rfl rfl (usR_all rfl rfl rfl)) rfl ?_; (try simp only [Act.put, lyy])
  refine qae (run_eqlA (r := true) rfl (by kernel_rfl) rfl rfl ((eqUs_in a6).trans (by simp))) rfl ?_; (try simp only [Act.put, lyy])
  refine qaa (qaw (b := true) (v := .bool true) rfl rfl rfl) rfl ?_; (try simp only [Act.put, lyy])
  refine qaa (qad (v := .bool true) rfl rfl) rfl ?_; (try simp only [Act.put, lyy])
  refine qae (qad (v := .int .u16 10) rfl rfl) rfl ?_; (try simp only [Act.put, lyy])
  refine qae (qbp (c := true) rfl rfl rfl rfl) rfl ?_; (try simp only [Act.put, lyy])
  refine qaa (qaw (b := true) (v := .bool true) rfl rfl rfl) rfl ?_; (try simp only [Act.put, lyy])
  refine qaa (qak (v := .bool true) rfl rfl) rfl ?_; (try simp only [Act.put, List.setIfInBounds_toArray, List.set_cons_zero])
  refine qab ?_
  go_wp2_with fail
  go_ret
  exact ⟨rfl, HBl.out⟩
end Go.Proofs.YtcgbgmbnagmohaaGreat
namespace Go.Proofs.YtcgbgmbnagmohaaGreat
open Go.RowKit
set_option maxRecDepth 20000
section
variable {α β : Type} {m1 : List (BitVec 8) → Nat × Int → (Nat × Int) × α} {k : α → List (BitVec 8) → Nat × Int → (Nat × Int) × β} {l1 l2 : List (BitVec 8)} {x1 : α}
def bindM (m1 : List (BitVec 8) → Nat × Int → (Nat × Int) × α) (k : α → List (BitVec 8) → Nat × Int → (Nat × Int) × β) (b : List (BitVec 8)) (s : Nat × Int) : (Nat × Int) × β := k (m1 b s).2 b (m1 b s).1
theorem Cut.bind (h1 : Cut m1 l1) (r1 : Rds m1 l1 x1) (h2 : Cut (k x1) l2) (s2 : ∀ x, Stay (k x)) : Cut (bindM m1 k) (l1 ++ l2) := fun pre t u he hu => by
  unfold bindM
  rcases List.append_eq_append_iff.1 he with ⟨a, ha, hb⟩ | ⟨a, ha, hb⟩
  · subst ha
    have e1 := r1 pre a
    have e2 := h2 (pre ++ l1) a u hb hu
    rw [List.length_append, List.append_assoc] at e2
    rw [e1]
    exact e2
  · by_cases h0 : a = []
    · subst h0
      rw [List.append_nil] at ha
      subst ha
      have e1 := r1 pre []
      rw [List.append_nil] at e1
      have e2 := h2 (pre ++ l1) [] l2 rfl (by rw [List.nil_append] at hb; rw [← hb]; exact hu)
      rw [List.length_append, List.append_nil] at e2
      rw [e1]
      exact e2
    · have e1 := h1 pre t a ha h0
      have h10 : (m1 (pre ++ t) (pre.length, 0)).1.2 ≠ 0 := by rw [e1]; decide
      have e2 := s2 (m1 (pre ++ t) (pre.length, 0)).2 (pre ++ t) (m1 (pre ++ t) (pre.length, 0)).1.1 _ h10
      rw [show (m1 (pre ++ t) (pre.length, 0)).1 = ((m1 (pre ++ t) (pre.length, 0)).1.1, (m1 (pre ++ t) (pre.length, 0)).1.2) from rfl, e2]
      exact e1
end
def Num (n : Int) : Prop := 0 ≤ n ∧ n ≤ 1099511627776
theorem rds_N {n : Int} (h : Num n) : Rds (fun b => nM b 1099511627776) (viB n) n := rds_n h.1 h.2 (by omega)
structure MPk.Can (m : MPk) : Prop where
  id : Num m.id
  key : m.key.length = 32
structure MHd.Can (m : MHd) : Prop where
  r : m.r.length = 32
  prev : Num m.prev
  n : Num m.n
structure MEv.Can (m : MEv) : Prop where
  fr : Num m.fr
  dev : Num m.dev
  eph : m.eph.length = 32
  signed : Num m.signed
  one : -1 ≤ m.one ∧ m.one ≤ 1099511627775
  head : m.head.Can
  body : m.body.length ≤ 60000
structure MLs.Can (m : MLs) : Prop where
  acc : Num m.acc
  ver : Num m.ver
  ident : m.ident.length = 32
  devs : ∀ p ∈ m.devs, p.Can
  many : m.devs.length ≤ 60000
  sig : m.sig.length = 64
structure MBu.Can (m : MBu) : Prop where
  acc : Num m.acc
  dev : Num m.dev
  ident : m.ident.length = 32
  key : m.key.length = 32
  signed : m.signed.Can
  sig : m.sig.length = 64
  ones : ∀ p ∈ m.ones, p.Can
  many : m.ones.length ≤ 60000
structure MSlot.Can (m : MSlot) : Prop where
  dev : Num m.dev
  signed : m.signed.Can
  sig : m.sig.length = 64
  ones : ∀ p ∈ m.ones, p.Can
  many : m.ones.length ≤ 60000
  last : Num m.last
  mail : ∀ p ∈ m.mail, p.Can
  much : m.mail.length ≤ 60000
structure MRq.Can (m : MRq) : Prop where
  kind : 0 ≤ m.kind ∧ m.kind ≤ 255
  acc : Num m.acc
  dev : Num m.dev
  pin : m.pin.length ≤ 60000
  next : m.next.length ≤ 60000
  name : m.name.length ≤ 60000
  ls : m.ls.Can
  token : m.token.length = 32
  signed : m.signed.Can
  sig : m.sig.length = 64
  ones : ∀ p ∈ m.ones, p.Can
  many : m.ones.length ≤ 60000
  ver : Num m.ver
  items : ∀ p ∈ m.items, Num p.1 ∧ p.2.Can
  much : m.items.length ≤ 60000
structure MRp.Can (m : MRp) : Prop where
  err : 0 ≤ m.err ∧ m.err ≤ 255
  ls : m.ls.Can
  bu : m.bu.Can
  mail : ∀ p ∈ m.mail, p.Can
  much : m.mail.length ≤ 60000
structure MAc.Can (m : MAc) : Prop where
  id : Num m.id
  pin : m.pin.length ≤ 60000
  wrong : Num m.wrong
  till : Num m.till
  ls : m.ls.Can
  slots : ∀ p ∈ m.slots, p.Can
  many : m.slots.length ≤ 60000
  tokens : ∀ p ∈ m.tokens, p.length = 32
  much : m.tokens.length ≤ 60000
theorem rds_pk {m : MPk} (h : m.Can) : Rds pkM (pkB m) m :=
  (((rds_N h.id)).seq (rds_k h.key) (fun p q => (⟨p, q⟩ : MPk))).as (fun _ _ => rfl) rfl rfl
theorem rds_hd {m : MHd} (h : m.Can) : Rds hdM (hdB m) m :=
  ((((rds_k h.r)).seq (rds_N h.prev) Prod.mk).seq (rds_N h.n) (fun p q => (⟨p.1, p.2, q⟩ : MHd))).as (fun _ _ => rfl) rfl rfl
theorem rds_ps {ms : List MPk} (hl : ms.length ≤ 60000) (h : ∀ p ∈ ms, p.Can) : Rds psM (alB pkB ms) ms := rds_al hl fun p hp => rds_pk (h p hp)
theorem rds_en {ms : List MPk} (hl : ms.length ≤ 60000) (h : ∀ p ∈ ms, p.Can) : Rds enM (alB pkB ms) ms := rds_al hl fun p hp => rds_pk (h p hp)
theorem rds_ls {m : MLs} (h : m.Can) : Rds lsM (lsB m) m :=
  ((((((rds_N h.acc)).seq (rds_N h.ver) Prod.mk).seq (rds_k h.ident) Prod.mk).seq (rds_en h.many h.devs) Prod.mk).seq (rds_k h.sig) (fun p q => (⟨p.1.1.1, p.1.1.2, p.1.2, p.2, q⟩ : MLs))).as (fun _ _ => rfl) (lsB_al m) rfl
theorem rds_bu {m : MBu} (h : m.Can) : Rds buM (buB m) m :=
  ((((((((rds_N h.acc)).seq (rds_N h.dev) Prod.mk).seq (rds_k h.ident) Prod.mk).seq (rds_k h.key) Prod.mk).seq (rds_pk h.signed) Prod.mk).seq (rds_k h.sig) Prod.mk).seq (rds_ps h.many h.ones) (fun p q => (⟨p.1.1.1.1.1, p.1.1.1.1.2, p.1.1.1.2, p.1.1.2, p.1.2, p.2, q⟩ : MBu))).as (fun _ _ => rfl) (buB_al m) rfl
theorem oneN_can {n : Int} (h : -1 ≤ n ∧ n ≤ 1099511627775) : oneN n = n + 1 := by unfold oneN; split <;> omega
theorem rds_1 {n : Int} (h : -1 ≤ n ∧ n ≤ 1099511627775) : Rds (fun b => nM b 1099511627776) (viB (oneN n)) (n + 1) := by rw [oneN_can h]; exact rds_n (by omega) (by omega) (by omega)
theorem rds_ev {m : MEv} (h : m.Can) : Rds evM (evB m) m :=
  (((((((((rds_N h.fr)).seq (rds_N h.dev) Prod.mk).seq (rds_tr m.first) Prod.mk).seq (rds_k h.eph) Prod.mk).seq (rds_N h.signed) Prod.mk).seq (rds_1 h.one) Prod.mk).seq (rds_hd h.head) Prod.mk).seq (rds_by h.body) (fun p q => (⟨p.1.1.1.1.1.1, p.1.1.1.1.1.2, p.1.1.1.1.2, p.1.1.1.2, p.1.1.2, p.1.2 - 1, p.2, q⟩ : MEv))).as (fun _ _ => rfl) rfl (by simp)
theorem rds_evs {ms : List MEv} (hl : ms.length ≤ 60000) (h : ∀ p ∈ ms, p.Can) : Rds evsM (alB evB ms) ms := rds_al hl fun p hp => rds_ev (h p hp)
theorem rds_it {m : (Int × MEv)} (h : Num m.1 ∧ m.2.Can) : Rds itM (itB m) m :=
  (((rds_N h.1)).seq (rds_ev h.2) (fun p q => ((p, q)))).as (fun _ _ => rfl) rfl rfl
theorem rds_its {ms : List (Int × MEv)} (hl : ms.length ≤ 60000) (h : ∀ p ∈ ms, Num p.1 ∧ p.2.Can) : Rds itsM (alB itB ms) ms := rds_al hl fun p hp => rds_it (h p hp)
theorem rds_sl {m : MSlot} (h : m.Can) : Rds slM (slB m) m :=
  (((((((rds_N h.dev)).seq (rds_pk h.signed) Prod.mk).seq (rds_k h.sig) Prod.mk).seq (rds_ps h.many h.ones) Prod.mk).seq (rds_N h.last) Prod.mk).seq (rds_evs h.much h.mail) (fun p q => (⟨p.1.1.1.1, p.1.1.1.2, p.1.1.2, p.1.2, p.2, q⟩ : MSlot))).as (fun _ _ => rfl) (slB_al m) rfl
theorem rds_sls {ms : List MSlot} (hl : ms.length ≤ 60000) (h : ∀ p ∈ ms, p.Can) : Rds slsM (alB slB ms) ms := rds_al hl fun p hp => rds_sl (h p hp)
theorem rds_tk {ms : List (List (BitVec 8))} (hl : ms.length ≤ 60000) (h : ∀ p ∈ ms, p.length = 32) : Rds tkM (alB (fun k => k) ms) ms := rds_al hl fun p hp => rds_k (h p hp)
theorem rds_s {n : Int} (h : 0 ≤ n ∧ n ≤ 255) : Rds (fun b => nM b 255) (viB n) n := rds_n h.1 h.2 (by omega)
theorem rds_rq {m : MRq} (h : m.Can) : Rds rdRqA (rqB m) m :=
  ((((((((((((((rds_s h.kind)).seq (rds_N h.acc) Prod.mk).seq (rds_N h.dev) Prod.mk).seq (rds_by h.pin) Prod.mk).seq (rds_by h.next) Prod.mk).seq (rds_by h.name) Prod.mk).seq (rds_ls h.ls) Prod.mk).seq (rds_k h.token) Prod.mk).seq (rds_pk h.signed) Prod.mk).seq (rds_k h.sig) Prod.mk).seq (rds_ps h.many h.ones) Prod.mk).seq (rds_N h.ver) Prod.mk).seq (rds_its h.much h.items) (fun p q => (⟨p.1.1.1.1.1.1.1.1.1.1.1, p.1.1.1.1.1.1.1.1.1.1.2, p.1.1.1.1.1.1.1.1.1.2, p.1.1.1.1.1.1.1.1.2, p.1.1.1.1.1.1.1.2, p.1.1.1.1.1.1.2, p.1.1.1.1.1.2, p.1.1.1.1.2, p.1.1.1.2, p.1.1.2, p.1.2, p.2, q⟩ : MRq))).as (fun _ _ => rfl) (rqB_al m) rfl
theorem rds_rp {m : MRp} (h : m.Can) : Rds rdRpA (rpB m) m :=
  (((((rds_s h.err)).seq (rds_ls h.ls) Prod.mk).seq (rds_bu h.bu) Prod.mk).seq (rds_evs h.much h.mail) (fun p q => (⟨p.1.1, p.1.2, p.2, q⟩ : MRp))).as (fun _ _ => rfl) (rpB_al m) rfl
theorem rds_ac {m : MAc} (h : m.Can) : Rds rdAcA (acB m) m :=
  ((((((((rds_N h.id)).seq (rds_by h.pin) Prod.mk).seq (rds_N h.wrong) Prod.mk).seq (rds_N h.till) Prod.mk).seq (rds_ls h.ls) Prod.mk).seq (rds_sls h.many h.slots) Prod.mk).seq (rds_tk h.much h.tokens) (fun p q => (⟨p.1.1.1.1.1, p.1.1.1.1.2, p.1.1.1.2, p.1.1.2, p.1.2, p.2, q⟩ : MAc))).as (fun _ _ => rfl) (acB_al m) rfl
end Go.Proofs.YtcgbgmbnagmohaaGreat
namespace Go.Proofs.YtcgbgmbnagmohaaGreat
open Go.RowKit
set_option maxRecDepth 20000
attribute [local irreducible] wpList
section
variable {w : World} {ρ : Operand → Value} {o : Oper} {t t' : TypeId} {x y : Operand}
end
end Go.Proofs.YtcgbgmbnagmohaaGreat
namespace Go.Proofs.YtcgbgmbnagmohaaGreat
open Go.RowKit
set_option maxRecDepth 20000
attribute [local irreducible] wpList
theorem chT_le : ∀ k, chT.getD k 0 ≤ 1099511627776 := by
  intro k
  match k with
  | 0 => decide
  | 1 => decide
  | 2 => decide
  | 3 => decide
  | 4 => decide
  | 5 => decide
  | k + 6 => simp [chT]
theorem chN_le (c : List (BitVec 8)) {i : Nat} (hi : i ≤ 1099511627776) : chN c i ≤ 1099511627776 := by
  unfold chN
  split
  · exact hi
  · split
    · exact chT_le _
    · omega
theorem qcf (c : List (BitVec 8)) {i : Nat} (hi : i ≤ 1099511627776) : Num (chN c i : Int) := ⟨by omega, by have := chN_le c hi; omega⟩
theorem chE_can (c : List (BitVec 8)) {k : Nat} (hk : k ≤ 100000) (hc : c.length ≤ 60000) : (chE c k).Can := by
  refine ⟨qcf c (by omega), qcf c (by omega), qap _ _, qcf c (by omega), ?_, ⟨qap _ _, qcf c (by omega), qcf c (by omega)⟩, ?_⟩
  · show -1 ≤ ((min (chN c (k + 5)) 1099511627775 : Nat) : Int) - 1 ∧ ((min (chN c (k + 5)) 1099511627775 : Nat) : Int) - 1 ≤ 1099511627775
    omega
  · show (c.take _).length ≤ 60000
    rw [List.length_take]
    omega
theorem MEv.Can.ok {m : MEv} (h : m.Can) : m.Ok := ⟨h.eph, h.head.r, by have := h.body; omega⟩
end Go.Proofs.YtcgbgmbnagmohaaGreat
namespace Go.Proofs.YtcgbgmbnagmohaaGreat
open Go.RowKit
set_option maxRecDepth 20000
def Onc {α : Type} (m : List (BitVec 8) → Nat × Int → (Nat × Int) × α) (enc : α → List (BitVec 8)) (G : α → Prop) : Prop := ∀ pre rest : List (BitVec 8), (m (pre ++ rest) (pre.length, 0)).1.2 = 0 → ∃ x t, rest = enc x ++ t ∧ m (pre ++ rest) (pre.length, 0) = ((pre.length + (enc x).length, 0), x) ∧ G x
theorem Onc.of {α : Type} {m : List (BitVec 8) → Nat × Int → (Nat × Int) × α} {enc : α → List (BitVec 8)} {G : α → Prop} (h : ∀ pre rest : List (BitVec 8), (m (pre ++ rest) (pre.length, 0)).1.2 = 0 → ∃ x t, rest = enc x ++ t ∧ G x) (hr : ∀ x, G x → Rds m (enc x) x) : Onc m enc G := fun pre rest h0 => by
  obtain ⟨x, t, rfl, hG⟩ := h pre rest h0
  exact ⟨x, t, rfl, hr x hG pre t, hG⟩
section
variable {α β γ : Type} {m1 : List (BitVec 8) → Nat × Int → (Nat × Int) × α} {m2 : List (BitVec 8) → Nat × Int → (Nat × Int) × β} {e1 : α → List (BitVec 8)} {e2 : β → List (BitVec 8)} {G1 : α → Prop} {G2 : β → Prop}
theorem Onc.to {m' : List (BitVec 8) → Nat × Int → (Nat × Int) × β} {enc : β → List (BitVec 8)} {G : β → Prop} (h : Onc m1 e1 G1) (f : α → β) (hm : ∀ b i, m' b (i, 0) = ((m1 b (i, 0)).1, f (m1 b (i, 0)).2)) (he : ∀ x, G1 x → enc (f x) = e1 x) (hG : ∀ x, G1 x → G (f x)) : Onc m' enc G := fun pre rest h0 => by
  rw [hm] at h0
  obtain ⟨x, t, h1, h2, h3⟩ := h pre rest h0
  refine ⟨f x, t, by rw [he x h3]; exact h1, ?_, hG x h3⟩
  rw [hm, h2, he x h3]
end
end Go.Proofs.YtcgbgmbnagmohaaGreat
namespace Go.Proofs.YtcgbgmbnagmohaaGreat
open Go.RowKit
set_option maxRecDepth 20000
theorem alB_len {α : Type} {enc : α → List (BitVec 8)} {K : Nat} : ∀ {ms : List α}, (∀ p ∈ ms, (enc p).length ≤ K) → (alB enc ms).length ≤ 6 + ms.length * K := by
  intro ms h
  have hf : ∀ l : List α, (∀ p ∈ l, (enc p).length ≤ K) → (l.flatMap enc).length ≤ l.length * K := by
    intro l
    induction l with
    | nil => intro _; simp
    | cons a l ih =>
      intro h
      rw [List.flatMap_cons, List.length_append, List.length_cons, Nat.add_mul, Nat.one_mul]
      have := h a (List.mem_cons_self ..)
      have := ih fun p hp => h p (List.mem_cons_of_mem _ hp)
      omega
  have := hf ms h
  have := qbv (ms.length : Int)
  unfold alB
  rw [List.length_append]
  omega
theorem MLs.Can.ok {m : MLs} (h : m.Can) : m.Ok := ⟨h.ident, h.sig, fun p hp => (h.devs p hp).key, h.many⟩
theorem MRq.Can.ok {m : MRq} (h : m.Can) : m.Ok := ⟨h.kind.1, by have := h.kind.2; omega, by have := h.pin; omega, by have := h.next; omega, by have := h.name; omega, h.ls.ok, h.token, h.signed.key, h.sig, fun p hp => (h.ones p hp).key, h.many, fun p hp => (h.items p hp).2.ok, h.much⟩
theorem MRq.Can.one {m : MRq} (h : m.Can) : ∀ p ∈ m.items, -9223372036854775808 ≤ p.2.one := fun p hp => by have := (h.items p hp).2.one; omega
theorem chP_can (c : List (BitVec 8)) {k : Nat} (hk : k ≤ 1000) (i : Nat) (hi : i ≤ 1000) : (chP c k i).Can := ⟨qcf c (by omega), qap _ _⟩
theorem chL_can (c : List (BitVec 8)) : (chL c).Can := by
  refine ⟨qcf c (by omega), qcf c (by omega), qap _ _, fun p hp => ?_, ?_, chS_len _ _⟩
  · obtain ⟨i, hi, rfl⟩ := List.mem_map.1 hp
    have := List.mem_range.1 hi
    have : chN c 5 % 5 < 5 := Nat.mod_lt _ (by omega)
    exact ⟨qcf c (by omega), qap _ _⟩
  · show (chDs c _).length ≤ 60000
    rw [chDs_len]
    omega
theorem chRq_can (c : List (BitVec 8)) (hc : c.length ≤ 60000) : (chRq c).Can := by
  have h0 : chN c 0 % 15 < 15 := Nat.mod_lt _ (by omega)
  have h8 : chN c 8 % 4 < 4 := Nat.mod_lt _ (by omega)
  have h9 : chN c 9 % 3 < 3 := Nat.mod_lt _ (by omega)
  refine ⟨⟨by show (0 : Int) ≤ ((chN c 0 % 15 : Nat) : Int); omega, by show ((chN c 0 % 15 : Nat) : Int) ≤ 255; omega⟩, qcf c (by omega), qcf c (by omega), ?_, by show 0 ≤ 60000; omega, by show 1 ≤ 60000; omega, chL_can c, qap _ _, ⟨qcf c (by omega), qap _ _⟩, chS_len _ _, fun p hp => ?_, ?_, qcf c (by omega), fun p hp => ?_, ?_⟩
  · show (c.take _).length ≤ 60000
    rw [List.length_take]
    omega
  · obtain ⟨i, hi, rfl⟩ := List.mem_map.1 hp
    have := List.mem_range.1 hi
    exact chP_can c (by omega) i (by omega)
  · show (chPs c 8 _).length ≤ 60000
    rw [chPs_len]
    omega
  · obtain ⟨i, hi, rfl⟩ := List.mem_map.1 hp
    have := List.mem_range.1 hi
    exact ⟨qcf c (by omega), chE_can c (by omega) hc⟩
  · show (chIs c _).length ≤ 60000
    rw [chIs_len]
    omega
end Go.Proofs.YtcgbgmbnagmohaaGreat
namespace Go.Proofs.YtcgbgmbnagmohaaGreat
open Go.RowKit
set_option maxRecDepth 20000
theorem beginM_le {b : List (BitVec 8)} (h : b.length ≤ 60000) : qb0 b = (b, 0) := by unfold qb0; rw [if_neg (by omega)]
theorem lsB_small {m : MLs} (h : m.Can) (hn : m.devs.length ≤ 100) : (lsB m).length ≤ 4200 := by
  have i := alB_len (enc := pkB) (K := 38) (ms := m.devs) fun p hp => pkB_len (h.devs p hp).key
  have := qbv m.acc
  have := qbv m.ver
  have := h.ident
  have := h.sig
  rw [lsB_al]
  simp only [List.length_append]
  omega
theorem chL_devs (c : List (BitVec 8)) : (chL c).devs.length ≤ 100 := by
  show (chDs c _).length ≤ 100
  rw [chDs_len]
  omega
theorem chSl_can (c : List (BitVec 8)) (hc : c.length ≤ 60000) {i : Nat} (hi : i ≤ 100) : (chSl c i).Can := by
  have h8 : chN c (7 + i) % 4 < 4 := Nat.mod_lt _ (by omega)
  refine ⟨qcf c (by omega), ⟨qcf c (by omega), rfl⟩, rfl, fun p hp => ?_, ?_, qcf c (by omega), fun p hp => ?_, by show 1 ≤ 60000; omega⟩
  · obtain ⟨k, hk, rfl⟩ := List.mem_map.1 hp
    have := List.mem_range.1 hk
    exact chP_can c (by omega) k (by omega)
  · show (chPs c (7 + i) _).length ≤ 60000
    rw [chPs_len]
    omega
  · obtain rfl := List.mem_singleton.1 hp
    exact chE_can c (by omega) hc
theorem chAc_can (c : List (BitVec 8)) (hc : c.length ≤ 60000) : (chAc c).Can := by
  have h4 : chN c 4 % 4 < 4 := Nat.mod_lt _ (by omega)
  have h1 : chN c 1 % 3 < 3 := Nat.mod_lt _ (by omega)
  refine ⟨qcf c (by omega), by show 2 ≤ 60000; omega, ⟨by show (0 : Int) ≤ ((chN c 1 % 3 : Nat) : Int); omega, by show ((chN c 1 % 3 : Nat) : Int) ≤ 1099511627776; omega⟩, qcf c (by omega), chL_can c, fun p hp => ?_, ?_, fun p hp => ?_, ?_⟩
  · obtain ⟨k, hk, rfl⟩ := List.mem_map.1 hp
    have := List.mem_range.1 hk
    exact chSl_can c hc (by omega)
  · show (chSs c _).length ≤ 60000
    rw [chSs_len]
    omega
  · obtain ⟨k, hk, rfl⟩ := List.mem_map.1 hp
    exact qap _ _
  · show (chTs c _).length ≤ 60000
    rw [chTs_len]
    omega
theorem chAc_one (c : List (BitVec 8)) (hc : c.length ≤ 60000) : ∀ s ∈ (chAc c).slots, ∀ p ∈ s.mail, -9223372036854775808 ≤ p.one := fun s hs p hp => by
  have := (((chAc_can c hc).slots s hs).mail p hp).one
  omega
end Go.Proofs.YtcgbgmbnagmohaaGreat
namespace Go.Proofs.YtcgbgmbnagmohaaGreat
open Go.RowKit
set_option maxRecDepth 20000
theorem endM_eq (n : Nat) : endM n (0 + n) 0 = 0 := by unfold endM; rw [if_neg (by omega)]
theorem rdLs_back {m : MLs} (h : m.Can) (hl : (lsB m).length ≤ 60000) : rdLs (lsB m) = (m, 0) := by
  have q := rds_ls h [] []
  rw [List.nil_append, List.append_nil] at q
  have q2 : rdLsA (lsB m) (0, 0) = ((0 + (lsB m).length, 0), m) := q
  unfold rdLs
  rw [beginM_le hl]
  simp only [q2, endM_eq]
  rfl
theorem rdEv_back {m : MEv} (h : m.Can) (hl : (evB m).length ≤ 60000) : rdEv (evB m) = (m, 0) := by
  have q := rds_ev h [] []
  rw [List.nil_append, List.append_nil] at q
  have q2 : rdEvA (evB m) (0, 0) = ((0 + (evB m).length, 0), m) := q
  unfold rdEv
  rw [beginM_le hl]
  simp only [q2, endM_eq]
  rfl
theorem rdRq_back {m : MRq} (h : m.Can) (hl : (rqB m).length ≤ 60000) : rdRq (rqB m) = (m, 0) := by
  have q := rds_rq h [] []
  rw [List.nil_append, List.append_nil] at q
  have q2 : rdRqA (rqB m) (0, 0) = ((0 + (rqB m).length, 0), m) := q
  unfold rdRq
  rw [beginM_le hl]
  simp only [q2, endM_eq]
  rfl
theorem rdRp_back {m : MRp} (h : m.Can) (hl : (rpB m).length ≤ 60000) : rdRp (rpB m) = (m, 0) := by
  have q := rds_rp h [] []
  rw [List.nil_append, List.append_nil] at q
  have q2 : rdRpA (rpB m) (0, 0) = ((0 + (rpB m).length, 0), m) := q
  unfold rdRp
  rw [beginM_le hl]
  simp only [q2, endM_eq]
  rfl
theorem rdAc_back {m : MAc} (h : m.Can) (hl : (acB m).length ≤ 60000) : rdAc (acB m) = (m, 0) := by
  have q := rds_ac h [] []
  rw [List.nil_append, List.append_nil] at q
  have q2 : rdAcA (acB m) (0, 0) = ((0 + (acB m).length, 0), m) := q
  unfold rdAc
  rw [beginM_le hl]
  simp only [q2, endM_eq]
  rfl
theorem chE_b9 (c : List (BitVec 8)) (k : Nat) : (chE c k).body.length ≤ 9 := by
  show (c.take (min c.length (chN c (k + 9) % 10))).length ≤ 9
  have := Nat.mod_lt (chN c (k + 9)) (show 0 < 10 by omega)
  rw [List.length_take]
  omega
theorem evB_b9 {m : MEv} (h : m.Can) (hb : m.body.length ≤ 9) : (evB m).length ≤ 209 := by
  have := evB_len h.ok
  omega
theorem chRq_len (c : List (BitVec 8)) (hc : c.length ≤ 60000) : (rqB (chRq c)).length ≤ 50000 := by
  have h := chRq_can c hc
  have hit : (chRq c).items.length ≤ 2 := by show (chIs c _).length ≤ 2; rw [chIs_len]; omega
  have hon : (chRq c).ones.length ≤ 3 := by show (chPs c 8 _).length ≤ 3; rw [chPs_len]; omega
  have hpin : (chRq c).pin.length ≤ 3 := by show (c.take (min c.length 3)).length ≤ 3; rw [List.length_take]; omega
  have hnx : (chRq c).next.length = 0 := rfl
  have hnm : (chRq c).name.length = 1 := rfl
  have hls : (lsB (chRq c).ls).length ≤ 4200 := lsB_small h.ls (chL_devs c)
  have i1 := alB_len (enc := itB) (K := 300) (ms := (chRq c).items) fun p hp => by
    have := qbv p.1
    have := evB_b9 (h.items p hp).2 (by
      obtain ⟨i, _, rfl⟩ := List.mem_map.1 hp
      exact chE_b9 c _)
    unfold itB
    rw [List.length_append]
    omega
  have i2 := alB_len (enc := pkB) (K := 38) (ms := (chRq c).ones) fun p hp => pkB_len (h.ones p hp).key
  have := pkB_len h.signed.key
  have := qbv (chRq c).kind
  have := qbv (chRq c).acc
  have := qbv (chRq c).dev
  have := qbv (chRq c).ver
  have := qbv ((chRq c).pin.length : Int)
  have := qbv ((chRq c).next.length : Int)
  have := qbv ((chRq c).name.length : Int)
  have := h.token
  have := h.sig
  generalize chRq c = m at *
  rw [rqB_al]
  simp only [List.length_append, txB]
  omega
theorem chSl_len (c : List (BitVec 8)) (hc : c.length ≤ 60000) {i : Nat} (hi : i ≤ 100) : (slB (chSl c i)).length ≤ 800 := by
  have h := chSl_can c hc hi
  have hon : (chSl c i).ones.length ≤ 3 := by show (chPs c (7 + i) _).length ≤ 3; rw [chPs_len]; omega
  have hml : (chSl c i).mail.length = 1 := rfl
  have i1 := alB_len (enc := evB) (K := 209) (ms := (chSl c i).mail) fun p hp => evB_b9 (h.mail p hp) (by obtain rfl := List.mem_singleton.1 hp; exact chE_b9 c _)
  have i2 := alB_len (enc := pkB) (K := 38) (ms := (chSl c i).ones) fun p hp => pkB_len (h.ones p hp).key
  have := pkB_len h.signed.key
  have := qbv (chSl c i).dev
  have := qbv (chSl c i).last
  have := h.sig
  generalize chSl c i = m at *
  rw [slB_al]
  simp only [List.length_append]
  omega
theorem chAc_len (c : List (BitVec 8)) (hc : c.length ≤ 60000) : (acB (chAc c)).length ≤ 50000 := by
  have h := chAc_can c hc
  have hsl : (chAc c).slots.length ≤ 3 := by show (chSs c _).length ≤ 3; rw [chSs_len]; omega
  have htk : (chAc c).tokens.length ≤ 3 := by show (chTs c _).length ≤ 3; rw [chTs_len]; omega
  have hpin : (chAc c).pin.length = 2 := rfl
  have hls : (lsB (chAc c).ls).length ≤ 4200 := lsB_small h.ls (chL_devs c)
  have i1 := alB_len (enc := slB) (K := 800) (ms := (chAc c).slots) fun p hp => by
    obtain ⟨k, hk, rfl⟩ := List.mem_map.1 hp
    have := List.mem_range.1 hk
    exact chSl_len c hc (by omega)
  have i2 := alB_len (enc := fun k : List (BitVec 8) => k) (K := 32) (ms := (chAc c).tokens) fun p hp => by rw [h.tokens p hp]; exact Nat.le_refl _
  have := qbv (chAc c).id
  have := qbv (chAc c).wrong
  have := qbv (chAc c).till
  have := qbv ((chAc c).pin.length : Int)
  generalize chAc c = m at *
  rw [acB_al]
  simp only [List.length_append, txB]
  omega
theorem evs_le {ms : List MEv} {B : Nat} (e : 12 + (ms.flatMap evB).length ≤ B) : (evsB ms ms.length).length ≤ B := by
  unfold evsB
  rw [List.take_length]
  simp only [List.length_append]
  have := qbv (ms.length : Int)
  omega
theorem chAc_fit (c : List (BitVec 8)) (hc : c.length ≤ 60000) : (chAc c).Ok := by
  have h := chAc_can c hc
  refine ⟨by have := h.pin; omega, h.ls.ok, fun p hp => ?_, h.many, h.tokens, h.much⟩
  have hs := h.slots p hp
  refine ⟨hs.signed.key, hs.sig, fun q hq => (hs.ones q hq).key, hs.many, fun q hq => (hs.mail q hq).ok, hs.much, ?_⟩
  obtain ⟨k, hk, rfl⟩ := List.mem_map.1 hp
  have h4 := List.mem_range.1 hk
  have h5 : chN c 4 % 4 < 4 := Nat.mod_lt _ (by omega)
  have e := chSl_len c hc (i := k) (by omega)
  rw [slB_al] at e
  simp only [List.length_append, alB] at e
  exact evs_le (by omega)
theorem chBu_can (c : List (BitVec 8)) : (chRp c).bu.Can := by
  have h6 : chN c 6 % 4 < 4 := Nat.mod_lt _ (by omega)
  refine ⟨qcf c (by omega), qcf c (by omega), qap _ _, qap _ _, ⟨qcf c (by omega), rfl⟩, rfl, fun p hp => ?_, ?_⟩
  · obtain ⟨k, hk, rfl⟩ := List.mem_map.1 hp
    have := List.mem_range.1 hk
    exact chP_can c (by omega) k (by omega)
  · show (chPs c 6 _).length ≤ 60000
    rw [chPs_len]
    omega
theorem chRp_can (c : List (BitVec 8)) (hc : c.length ≤ 60000) : (chRp c).Can := by
  have h0 : chN c 0 % 60 < 60 := Nat.mod_lt _ (by omega)
  have h7 : chN c 7 % 3 < 3 := Nat.mod_lt _ (by omega)
  refine ⟨⟨by show (0 : Int) ≤ ((chN c 0 % 60 : Nat) : Int); omega, by show ((chN c 0 % 60 : Nat) : Int) ≤ 255; omega⟩, chL_can c, chBu_can c, fun p hp => ?_, ?_⟩
  · obtain ⟨i, hi, rfl⟩ := List.mem_map.1 hp
    have := List.mem_range.1 hi
    exact chE_can c (by omega) hc
  · show (chMs c _).length ≤ 60000
    rw [chMs_len]
    omega
theorem chRp_len (c : List (BitVec 8)) (hc : c.length ≤ 60000) : (rpB (chRp c)).length ≤ 50000 := by
  have h := chRp_can c hc
  have hml : (chRp c).mail.length ≤ 2 := by show (chMs c _).length ≤ 2; rw [chMs_len]; omega
  have hon : (chRp c).bu.ones.length ≤ 3 := by show (chPs c 6 _).length ≤ 3; rw [chPs_len]; omega
  have hls : (lsB (chRp c).ls).length ≤ 4200 := lsB_small h.ls (chL_devs c)
  have i1 := alB_len (enc := evB) (K := 209) (ms := (chRp c).mail) fun p hp => evB_b9 (h.mail p hp) (by obtain ⟨i, _, rfl⟩ := List.mem_map.1 hp; exact chE_b9 c _)
  have i2 := alB_len (enc := pkB) (K := 38) (ms := (chRp c).bu.ones) fun p hp => pkB_len (h.bu.ones p hp).key
  have := pkB_len h.bu.signed.key
  have := qbv (chRp c).err
  have := qbv (chRp c).bu.acc
  have := qbv (chRp c).bu.dev
  have := h.bu.ident
  have := h.bu.key
  have := h.bu.sig
  generalize chRp c = m at *
  rw [rpB_al, buB_al]
  simp only [List.length_append]
  omega
theorem chRp_fit (c : List (BitVec 8)) (hc : c.length ≤ 60000) : (chRp c).Ok := by
  have h := chRp_can c hc
  refine ⟨h.err.1, by have := h.err.2; omega, h.ls.ok, ⟨h.bu.ident, h.bu.key, h.bu.signed.key, h.bu.sig, fun p hp => (h.bu.ones p hp).key, h.bu.many⟩, fun p hp => (h.mail p hp).ok, h.much, ?_⟩
  have e := chRp_len c hc
  rw [rpB_al] at e
  simp only [List.length_append, alB] at e
  exact evs_le (by omega)
theorem chRp_one (c : List (BitVec 8)) (hc : c.length ≤ 60000) : ∀ p ∈ (chRp c).mail, -9223372036854775808 ≤ p.one := fun p hp => by have := ((chRp_can c hc).mail p hp).one; omega
theorem chUs_can (c : List (BitVec 8)) {n : Nat} (hn : n ≤ 6) : ∀ m ∈ chUs c n, 0 ≤ m.acc ∧ m.acc ≤ 1099511627776 ∧ m.name.length ≤ 60000 := fun m hm => by
  obtain ⟨i, hi, rfl⟩ := List.mem_map.1 hm
  have := List.mem_range.1 hi
  have q := qcf c (i := i) (by omega)
  exact ⟨q.1, q.2, by show 1 ≤ 60000; omega⟩
theorem chUs_fit (c : List (BitVec 8)) {n : Nat} (hn : n ≤ 6) : (alB usB (chUs c n)).length ≤ 50000 := by
  have i1 := alB_len (enc := usB) (K := 20) (ms := chUs c n) fun p hp => by
    obtain ⟨i, hi, rfl⟩ := List.mem_map.1 hp
    have := qbv (chU c i).acc
    have := qbv ((chU c i).name.length : Int)
    have e : (chU c i).name.length = 1 := rfl
    have e2 : (trB (chU c i).sure).length = 1 := rfl
    unfold usB txB
    simp only [List.length_append]
    omega
  rw [chUs_len] at i1
  omega
theorem chL_len (c : List (BitVec 8)) : (lsB (chL c)).length ≤ 50000 := by have := lsB_small (chL_can c) (chL_devs c); omega
theorem chE_len (c : List (BitVec 8)) (hc : c.length ≤ 60000) : (evB (chE c 0)).length ≤ 50000 := by have := evB_b9 (chE_can c (k := 0) (by omega) hc) (chE_b9 c 0); omega
end Go.Proofs.YtcgbgmbnagmohaaGreat
