import Derived.Test.YtgioojahadlmhaaLy
import Derived.Test.YtgioojahadlmhaaPrC
import Derived.Test.YtgioojahadlmhaaPr6
namespace Go.Proofs.Ytgioojahadlmhaa
open Go.RowKit
set_option maxRecDepth 20000
attribute [local irreducible] wpList
set_option maxHeartbeats 400000 in
theorem caUs_short (g : Nat) (x : Value) (w : World) (hc : w.cell? ⟨g, 0, none⟩ = some x) (hz : w.frozen? ⟨g, 0, none⟩ = false) :
    CallsD Try.prog 74 #[.pointer (some ⟨g, 0, none⟩)] (.panicking [{ v := .iface 145 (.agg #[]), recovered := false }]) w fun e u' w' =>
      e = .returned (.tuple #[]) ∧ u' = .panicking [{ v := .iface 145 (.agg #[]), recovered := true }] ∧ w' = w.setCell ⟨g, 0, none⟩ (.int .u16 10) := by
  refine callsD_of_wpS Try.func74 rfl fun c₀ cs hu => ?_
  apply wpS_seq
  apply wpS_region
  simp [wpOpsS, go_sem, recoverD, hu, Try.ntmps74, Exit.thenS]
  refine wpS_of_wp ?_
  have ht := ta_short
  go_wp2
  simp [bodyPostS, results, Try.results74, go_sem]
set_option maxHeartbeats 400000 in
theorem caUs_form (g : Nat) (x : Value) (w : World) (hc : w.cell? ⟨g, 0, none⟩ = some x) (hz : w.frozen? ⟨g, 0, none⟩ = false) :
    CallsD Try.prog 74 #[.pointer (some ⟨g, 0, none⟩)] (.panicking [{ v := .iface 148 (.agg #[]), recovered := false }]) w fun e u' w' =>
      e = .returned (.tuple #[]) ∧ u' = .panicking [{ v := .iface 148 (.agg #[]), recovered := true }] ∧ w' = w.setCell ⟨g, 0, none⟩ (.int .u16 11) := by
  refine callsD_of_wpS Try.func74 rfl fun c₀ cs hu => ?_
  apply wpS_seq
  apply wpS_region
  simp [wpOpsS, go_sem, recoverD, hu, Try.ntmps74, Exit.thenS]
  refine wpS_of_wp ?_
  have ht := ta_form
  go_wp2
  simp [bodyPostS, results, Try.results74, go_sem]
set_option maxHeartbeats 400000 in
theorem caUs_idle (g : Nat) (w : World) : CallsD Try.prog 74 #[.pointer (some ⟨g, 0, none⟩)] .returning w fun e u' w' => e = .returned (.tuple #[]) ∧ u' = .returning ∧ w' = w := by
  refine callsD_of_wpS Try.func74 rfl fun c₀ cs hu => ?_
  apply wpS_seq
  apply wpS_region
  simp [wpOpsS, go_sem, recoverD, hu, Try.ntmps74, Exit.thenS]
  refine wpS_of_wp ?_
  go_wp2
  cases c₀
  simp_all [bodyPostS, results, Try.results74, go_sem]
theorem caUs_pan (g : Nat) (x : Value) (e : Int) (w : World) (hc : w.cell? ⟨g, 0, none⟩ = some x) (hz : w.frozen? ⟨g, 0, none⟩ = false) : CallsD Try.prog 74 #[.pointer (some ⟨g, 0, none⟩)] (.panicking [pan e]) w fun en u' w' => en = .returned (.tuple #[]) ∧ u' = .panicking [panR e] ∧ w' = w.setCell ⟨g, 0, none⟩ (.int .u16 (errOf e)) := by
  by_cases h : e = 10
  · have h1 : pan e = { v := .iface 145 (.agg #[]), recovered := false } := by unfold pan; rw [if_pos h]
    have h2 : panR e = { v := .iface 145 (.agg #[]), recovered := true } := by unfold panR; rw [h1]
    rw [h1, h2, show errOf e = 10 by unfold errOf; rw [if_pos h]]
    exact caUs_short g x w hc hz
  · have h1 : pan e = { v := .iface 148 (.agg #[]), recovered := false } := by unfold pan; rw [if_neg h]
    have h2 : panR e = { v := .iface 148 (.agg #[]), recovered := true } := by unfold panR; rw [h1]
    rw [h1, h2, show errOf e = 11 by unfold errOf; rw [if_neg h]]
    exact caUs_form g x w hc hz
theorem enters_rxUs : Enters 37 := qan Try.func37 (by kernel_rfl) rfl
theorem enters_ryUs : Enters 9 := qan Try.func9 (by kernel_rfl) rfl
set_option maxHeartbeats 8000000 in
theorem rxUs_any (a0 : Option Addr) (b : List (BitVec 8)) (c0 : Nat) (x : List MUs) (err : Int) (H : rdUs b = (x, err)) (w : World) (hb : Sl (.slice a0 b.length c0) b w) : Calls Try.prog 37 #[.slice a0 b.length c0, .func (.func 38) #[] #[]] w fun r w' => ∃ v', r = .returned v' ∧ ((∃ a' c', v' = .tuple #[.slice a' x.length c', .int .u16 err] ∧ Fro w.heap.size (SlR 3 usAt x a' c') w') ∧ Below w.heap.size w w') := by
  rcases HM : ussM b (0, 0) with ⟨⟨q, e⟩, y⟩
  have hok : ok3 e := by have h := ussM_ok (b := b) (s := (0, 0)) (.inl rfl); rw [HM] at h; exact h
  have HX3 : Hid (60000 < b.length → x = [] ∧ err = 3) := Lib.hid fun h => by
    have hz : ussM ([] : List (BitVec 8)) (0, 3) = ussM ([] : List (BitVec 8)) (0, 3) := rfl
    have hs : (ussM ([] : List (BitVec 8)) (0, 3)).1 = (0, 3) := rows_stay _ (show (3 : Int) ≠ 0 by decide)
    simp only [rdUs, qbr, if_pos h] at H
    rw [hs] at H
    simp only [endM, if_neg (fun h : (3 : Int) = 0 ∧ (0 : Nat) < ([] : List (BitVec 8)).length => absurd h.1 (by decide)), if_neg (show ¬ (3 : Int) = 0 by decide), Prod.mk.injEq] at H
    exact ⟨H.1.symm, H.2.symm⟩
  have HX : Hid (¬ 60000 < b.length → if endM b.length q e = 0 then x = y ∧ err = 0 else x = [] ∧ err = endM b.length q e) := Lib.hid fun h => by
    simp only [rdUs, qbr, if_neg h, HM] at H
    by_cases h2 : endM b.length q e = 0
    · rw [if_pos h2] at H ⊢; simp only [Prod.mk.injEq] at H; exact ⟨H.1.symm, H.2.symm⟩
    · rw [if_neg h2] at H ⊢; simp only [Prod.mk.injEq] at H; exact ⟨H.1.symm, H.2.symm⟩
  have HH := Lib.hid HM
  have HS := Lib.hid hb
  clear H HM hb
  have E := Lib.hid (Ev.start (w := w) (F := fun _ => True) fun _ _ => trivial)
  generalize hlen : b.length = m at *
  have HLN := Lib.hid hlen
  clear hlen
  go_enter_defers Try.func37, Try.ntmps37
  go_upto_region 0 with fail; refine wp_region_lit ?_
  refine qaa (qak (v := .slice none 0 0) rfl rfl) rfl ?_; (try simp only [Act.put, lyy])
  refine qaa (run_alc1 (v := .int .u16 0) rfl (by kernel_rfl) rfl) rfl ?_; (try simp only [Act.put, lyy])
  replace E := Lib.hid (E.out.new ([.int .u16 0]) 28)
  generalize hw0 : w.alloc (.cells ([.int .u16 0] : List Value).toArray 28) = a2 at E ⊢
  clear hw0
  obtain ⟨g2, hg0⟩ : ∃ k, k = w.heap.size := ⟨_, rfl⟩
  rw [← hg0] at E ⊢
  clear hg0
  refine qab ?_
  go_upto_region 1 with fail; refine wp_region_lit ?_
  refine qaa (qad (v := .slice a0 m c0) rfl rfl) rfl ?_; (try simp only [Act.put, lyy])
  refine qaa (qbh rfl Try.underlying22 rfl) rfl ?_; (try simp only [Act.put, lyy])
  by_cases hlong : 60000 < m
  · refine qaa (qbc (c := true) rfl rfl rfl (decide_eq_true (by omega))) rfl ?_; (try simp only [Act.put, lyy])
    refine qab ?_
    go_upto_region 2 with fail; refine wp_region_lit ?_
    refine qaa (qad (v := .slice none 0 0) rfl rfl) rfl ?_; (try simp only [Act.put, lyy])
    refine qaa (qak (v := .slice none 0 0) rfl rfl) rfl ?_; (try simp only [Act.put, lyy])
    refine qal (qb2 (v := .int .u16 3) rfl (by kernel_rfl) rfl rfl rfl rfl ((E.out.get (i := 0) rfl).c 0 _ rfl) ((E.out.get (i := 0) rfl).f 0)) rfl rfl ?_
    replace E := Lib.hid (E.out.set 0 rfl (j := 0) (by show 0 < 1; omega) (.int .u16 3))
    replace E := Lib.hid (show Ev _ [(g2, [.int .u16 3])] _ _ _ _ from E.out)
    generalize a2.setCell ⟨g2, 0, none⟩ (.int .u16 3) = a4 at *
    refine qab ?_
    go_wp2_with fail
    obtain ⟨rfl, rfl⟩ := HX3.out hlong
    exact ⟨_, qcl Try.results37 rfl rfl Try.underlying28 rfl ((E.out.get (i := 0) rfl).c 0 _ rfl), _, rfl, ⟨none, 0, rfl, fun V _ => slR_nil _ _ _⟩, E.out.bl⟩
  · refine qaa (qbc (c := false) rfl rfl rfl (decide_eq_false (by omega))) rfl ?_; (try simp only [Act.put, lyy])
    refine qab ?_
    have hx := HX.out hlong
    clear HX3 HX
    go_upto_region 3 with fail; refine wp_region_lit ?_
    refine qaa (run_mkf (v := .pointer (some ⟨g2, 0, none⟩)) rfl rfl) rfl ?_; (try simp only [Act.put, lyy])
    refine wpList_defer (d := { target := .fn (.func 74) #[.pointer (some ⟨g2, 0, none⟩)], args := #[] }) (run_defer rfl rfl) rfl ?_; (try simp only [Act.put])
    refine qab ?_
    go_upto_region 4 with fail; refine wp_region_lit ?_
    refine qaa (qad (v := .slice a0 m c0) rfl rfl) rfl ?_; (try simp only [Act.put, lyy])
    refine qaa (qa8 (cells := #[.slice a0 m c0]) (ps := [(0, .slice a0 m c0)]) rfl rfl (by kernel_rfl)) rfl ?_; (try simp only [Act.put, lyy])
    refine qaa (qa5 (vs := [.slice none 0 0]) rfl (by kernel_rfl)) rfl ?_; (try simp only [Act.put, lyy])
    replace E := Lib.hid (E.out.new ([.slice none 0 0]) 147)
    generalize a2.alloc (.cells ([.slice none 0 0] : List Value).toArray 147) = a5 at *
    generalize a2.heap.size = g3 at *
    refine qal (qa1 (vs := [.slice a0 m c0]) rfl (szR (n := 1) rfl (by kernel_rfl)) rfl rfl (One.all (One.cons rfl One.nil)) ((E.out.get (i := 0) rfl).thereM (by show 0 + 1 ≤ 1; omega))) rfl rfl ?_
    replace E := Lib.hid (E.out.put 0 rfl (m := [.slice a0 m c0]) rfl)
    replace E := Lib.hid (show Ev _ [(g3, [.slice a0 m c0]), (g2, [.int .u16 0])] _ _ _ _ from E.out)
    generalize a5.setCells g3 0 [.slice a0 m c0] = a6 at *
    refine qab ?_
    have HR : Hid (RdS a6.heap.size g3 b 0 a6) := Lib.hid (by have hA := E.out.get (i := 0) rfl; have hg := (E.out.mv.all (g3, [.slice a0 m c0]) (List.mem_cons_self ..)).1; have hS := HS.out; have hq := HLN.out; subst hq; exact rdS_new hA E.out.bl hg hS)
    clear HS
    go_upto_region 5 with fail; refine wp_region_lit ?_
    refine qaa (qad (v := .func (.func 38) #[] #[]) rfl rfl) rfl ?_; (try simp only [Act.put, lyy])
    refine qah (run_callv1 enters_russ rfl rfl rfl) rfl (russ_any _ g3 b 0 q e y _ HH.out HR.out) (fun v a7 hs hk hr hT => ?_) (fun a7 hs hk => ?pana)
    case pana =>
      go_wp2_with fail
      replace hs : e ≠ 0 := hs
      replace E := Lib.hid (E.out.callIn hk (H0 := fun _ => True) fun _ _ => trivial)
      have hen : endM m q e = e := by unfold endM; rw [if_neg (fun h => hs h.1)]
      rw [hen, if_neg hs] at hx
      obtain ⟨rfl, rfl⟩ := hx
      have her := errOf_ok hok hs
      refine leaves_cons (f := 74) (args := #[.pointer (some ⟨g2, 0, none⟩)]) (by simp) (by simp [go_sem]) ?_
      refine (caUs_pan g2 _ err _ ((E.out.get (i := 0) rfl).c 0 _ rfl) ((E.out.get (i := 0) rfl).f 0)).mono ?_
      rintro en u1 w1 ⟨rfl, rfl, rfl⟩
      replace E := Lib.hid (E.out.set 0 rfl (j := 0) (by show 0 < 1; omega) (.int .u16 (errOf err)))
      rw [her] at E
      rw [her]
      replace E := Lib.hid (show Ev _ [(g2, [.int .u16 err])] _ _ _ _ from E.out)
      exact ⟨_, qcl Try.results37 rfl rfl Try.underlying28 rfl ((E.out.get (i := 0) rfl).c 0 _ rfl), _, rfl, ⟨none, 0, rfl, fun V _ => slR_nil _ _ _⟩, E.out.bl⟩
    (try simp only [Act.put, lyy])
    replace hs : e = 0 := hs
    subst hs
    obtain ⟨ax, cx, rfl, fX⟩ := hT
    replace E := Lib.hid (E.out.callIn hk (H0 := SlR 3 usAt y ax cx) fX)
    have HR2 := Lib.hid hr
    clear hk hr HR fX
    refine qaa (qak (v := .slice ax y.length cx) rfl rfl) rfl ?_; (try simp only [Act.put, lyy])
    refine qab ?_
    obtain ⟨hq, -, -, al, cl, hA, -⟩ := HR2.out
    have hdl : (b.drop q).length = m - q := by rw [List.length_drop, HLN.out]
    have HA := Lib.hid hA
    clear hA HR2
    generalize (b.drop q).length = r at *
    go_upto_region 6 with fail; refine wp_region_lit ?_
    refine qaa (qat (s := 0) (k := 0) rfl Try.underlying147 rfl (by kernel_rfl) rfl rfl) rfl ?_; (try simp only [Act.put, lyy])
    refine qaa (qaz (v := .slice al r cl) rfl Try.underlying22 rfl rfl (HA.out.c 0 _ rfl)) rfl ?_; (try simp only [Act.put, lyy])
    refine qaa (qbh rfl Try.underlying22 rfl) rfl ?_; (try simp only [Act.put, lyy])
    by_cases hleft : q < m
    · refine qaa (qbc (c := true) rfl rfl rfl (decide_eq_true (by omega))) rfl ?_; (try simp only [Act.put, lyy])
      refine qab ?_
      have hen : endM m q 0 = 11 := by unfold endM; rw [if_pos ⟨rfl, hleft⟩]
      rw [hen, if_neg nz11] at hx
      obtain ⟨rfl, rfl⟩ := hx
      go_upto_region 7 with fail; refine wp_region_lit ?_
      refine qaa (run_bld (cells := #[]) rfl (by kernel_rfl)) rfl ?_; (try simp only [Act.put, lyy])
      refine qaa (run_mki (v := .agg #[]) rfl (by kernel_rfl) rfl) rfl ?_; (try simp only [Act.put, lyy])
      refine qbt rfl rfl rfl ?_
      go_wp2_with fail
      refine leaves_cons (f := 74) (args := #[.pointer (some ⟨g2, 0, none⟩)]) (by simp) (by simp [go_sem]) ?_
      refine (caUs_form g2 _ _ ((E.out.get (i := 0) rfl).c 0 _ rfl) ((E.out.get (i := 0) rfl).f 0)).mono ?_
      rintro en u1 w1 ⟨rfl, rfl, rfl⟩
      replace E := Lib.hid (E.out.set 0 rfl (j := 0) (by show 0 < 1; omega) (.int .u16 (11)))
      replace E := Lib.hid (show Ev _ [(g2, [.int .u16 11])] _ _ _ _ from E.out)
      exact ⟨_, qcl Try.results37 rfl rfl Try.underlying28 rfl ((E.out.get (i := 0) rfl).c 0 _ rfl), _, rfl, ⟨none, 0, rfl, fun V _ => slR_nil _ _ _⟩, E.out.bl⟩
    · refine qaa (qbc (c := false) rfl rfl rfl (decide_eq_false (by omega))) rfl ?_; (try simp only [Act.put, lyy])
      refine qab ?_
      have hen : endM m q 0 = 0 := by unfold endM; rw [if_neg (fun h => hleft h.2)]
      rw [hen, if_pos rfl] at hx
      obtain ⟨rfl, rfl⟩ := hx
      go_upto_region 8 with fail; refine wp_region_lit ?_
      refine qaa (qad (v := .slice ax x.length cx) rfl rfl) rfl ?_; (try simp only [Act.put, lyy])
      refine qaa (qak (v := .slice ax x.length cx) rfl rfl) rfl ?_; (try simp only [Act.put, lyy])
      refine qal (qb2 (v := .int .u16 0) rfl (by kernel_rfl) rfl rfl rfl rfl ((E.out.get (i := 0) rfl).c 0 _ rfl) ((E.out.get (i := 0) rfl).f 0)) rfl rfl ?_
      replace E := Lib.hid (E.out.set 0 rfl (j := 0) (by show 0 < 1; omega) (.int .u16 0))
      replace E := Lib.hid (show Ev _ [(g2, [.int .u16 0])] _ _ _ _ from E.out)
      generalize a7.setCell ⟨g2, 0, none⟩ (.int .u16 0) = b2 at *
      refine qab ?_
      go_wp2_with fail
      refine leaves_cons (f := 74) (args := #[.pointer (some ⟨g2, 0, none⟩)]) (by simp) (by simp [go_sem]) ?_
      refine (caUs_idle g2 _).mono ?_
      rintro en u1 w1 ⟨rfl, rfl, rfl⟩
      exact ⟨_, qcl Try.results37 rfl rfl Try.underlying28 rfl ((E.out.get (i := 0) rfl).c 0 _ rfl), _, rfl, ⟨_, _, rfl, fun V hV => (E.out.tell V hV).1⟩, E.out.bl⟩
set_option maxHeartbeats 8000000 in
theorem ryUs_any (a0 : Option Addr) (b : List (BitVec 8)) (c0 : Nat) (x : List MUs) (err : Int) (H : rdUs b = (x, err)) (w : World) (hb : Sl (.slice a0 b.length c0) b w) : Calls Try.prog 9 #[.slice a0 b.length c0] w fun r w' => ∃ v', r = .returned v' ∧ ((∃ a' c', v' = .tuple #[.slice a' x.length c', .int .u16 err] ∧ Fro w.heap.size (SlR 3 usAt x a' c') w') ∧ Below w.heap.size w w') := by
  have HC := Lib.hid (rxUs_any a0 b c0 x err H w hb)
  clear H hb
  generalize b.length = m at *
  have E := Lib.hid (Ev.start (w := w) (F := fun _ => True) fun _ _ => trivial)
  clear E
  go_enter Try.func9, Try.ntmps9
  go_upto_region 0 with fail; refine wp_region_lit ?_
  refine qaa (qak (v := .slice none 0 0) rfl rfl) rfl ?_; (try simp only [Act.put, lyy])
  refine qaa (qak (v := .int .u16 0) rfl rfl) rfl ?_; (try simp only [Act.put, lyy])
  refine qab ?_
  go_upto_region 1 with fail; refine wp_region_lit ?_
  refine qaa (qad (v := .slice a0 m c0) rfl rfl) rfl ?_; (try simp only [Act.put, lyy])
  refine qag (qaf enters_rxUs rfl rfl rfl rfl) rfl HC.out (fun v a2 hR => ?_); (try simp only [Act.put, lyy])
  obtain ⟨⟨ax, cx, rfl, fX⟩, hb⟩ := hR
  have HF := Lib.hid fX
  have HB := Lib.hid hb
  clear fX hb HC
  generalize hxl : x.length = xl at *
  have HXL := Lib.hid hxl
  clear hxl
  refine qaa (qb0 (v := .slice ax xl cx) rfl rfl rfl) rfl ?_; (try simp only [Act.put, lyy])
  refine qaa (qb0 (v := .int .u16 err) rfl rfl rfl) rfl ?_; (try simp only [Act.put, lyy])
  refine qaa (qak (v := .slice ax xl cx) rfl rfl) rfl ?_; (try simp only [Act.put, lyy])
  refine qaa (qak (v := .int .u16 err) rfl rfl) rfl ?_; (try simp only [Act.put, lyy])
  refine qab ?_
  go_wp2_with fail
  exact bodyPost_ret (results_tmp2 Try.results9 _ _ _) rfl ⟨_, rfl, ⟨_, _, by rw [HXL.out]; rfl, HF.out⟩, HB.out⟩
end Go.Proofs.Ytgioojahadlmhaa
