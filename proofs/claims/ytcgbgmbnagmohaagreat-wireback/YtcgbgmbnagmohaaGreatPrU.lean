import Derived.Test.YtcgbgmbnagmohaaGreatLy
import Derived.Test.YtcgbgmbnagmohaaGreatPr3
import Derived.Test.YtcgbgmbnagmohaaGreatPrC
namespace Go.Proofs.YtcgbgmbnagmohaaGreat
open Go.RowKit
set_option maxRecDepth 20000
attribute [local irreducible] wpList
theorem enters_rusr : Enters 147 := qan Tryz.func147 (by kernel_rfl) rfl
set_option maxHeartbeats 8000000 in
theorem rusr_any (B p : Nat) (b : List (BitVec 8)) (i i' : Nat) (e' : Int) (x : MUs) (u : World) (H : usM b (i, 0) = ((i', e'), x)) (R : RdS B p b i u) : Calls Tryz.prog 147 #[.pointer (some ⟨p, 0, none⟩)] u (RPost B p b u (i', e') fun v u' => ∃ X : List Value, v = .agg X.toArray ∧ X.length = 3 ∧ One X ∧ Fro u.heap.size (usAt x X) u') := by
  rcases H1 : byM b (i, 0) with ⟨⟨i1, e1⟩, x1⟩
  rcases H2 : nM b 1099511627776 (i1, e1) with ⟨⟨i2, e2⟩, x2⟩
  have S2 : Hid (e1 ≠ 0 → e2 = e1) := Lib.hid fun h => by have q := qbu (most := 1099511627776) (b := b) (i := i1) h; rw [H2] at q; exact congrArg Prod.snd q
  rcases H3 : trM b (i2, e2) with ⟨⟨i3, e3⟩, x3⟩
  have S3 : Hid (e2 ≠ 0 → e3 = e2) := Lib.hid fun h => by have q := trM_stay (b := b) (i := i2) h; rw [H3] at q; exact congrArg Prod.snd q
  simp only [usM, H1, H2, H3, Prod.mk.injEq] at H
  obtain ⟨⟨rfl, rfl⟩, rfl⟩ := H
  have E := Lib.hid (Rm.start R)
  clear R
  go_enter Tryz.func147, Tryz.ntmps147
  go_upto_region 0 with fail; refine wp_region_lit ?_
  refine qaa (qa3 (vs := usR ((.string ⟨#[]⟩)) ((.int .i64 0)) ((.bool false))) rfl (by kernel_rfl)) rfl ?_; (try simp only [Act.put, lyy])
  replace E := Lib.hid (E.out.new (usR ((.string ⟨#[]⟩)) ((.int .i64 0)) ((.bool false))) 88)
  generalize u.alloc (.cells (usR ((.string ⟨#[]⟩)) ((.int .i64 0)) ((.bool false))).toArray 88) = a1 at *
  obtain ⟨g2, hg0⟩ : ∃ k, k = u.heap.size := ⟨_, rfl⟩
  rw [← hg0] at E ⊢
  clear hg0
  refine qab ?_
  go_upto_region 1 with fail; refine wp_region_lit ?_
  refine qaa (qad (v := .pointer (some ⟨p, 0, none⟩)) rfl rfl) rfl ?_; (try simp only [Act.put, lyy])
  refine qaj (qaq enters_rtxt rfl rfl rfl) rfl (rtxt_any B p b i i1 e1 x1 _ H1 E.out.rd) (fun v1 a3 hs hk hr hT => ?_) (fun a3 hs hk => ?pana3)
  case pana3 =>
    go_wp2_with fail
    replace hs : e1 ≠ 0 := hs
    have t2 := S2.out
    have t3 := S3.out
    have q : e3 = e1 := by omega
    exact ⟨rfl, E.out.panic hk, .inr ⟨by rw [q]; exact hs, by simp only [q]⟩⟩
  (try simp only [Act.put, lyy])
  replace hs : e1 = 0 := hs
  subst hs
  subst hT
  replace E := Lib.hid (E.out.call hk hr (H0 := fun _ => True) (fun _ _ => trivial))
  clear hk hr
  refine qaa (qad (v := .pointer (some ⟨p, 0, none⟩)) rfl rfl) rfl ?_; (try simp only [Act.put, lyy])
  refine qaj (qaq qbh rfl rfl rfl) rfl (qb2 B p b i1 i2 e2 x2 _ H2 E.out.rd) (fun v2 a4 hs hk hr hT => ?_) (fun a4 hs hk => ?pana4)
  case pana4 =>
    go_wp2_with fail
    replace hs : e2 ≠ 0 := hs
    have t3 := S3.out
    have q : e3 = e2 := by omega
    exact ⟨rfl, E.out.panic hk, .inr ⟨by rw [q]; exact hs, by simp only [q]⟩⟩
  (try simp only [Act.put, lyy])
  replace hs : e2 = 0 := hs
  subst hs
  subst hT
  replace E := Lib.hid (E.out.call hk hr (H0 := fun _ => True) (fun _ _ => trivial))
  clear hk hr
  refine qaa (qad (v := .pointer (some ⟨p, 0, none⟩)) rfl rfl) rfl ?_; (try simp only [Act.put, lyy])
  refine qaj (qaq enters_rtru rfl rfl rfl) rfl (rtru_any B p b i2 i3 e3 x3 _ H3 E.out.rd) (fun v3 a5 hs hk hr hT => ?_) (fun a5 hs hk => ?pana5)
  case pana5 =>
    go_wp2_with fail
    exact ⟨rfl, E.out.panic hk, .inr ⟨hs, rfl⟩⟩
  (try simp only [Act.put, lyy])
  replace hs : e3 = 0 := hs
  subst hs
  subst hT
  replace E := Lib.hid (E.out.call hk hr (H0 := fun _ => True) (fun _ _ => trivial))
  clear hk hr
  refine qaa (qa7 (cells := (usR (.string (strOf x1)) (.int .i64 x2) (.bool x3)).toArray) (ps := [(0, .string (strOf x1)), (1, .int .i64 x2), (2, .bool x3)]) rfl rfl (usR_all rfl rfl rfl)) rfl ?_; (try simp only [Act.put, lyy])
  refine qal (qa0 (vs := usR (.string (strOf x1)) (.int .i64 x2) (.bool x3)) rfl (szR qcx (by kernel_rfl)) rfl rfl (One.all (usR_one rfl rfl rfl)) ((E.out.get (i := 0) rfl).thereM (by have q1 : (usR (.string (strOf x1)) (.int .i64 x2) (.bool x3)).length = 3 := qcx; have q2 : (usR ((.string ⟨#[]⟩)) ((.int .i64 0)) ((.bool false))).length = 3 := qcx; omega))) rfl rfl ?_
  replace E := Lib.hid (E.out.put 0 rfl (m := usR (.string (strOf x1)) (.int .i64 x2) (.bool x3)) ((show (usR (.string (strOf x1)) (.int .i64 x2) (.bool x3)).length = 3 from qcx).trans (show (usR ((.string ⟨#[]⟩)) ((.int .i64 0)) ((.bool false))).length = 3 from qcx).symm))
  generalize a5.setCells g2 0 (usR (.string (strOf x1)) (.int .i64 x2) (.bool x3)) = a6 at *
  replace E := Lib.hid (show Rm _ _ _ _ _ [(g2, usR (.string (strOf x1)) (.int .i64 x2) (.bool x3))] _ a6 from E.out)
  refine qab ?_
  go_wp2_with fail
  exact bodyPost_ret (v := .agg (usR (.string (strOf x1)) (.int .i64 x2) (.bool x3)).toArray) (qbj Tryz.results147 rfl Tryz.underlying88 rfl (szR qcx (by kernel_rfl)) (E.out.get (i := 0) rfl).range) rfl ⟨E.out.kp, .inl ⟨(by first | rfl | exact hs), E.out.rd, _, rfl, _, rfl, qcx, (usR_one rfl rfl rfl), fun V hV => rfl⟩⟩
theorem enters_ralU : Enters 146 := qan Tryz.func146 (by kernel_rfl) rfl
set_option maxHeartbeats 8000000 in
theorem ralU_any (B p : Nat) (b : List (BitVec 8)) (i i' : Nat) (e' : Int) (x : List MUs) (u : World) (H : ussM b (i, 0) = ((i', e'), x)) (R : RdS B p b i u) : Calls Tryz.prog 146 #[.pointer (some ⟨p, 0, none⟩), .func (.func 147) #[] #[]] u (RPost B p b u (i', e') fun v u' => ∃ a c, v = .slice a x.length c ∧ Fro u.heap.size (SlR 3 usAt x a c) u') := by
  rcases HN : nM b 60000 (i, 0) with ⟨⟨i0, e0⟩, N⟩
  have hn0 := nM_num (b := b) (most := 60000) (s := (i, 0)) (by omega)
  rw [HN] at hn0
  obtain ⟨n, hn⟩ : ∃ n : Nat, N = (n : Int) := ⟨N.toNat, by omega⟩
  subst hn
  have hnn : n ≤ 60000 := by have := hn0.2; simp only at this; omega
  clear hn0
  simp only [ussM, HN, Int.toNat_natCast] at H
  have S1 : Hid (e0 ≠ 0 → e' = e0) := Lib.hid fun h => by rw [qcd _ _ (by exact h)] at H; exact (congrArg (fun z => z.1.2) H).symm
  have HH := Lib.hid H
  have HR := Lib.hid R
  clear H R
  go_enter Tryz.func146, Tryz.ntmps146
  go_upto_region 0 with fail; refine wp_region_lit ?_
  refine qaa (qak (v := .slice none 0 0) rfl rfl) rfl ?_; (try simp only [Act.put, lyy])
  refine qab ?_
  go_upto_region 1 with fail; refine wp_region_lit ?_
  refine qaa (qak (v := .slice none 0 0) rfl rfl) rfl ?_; (try simp only [Act.put, lyy])
  refine qab ?_
  have E := Lib.hid ((Rg.start HR.out 88 3).know (H0 := LR usAt [] []) fun V _ => LR.nil V)
  go_upto_region 2 with fail; refine wp_region_lit ?_
  refine qaa (qad (v := .pointer (some ⟨p, 0, none⟩)) rfl rfl) rfl ?_; (try simp only [Act.put, lyy])
  refine qaj (qaq qcr rfl rfl rfl) rfl (rcnt_any B p b i i0 e0 _ _ HN E.out.rd) (fun v a1 hs hk hr hT => ?_) (fun a1 hs hk => ?pana1)
  case pana1 =>
    go_wp2_with fail
    have q := S1.out hs
    exact ⟨rfl, E.out.kp.trans hk, .inr ⟨by rw [q]; exact hs, by simp only [q]⟩⟩
  (try simp only [Act.put, lyy])
  subst hT
  replace hs : e0 = 0 := hs
  subst hs
  replace E := Lib.hid ((E.out.call hk hr (H0 := fun _ => True) fun _ _ => trivial).know (H0 := LR usAt [] []) fun V h => h.2)
  clear hk hr S1 HR
  refine qaa (qad (v := .int .i64 0) rfl rfl) rfl ?_; (try simp only [Act.put, lyy])
  refine qab ?_
  go_wp2_with fail
  go_loopw [5, 8] (fun s5 s8 a => ∃ (k q : Nat) (l : List MUs) (css : List (List Value)), s8 = .int .i64 (k : Int) ∧ k ≤ n ∧ k = l.length ∧ (∀ y ∈ css, y.length = 3) ∧ (rowsM (usM b) n (i0, 0) = ((rowsM (usM b) (n - k) (q, 0)).1, l ++ (rowsM (usM b) (n - k) (q, 0)).2)) ∧ Rg u B p b q 88 3 s5 k css.flatten (LR usAt l css) a) (fun _ s8 _ => ((n : Int) - intOf s8).toNat)
  case atStart => exact ⟨0, i0, [], [], rfl, by omega, rfl, (fun _ h => by cases h), by simp, E.out⟩
  case round =>
    obtain ⟨k, q, l, css, rfl, hkn, hkl, hq, hrow, hJ⟩ := hrel
    replace E := Lib.hid hJ
    have HQ := Lib.hid hq
    have HRW := Lib.hid hrow
    clear hJ hq hrow
    by_cases hkn2 : k = n
    · subst hkn2
      have HX : Hid (((i', e'), x) = ((q, (0 : Int)), l)) := Lib.hid (by rw [← HH.out, HRW.out, Nat.sub_self, qdb, List.append_nil])
      simp only [Prod.mk.injEq] at HX
      obtain ⟨⟨rfl, rfl⟩, rfl⟩ := HX.out
      go_upto_region 3 with fail; refine wp_region_lit ?_
      refine qaa (qay (c := false) rfl rfl rfl (decide_eq_false (by omega))) rfl ?_; (try simp only [Act.put, lyy])
      refine qab ?_
      go_upto_region 6 with fail; refine wp_region_lit ?_
      refine qaa (qad (v := u5) rfl rfl) rfl ?_; (try simp only [Act.put, lyy])
      refine qaa (qak (v := u5) rfl rfl) rfl ?_; (try simp only [Act.put, lyy])
      refine qab ?_
      have HF : Hid (Fro u.heap.size (fun V => ∃ a' c', u5 = .slice a' x.length c' ∧ SlR 3 usAt x a' c' V) wr) := Lib.hid fun V hV => qc5 (E.out.tell V hV).1 hkl (E.out.tell V hV).2.1 HQ.out (E.out.tell V hV).2.2
      obtain ⟨a', c', hv6, hS0⟩ := HF.out.now
      subst hv6
      have HF2 : Hid (Fro u.heap.size (SlR 3 usAt x a' c') wr) := Lib.hid fun V hV => by
        obtain ⟨a2, c2, h1, h2⟩ := HF.out V hV
        simp only [Value.slice.injEq] at h1
        obtain ⟨rfl, _, rfl⟩ := h1
        exact h2
      go_wp2_with fail
      exact bodyPost_ret (results_tmp Tryz.results146 _ _ _) rfl ⟨E.out.kp, .inl ⟨rfl, E.out.rd, _, rfl, _, _, rfl, HF2.out⟩⟩
    · obtain ⟨m, hm⟩ : ∃ m, n - k = m + 1 := ⟨n - k - 1, by omega⟩
      have hr2 := HRW.out
      rw [hm, qdc _ _ rfl] at hr2
      rcases HG : usM b (q, 0) with ⟨⟨q1, e1⟩, y⟩
      rw [HG] at hr2
      have S2 : Hid (e1 ≠ 0 → e' = e1) := Lib.hid fun h => by have h9 := HH.out; rw [hr2, qcd _ _ (by exact h)] at h9; exact (congrArg (fun z => z.1.2) h9).symm
      replace HRW := Lib.hid hr2
      clear hr2
      go_upto_region 3 with fail; refine wp_region_lit ?_
      refine qaa (qay (c := true) rfl rfl rfl (decide_eq_true (by omega))) rfl ?_; (try simp only [Act.put, lyy])
      refine qab ?_
      go_upto_region 4 with fail; refine wp_region_lit ?_
      refine qaa (qad (v := u5) rfl rfl) rfl ?_; (try simp only [Act.put, lyy])
      refine qaa (qad (v := .func (.func 147) #[] #[]) rfl rfl) rfl ?_; (try simp only [Act.put, lyy])
      refine qaa (qad (v := .pointer (some ⟨p, 0, none⟩)) rfl rfl) rfl ?_; (try simp only [Act.put, lyy])
      refine qaj (qcc enters_rusr rfl rfl rfl) rfl (rusr_any B p b q q1 e1 y _ HG E.out.rd) (fun v3 a3 hs hk hr hT => ?_) (fun a3 hs hk => ?pana3)
      case pana3 =>
        go_wp2_with fail
        have q := S2.out hs
        exact ⟨rfl, E.out.kp.trans hk, .inr ⟨by rw [q]; exact hs, by simp only [q]⟩⟩
      (try simp only [Act.put, lyy])
      replace hs : e1 = 0 := hs
      subst hs
      obtain ⟨X, rfl, lX, oX, fX⟩ := hT
      replace E := Lib.hid (E.out.call hk hr (H0 := usAt y X) fX)
      clear hk hr S2
      refine qaa (qcg (m := X) (z := 3) (zv := .agg ([.string ⟨#[]⟩, .int .i64 0, .bool false] : List Value).toArray) rfl Tryz.underlying63 (by kernel_rfl) rfl lX (by omega) (by omega)) rfl ?_; (try simp only [Act.put, lyy])
      have A2 := Lib.hid (Arr.new a3 X 88)
      replace E := Lib.hid (E.out.below ((Below.refl a3.heap.size a3).alloc (Nat.le_refl _) (.cells X.toArray 88)))
      generalize a3.alloc (.cells X.toArray 88) = b1 at *
      generalize a3.heap.size = g0 at *
      refine qcw (t := 63) (bw := 32) (zv := .agg ([.string ⟨#[]⟩, .int .i64 0, .bool false] : List Value).toArray) (z := 3) rfl rfl Tryz.underlying63 (by kernel_rfl) rfl (by omega) rfl rfl A2.out.range lX oX (by omega) (by omega) E.out (fun v7 b2 hG => ?_); (try simp only [Act.put, lyy])
      replace E := Lib.hid (hG.know (H0 := LR usAt (l ++ [y]) (css ++ [X])) fun V h => h.2.snoc h.1)
      clear hG A2
      refine qaa (qak (v := v7) rfl rfl) rfl ?_; (try simp only [Act.put, lyy])
      refine qab ?_
      go_upto_region 5 with fail; refine wp_region_lit ?_
      refine qaa (qa6 (a := k) (b := 1) rfl rfl rfl (by omega)) rfl ?_; (try simp only [Act.put, lyy])
      refine qaa (qad (v := .int .i64 ((k + 1 : Nat) : Int)) rfl rfl) rfl ?_; (try simp only [Act.put, lyy])
      refine qab ?_
      go_wp2_with fail
      exact ⟨⟨k + 1, q1, l ++ [y], css ++ [X], rfl, by omega, by rw [List.length_append, ← hkl]; rfl, (fun z hz => (List.mem_append.1 hz).elim (HQ.out z) fun h => by rw [List.mem_singleton.1 h]; exact lX), by rw [HRW.out, show n - (k + 1) = m by omega, List.append_assoc]; rfl, by rw [List.flatten_append, show [X].flatten = X by simp]; exact E.out⟩, by simp [intOf]; omega⟩
theorem enters_russ : Enters 78 := qan Tryz.func78 (by kernel_rfl) rfl
set_option maxHeartbeats 8000000 in
theorem russ_any (B p : Nat) (b : List (BitVec 8)) (i i' : Nat) (e' : Int) (x : List MUs) (u : World) (H : ussM b (i, 0) = ((i', e'), x)) (R : RdS B p b i u) : Calls Tryz.prog 78 #[.pointer (some ⟨p, 0, none⟩)] u (RPost B p b u (i', e') fun v u' => ∃ a c, v = .slice a x.length c ∧ Fro u.heap.size (SlR 3 usAt x a c) u') := by
  have HR := Lib.hid R
  have HH := Lib.hid H
  clear R H
  go_enter Tryz.func78, Tryz.ntmps78
  go_upto_region 0 with fail; refine wp_region_lit ?_
  refine qaa (qak (v := .slice none 0 0) rfl rfl) rfl ?_; (try simp only [Act.put, lyy])
  refine qab ?_
  go_upto_region 1 with fail; refine wp_region_lit ?_
  refine qaa (qad (v := .pointer (some ⟨p, 0, none⟩)) rfl rfl) rfl ?_; (try simp only [Act.put, lyy])
  refine qaj (qaf enters_ralU rfl rfl rfl rfl) rfl (ralU_any B p b i i' e' x _ HH.out HR.out) (fun v a1 hs hk hr hT => ?_) (fun a1 hs hk => ?pana1)
  case pana1 =>
    go_wp2_with fail
    exact ⟨rfl, hk, .inr ⟨hs, rfl⟩⟩
  (try simp only [Act.put, lyy])
  obtain ⟨a2, c2, rfl, f2⟩ := hT
  have HK := Lib.hid hk
  have HR2 := Lib.hid hr
  have HF := Lib.hid f2
  clear hk hr f2
  refine qaa (qak (v := .slice a2 x.length c2) rfl rfl) rfl ?_; (try simp only [Act.put, lyy])
  refine qab ?_
  go_wp2_with fail
  exact bodyPost_ret (results_tmp Tryz.results78 _ _ _) rfl ⟨HK.out, .inl ⟨(by first | exact hs | rfl), HR2.out, _, rfl, _, _, rfl, HF.out⟩⟩
end Go.Proofs.YtcgbgmbnagmohaaGreat
namespace Go.Proofs.YtcgbgmbnagmohaaGreat
open Go.RowKit
set_option maxRecDepth 20000
attribute [local irreducible] wpList
set_option maxHeartbeats 400000 in
theorem caUs_short (g : Nat) (x : Value) (w : World) (hc : w.cell? ⟨g, 0, none⟩ = some x) (hz : w.frozen? ⟨g, 0, none⟩ = false) :
    CallsD Tryz.prog 145 #[.pointer (some ⟨g, 0, none⟩)] (.panicking [{ v := .iface 197 (.agg #[]), recovered := false }]) w fun e u' w' =>
      e = .returned (.tuple #[]) ∧ u' = .panicking [{ v := .iface 197 (.agg #[]), recovered := true }] ∧ w' = w.setCell ⟨g, 0, none⟩ (.int .u16 10) := by
  refine callsD_of_wpS Tryz.func145 rfl fun c₀ cs hu => ?_
  apply wpS_seq
  apply wpS_region
  simp [wpOpsS, go_sem, recoverD, hu, Tryz.ntmps145, Exit.thenS]
  refine wpS_of_wp ?_
  have ht := ta_short
  go_wp2
  simp [bodyPostS, results, Tryz.results145, go_sem]
set_option maxHeartbeats 400000 in
theorem caUs_form (g : Nat) (x : Value) (w : World) (hc : w.cell? ⟨g, 0, none⟩ = some x) (hz : w.frozen? ⟨g, 0, none⟩ = false) :
    CallsD Tryz.prog 145 #[.pointer (some ⟨g, 0, none⟩)] (.panicking [{ v := .iface 200 (.agg #[]), recovered := false }]) w fun e u' w' =>
      e = .returned (.tuple #[]) ∧ u' = .panicking [{ v := .iface 200 (.agg #[]), recovered := true }] ∧ w' = w.setCell ⟨g, 0, none⟩ (.int .u16 11) := by
  refine callsD_of_wpS Tryz.func145 rfl fun c₀ cs hu => ?_
  apply wpS_seq
  apply wpS_region
  simp [wpOpsS, go_sem, recoverD, hu, Tryz.ntmps145, Exit.thenS]
  refine wpS_of_wp ?_
  have ht := ta_form
  go_wp2
  simp [bodyPostS, results, Tryz.results145, go_sem]
set_option maxHeartbeats 400000 in
theorem caUs_idle (g : Nat) (w : World) : CallsD Tryz.prog 145 #[.pointer (some ⟨g, 0, none⟩)] .returning w fun e u' w' => e = .returned (.tuple #[]) ∧ u' = .returning ∧ w' = w := by
  refine callsD_of_wpS Tryz.func145 rfl fun c₀ cs hu => ?_
  apply wpS_seq
  apply wpS_region
  simp [wpOpsS, go_sem, recoverD, hu, Tryz.ntmps145, Exit.thenS]
  refine wpS_of_wp ?_
  go_wp2
  cases c₀
  simp_all [bodyPostS, results, Tryz.results145, go_sem]
theorem caUs_pan (g : Nat) (x : Value) (e : Int) (w : World) (hc : w.cell? ⟨g, 0, none⟩ = some x) (hz : w.frozen? ⟨g, 0, none⟩ = false) : CallsD Tryz.prog 145 #[.pointer (some ⟨g, 0, none⟩)] (.panicking [pan e]) w fun en u' w' => en = .returned (.tuple #[]) ∧ u' = .panicking [panR e] ∧ w' = w.setCell ⟨g, 0, none⟩ (.int .u16 (errOf e)) := by
  by_cases h : e = 10
  · have h1 : pan e = { v := .iface 197 (.agg #[]), recovered := false } := by unfold pan; rw [if_pos h]
    have h2 : panR e = { v := .iface 197 (.agg #[]), recovered := true } := by unfold panR; rw [h1]
    rw [h1, h2, show errOf e = 10 by unfold errOf; rw [if_pos h]]
    exact caUs_short g x w hc hz
  · have h1 : pan e = { v := .iface 200 (.agg #[]), recovered := false } := by unfold pan; rw [if_neg h]
    have h2 : panR e = { v := .iface 200 (.agg #[]), recovered := true } := by unfold panR; rw [h1]
    rw [h1, h2, show errOf e = 11 by unfold errOf; rw [if_neg h]]
    exact caUs_form g x w hc hz
theorem enters_rxUs : Enters 77 := qan Tryz.func77 (by kernel_rfl) rfl
theorem enters_ryUs : Enters 29 := qan Tryz.func29 (by kernel_rfl) rfl
set_option maxHeartbeats 8000000 in
theorem rxUs_any (a0 : Option Addr) (b : List (BitVec 8)) (c0 : Nat) (x : List MUs) (err : Int) (H : rdUs b = (x, err)) (w : World) (hb : Sl (.slice a0 b.length c0) b w) : Calls Tryz.prog 77 #[.slice a0 b.length c0, .func (.func 78) #[] #[]] w fun r w' => ∃ v', r = .returned v' ∧ ((∃ a' c', v' = .tuple #[.slice a' x.length c', .int .u16 err] ∧ Fro w.heap.size (SlR 3 usAt x a' c') w') ∧ Below w.heap.size w w') := by
  rcases HM : ussM b (0, 0) with ⟨⟨q, e⟩, y⟩
  have hok : ok3 e := by have h := ussM_ok (b := b) (s := (0, 0)) (.inl rfl); rw [HM] at h; exact h
  have HX3 : Hid (60000 < b.length → x = [] ∧ err = 3) := Lib.hid fun h => by
    have hz : ussM ([] : List (BitVec 8)) (0, 3) = ussM ([] : List (BitVec 8)) (0, 3) := rfl
    have hs : (ussM ([] : List (BitVec 8)) (0, 3)).1 = (0, 3) := rows_stay _ (show (3 : Int) ≠ 0 by decide)
    simp only [rdUs, qb0, if_pos h] at H
    rw [hs] at H
    simp only [endM, if_neg (fun h : (3 : Int) = 0 ∧ (0 : Nat) < ([] : List (BitVec 8)).length => absurd h.1 (by decide)), if_neg (show ¬ (3 : Int) = 0 by decide), Prod.mk.injEq] at H
    exact ⟨H.1.symm, H.2.symm⟩
  have HX : Hid (¬ 60000 < b.length → if endM b.length q e = 0 then x = y ∧ err = 0 else x = [] ∧ err = endM b.length q e) := Lib.hid fun h => by
    simp only [rdUs, qb0, if_neg h, HM] at H
    by_cases h2 : endM b.length q e = 0
    · rw [if_pos h2] at H ⊢; simp only [Prod.mk.injEq] at H; exact ⟨H.1.symm, H.2.symm⟩
    · rw [if_neg h2] at H ⊢; simp only [Prod.mk.injEq] at H; exact ⟨H.1.symm, H.2.symm⟩
  have HH := Lib.hid HM
  have HS := Lib.hid hb
  clear H HM hb
  have E := Lib.hid (Ev.start (w := w) (F := fun _ => True) fun _ _ => trivial)
  generalize hlen : b.length = m at *
  have HLN := Lib.hid hlen
  clear hlen
  go_enter_defers Tryz.func77, Tryz.ntmps77
  go_upto_region 0 with fail; refine wp_region_lit ?_
  refine qaa (qak (v := .slice none 0 0) rfl rfl) rfl ?_; (try simp only [Act.put, lyy])
  refine qaa (run_alc1 (v := .int .u16 0) rfl (by kernel_rfl) rfl) rfl ?_; (try simp only [Act.put, lyy])
  replace E := Lib.hid (E.out.new ([.int .u16 0]) 49)
  generalize hw0 : w.alloc (.cells ([.int .u16 0] : List Value).toArray 49) = a2 at E ⊢
  clear hw0
  obtain ⟨g2, hg0⟩ : ∃ k, k = w.heap.size := ⟨_, rfl⟩
  rw [← hg0] at E ⊢
  clear hg0
  refine qab ?_
  go_upto_region 1 with fail; refine wp_region_lit ?_
  refine qaa (qad (v := .slice a0 m c0) rfl rfl) rfl ?_; (try simp only [Act.put, lyy])
  refine qaa (qa4 rfl Tryz.underlying22 rfl) rfl ?_; (try simp only [Act.put, lyy])
  by_cases hlong : 60000 < m
  · refine qaa (qbi (c := true) rfl rfl rfl (decide_eq_true (by omega))) rfl ?_; (try simp only [Act.put, lyy])
    refine qab ?_
    go_upto_region 2 with fail; refine wp_region_lit ?_
    refine qaa (qad (v := .slice none 0 0) rfl rfl) rfl ?_; (try simp only [Act.put, lyy])
    refine qaa (qak (v := .slice none 0 0) rfl rfl) rfl ?_; (try simp only [Act.put, lyy])
    refine qal (qb5 (v := .int .u16 3) rfl (by kernel_rfl) rfl rfl rfl rfl ((E.out.get (i := 0) rfl).c 0 _ rfl) ((E.out.get (i := 0) rfl).f 0)) rfl rfl ?_
    replace E := Lib.hid (E.out.set 0 rfl (j := 0) (by show 0 < 1; omega) (.int .u16 3))
    replace E := Lib.hid (show Ev _ [(g2, [.int .u16 3])] _ _ _ _ from E.out)
    generalize a2.setCell ⟨g2, 0, none⟩ (.int .u16 3) = a4 at *
    refine qab ?_
    go_wp2_with fail
    obtain ⟨rfl, rfl⟩ := HX3.out hlong
    exact ⟨_, qde Tryz.results77 rfl rfl Tryz.underlying49 rfl ((E.out.get (i := 0) rfl).c 0 _ rfl), _, rfl, ⟨none, 0, rfl, fun V _ => slR_nil _ _ _⟩, E.out.bl⟩
  · refine qaa (qbi (c := false) rfl rfl rfl (decide_eq_false (by omega))) rfl ?_; (try simp only [Act.put, lyy])
    refine qab ?_
    have hx := HX.out hlong
    clear HX3 HX
    go_upto_region 3 with fail; refine wp_region_lit ?_
    refine qaa (run_mkf (v := .pointer (some ⟨g2, 0, none⟩)) rfl rfl) rfl ?_; (try simp only [Act.put, lyy])
    refine qc7 (d := { target := .fn (.func 145) #[.pointer (some ⟨g2, 0, none⟩)], args := #[] }) (run_defer rfl rfl) rfl ?_; (try simp only [Act.put])
    refine qab ?_
    go_upto_region 4 with fail; refine wp_region_lit ?_
    refine qaa (qad (v := .slice a0 m c0) rfl rfl) rfl ?_; (try simp only [Act.put, lyy])
    refine qaa (qa7 (cells := #[.slice a0 m c0]) (ps := [(0, .slice a0 m c0)]) rfl rfl (by kernel_rfl)) rfl ?_; (try simp only [Act.put, lyy])
    refine qaa (qa3 (vs := [.slice none 0 0]) rfl (by kernel_rfl)) rfl ?_; (try simp only [Act.put, lyy])
    replace E := Lib.hid (E.out.new ([.slice none 0 0]) 199)
    generalize a2.alloc (.cells ([.slice none 0 0] : List Value).toArray 199) = a5 at *
    generalize a2.heap.size = g3 at *
    refine qal (qa0 (vs := [.slice a0 m c0]) rfl (szR (n := 1) rfl (by kernel_rfl)) rfl rfl (One.all (One.cons rfl One.nil)) ((E.out.get (i := 0) rfl).thereM (by show 0 + 1 ≤ 1; omega))) rfl rfl ?_
    replace E := Lib.hid (E.out.put 0 rfl (m := [.slice a0 m c0]) rfl)
    replace E := Lib.hid (show Ev _ [(g3, [.slice a0 m c0]), (g2, [.int .u16 0])] _ _ _ _ from E.out)
    generalize a5.setCells g3 0 [.slice a0 m c0] = a6 at *
    refine qab ?_
    have HR : Hid (RdS a6.heap.size g3 b 0 a6) := Lib.hid (by have hA := E.out.get (i := 0) rfl; have hg := (E.out.mv.all (g3, [.slice a0 m c0]) (List.mem_cons_self ..)).1; have hS := HS.out; have hq := HLN.out; subst hq; exact rdS_new hA E.out.bl hg hS)
    clear HS
    go_upto_region 5 with fail; refine wp_region_lit ?_
    refine qaa (qad (v := .func (.func 78) #[] #[]) rfl rfl) rfl ?_; (try simp only [Act.put, lyy])
    refine qaj (qcc enters_russ rfl rfl rfl) rfl (russ_any _ g3 b 0 q e y _ HH.out HR.out) (fun v a7 hs hk hr hT => ?_) (fun a7 hs hk => ?pana)
    case pana =>
      go_wp2_with fail
      replace hs : e ≠ 0 := hs
      replace E := Lib.hid (E.out.callIn hk (H0 := fun _ => True) fun _ _ => trivial)
      have hen : endM m q e = e := by unfold endM; rw [if_neg (fun h => hs h.1)]
      rw [hen, if_neg hs] at hx
      obtain ⟨rfl, rfl⟩ := hx
      have her := errOf_ok hok hs
      refine leaves_cons (f := 145) (args := #[.pointer (some ⟨g2, 0, none⟩)]) (by simp) (by simp [go_sem]) ?_
      refine (caUs_pan g2 _ err _ ((E.out.get (i := 0) rfl).c 0 _ rfl) ((E.out.get (i := 0) rfl).f 0)).mono ?_
      rintro en u1 w1 ⟨rfl, rfl, rfl⟩
      replace E := Lib.hid (E.out.set 0 rfl (j := 0) (by show 0 < 1; omega) (.int .u16 (errOf err)))
      rw [her] at E
      rw [her]
      replace E := Lib.hid (show Ev _ [(g2, [.int .u16 err])] _ _ _ _ from E.out)
      exact ⟨_, qde Tryz.results77 rfl rfl Tryz.underlying49 rfl ((E.out.get (i := 0) rfl).c 0 _ rfl), _, rfl, ⟨none, 0, rfl, fun V _ => slR_nil _ _ _⟩, E.out.bl⟩
    (try simp only [Act.put, lyy])
    replace hs : e = 0 := hs
    subst hs
    obtain ⟨ax, cx, rfl, fX⟩ := hT
    replace E := Lib.hid (E.out.callIn hk (H0 := SlR 3 usAt y ax cx) fX)
    have HR2 := Lib.hid hr
    clear hk hr HR fX
    refine qaa (qak (v := .slice ax y.length cx) rfl rfl) rfl ?_; (try simp only [Act.put, lyy])
    refine qab ?_
    obtain ⟨hq, -, -, al, cl, hA, -⟩ := HR2.out
    have hdl : (b.drop q).length = m - q := by rw [List.length_drop, HLN.out]
    have HA := Lib.hid hA
    clear hA HR2
    generalize (b.drop q).length = r at *
    go_upto_region 6 with fail; refine wp_region_lit ?_
    refine qaa (qai (s := 0) (k := 0) rfl Tryz.underlying199 rfl (by kernel_rfl) rfl rfl) rfl ?_; (try simp only [Act.put, lyy])
    refine qaa (qam (v := .slice al r cl) rfl Tryz.underlying22 rfl rfl (HA.out.c 0 _ rfl)) rfl ?_; (try simp only [Act.put, lyy])
    refine qaa (qa4 rfl Tryz.underlying22 rfl) rfl ?_; (try simp only [Act.put, lyy])
    by_cases hleft : q < m
    · refine qaa (qbi (c := true) rfl rfl rfl (decide_eq_true (by omega))) rfl ?_; (try simp only [Act.put, lyy])
      refine qab ?_
      have hen : endM m q 0 = 11 := by unfold endM; rw [if_pos ⟨rfl, hleft⟩]
      rw [hen, if_neg nz11] at hx
      obtain ⟨rfl, rfl⟩ := hx
      go_upto_region 7 with fail; refine wp_region_lit ?_
      refine qaa (run_bld (cells := #[]) rfl (by kernel_rfl)) rfl ?_; (try simp only [Act.put, lyy])
      refine qaa (run_mki (v := .agg #[]) rfl (by kernel_rfl) rfl) rfl ?_; (try simp only [Act.put, lyy])
      refine qb3 rfl rfl rfl ?_
      go_wp2_with fail
      refine leaves_cons (f := 145) (args := #[.pointer (some ⟨g2, 0, none⟩)]) (by simp) (by simp [go_sem]) ?_
      refine (caUs_form g2 _ _ ((E.out.get (i := 0) rfl).c 0 _ rfl) ((E.out.get (i := 0) rfl).f 0)).mono ?_
      rintro en u1 w1 ⟨rfl, rfl, rfl⟩
      replace E := Lib.hid (E.out.set 0 rfl (j := 0) (by show 0 < 1; omega) (.int .u16 (11)))
      replace E := Lib.hid (show Ev _ [(g2, [.int .u16 11])] _ _ _ _ from E.out)
      exact ⟨_, qde Tryz.results77 rfl rfl Tryz.underlying49 rfl ((E.out.get (i := 0) rfl).c 0 _ rfl), _, rfl, ⟨none, 0, rfl, fun V _ => slR_nil _ _ _⟩, E.out.bl⟩
    · refine qaa (qbi (c := false) rfl rfl rfl (decide_eq_false (by omega))) rfl ?_; (try simp only [Act.put, lyy])
      refine qab ?_
      have hen : endM m q 0 = 0 := by unfold endM; rw [if_neg (fun h => hleft h.2)]
      rw [hen, if_pos rfl] at hx
      obtain ⟨rfl, rfl⟩ := hx
      go_upto_region 8 with fail; refine wp_region_lit ?_
      refine qaa (qad (v := .slice ax x.length cx) rfl rfl) rfl ?_; (try simp only [Act.put, lyy])
      refine qaa (qak (v := .slice ax x.length cx) rfl rfl) rfl ?_; (try simp only [Act.put, lyy])
      refine qal (qb5 (v := .int .u16 0) rfl (by kernel_rfl) rfl rfl rfl rfl ((E.out.get (i := 0) rfl).c 0 _ rfl) ((E.out.get (i := 0) rfl).f 0)) rfl rfl ?_
      replace E := Lib.hid (E.out.set 0 rfl (j := 0) (by show 0 < 1; omega) (.int .u16 0))
      replace E := Lib.hid (show Ev _ [(g2, [.int .u16 0])] _ _ _ _ from E.out)
      generalize a7.setCell ⟨g2, 0, none⟩ (.int .u16 0) = b2 at *
      refine qab ?_
      go_wp2_with fail
      refine leaves_cons (f := 145) (args := #[.pointer (some ⟨g2, 0, none⟩)]) (by simp) (by simp [go_sem]) ?_
      refine (caUs_idle g2 _).mono ?_
      rintro en u1 w1 ⟨rfl, rfl, rfl⟩
      exact ⟨_, qde Tryz.results77 rfl rfl Tryz.underlying49 rfl ((E.out.get (i := 0) rfl).c 0 _ rfl), _, rfl, ⟨_, _, rfl, fun V hV => (E.out.tell V hV).1⟩, E.out.bl⟩
set_option maxHeartbeats 8000000 in
theorem ryUs_any (a0 : Option Addr) (b : List (BitVec 8)) (c0 : Nat) (x : List MUs) (err : Int) (H : rdUs b = (x, err)) (w : World) (hb : Sl (.slice a0 b.length c0) b w) : Calls Tryz.prog 29 #[.slice a0 b.length c0] w fun r w' => ∃ v', r = .returned v' ∧ ((∃ a' c', v' = .tuple #[.slice a' x.length c', .int .u16 err] ∧ Fro w.heap.size (SlR 3 usAt x a' c') w') ∧ Below w.heap.size w w') := by
  have HC := Lib.hid (rxUs_any a0 b c0 x err H w hb)
  clear H hb
  generalize b.length = m at *
  have E := Lib.hid (Ev.start (w := w) (F := fun _ => True) fun _ _ => trivial)
  clear E
  go_enter Tryz.func29, Tryz.ntmps29
  go_upto_region 0 with fail; refine wp_region_lit ?_
  refine qaa (qak (v := .slice none 0 0) rfl rfl) rfl ?_; (try simp only [Act.put, lyy])
  refine qaa (qak (v := .int .u16 0) rfl rfl) rfl ?_; (try simp only [Act.put, lyy])
  refine qab ?_
  go_upto_region 1 with fail; refine wp_region_lit ?_
  refine qaa (qad (v := .slice a0 m c0) rfl rfl) rfl ?_; (try simp only [Act.put, lyy])
  refine qag (qaf enters_rxUs rfl rfl rfl rfl) rfl HC.out (fun v a2 hR => ?_); (try simp only [Act.put, lyy])
  obtain ⟨⟨ax, cx, rfl, fX⟩, hb⟩ := hR
  have HF := Lib.hid fX
  have HB := Lib.hid hb
  clear fX hb HC
  generalize hxl : x.length = xl at *
  have HXL := Lib.hid hxl
  clear hxl
  refine qaa (qbt (v := .slice ax xl cx) rfl rfl rfl) rfl ?_; (try simp only [Act.put, lyy])
  refine qaa (qbt (v := .int .u16 err) rfl rfl rfl) rfl ?_; (try simp only [Act.put, lyy])
  refine qaa (qak (v := .slice ax xl cx) rfl rfl) rfl ?_; (try simp only [Act.put, lyy])
  refine qaa (qak (v := .int .u16 err) rfl rfl) rfl ?_; (try simp only [Act.put, lyy])
  refine qab ?_
  go_wp2_with fail
  exact bodyPost_ret (results_tmp2 Tryz.results29 _ _ _) rfl ⟨_, rfl, ⟨_, _, by rw [HXL.out]; rfl, HF.out⟩, HB.out⟩
end Go.Proofs.YtcgbgmbnagmohaaGreat
