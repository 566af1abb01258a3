import Derived.Test.YtgioojahadlmhaaLy
import Derived.Test.YtgioojahadlmhaaPr3
namespace Go.Proofs.Ytgioojahadlmhaa
open Go.RowKit
set_option maxRecDepth 20000
attribute [local irreducible] wpList
theorem enters_rusr : Enters 76 := qan Try.func76 (by kernel_rfl) rfl
set_option maxHeartbeats 8000000 in
theorem rusr_any (B p : Nat) (b : List (BitVec 8)) (i i' : Nat) (e' : Int) (x : MUs) (u : World) (H : usM b (i, 0) = ((i', e'), x)) (R : RdS B p b i u) : Calls Try.prog 76 #[.pointer (some ⟨p, 0, none⟩)] u (RPost B p b u (i', e') fun v u' => ∃ X : List Value, v = .agg X.toArray ∧ X.length = 3 ∧ One X ∧ Fro u.heap.size (usAt x X) u') := by
  rcases H1 : byM b (i, 0) with ⟨⟨i1, e1⟩, x1⟩
  rcases H2 : nM b 1099511627776 (i1, e1) with ⟨⟨i2, e2⟩, x2⟩
  have S2 : Hid (e1 ≠ 0 → e2 = e1) := Lib.hid fun h => by have q := qbb (most := 1099511627776) (b := b) (i := i1) h; rw [H2] at q; exact congrArg Prod.snd q
  rcases H3 : trM b (i2, e2) with ⟨⟨i3, e3⟩, x3⟩
  have S3 : Hid (e2 ≠ 0 → e3 = e2) := Lib.hid fun h => by have q := trM_stay (b := b) (i := i2) h; rw [H3] at q; exact congrArg Prod.snd q
  simp only [usM, H1, H2, H3, Prod.mk.injEq] at H
  obtain ⟨⟨rfl, rfl⟩, rfl⟩ := H
  have E := Lib.hid (Rm.start R)
  clear R
  go_enter Try.func76, Try.ntmps76
  go_upto_region 0 with fail; refine wp_region_lit ?_
  refine qaa (qa5 (vs := usR ((.string ⟨#[]⟩)) ((.int .i64 0)) ((.bool false))) rfl (by kernel_rfl)) rfl ?_; (try simp only [Act.put, lyy])
  replace E := Lib.hid (E.out.new (usR ((.string ⟨#[]⟩)) ((.int .i64 0)) ((.bool false))) 25)
  generalize u.alloc (.cells (usR ((.string ⟨#[]⟩)) ((.int .i64 0)) ((.bool false))).toArray 25) = a1 at *
  obtain ⟨g2, hg0⟩ : ∃ k, k = u.heap.size := ⟨_, rfl⟩
  rw [← hg0] at E ⊢
  clear hg0
  refine qab ?_
  go_upto_region 1 with fail; refine wp_region_lit ?_
  refine qaa (qad (v := .pointer (some ⟨p, 0, none⟩)) rfl rfl) rfl ?_; (try simp only [Act.put, lyy])
  refine qah (qam enters_rtxt rfl rfl rfl) rfl (rtxt_any B p b i i1 e1 x1 _ H1 E.out.rd) (fun v1 a3 hs hk hr hT => ?_) (fun a3 hs hk => ?pana3)
  case pana3 =>
    go_wp2_with fail
    replace hs : e1 ≠ 0 := hs
    have t2 := S2.out
    have t3 := S3.out
    have q : e3 = e1 := by omega
    exact ⟨rfl, E.out.panic hk, .inr ⟨by rw [q]; exact hs, by simp only [q]⟩⟩
  (try simp only [Act.put, lyy])
  replace hs : e1 = 0 := hs
  subst hs
  subst hT
  replace E := Lib.hid (E.out.call hk hr (H0 := fun _ => True) (fun _ _ => trivial))
  clear hk hr
  refine qaa (qad (v := .pointer (some ⟨p, 0, none⟩)) rfl rfl) rfl ?_; (try simp only [Act.put, lyy])
  refine qah (qam qbe rfl rfl rfl) rfl (qb1 B p b i1 i2 e2 x2 _ H2 E.out.rd) (fun v2 a4 hs hk hr hT => ?_) (fun a4 hs hk => ?pana4)
  case pana4 =>
    go_wp2_with fail
    replace hs : e2 ≠ 0 := hs
    have t3 := S3.out
    have q : e3 = e2 := by omega
    exact ⟨rfl, E.out.panic hk, .inr ⟨by rw [q]; exact hs, by simp only [q]⟩⟩
  (try simp only [Act.put, lyy])
  replace hs : e2 = 0 := hs
  subst hs
  subst hT
  replace E := Lib.hid (E.out.call hk hr (H0 := fun _ => True) (fun _ _ => trivial))
  clear hk hr
  refine qaa (qad (v := .pointer (some ⟨p, 0, none⟩)) rfl rfl) rfl ?_; (try simp only [Act.put, lyy])
  refine qah (qam enters_rtru rfl rfl rfl) rfl (rtru_any B p b i2 i3 e3 x3 _ H3 E.out.rd) (fun v3 a5 hs hk hr hT => ?_) (fun a5 hs hk => ?pana5)
  case pana5 =>
    go_wp2_with fail
    exact ⟨rfl, E.out.panic hk, .inr ⟨hs, rfl⟩⟩
  (try simp only [Act.put, lyy])
  replace hs : e3 = 0 := hs
  subst hs
  subst hT
  replace E := Lib.hid (E.out.call hk hr (H0 := fun _ => True) (fun _ _ => trivial))
  clear hk hr
  refine qaa (qa8 (cells := (usR (.string (strOf x1)) (.int .i64 x2) (.bool x3)).toArray) (ps := [(0, .string (strOf x1)), (1, .int .i64 x2), (2, .bool x3)]) rfl rfl (usR_all rfl rfl rfl)) rfl ?_; (try simp only [Act.put, lyy])
  refine qal (qa1 (vs := usR (.string (strOf x1)) (.int .i64 x2) (.bool x3)) rfl (szR usR_len (by kernel_rfl)) rfl rfl (One.all (usR_one rfl rfl rfl)) ((E.out.get (i := 0) rfl).thereM (by have q1 : (usR (.string (strOf x1)) (.int .i64 x2) (.bool x3)).length = 3 := usR_len; have q2 : (usR ((.string ⟨#[]⟩)) ((.int .i64 0)) ((.bool false))).length = 3 := usR_len; omega))) rfl rfl ?_
  replace E := Lib.hid (E.out.put 0 rfl (m := usR (.string (strOf x1)) (.int .i64 x2) (.bool x3)) ((show (usR (.string (strOf x1)) (.int .i64 x2) (.bool x3)).length = 3 from usR_len).trans (show (usR ((.string ⟨#[]⟩)) ((.int .i64 0)) ((.bool false))).length = 3 from usR_len).symm))
  generalize a5.setCells g2 0 (usR (.string (strOf x1)) (.int .i64 x2) (.bool x3)) = a6 at *
  replace E := Lib.hid (show Rm _ _ _ _ _ [(g2, usR (.string (strOf x1)) (.int .i64 x2) (.bool x3))] _ a6 from E.out)
  refine qab ?_
  go_wp2_with fail
  exact bodyPost_ret (v := .agg (usR (.string (strOf x1)) (.int .i64 x2) (.bool x3)).toArray) (qbg Try.results76 rfl Try.underlying25 rfl (szR usR_len (by kernel_rfl)) (E.out.get (i := 0) rfl).range) rfl ⟨E.out.kp, .inl ⟨(by first | rfl | exact hs), E.out.rd, _, rfl, _, rfl, usR_len, (usR_one rfl rfl rfl), fun V hV => rfl⟩⟩
theorem enters_ralU : Enters 75 := qan Try.func75 (by kernel_rfl) rfl
set_option maxHeartbeats 8000000 in
theorem ralU_any (B p : Nat) (b : List (BitVec 8)) (i i' : Nat) (e' : Int) (x : List MUs) (u : World) (H : ussM b (i, 0) = ((i', e'), x)) (R : RdS B p b i u) : Calls Try.prog 75 #[.pointer (some ⟨p, 0, none⟩), .func (.func 76) #[] #[]] u (RPost B p b u (i', e') fun v u' => ∃ a c, v = .slice a x.length c ∧ Fro u.heap.size (SlR 3 usAt x a c) u') := by
  rcases HN : nM b 60000 (i, 0) with ⟨⟨i0, e0⟩, N⟩
  have hn0 := nM_num (b := b) (most := 60000) (s := (i, 0)) (by omega)
  rw [HN] at hn0
  obtain ⟨n, hn⟩ : ∃ n : Nat, N = (n : Int) := ⟨N.toNat, by omega⟩
  subst hn
  have hnn : n ≤ 60000 := by have := hn0.2; simp only at this; omega
  clear hn0
  simp only [ussM, HN, Int.toNat_natCast] at H
  have S1 : Hid (e0 ≠ 0 → e' = e0) := Lib.hid fun h => by rw [qb8 _ _ (by exact h)] at H; exact (congrArg (fun z => z.1.2) H).symm
  have HH := Lib.hid H
  have HR := Lib.hid R
  clear H R
  go_enter Try.func75, Try.ntmps75
  go_upto_region 0 with fail; refine wp_region_lit ?_
  refine qaa (qak (v := .slice none 0 0) rfl rfl) rfl ?_; (try simp only [Act.put, lyy])
  refine qab ?_
  go_upto_region 1 with fail; refine wp_region_lit ?_
  refine qaa (qak (v := .slice none 0 0) rfl rfl) rfl ?_; (try simp only [Act.put, lyy])
  refine qab ?_
  have E := Lib.hid ((Rg.start HR.out 25 3).know (H0 := LR usAt [] []) fun V _ => LR.nil V)
  go_upto_region 2 with fail; refine wp_region_lit ?_
  refine qaa (qad (v := .pointer (some ⟨p, 0, none⟩)) rfl rfl) rfl ?_; (try simp only [Act.put, lyy])
  refine qah (qam enters_rcnt rfl rfl rfl) rfl (rcnt_any B p b i i0 e0 _ _ HN E.out.rd) (fun v a1 hs hk hr hT => ?_) (fun a1 hs hk => ?pana1)
  case pana1 =>
    go_wp2_with fail
    have q := S1.out hs
    exact ⟨rfl, E.out.kp.trans hk, .inr ⟨by rw [q]; exact hs, by simp only [q]⟩⟩
  (try simp only [Act.put, lyy])
  subst hT
  replace hs : e0 = 0 := hs
  subst hs
  replace E := Lib.hid ((E.out.call hk hr (H0 := fun _ => True) fun _ _ => trivial).know (H0 := LR usAt [] []) fun V h => h.2)
  clear hk hr S1 HR
  refine qaa (qad (v := .int .i64 0) rfl rfl) rfl ?_; (try simp only [Act.put, lyy])
  refine qab ?_
  go_wp2_with fail
  go_loopw [5, 8] (fun s5 s8 a => ∃ (k q : Nat) (l : List MUs) (css : List (List Value)), s8 = .int .i64 (k : Int) ∧ k ≤ n ∧ k = l.length ∧ (∀ y ∈ css, y.length = 3) ∧ (rowsM (usM b) n (i0, 0) = ((rowsM (usM b) (n - k) (q, 0)).1, l ++ (rowsM (usM b) (n - k) (q, 0)).2)) ∧ Rg u B p b q 25 3 s5 k css.flatten (LR usAt l css) a) (fun _ s8 _ => ((n : Int) - intOf s8).toNat)
  case atStart => exact ⟨0, i0, [], [], rfl, by omega, rfl, (fun _ h => by cases h), by simp, E.out⟩
  case round =>
    obtain ⟨k, q, l, css, rfl, hkn, hkl, hq, hrow, hJ⟩ := hrel
    replace E := Lib.hid hJ
    have HQ := Lib.hid hq
    have HRW := Lib.hid hrow
    clear hJ hq hrow
    by_cases hkn2 : k = n
    · subst hkn2
      have HX : Hid (((i', e'), x) = ((q, (0 : Int)), l)) := Lib.hid (by rw [← HH.out, HRW.out, Nat.sub_self, rowsM_zero, List.append_nil])
      simp only [Prod.mk.injEq] at HX
      obtain ⟨⟨rfl, rfl⟩, rfl⟩ := HX.out
      go_upto_region 3 with fail; refine wp_region_lit ?_
      refine qaa (qbf (c := false) rfl rfl rfl (decide_eq_false (by omega))) rfl ?_; (try simp only [Act.put, lyy])
      refine qab ?_
      go_upto_region 6 with fail; refine wp_region_lit ?_
      refine qaa (qad (v := u5) rfl rfl) rfl ?_; (try simp only [Act.put, lyy])
      refine qaa (qak (v := u5) rfl rfl) rfl ?_; (try simp only [Act.put, lyy])
      refine qab ?_
      have HF : Hid (Fro u.heap.size (fun V => ∃ a' c', u5 = .slice a' x.length c' ∧ SlR 3 usAt x a' c' V) wr) := Lib.hid fun V hV => slR_own (E.out.tell V hV).1 hkl (E.out.tell V hV).2.1 HQ.out (E.out.tell V hV).2.2
      obtain ⟨a', c', hv6, hS0⟩ := HF.out.now
      subst hv6
      have HF2 : Hid (Fro u.heap.size (SlR 3 usAt x a' c') wr) := Lib.hid fun V hV => by
        obtain ⟨a2, c2, h1, h2⟩ := HF.out V hV
        simp only [Value.slice.injEq] at h1
        obtain ⟨rfl, _, rfl⟩ := h1
        exact h2
      go_wp2_with fail
      exact bodyPost_ret (results_tmp Try.results75 _ _ _) rfl ⟨E.out.kp, .inl ⟨rfl, E.out.rd, _, rfl, _, _, rfl, HF2.out⟩⟩
    · obtain ⟨m, hm⟩ : ∃ m, n - k = m + 1 := ⟨n - k - 1, by omega⟩
      have hr2 := HRW.out
      rw [hm, rowsM_step _ _ rfl] at hr2
      rcases HG : usM b (q, 0) with ⟨⟨q1, e1⟩, y⟩
      rw [HG] at hr2
      have S2 : Hid (e1 ≠ 0 → e' = e1) := Lib.hid fun h => by have h9 := HH.out; rw [hr2, qb8 _ _ (by exact h)] at h9; exact (congrArg (fun z => z.1.2) h9).symm
      replace HRW := Lib.hid hr2
      clear hr2
      go_upto_region 3 with fail; refine wp_region_lit ?_
      refine qaa (qbf (c := true) rfl rfl rfl (decide_eq_true (by omega))) rfl ?_; (try simp only [Act.put, lyy])
      refine qab ?_
      go_upto_region 4 with fail; refine wp_region_lit ?_
      refine qaa (qad (v := u5) rfl rfl) rfl ?_; (try simp only [Act.put, lyy])
      refine qaa (qad (v := .func (.func 76) #[] #[]) rfl rfl) rfl ?_; (try simp only [Act.put, lyy])
      refine qaa (qad (v := .pointer (some ⟨p, 0, none⟩)) rfl rfl) rfl ?_; (try simp only [Act.put, lyy])
      refine qah (run_callv1 enters_rusr rfl rfl rfl) rfl (rusr_any B p b q q1 e1 y _ HG E.out.rd) (fun v3 a3 hs hk hr hT => ?_) (fun a3 hs hk => ?pana3)
      case pana3 =>
        go_wp2_with fail
        have q := S2.out hs
        exact ⟨rfl, E.out.kp.trans hk, .inr ⟨by rw [q]; exact hs, by simp only [q]⟩⟩
      (try simp only [Act.put, lyy])
      replace hs : e1 = 0 := hs
      subst hs
      obtain ⟨X, rfl, lX, oX, fX⟩ := hT
      replace E := Lib.hid (E.out.call hk hr (H0 := usAt y X) fX)
      clear hk hr S2
      refine qaa (run_bsl1 (m := X) (z := 3) (zv := .agg ([.string ⟨#[]⟩, .int .i64 0, .bool false] : List Value).toArray) rfl Try.underlying26 (by kernel_rfl) rfl lX (by omega) (by omega)) rfl ?_; (try simp only [Act.put, lyy])
      have A2 := Lib.hid (Arr.new a3 X 25)
      replace E := Lib.hid (E.out.below ((Below.refl a3.heap.size a3).alloc (Nat.le_refl _) (.cells X.toArray 25)))
      generalize a3.alloc (.cells X.toArray 25) = b1 at *
      generalize a3.heap.size = g0 at *
      refine wpList_growR (t := 26) (bw := 32) (zv := .agg ([.string ⟨#[]⟩, .int .i64 0, .bool false] : List Value).toArray) (z := 3) rfl rfl Try.underlying26 (by kernel_rfl) rfl (by omega) rfl rfl A2.out.range lX oX (by omega) (by omega) E.out (fun v7 b2 hG => ?_); (try simp only [Act.put, lyy])
      replace E := Lib.hid (hG.know (H0 := LR usAt (l ++ [y]) (css ++ [X])) fun V h => h.2.snoc h.1)
      clear hG A2
      refine qaa (qak (v := v7) rfl rfl) rfl ?_; (try simp only [Act.put, lyy])
      refine qab ?_
      go_upto_region 5 with fail; refine wp_region_lit ?_
      refine qaa (qba (a := k) (b := 1) rfl rfl rfl (by omega)) rfl ?_; (try simp only [Act.put, lyy])
      refine qaa (qad (v := .int .i64 ((k + 1 : Nat) : Int)) rfl rfl) rfl ?_; (try simp only [Act.put, lyy])
      refine qab ?_
      go_wp2_with fail
      exact ⟨⟨k + 1, q1, l ++ [y], css ++ [X], rfl, by omega, by rw [List.length_append, ← hkl]; rfl, (fun z hz => (List.mem_append.1 hz).elim (HQ.out z) fun h => by rw [List.mem_singleton.1 h]; exact lX), by rw [HRW.out, show n - (k + 1) = m by omega, List.append_assoc]; rfl, by rw [List.flatten_append, show [X].flatten = X by simp]; exact E.out⟩, by simp [intOf]; omega⟩
theorem enters_russ : Enters 38 := qan Try.func38 (by kernel_rfl) rfl
set_option maxHeartbeats 8000000 in
theorem russ_any (B p : Nat) (b : List (BitVec 8)) (i i' : Nat) (e' : Int) (x : List MUs) (u : World) (H : ussM b (i, 0) = ((i', e'), x)) (R : RdS B p b i u) : Calls Try.prog 38 #[.pointer (some ⟨p, 0, none⟩)] u (RPost B p b u (i', e') fun v u' => ∃ a c, v = .slice a x.length c ∧ Fro u.heap.size (SlR 3 usAt x a c) u') := by
  have HR := Lib.hid R
  have HH := Lib.hid H
  clear R H
  go_enter Try.func38, Try.ntmps38
  go_upto_region 0 with fail; refine wp_region_lit ?_
  refine qaa (qak (v := .slice none 0 0) rfl rfl) rfl ?_; (try simp only [Act.put, lyy])
  refine qab ?_
  go_upto_region 1 with fail; refine wp_region_lit ?_
  refine qaa (qad (v := .pointer (some ⟨p, 0, none⟩)) rfl rfl) rfl ?_; (try simp only [Act.put, lyy])
  refine qah (qaf enters_ralU rfl rfl rfl rfl) rfl (ralU_any B p b i i' e' x _ HH.out HR.out) (fun v a1 hs hk hr hT => ?_) (fun a1 hs hk => ?pana1)
  case pana1 =>
    go_wp2_with fail
    exact ⟨rfl, hk, .inr ⟨hs, rfl⟩⟩
  (try simp only [Act.put, lyy])
  obtain ⟨a2, c2, rfl, f2⟩ := hT
  have HK := Lib.hid hk
  have HR2 := Lib.hid hr
  have HF := Lib.hid f2
  clear hk hr f2
  refine qaa (qak (v := .slice a2 x.length c2) rfl rfl) rfl ?_; (try simp only [Act.put, lyy])
  refine qab ?_
  go_wp2_with fail
  exact bodyPost_ret (results_tmp Try.results38 _ _ _) rfl ⟨HK.out, .inl ⟨(by first | exact hs | rfl), HR2.out, _, rfl, _, _, rfl, HF.out⟩⟩
end Go.Proofs.Ytgioojahadlmhaa
