import Derived.Test.YtcgbgmbnagmohaaLy
import Derived.Test.YtcgbgmbnagmohaaPr4
namespace Go.Proofs.Ytcgbgmbnagmohaa
open Go.RowKit
set_option maxRecDepth 20000
attribute [local irreducible] wpList
theorem enters_ritm : Enters 88 := qak Try.func88 (by kernel_rfl) rfl
set_option maxHeartbeats 8000000 in
theorem ritm_any (B p : Nat) (b : List (BitVec 8)) (i i' : Nat) (e' : Int) (x : (Int × MEv)) (u : World) (H : itM b (i, 0) = ((i', e'), x)) (R : RdS B p b i u) : Calls Try.prog 88 #[.pointer (some ⟨p, 0, none⟩)] u (RPost B p b u (i', e') fun v u' => ∃ X : List Value, v = .agg X.toArray ∧ X.length = 73 ∧ One X ∧ Fro u.heap.size (itAt x X) u') := by
  rcases H1 : nM b 1099511627776 (i, 0) with ⟨⟨i1, e1⟩, x1⟩
  rcases H2 : evM b (i1, e1) with ⟨⟨i2, e2⟩, x2⟩
  have S2 : Hid (e1 ≠ 0 → e2 = e1) := Lib.hid fun h => by have q := evM_stay (b := b) (i := i1) h; rw [H2] at q; exact congrArg Prod.snd q
  simp only [itM, H1, H2, Prod.mk.injEq] at H
  obtain ⟨⟨rfl, rfl⟩, rfl⟩ := H
  have E := Lib.hid (Rm.start R)
  clear R
  go_enter Try.func88, Try.ntmps88
  go_upto_region 0 with fail; refine wp_region_lit ?_
  refine qaa (qay (vs := itR ((.int .i64 0)) (evR ((.int .i64 0)) ((.int .i64 0)) ((.bool false)) (z8 32) ((.int .i64 0)) ((.int .i64 0)) (hdR (z8 32) ((.int .i64 0)) ((.int .i64 0))) ((.slice none 0 0)))) rfl (by kernel_rfl)) rfl ?_; (try simp only [Act.put, lyy])
  replace E := Lib.hid (E.out.new (itR ((.int .i64 0)) (evR ((.int .i64 0)) ((.int .i64 0)) ((.bool false)) (z8 32) ((.int .i64 0)) ((.int .i64 0)) (hdR (z8 32) ((.int .i64 0)) ((.int .i64 0))) ((.slice none 0 0)))) 59)
  generalize u.alloc (.cells (itR ((.int .i64 0)) (evR ((.int .i64 0)) ((.int .i64 0)) ((.bool false)) (z8 32) ((.int .i64 0)) ((.int .i64 0)) (hdR (z8 32) ((.int .i64 0)) ((.int .i64 0))) ((.slice none 0 0)))).toArray 59) = a1 at *
  obtain ⟨g2, hg0⟩ : ∃ k, k = u.heap.size := ⟨_, rfl⟩
  rw [← hg0] at E ⊢
  clear hg0
  refine qab ?_
  go_upto_region 1 with fail; refine wp_region_lit ?_
  refine qaa (qad (v := .pointer (some ⟨p, 0, none⟩)) rfl rfl) rfl ?_; (try simp only [Act.put, lyy])
  refine qag (qal qa7 rfl rfl rfl) rfl (qbq B p b i i1 e1 x1 _ H1 E.out.rd) (fun v1 a3 hs hk hr hT => ?_) (fun a3 hs hk => ?pana3)
  case pana3 =>
    go_wp2_with fail
    replace hs : e1 ≠ 0 := hs
    have t2 := S2.out
    have q : e2 = e1 := by omega
    exact ⟨rfl, E.out.panic hk, .inr ⟨by rw [q]; exact hs, by simp only [q]⟩⟩
  (try simp only [Act.put, lyy])
  replace hs : e1 = 0 := hs
  subst hs
  subst hT
  replace E := Lib.hid (E.out.call hk hr (H0 := fun _ => True) (fun _ _ => trivial))
  clear hk hr
  refine qaa (qad (v := .pointer (some ⟨p, 0, none⟩)) rfl rfl) rfl ?_; (try simp only [Act.put, lyy])
  refine qag (qal enters_renv rfl rfl rfl) rfl (renv_any B p b i1 i2 e2 x2 _ H2 E.out.rd) (fun v2 a4 hs hk hr hT => ?_) (fun a4 hs hk => ?pana4)
  case pana4 =>
    go_wp2_with fail
    exact ⟨rfl, E.out.panic hk, .inr ⟨hs, rfl⟩⟩
  (try simp only [Act.put, lyy])
  replace hs : e2 = 0 := hs
  subst hs
  obtain ⟨X2, rfl, l2, o2, f2⟩ := hT
  replace E := Lib.hid (E.out.call hk hr (H0 := evAt x2 X2) (f2))
  clear hk hr
  refine qaa (qa4 (cells := (itR (.int .i64 x1) (X2)).toArray) (ps := [(0, .int .i64 x1), (1, .agg (X2).toArray)]) rfl rfl (itR_all rfl l2)) rfl ?_; (try simp only [Act.put, lyy])
  refine qah (qax (vs := itR (.int .i64 x1) (X2)) rfl (szR (itR_len l2) (by kernel_rfl)) rfl rfl (One.all (itR_one rfl o2)) ((E.out.get (i := 0) rfl).thereM (by have q1 : (itR (.int .i64 x1) (X2)).length = 73 := (itR_len l2); have q2 : (itR ((.int .i64 0)) (evR ((.int .i64 0)) ((.int .i64 0)) ((.bool false)) (z8 32) ((.int .i64 0)) ((.int .i64 0)) (hdR (z8 32) ((.int .i64 0)) ((.int .i64 0))) ((.slice none 0 0)))).length = 73 := (itR_len (qbk (qac 32) (qbc (qac 32)))); omega))) rfl rfl ?_
  replace E := Lib.hid (E.out.put 0 rfl (m := itR (.int .i64 x1) (X2)) ((show (itR (.int .i64 x1) (X2)).length = 73 from (itR_len l2)).trans (show (itR ((.int .i64 0)) (evR ((.int .i64 0)) ((.int .i64 0)) ((.bool false)) (z8 32) ((.int .i64 0)) ((.int .i64 0)) (hdR (z8 32) ((.int .i64 0)) ((.int .i64 0))) ((.slice none 0 0)))).length = 73 from (itR_len (qbk (qac 32) (qbc (qac 32))))).symm))
  generalize a4.setCells g2 0 (itR (.int .i64 x1) (X2)) = a5 at *
  replace E := Lib.hid (show Rm _ _ _ _ _ [(g2, itR (.int .i64 x1) (X2))] _ a5 from E.out)
  refine qab ?_
  go_wp2_with fail
  exact bodyPost_ret (v := .agg (itR (.int .i64 x1) (X2)).toArray) (qa9 Try.results88 rfl Try.underlying59 rfl (szR (itR_len l2) (by kernel_rfl)) (E.out.get (i := 0) rfl).range) rfl ⟨E.out.kp, .inl ⟨(by first | rfl | exact hs), E.out.rd, _, rfl, _, rfl, (itR_len l2), (itR_one rfl o2), fun V hV => ⟨X2, rfl, (E.out.tell V hV).1⟩⟩⟩
theorem enters_ralI : Enters 87 := qak Try.func87 (by kernel_rfl) rfl
set_option maxHeartbeats 8000000 in
theorem ralI_any (B p : Nat) (b : List (BitVec 8)) (i i' : Nat) (e' : Int) (x : List (Int × MEv)) (u : World) (H : itsM b (i, 0) = ((i', e'), x)) (R : RdS B p b i u) : Calls Try.prog 87 #[.pointer (some ⟨p, 0, none⟩), .func (.func 88) #[] #[]] u (RPost B p b u (i', e') fun v u' => ∃ a c, v = .slice a x.length c ∧ Fro u.heap.size (SlR 73 itAt x a c) u') := by
  rcases HN : nM b 60000 (i, 0) with ⟨⟨i0, e0⟩, N⟩
  have hn0 := nM_num (b := b) (most := 60000) (s := (i, 0)) (by omega)
  rw [HN] at hn0
  obtain ⟨n, hn⟩ : ∃ n : Nat, N = (n : Int) := ⟨N.toNat, by omega⟩
  subst hn
  have hnn : n ≤ 60000 := by have := hn0.2; simp only at this; omega
  clear hn0
  simp only [itsM, HN, Int.toNat_natCast] at H
  have S1 : Hid (e0 ≠ 0 → e' = e0) := Lib.hid fun h => by rw [qbr _ _ (by exact h)] at H; exact (congrArg (fun z => z.1.2) H).symm
  have HH := Lib.hid H
  have HR := Lib.hid R
  clear H R
  go_enter Try.func87, Try.ntmps87
  go_upto_region 0 with fail; refine wp_region_lit ?_
  refine qaa (qai (v := .slice none 0 0) rfl rfl) rfl ?_; (try simp only [Act.put, lyy])
  refine qab ?_
  go_upto_region 1 with fail; refine wp_region_lit ?_
  refine qaa (qai (v := .slice none 0 0) rfl rfl) rfl ?_; (try simp only [Act.put, lyy])
  refine qab ?_
  have E := Lib.hid ((Rg.start HR.out 59 73).know (H0 := LR itAt [] []) fun V _ => LR.nil V)
  go_upto_region 2 with fail; refine wp_region_lit ?_
  refine qaa (qad (v := .pointer (some ⟨p, 0, none⟩)) rfl rfl) rfl ?_; (try simp only [Act.put, lyy])
  refine qag (qal qb8 rfl rfl rfl) rfl (rcnt_any B p b i i0 e0 _ _ HN E.out.rd) (fun v a1 hs hk hr hT => ?_) (fun a1 hs hk => ?pana1)
  case pana1 =>
    go_wp2_with fail
    have q := S1.out hs
    exact ⟨rfl, E.out.kp.trans hk, .inr ⟨by rw [q]; exact hs, by simp only [q]⟩⟩
  (try simp only [Act.put, lyy])
  subst hT
  replace hs : e0 = 0 := hs
  subst hs
  replace E := Lib.hid ((E.out.call hk hr (H0 := fun _ => True) fun _ _ => trivial).know (H0 := LR itAt [] []) fun V h => h.2)
  clear hk hr S1 HR
  refine qaa (qad (v := .int .i64 0) rfl rfl) rfl ?_; (try simp only [Act.put, lyy])
  refine qab ?_
  go_wp2_with fail
  go_loopw [5, 8] (fun s5 s8 a => ∃ (k q : Nat) (l : List (Int × MEv)) (css : List (List Value)), s8 = .int .i64 (k : Int) ∧ k ≤ n ∧ k = l.length ∧ (∀ y ∈ css, y.length = 73) ∧ (rowsM (itM b) n (i0, 0) = ((rowsM (itM b) (n - k) (q, 0)).1, l ++ (rowsM (itM b) (n - k) (q, 0)).2)) ∧ Rg u B p b q 59 73 s5 k css.flatten (LR itAt l css) a) (fun _ s8 _ => ((n : Int) - intOf s8).toNat)
  case atStart => exact ⟨0, i0, [], [], rfl, by omega, rfl, (fun _ h => by cases h), by simp, E.out⟩
  case round =>
    obtain ⟨k, q, l, css, rfl, hkn, hkl, hq, hrow, hJ⟩ := hrel
    replace E := Lib.hid hJ
    have HQ := Lib.hid hq
    have HRW := Lib.hid hrow
    clear hJ hq hrow
    by_cases hkn2 : k = n
    · subst hkn2
      have HX : Hid (((i', e'), x) = ((q, (0 : Int)), l)) := Lib.hid (by rw [← HH.out, HRW.out, Nat.sub_self, qcq, List.append_nil])
      simp only [Prod.mk.injEq] at HX
      obtain ⟨⟨rfl, rfl⟩, rfl⟩ := HX.out
      go_upto_region 3 with fail; refine wp_region_lit ?_
      refine qaa (qa0 (c := false) rfl rfl rfl (decide_eq_false (by omega))) rfl ?_; (try simp only [Act.put, lyy])
      refine qab ?_
      go_upto_region 6 with fail; refine wp_region_lit ?_
      refine qaa (qad (v := u5) rfl rfl) rfl ?_; (try simp only [Act.put, lyy])
      refine qaa (qai (v := u5) rfl rfl) rfl ?_; (try simp only [Act.put, lyy])
      refine qab ?_
      have HF : Hid (Fro u.heap.size (fun V => ∃ a' c', u5 = .slice a' x.length c' ∧ SlR 73 itAt x a' c' V) wr) := Lib.hid fun V hV => slR_own (E.out.tell V hV).1 hkl (E.out.tell V hV).2.1 HQ.out (E.out.tell V hV).2.2
      obtain ⟨a', c', hv6, hS0⟩ := HF.out.now
      subst hv6
      have HF2 : Hid (Fro u.heap.size (SlR 73 itAt x a' c') wr) := Lib.hid fun V hV => by
        obtain ⟨a2, c2, h1, h2⟩ := HF.out V hV
        simp only [Value.slice.injEq] at h1
        obtain ⟨rfl, _, rfl⟩ := h1
        exact h2
      go_wp2_with fail
      exact bodyPost_ret (results_tmp Try.results87 _ _ _) rfl ⟨E.out.kp, .inl ⟨rfl, E.out.rd, _, rfl, _, _, rfl, HF2.out⟩⟩
    · obtain ⟨m, hm⟩ : ∃ m, n - k = m + 1 := ⟨n - k - 1, by omega⟩
      have hr2 := HRW.out
      rw [hm, qck _ _ rfl] at hr2
      rcases HG : itM b (q, 0) with ⟨⟨q1, e1⟩, y⟩
      rw [HG] at hr2
      have S2 : Hid (e1 ≠ 0 → e' = e1) := Lib.hid fun h => by have h9 := HH.out; rw [hr2, qbr _ _ (by exact h)] at h9; exact (congrArg (fun z => z.1.2) h9).symm
      replace HRW := Lib.hid hr2
      clear hr2
      go_upto_region 3 with fail; refine wp_region_lit ?_
      refine qaa (qa0 (c := true) rfl rfl rfl (decide_eq_true (by omega))) rfl ?_; (try simp only [Act.put, lyy])
      refine qab ?_
      go_upto_region 4 with fail; refine wp_region_lit ?_
      refine qaa (qad (v := u5) rfl rfl) rfl ?_; (try simp only [Act.put, lyy])
      refine qaa (qad (v := .func (.func 88) #[] #[]) rfl rfl) rfl ?_; (try simp only [Act.put, lyy])
      refine qaa (qad (v := .pointer (some ⟨p, 0, none⟩)) rfl rfl) rfl ?_; (try simp only [Act.put, lyy])
      refine qag (qb7 enters_ritm rfl rfl rfl) rfl (ritm_any B p b q q1 e1 y _ HG E.out.rd) (fun v3 a3 hs hk hr hT => ?_) (fun a3 hs hk => ?pana3)
      case pana3 =>
        go_wp2_with fail
        have q := S2.out hs
        exact ⟨rfl, E.out.kp.trans hk, .inr ⟨by rw [q]; exact hs, by simp only [q]⟩⟩
      (try simp only [Act.put, lyy])
      replace hs : e1 = 0 := hs
      subst hs
      obtain ⟨X, rfl, lX, oX, fX⟩ := hT
      replace E := Lib.hid (E.out.call hk hr (H0 := itAt y X) fX)
      clear hk hr S2
      refine qaa (qcf (m := X) (z := 73) (zv := .agg ([.int .i64 0, .int .i64 0, .int .i64 0] ++ [.bool false] ++ List.replicate 32 (.int .u8 0) ++ [.int .i64 0, .int .i64 0] ++ List.replicate 32 (.int .u8 0) ++ [.int .i64 0, .int .i64 0] ++ [.slice none 0 0] : List Value).toArray) rfl Try.underlying36 (by kernel_rfl) rfl lX (by omega) (by omega)) rfl ?_; (try simp only [Act.put, lyy])
      have A2 := Lib.hid (Arr.new a3 X 59)
      replace E := Lib.hid (E.out.below ((Below.refl a3.heap.size a3).alloc (Nat.le_refl _) (.cells X.toArray 59)))
      generalize a3.alloc (.cells X.toArray 59) = b1 at *
      generalize a3.heap.size = g0 at *
      refine qcg (t := 36) (bw := 152) (zv := .agg ([.int .i64 0, .int .i64 0, .int .i64 0] ++ [.bool false] ++ List.replicate 32 (.int .u8 0) ++ [.int .i64 0, .int .i64 0] ++ List.replicate 32 (.int .u8 0) ++ [.int .i64 0, .int .i64 0] ++ [.slice none 0 0] : List Value).toArray) (z := 73) rfl rfl Try.underlying36 (by kernel_rfl) rfl (by omega) rfl rfl A2.out.range lX oX (by omega) (by omega) E.out (fun v7 b2 hG => ?_); (try simp only [Act.put, lyy])
      replace E := Lib.hid (hG.know (H0 := LR itAt (l ++ [y]) (css ++ [X])) fun V h => h.2.snoc h.1)
      clear hG A2
      refine qaa (qai (v := v7) rfl rfl) rfl ?_; (try simp only [Act.put, lyy])
      refine qab ?_
      go_upto_region 5 with fail; refine wp_region_lit ?_
      refine qaa (qaz (a := k) (b := 1) rfl rfl rfl (by omega)) rfl ?_; (try simp only [Act.put, lyy])
      refine qaa (qad (v := .int .i64 ((k + 1 : Nat) : Int)) rfl rfl) rfl ?_; (try simp only [Act.put, lyy])
      refine qab ?_
      go_wp2_with fail
      exact ⟨⟨k + 1, q1, l ++ [y], css ++ [X], rfl, by omega, by rw [List.length_append, ← hkl]; rfl, (fun z hz => (List.mem_append.1 hz).elim (HQ.out z) fun h => by rw [List.mem_singleton.1 h]; exact lX), by rw [HRW.out, show n - (k + 1) = m by omega, List.append_assoc]; rfl, by rw [List.flatten_append, show [X].flatten = X by simp]; exact E.out⟩, by simp [intOf]; omega⟩
theorem enters_rslt : Enters 91 := qak Try.func91 (by kernel_rfl) rfl
set_option maxHeartbeats 8000000 in
theorem rslt_any (B p : Nat) (b : List (BitVec 8)) (i i' : Nat) (e' : Int) (x : MSlot) (u : World) (H : slM b (i, 0) = ((i', e'), x)) (R : RdS B p b i u) : Calls Try.prog 91 #[.pointer (some ⟨p, 0, none⟩)] u (RPost B p b u (i', e') fun v u' => ∃ X : List Value, v = .agg X.toArray ∧ X.length = 101 ∧ One X ∧ Fro u.heap.size (slAt x X) u') := by
  rcases H1 : nM b 1099511627776 (i, 0) with ⟨⟨i1, e1⟩, x1⟩
  rcases H2 : pkM b (i1, e1) with ⟨⟨i2, e2⟩, x2⟩
  have S2 : Hid (e1 ≠ 0 → e2 = e1) := Lib.hid fun h => by have q := pkM_stay (b := b) (i := i1) h; rw [H2] at q; exact congrArg Prod.snd q
  rcases H3 : kM 64 b (i2, e2) with ⟨⟨i3, e3⟩, x3⟩
  have S3 : Hid (e2 ≠ 0 → e3 = e2) := Lib.hid fun h => by have q := qb3 (n := 64) (b := b) (i := i2) h; rw [H3] at q; exact congrArg Prod.snd q
  rcases H4 : psM b (i3, e3) with ⟨⟨i4, e4⟩, x4⟩
  have S4 : Hid (e3 ≠ 0 → e4 = e3) := Lib.hid fun h => by have q := psM_stay (b := b) (i := i3) h; rw [H4] at q; exact congrArg Prod.snd q
  rcases H5 : nM b 1099511627776 (i4, e4) with ⟨⟨i5, e5⟩, x5⟩
  have S5 : Hid (e4 ≠ 0 → e5 = e4) := Lib.hid fun h => by have q := qa6 (most := 1099511627776) (b := b) (i := i4) h; rw [H5] at q; exact congrArg Prod.snd q
  rcases H6 : evsM b (i5, e5) with ⟨⟨i6, e6⟩, x6⟩
  have S6 : Hid (e5 ≠ 0 → e6 = e5) := Lib.hid fun h => by have q := evsM_stay (b := b) (i := i5) h; rw [H6] at q; exact congrArg Prod.snd q
  simp only [slM, H1, H2, H3, H4, H5, H6, Prod.mk.injEq] at H
  obtain ⟨⟨rfl, rfl⟩, rfl⟩ := H
  have E := Lib.hid (Rm.start R)
  clear R
  go_enter Try.func91, Try.ntmps91
  go_upto_region 0 with fail; refine wp_region_lit ?_
  refine qaa (qay (vs := slR ((.int .i64 0)) (pkR ((.int .i64 0)) (z8 32)) (z8 64) ((.slice none 0 0)) ((.int .i64 0)) ((.slice none 0 0))) rfl (by kernel_rfl)) rfl ?_; (try simp only [Act.put, lyy])
  replace E := Lib.hid (E.out.new (slR ((.int .i64 0)) (pkR ((.int .i64 0)) (z8 32)) (z8 64) ((.slice none 0 0)) ((.int .i64 0)) ((.slice none 0 0))) 92)
  generalize u.alloc (.cells (slR ((.int .i64 0)) (pkR ((.int .i64 0)) (z8 32)) (z8 64) ((.slice none 0 0)) ((.int .i64 0)) ((.slice none 0 0))).toArray 92) = a1 at *
  obtain ⟨g2, hg0⟩ : ∃ k, k = u.heap.size := ⟨_, rfl⟩
  rw [← hg0] at E ⊢
  clear hg0
  refine qab ?_
  go_upto_region 1 with fail; refine wp_region_lit ?_
  refine qaa (qad (v := .pointer (some ⟨p, 0, none⟩)) rfl rfl) rfl ?_; (try simp only [Act.put, lyy])
  refine qag (qal qa7 rfl rfl rfl) rfl (qbq B p b i i1 e1 x1 _ H1 E.out.rd) (fun v1 a3 hs hk hr hT => ?_) (fun a3 hs hk => ?pana3)
  case pana3 =>
    go_wp2_with fail
    replace hs : e1 ≠ 0 := hs
    have t2 := S2.out
    have t3 := S3.out
    have t4 := S4.out
    have t5 := S5.out
    have t6 := S6.out
    have q : e6 = e1 := by omega
    exact ⟨rfl, E.out.panic hk, .inr ⟨by rw [q]; exact hs, by simp only [q]⟩⟩
  (try simp only [Act.put, lyy])
  replace hs : e1 = 0 := hs
  subst hs
  subst hT
  replace E := Lib.hid (E.out.call hk hr (H0 := fun _ => True) (fun _ _ => trivial))
  clear hk hr
  refine qaa (qad (v := .pointer (some ⟨p, 0, none⟩)) rfl rfl) rfl ?_; (try simp only [Act.put, lyy])
  refine qag (qal enters_rpre rfl rfl rfl) rfl (rpre_any B p b i1 i2 e2 x2 _ H2 E.out.rd) (fun v2 a4 hs hk hr hT => ?_) (fun a4 hs hk => ?pana4)
  case pana4 =>
    go_wp2_with fail
    replace hs : e2 ≠ 0 := hs
    have t3 := S3.out
    have t4 := S4.out
    have t5 := S5.out
    have t6 := S6.out
    have q : e6 = e2 := by omega
    exact ⟨rfl, E.out.panic hk, .inr ⟨by rw [q]; exact hs, by simp only [q]⟩⟩
  (try simp only [Act.put, lyy])
  replace hs : e2 = 0 := hs
  subst hs
  obtain ⟨rfl, l2⟩ := hT
  replace E := Lib.hid (E.out.call hk hr (H0 := fun _ => True) (fun _ _ => trivial))
  clear hk hr
  refine qaa (qad (v := .pointer (some ⟨p, 0, none⟩)) rfl rfl) rfl ?_; (try simp only [Act.put, lyy])
  refine qag (qal enters_rsig rfl rfl rfl) rfl (rsig_any B p b i2 i3 e3 x3 _ H3 E.out.rd) (fun v3 a5 hs hk hr hT => ?_) (fun a5 hs hk => ?pana5)
  case pana5 =>
    go_wp2_with fail
    replace hs : e3 ≠ 0 := hs
    have t4 := S4.out
    have t5 := S5.out
    have t6 := S6.out
    have q : e6 = e3 := by omega
    exact ⟨rfl, E.out.panic hk, .inr ⟨by rw [q]; exact hs, by simp only [q]⟩⟩
  (try simp only [Act.put, lyy])
  replace hs : e3 = 0 := hs
  subst hs
  obtain ⟨rfl, l3⟩ := hT
  replace E := Lib.hid (E.out.call hk hr (H0 := fun _ => True) (fun _ _ => trivial))
  clear hk hr
  refine qaa (qad (v := .pointer (some ⟨p, 0, none⟩)) rfl rfl) rfl ?_; (try simp only [Act.put, lyy])
  refine qag (qae enters_ralP rfl rfl rfl rfl) rfl (ralP_any B p b i3 i4 e4 x4 _ H4 E.out.rd) (fun v4 a6 hs hk hr hT => ?_) (fun a6 hs hk => ?pana6)
  case pana6 =>
    go_wp2_with fail
    replace hs : e4 ≠ 0 := hs
    have t5 := S5.out
    have t6 := S6.out
    have q : e6 = e4 := by omega
    exact ⟨rfl, E.out.panic hk, .inr ⟨by rw [q]; exact hs, by simp only [q]⟩⟩
  (try simp only [Act.put, lyy])
  replace hs : e4 = 0 := hs
  subst hs
  obtain ⟨c4, d4, rfl, f4⟩ := hT
  replace E := Lib.hid (E.out.call hk hr (H0 := SlR 33 pkAt x4 c4 d4) (f4))
  clear hk hr
  refine qaa (qad (v := .pointer (some ⟨p, 0, none⟩)) rfl rfl) rfl ?_; (try simp only [Act.put, lyy])
  refine qag (qal qa7 rfl rfl rfl) rfl (qbq B p b i4 i5 e5 x5 _ H5 E.out.rd) (fun v5 a7 hs hk hr hT => ?_) (fun a7 hs hk => ?pana7)
  case pana7 =>
    go_wp2_with fail
    replace hs : e5 ≠ 0 := hs
    have t6 := S6.out
    have q : e6 = e5 := by omega
    exact ⟨rfl, E.out.panic hk, .inr ⟨by rw [q]; exact hs, by simp only [q]⟩⟩
  (try simp only [Act.put, lyy])
  replace hs : e5 = 0 := hs
  subst hs
  subst hT
  replace E := Lib.hid (E.out.call hk hr (H0 := fun _ => True) (fun _ _ => trivial))
  clear hk hr
  refine qaa (qad (v := .pointer (some ⟨p, 0, none⟩)) rfl rfl) rfl ?_; (try simp only [Act.put, lyy])
  refine qag (qae enters_ralV rfl rfl rfl rfl) rfl (ralV_any B p b i5 i6 e6 x6 _ H6 E.out.rd) (fun v6 a8 hs hk hr hT => ?_) (fun a8 hs hk => ?pana8)
  case pana8 =>
    go_wp2_with fail
    exact ⟨rfl, E.out.panic hk, .inr ⟨hs, rfl⟩⟩
  (try simp only [Act.put, lyy])
  replace hs : e6 = 0 := hs
  subst hs
  obtain ⟨c6, d6, rfl, f6⟩ := hT
  replace E := Lib.hid (E.out.call hk hr (H0 := SlR 72 evAt x6 c6 d6) (f6))
  clear hk hr
  refine qaa (qa4 (cells := (slR (.int .i64 x1) (pkC x2) (x3.map b8) (.slice c4 x4.length d4) (.int .i64 x5) (.slice c6 x6.length d6)).toArray) (ps := [(0, .int .i64 x1), (1, .agg (pkC x2).toArray), (2, .agg (x3.map b8).toArray), (3, .slice c4 x4.length d4), (4, .int .i64 x5), (5, .slice c6 x6.length d6)]) rfl rfl (slR_all rfl (pkC_len' l2) (by rw [List.length_map, l3]) rfl rfl rfl)) rfl ?_; (try simp only [Act.put, lyy])
  refine qah (qax (vs := slR (.int .i64 x1) (pkC x2) (x3.map b8) (.slice c4 x4.length d4) (.int .i64 x5) (.slice c6 x6.length d6)) rfl (szR (slR_len (pkC_len' l2) (by rw [List.length_map, l3])) (by kernel_rfl)) rfl rfl (One.all (slR_one rfl (pkC_one l2) (One.b8 _) rfl rfl rfl)) ((E.out.get (i := 0) rfl).thereM (by have q1 : (slR (.int .i64 x1) (pkC x2) (x3.map b8) (.slice c4 x4.length d4) (.int .i64 x5) (.slice c6 x6.length d6)).length = 101 := (slR_len (pkC_len' l2) (by rw [List.length_map, l3])); have q2 : (slR ((.int .i64 0)) (pkR ((.int .i64 0)) (z8 32)) (z8 64) ((.slice none 0 0)) ((.int .i64 0)) ((.slice none 0 0))).length = 101 := (slR_len (qao (qac 32)) (qac 64)); omega))) rfl rfl ?_
  replace E := Lib.hid (E.out.put 0 rfl (m := slR (.int .i64 x1) (pkC x2) (x3.map b8) (.slice c4 x4.length d4) (.int .i64 x5) (.slice c6 x6.length d6)) ((show (slR (.int .i64 x1) (pkC x2) (x3.map b8) (.slice c4 x4.length d4) (.int .i64 x5) (.slice c6 x6.length d6)).length = 101 from (slR_len (pkC_len' l2) (by rw [List.length_map, l3]))).trans (show (slR ((.int .i64 0)) (pkR ((.int .i64 0)) (z8 32)) (z8 64) ((.slice none 0 0)) ((.int .i64 0)) ((.slice none 0 0))).length = 101 from (slR_len (qao (qac 32)) (qac 64))).symm))
  generalize a8.setCells g2 0 (slR (.int .i64 x1) (pkC x2) (x3.map b8) (.slice c4 x4.length d4) (.int .i64 x5) (.slice c6 x6.length d6)) = a9 at *
  replace E := Lib.hid (show Rm _ _ _ _ _ [(g2, slR (.int .i64 x1) (pkC x2) (x3.map b8) (.slice c4 x4.length d4) (.int .i64 x5) (.slice c6 x6.length d6))] _ a9 from E.out)
  refine qab ?_
  go_wp2_with fail
  exact bodyPost_ret (v := .agg (slR (.int .i64 x1) (pkC x2) (x3.map b8) (.slice c4 x4.length d4) (.int .i64 x5) (.slice c6 x6.length d6)).toArray) (qa9 Try.results91 rfl Try.underlying92 rfl (szR (slR_len (pkC_len' l2) (by rw [List.length_map, l3])) (by kernel_rfl)) (E.out.get (i := 0) rfl).range) rfl ⟨E.out.kp, .inl ⟨(by first | rfl | exact hs), E.out.rd, _, rfl, _, rfl, (slR_len (pkC_len' l2) (by rw [List.length_map, l3])), (slR_one rfl (pkC_one l2) (One.b8 _) rfl rfl rfl), fun V hV => ⟨c4, d4, c6, d6, rfl, (E.out.tell V hV).2.2.1, (E.out.tell V hV).1⟩⟩⟩
theorem enters_ralS : Enters 90 := qak Try.func90 (by kernel_rfl) rfl
set_option maxHeartbeats 8000000 in
theorem ralS_any (B p : Nat) (b : List (BitVec 8)) (i i' : Nat) (e' : Int) (x : List MSlot) (u : World) (H : slsM b (i, 0) = ((i', e'), x)) (R : RdS B p b i u) : Calls Try.prog 90 #[.pointer (some ⟨p, 0, none⟩), .func (.func 91) #[] #[]] u (RPost B p b u (i', e') fun v u' => ∃ a c, v = .slice a x.length c ∧ Fro u.heap.size (SlR 101 slAt x a c) u') := by
  rcases HN : nM b 60000 (i, 0) with ⟨⟨i0, e0⟩, N⟩
  have hn0 := nM_num (b := b) (most := 60000) (s := (i, 0)) (by omega)
  rw [HN] at hn0
  obtain ⟨n, hn⟩ : ∃ n : Nat, N = (n : Int) := ⟨N.toNat, by omega⟩
  subst hn
  have hnn : n ≤ 60000 := by have := hn0.2; simp only at this; omega
  clear hn0
  simp only [slsM, HN, Int.toNat_natCast] at H
  have S1 : Hid (e0 ≠ 0 → e' = e0) := Lib.hid fun h => by rw [qbr _ _ (by exact h)] at H; exact (congrArg (fun z => z.1.2) H).symm
  have HH := Lib.hid H
  have HR := Lib.hid R
  clear H R
  go_enter Try.func90, Try.ntmps90
  go_upto_region 0 with fail; refine wp_region_lit ?_
  refine qaa (qai (v := .slice none 0 0) rfl rfl) rfl ?_; (try simp only [Act.put, lyy])
  refine qab ?_
  go_upto_region 1 with fail; refine wp_region_lit ?_
  refine qaa (qai (v := .slice none 0 0) rfl rfl) rfl ?_; (try simp only [Act.put, lyy])
  refine qab ?_
  have E := Lib.hid ((Rg.start HR.out 92 101).know (H0 := LR slAt [] []) fun V _ => LR.nil V)
  go_upto_region 2 with fail; refine wp_region_lit ?_
  refine qaa (qad (v := .pointer (some ⟨p, 0, none⟩)) rfl rfl) rfl ?_; (try simp only [Act.put, lyy])
  refine qag (qal qb8 rfl rfl rfl) rfl (rcnt_any B p b i i0 e0 _ _ HN E.out.rd) (fun v a1 hs hk hr hT => ?_) (fun a1 hs hk => ?pana1)
  case pana1 =>
    go_wp2_with fail
    have q := S1.out hs
    exact ⟨rfl, E.out.kp.trans hk, .inr ⟨by rw [q]; exact hs, by simp only [q]⟩⟩
  (try simp only [Act.put, lyy])
  subst hT
  replace hs : e0 = 0 := hs
  subst hs
  replace E := Lib.hid ((E.out.call hk hr (H0 := fun _ => True) fun _ _ => trivial).know (H0 := LR slAt [] []) fun V h => h.2)
  clear hk hr S1 HR
  refine qaa (qad (v := .int .i64 0) rfl rfl) rfl ?_; (try simp only [Act.put, lyy])
  refine qab ?_
  go_wp2_with fail
  go_loopw [5, 8] (fun s5 s8 a => ∃ (k q : Nat) (l : List MSlot) (css : List (List Value)), s8 = .int .i64 (k : Int) ∧ k ≤ n ∧ k = l.length ∧ (∀ y ∈ css, y.length = 101) ∧ (rowsM (slM b) n (i0, 0) = ((rowsM (slM b) (n - k) (q, 0)).1, l ++ (rowsM (slM b) (n - k) (q, 0)).2)) ∧ Rg u B p b q 92 101 s5 k css.flatten (LR slAt l css) a) (fun _ s8 _ => ((n : Int) - intOf s8).toNat)
  case atStart => exact ⟨0, i0, [], [], rfl, by omega, rfl, (fun _ h => by cases h), by simp, E.out⟩
  case round =>
    obtain ⟨k, q, l, css, rfl, hkn, hkl, hq, hrow, hJ⟩ := hrel
    replace E := Lib.hid hJ
    have HQ := Lib.hid hq
    have HRW := Lib.hid hrow
    clear hJ hq hrow
    by_cases hkn2 : k = n
    · subst hkn2
      have HX : Hid (((i', e'), x) = ((q, (0 : Int)), l)) := Lib.hid (by rw [← HH.out, HRW.out, Nat.sub_self, qcq, List.append_nil])
      simp only [Prod.mk.injEq] at HX
      obtain ⟨⟨rfl, rfl⟩, rfl⟩ := HX.out
      go_upto_region 3 with fail; refine wp_region_lit ?_
      refine qaa (qa0 (c := false) rfl rfl rfl (decide_eq_false (by omega))) rfl ?_; (try simp only [Act.put, lyy])
      refine qab ?_
      go_upto_region 6 with fail; refine wp_region_lit ?_
      refine qaa (qad (v := u5) rfl rfl) rfl ?_; (try simp only [Act.put, lyy])
      refine qaa (qai (v := u5) rfl rfl) rfl ?_; (try simp only [Act.put, lyy])
      refine qab ?_
      have HF : Hid (Fro u.heap.size (fun V => ∃ a' c', u5 = .slice a' x.length c' ∧ SlR 101 slAt x a' c' V) wr) := Lib.hid fun V hV => slR_own (E.out.tell V hV).1 hkl (E.out.tell V hV).2.1 HQ.out (E.out.tell V hV).2.2
      obtain ⟨a', c', hv6, hS0⟩ := HF.out.now
      subst hv6
      have HF2 : Hid (Fro u.heap.size (SlR 101 slAt x a' c') wr) := Lib.hid fun V hV => by
        obtain ⟨a2, c2, h1, h2⟩ := HF.out V hV
        simp only [Value.slice.injEq] at h1
        obtain ⟨rfl, _, rfl⟩ := h1
        exact h2
      go_wp2_with fail
      exact bodyPost_ret (results_tmp Try.results90 _ _ _) rfl ⟨E.out.kp, .inl ⟨rfl, E.out.rd, _, rfl, _, _, rfl, HF2.out⟩⟩
    · obtain ⟨m, hm⟩ : ∃ m, n - k = m + 1 := ⟨n - k - 1, by omega⟩
      have hr2 := HRW.out
      rw [hm, qck _ _ rfl] at hr2
      rcases HG : slM b (q, 0) with ⟨⟨q1, e1⟩, y⟩
      rw [HG] at hr2
      have S2 : Hid (e1 ≠ 0 → e' = e1) := Lib.hid fun h => by have h9 := HH.out; rw [hr2, qbr _ _ (by exact h)] at h9; exact (congrArg (fun z => z.1.2) h9).symm
      replace HRW := Lib.hid hr2
      clear hr2
      go_upto_region 3 with fail; refine wp_region_lit ?_
      refine qaa (qa0 (c := true) rfl rfl rfl (decide_eq_true (by omega))) rfl ?_; (try simp only [Act.put, lyy])
      refine qab ?_
      go_upto_region 4 with fail; refine wp_region_lit ?_
      refine qaa (qad (v := u5) rfl rfl) rfl ?_; (try simp only [Act.put, lyy])
      refine qaa (qad (v := .func (.func 91) #[] #[]) rfl rfl) rfl ?_; (try simp only [Act.put, lyy])
      refine qaa (qad (v := .pointer (some ⟨p, 0, none⟩)) rfl rfl) rfl ?_; (try simp only [Act.put, lyy])
      refine qag (qb7 enters_rslt rfl rfl rfl) rfl (rslt_any B p b q q1 e1 y _ HG E.out.rd) (fun v3 a3 hs hk hr hT => ?_) (fun a3 hs hk => ?pana3)
      case pana3 =>
        go_wp2_with fail
        have q := S2.out hs
        exact ⟨rfl, E.out.kp.trans hk, .inr ⟨by rw [q]; exact hs, by simp only [q]⟩⟩
      (try simp only [Act.put, lyy])
      replace hs : e1 = 0 := hs
      subst hs
      obtain ⟨X, rfl, lX, oX, fX⟩ := hT
      replace E := Lib.hid (E.out.call hk hr (H0 := slAt y X) fX)
      clear hk hr S2
      refine qaa (qcf (m := X) (z := 101) (zv := .agg ([.int .i64 0, .int .i64 0] ++ List.replicate 96 (.int .u8 0) ++ [.slice none 0 0] ++ [.int .i64 0] ++ [.slice none 0 0] : List Value).toArray) rfl Try.underlying41 (by kernel_rfl) rfl lX (by omega) (by omega)) rfl ?_; (try simp only [Act.put, lyy])
      have A2 := Lib.hid (Arr.new a3 X 92)
      replace E := Lib.hid (E.out.below ((Below.refl a3.heap.size a3).alloc (Nat.le_refl _) (.cells X.toArray 92)))
      generalize a3.alloc (.cells X.toArray 92) = b1 at *
      generalize a3.heap.size = g0 at *
      refine qcg (t := 41) (bw := 168) (zv := .agg ([.int .i64 0, .int .i64 0] ++ List.replicate 96 (.int .u8 0) ++ [.slice none 0 0] ++ [.int .i64 0] ++ [.slice none 0 0] : List Value).toArray) (z := 101) rfl rfl Try.underlying41 (by kernel_rfl) rfl (by omega) rfl rfl A2.out.range lX oX (by omega) (by omega) E.out (fun v7 b2 hG => ?_); (try simp only [Act.put, lyy])
      replace E := Lib.hid (hG.know (H0 := LR slAt (l ++ [y]) (css ++ [X])) fun V h => h.2.snoc h.1)
      clear hG A2
      refine qaa (qai (v := v7) rfl rfl) rfl ?_; (try simp only [Act.put, lyy])
      refine qab ?_
      go_upto_region 5 with fail; refine wp_region_lit ?_
      refine qaa (qaz (a := k) (b := 1) rfl rfl rfl (by omega)) rfl ?_; (try simp only [Act.put, lyy])
      refine qaa (qad (v := .int .i64 ((k + 1 : Nat) : Int)) rfl rfl) rfl ?_; (try simp only [Act.put, lyy])
      refine qab ?_
      go_wp2_with fail
      exact ⟨⟨k + 1, q1, l ++ [y], css ++ [X], rfl, by omega, by rw [List.length_append, ← hkl]; rfl, (fun z hz => (List.mem_append.1 hz).elim (HQ.out z) fun h => by rw [List.mem_singleton.1 h]; exact lX), by rw [HRW.out, show n - (k + 1) = m by omega, List.append_assoc]; rfl, by rw [List.flatten_append, show [X].flatten = X by simp]; exact E.out⟩, by simp [intOf]; omega⟩
theorem enters_ralK : Enters 92 := qak Try.func92 (by kernel_rfl) rfl
set_option maxHeartbeats 8000000 in
theorem ralK_any (B p : Nat) (b : List (BitVec 8)) (i i' : Nat) (e' : Int) (x : List (List (BitVec 8))) (u : World) (H : tkM b (i, 0) = ((i', e'), x)) (R : RdS B p b i u) : Calls Try.prog 92 #[.pointer (some ⟨p, 0, none⟩), .func (.func 83) #[] #[]] u (RPost B p b u (i', e') fun v u' => ∃ a c, v = .slice a x.length c ∧ Fro u.heap.size (SlR 32 tkAt x a c) u') := by
  rcases HN : nM b 60000 (i, 0) with ⟨⟨i0, e0⟩, N⟩
  have hn0 := nM_num (b := b) (most := 60000) (s := (i, 0)) (by omega)
  rw [HN] at hn0
  obtain ⟨n, hn⟩ : ∃ n : Nat, N = (n : Int) := ⟨N.toNat, by omega⟩
  subst hn
  have hnn : n ≤ 60000 := by have := hn0.2; simp only at this; omega
  clear hn0
  simp only [tkM, HN, Int.toNat_natCast] at H
  have S1 : Hid (e0 ≠ 0 → e' = e0) := Lib.hid fun h => by rw [qbr _ _ (by exact h)] at H; exact (congrArg (fun z => z.1.2) H).symm
  have HH := Lib.hid H
  have HR := Lib.hid R
  clear H R
  go_enter Try.func92, Try.ntmps92
  go_upto_region 0 with fail; refine wp_region_lit ?_
  refine qaa (qai (v := .slice none 0 0) rfl rfl) rfl ?_; (try simp only [Act.put, lyy])
  refine qab ?_
  go_upto_region 1 with fail; refine wp_region_lit ?_
  refine qaa (qai (v := .slice none 0 0) rfl rfl) rfl ?_; (try simp only [Act.put, lyy])
  refine qab ?_
  have E := Lib.hid ((Rg.start HR.out 27 32).know (H0 := LR tkAt [] []) fun V _ => LR.nil V)
  go_upto_region 2 with fail; refine wp_region_lit ?_
  refine qaa (qad (v := .pointer (some ⟨p, 0, none⟩)) rfl rfl) rfl ?_; (try simp only [Act.put, lyy])
  refine qag (qal qb8 rfl rfl rfl) rfl (rcnt_any B p b i i0 e0 _ _ HN E.out.rd) (fun v a1 hs hk hr hT => ?_) (fun a1 hs hk => ?pana1)
  case pana1 =>
    go_wp2_with fail
    have q := S1.out hs
    exact ⟨rfl, E.out.kp.trans hk, .inr ⟨by rw [q]; exact hs, by simp only [q]⟩⟩
  (try simp only [Act.put, lyy])
  subst hT
  replace hs : e0 = 0 := hs
  subst hs
  replace E := Lib.hid ((E.out.call hk hr (H0 := fun _ => True) fun _ _ => trivial).know (H0 := LR tkAt [] []) fun V h => h.2)
  clear hk hr S1 HR
  refine qaa (qad (v := .int .i64 0) rfl rfl) rfl ?_; (try simp only [Act.put, lyy])
  refine qab ?_
  go_wp2_with fail
  go_loopw [5, 8] (fun s5 s8 a => ∃ (k q : Nat) (l : List (List (BitVec 8))) (css : List (List Value)), s8 = .int .i64 (k : Int) ∧ k ≤ n ∧ k = l.length ∧ (∀ y ∈ css, y.length = 32) ∧ (rowsM (kM 32 b) n (i0, 0) = ((rowsM (kM 32 b) (n - k) (q, 0)).1, l ++ (rowsM (kM 32 b) (n - k) (q, 0)).2)) ∧ Rg u B p b q 27 32 s5 k css.flatten (LR tkAt l css) a) (fun _ s8 _ => ((n : Int) - intOf s8).toNat)
  case atStart => exact ⟨0, i0, [], [], rfl, by omega, rfl, (fun _ h => by cases h), by simp, E.out⟩
  case round =>
    obtain ⟨k, q, l, css, rfl, hkn, hkl, hq, hrow, hJ⟩ := hrel
    replace E := Lib.hid hJ
    have HQ := Lib.hid hq
    have HRW := Lib.hid hrow
    clear hJ hq hrow
    by_cases hkn2 : k = n
    · subst hkn2
      have HX : Hid (((i', e'), x) = ((q, (0 : Int)), l)) := Lib.hid (by rw [← HH.out, HRW.out, Nat.sub_self, qcq, List.append_nil])
      simp only [Prod.mk.injEq] at HX
      obtain ⟨⟨rfl, rfl⟩, rfl⟩ := HX.out
      go_upto_region 3 with fail; refine wp_region_lit ?_
      refine qaa (qa0 (c := false) rfl rfl rfl (decide_eq_false (by omega))) rfl ?_; (try simp only [Act.put, lyy])
      refine qab ?_
      go_upto_region 6 with fail; refine wp_region_lit ?_
      refine qaa (qad (v := u5) rfl rfl) rfl ?_; (try simp only [Act.put, lyy])
      refine qaa (qai (v := u5) rfl rfl) rfl ?_; (try simp only [Act.put, lyy])
      refine qab ?_
      have HF : Hid (Fro u.heap.size (fun V => ∃ a' c', u5 = .slice a' x.length c' ∧ SlR 32 tkAt x a' c' V) wr) := Lib.hid fun V hV => slR_own (E.out.tell V hV).1 hkl (E.out.tell V hV).2.1 HQ.out (E.out.tell V hV).2.2
      obtain ⟨a', c', hv6, hS0⟩ := HF.out.now
      subst hv6
      have HF2 : Hid (Fro u.heap.size (SlR 32 tkAt x a' c') wr) := Lib.hid fun V hV => by
        obtain ⟨a2, c2, h1, h2⟩ := HF.out V hV
        simp only [Value.slice.injEq] at h1
        obtain ⟨rfl, _, rfl⟩ := h1
        exact h2
      go_wp2_with fail
      exact bodyPost_ret (results_tmp Try.results92 _ _ _) rfl ⟨E.out.kp, .inl ⟨rfl, E.out.rd, _, rfl, _, _, rfl, HF2.out⟩⟩
    · obtain ⟨m, hm⟩ : ∃ m, n - k = m + 1 := ⟨n - k - 1, by omega⟩
      have hr2 := HRW.out
      rw [hm, qck _ _ rfl] at hr2
      rcases HG : kM 32 b (q, 0) with ⟨⟨q1, e1⟩, y⟩
      rw [HG] at hr2
      have S2 : Hid (e1 ≠ 0 → e' = e1) := Lib.hid fun h => by have h9 := HH.out; rw [hr2, qbr _ _ (by exact h)] at h9; exact (congrArg (fun z => z.1.2) h9).symm
      replace HRW := Lib.hid hr2
      clear hr2
      go_upto_region 3 with fail; refine wp_region_lit ?_
      refine qaa (qa0 (c := true) rfl rfl rfl (decide_eq_true (by omega))) rfl ?_; (try simp only [Act.put, lyy])
      refine qab ?_
      go_upto_region 4 with fail; refine wp_region_lit ?_
      refine qaa (qad (v := u5) rfl rfl) rfl ?_; (try simp only [Act.put, lyy])
      refine qaa (qad (v := .func (.func 83) #[] #[]) rfl rfl) rfl ?_; (try simp only [Act.put, lyy])
      refine qaa (qad (v := .pointer (some ⟨p, 0, none⟩)) rfl rfl) rfl ?_; (try simp only [Act.put, lyy])
      refine qag (qb7 qco rfl rfl rfl) rfl (rkey_any B p b q q1 e1 y _ HG E.out.rd) (fun v3 a3 hs hk hr hT => ?_) (fun a3 hs hk => ?pana3)
      case pana3 =>
        go_wp2_with fail
        have q := S2.out hs
        exact ⟨rfl, E.out.kp.trans hk, .inr ⟨by rw [q]; exact hs, by simp only [q]⟩⟩
      (try simp only [Act.put, lyy])
      replace hs : e1 = 0 := hs
      subst hs
      obtain ⟨rfl, hl3⟩ := hT
      obtain ⟨X, hX⟩ : ∃ X, X = y.map b8 := ⟨_, rfl⟩
      rw [← hX]
      have lX : X.length = 32 := by rw [hX, List.length_map]; exact hl3
      have oX : One X := by rw [hX]; exact One.b8 _
      have fX : Fro wr.heap.size (tkAt y X) a3 := fun _ _ => hX
      replace E := Lib.hid (E.out.call hk hr (H0 := tkAt y X) fX)
      clear hk hr S2
      refine qaa (qcf (m := X) (z := 32) (zv := .agg (List.replicate 32 (.int .u8 0) : List Value).toArray) rfl Try.underlying42 (by kernel_rfl) rfl lX (by omega) (by omega)) rfl ?_; (try simp only [Act.put, lyy])
      have A2 := Lib.hid (Arr.new a3 X 27)
      replace E := Lib.hid (E.out.below ((Below.refl a3.heap.size a3).alloc (Nat.le_refl _) (.cells X.toArray 27)))
      generalize a3.alloc (.cells X.toArray 27) = b1 at *
      generalize a3.heap.size = g0 at *
      refine qcg (t := 42) (bw := 32) (zv := .agg (List.replicate 32 (.int .u8 0) : List Value).toArray) (z := 32) rfl rfl Try.underlying42 (by kernel_rfl) rfl (by omega) rfl rfl A2.out.range lX oX (by omega) (by omega) E.out (fun v7 b2 hG => ?_); (try simp only [Act.put, lyy])
      replace E := Lib.hid (hG.know (H0 := LR tkAt (l ++ [y]) (css ++ [X])) fun V h => h.2.snoc h.1)
      clear hG A2
      refine qaa (qai (v := v7) rfl rfl) rfl ?_; (try simp only [Act.put, lyy])
      refine qab ?_
      go_upto_region 5 with fail; refine wp_region_lit ?_
      refine qaa (qaz (a := k) (b := 1) rfl rfl rfl (by omega)) rfl ?_; (try simp only [Act.put, lyy])
      refine qaa (qad (v := .int .i64 ((k + 1 : Nat) : Int)) rfl rfl) rfl ?_; (try simp only [Act.put, lyy])
      refine qab ?_
      go_wp2_with fail
      exact ⟨⟨k + 1, q1, l ++ [y], css ++ [X], rfl, by omega, by rw [List.length_append, ← hkl]; rfl, (fun z hz => (List.mem_append.1 hz).elim (HQ.out z) fun h => by rw [List.mem_singleton.1 h]; exact lX), by rw [HRW.out, show n - (k + 1) = m by omega, List.append_assoc]; rfl, by rw [List.flatten_append, show [X].flatten = X by simp]; exact E.out⟩, by simp [intOf]; omega⟩
end Go.Proofs.Ytcgbgmbnagmohaa
