import Derived.Test.YtcgbgmbnagmohaaGreatLy
import Derived.Test.YtcgbgmbnagmohaaGreatPr4
namespace Go.Proofs.YtcgbgmbnagmohaaGreat
open Go.RowKit
set_option maxRecDepth 20000
attribute [local irreducible] wpList
theorem enters_ritm : Enters 127 := qan Tryz.func127 (by kernel_rfl) rfl
set_option maxHeartbeats 8000000 in
theorem ritm_any (B p : Nat) (b : List (BitVec 8)) (i i' : Nat) (e' : Int) (x : (Int × MEv)) (u : World) (H : itM b (i, 0) = ((i', e'), x)) (R : RdS B p b i u) : Calls Tryz.prog 127 #[.pointer (some ⟨p, 0, none⟩)] u (RPost B p b u (i', e') fun v u' => ∃ X : List Value, v = .agg X.toArray ∧ X.length = 73 ∧ One X ∧ Fro u.heap.size (itAt x X) u') := by
  rcases H1 : nM b 1099511627776 (i, 0) with ⟨⟨i1, e1⟩, x1⟩
  rcases H2 : evM b (i1, e1) with ⟨⟨i2, e2⟩, x2⟩
  have S2 : Hid (e1 ≠ 0 → e2 = e1) := Lib.hid fun h => by have q := evM_stay (b := b) (i := i1) h; rw [H2] at q; exact congrArg Prod.snd q
  simp only [itM, H1, H2, Prod.mk.injEq] at H
  obtain ⟨⟨rfl, rfl⟩, rfl⟩ := H
  have E := Lib.hid (Rm.start R)
  clear R
  go_enter Tryz.func127, Tryz.ntmps127
  go_upto_region 0 with fail; refine wp_region_lit ?_
  refine qaa (qa3 (vs := itR ((.int .i64 0)) (evR ((.int .i64 0)) ((.int .i64 0)) ((.bool false)) (z8 32) ((.int .i64 0)) ((.int .i64 0)) (hdR (z8 32) ((.int .i64 0)) ((.int .i64 0))) ((.slice none 0 0)))) rfl (by kernel_rfl)) rfl ?_; (try simp only [Act.put, lyy])
  replace E := Lib.hid (E.out.new (itR ((.int .i64 0)) (evR ((.int .i64 0)) ((.int .i64 0)) ((.bool false)) (z8 32) ((.int .i64 0)) ((.int .i64 0)) (hdR (z8 32) ((.int .i64 0)) ((.int .i64 0))) ((.slice none 0 0)))) 102)
  generalize u.alloc (.cells (itR ((.int .i64 0)) (evR ((.int .i64 0)) ((.int .i64 0)) ((.bool false)) (z8 32) ((.int .i64 0)) ((.int .i64 0)) (hdR (z8 32) ((.int .i64 0)) ((.int .i64 0))) ((.slice none 0 0)))).toArray 102) = a1 at *
  obtain ⟨g2, hg0⟩ : ∃ k, k = u.heap.size := ⟨_, rfl⟩
  rw [← hg0] at E ⊢
  clear hg0
  refine qab ?_
  go_upto_region 1 with fail; refine wp_region_lit ?_
  refine qaa (qad (v := .pointer (some ⟨p, 0, none⟩)) rfl rfl) rfl ?_; (try simp only [Act.put, lyy])
  refine qaj (qaq qbh rfl rfl rfl) rfl (qb2 B p b i i1 e1 x1 _ H1 E.out.rd) (fun v1 a3 hs hk hr hT => ?_) (fun a3 hs hk => ?pana3)
  case pana3 =>
    go_wp2_with fail
    replace hs : e1 ≠ 0 := hs
    have t2 := S2.out
    have q : e2 = e1 := by omega
    exact ⟨rfl, E.out.panic hk, .inr ⟨by rw [q]; exact hs, by simp only [q]⟩⟩
  (try simp only [Act.put, lyy])
  replace hs : e1 = 0 := hs
  subst hs
  subst hT
  replace E := Lib.hid (E.out.call hk hr (H0 := fun _ => True) (fun _ _ => trivial))
  clear hk hr
  refine qaa (qad (v := .pointer (some ⟨p, 0, none⟩)) rfl rfl) rfl ?_; (try simp only [Act.put, lyy])
  refine qaj (qaq enters_renv rfl rfl rfl) rfl (renv_any B p b i1 i2 e2 x2 _ H2 E.out.rd) (fun v2 a4 hs hk hr hT => ?_) (fun a4 hs hk => ?pana4)
  case pana4 =>
    go_wp2_with fail
    exact ⟨rfl, E.out.panic hk, .inr ⟨hs, rfl⟩⟩
  (try simp only [Act.put, lyy])
  replace hs : e2 = 0 := hs
  subst hs
  obtain ⟨X2, rfl, l2, o2, f2⟩ := hT
  replace E := Lib.hid (E.out.call hk hr (H0 := evAt x2 X2) (f2))
  clear hk hr
  refine qaa (qa7 (cells := (itR (.int .i64 x1) (X2)).toArray) (ps := [(0, .int .i64 x1), (1, .agg (X2).toArray)]) rfl rfl (itR_all rfl l2)) rfl ?_; (try simp only [Act.put, lyy])
  refine qal (qa0 (vs := itR (.int .i64 x1) (X2)) rfl (szR (itR_len l2) (by kernel_rfl)) rfl rfl (One.all (itR_one rfl o2)) ((E.out.get (i := 0) rfl).thereM (by have q1 : (itR (.int .i64 x1) (X2)).length = 73 := (itR_len l2); have q2 : (itR ((.int .i64 0)) (evR ((.int .i64 0)) ((.int .i64 0)) ((.bool false)) (z8 32) ((.int .i64 0)) ((.int .i64 0)) (hdR (z8 32) ((.int .i64 0)) ((.int .i64 0))) ((.slice none 0 0)))).length = 73 := (itR_len (qbk (qac 32) (qa9 (qac 32)))); omega))) rfl rfl ?_
  replace E := Lib.hid (E.out.put 0 rfl (m := itR (.int .i64 x1) (X2)) ((show (itR (.int .i64 x1) (X2)).length = 73 from (itR_len l2)).trans (show (itR ((.int .i64 0)) (evR ((.int .i64 0)) ((.int .i64 0)) ((.bool false)) (z8 32) ((.int .i64 0)) ((.int .i64 0)) (hdR (z8 32) ((.int .i64 0)) ((.int .i64 0))) ((.slice none 0 0)))).length = 73 from (itR_len (qbk (qac 32) (qa9 (qac 32))))).symm))
  generalize a4.setCells g2 0 (itR (.int .i64 x1) (X2)) = a5 at *
  replace E := Lib.hid (show Rm _ _ _ _ _ [(g2, itR (.int .i64 x1) (X2))] _ a5 from E.out)
  refine qab ?_
  go_wp2_with fail
  exact bodyPost_ret (v := .agg (itR (.int .i64 x1) (X2)).toArray) (qbj Tryz.results127 rfl Tryz.underlying102 rfl (szR (itR_len l2) (by kernel_rfl)) (E.out.get (i := 0) rfl).range) rfl ⟨E.out.kp, .inl ⟨(by first | rfl | exact hs), E.out.rd, _, rfl, _, rfl, (itR_len l2), (itR_one rfl o2), fun V hV => ⟨X2, rfl, (E.out.tell V hV).1⟩⟩⟩
theorem enters_ralI : Enters 126 := qan Tryz.func126 (by kernel_rfl) rfl
set_option maxHeartbeats 8000000 in
theorem ralI_any (B p : Nat) (b : List (BitVec 8)) (i i' : Nat) (e' : Int) (x : List (Int × MEv)) (u : World) (H : itsM b (i, 0) = ((i', e'), x)) (R : RdS B p b i u) : Calls Tryz.prog 126 #[.pointer (some ⟨p, 0, none⟩), .func (.func 127) #[] #[]] u (RPost B p b u (i', e') fun v u' => ∃ a c, v = .slice a x.length c ∧ Fro u.heap.size (SlR 73 itAt x a c) u') := by
  rcases HN : nM b 60000 (i, 0) with ⟨⟨i0, e0⟩, N⟩
  have hn0 := nM_num (b := b) (most := 60000) (s := (i, 0)) (by omega)
  rw [HN] at hn0
  obtain ⟨n, hn⟩ : ∃ n : Nat, N = (n : Int) := ⟨N.toNat, by omega⟩
  subst hn
  have hnn : n ≤ 60000 := by have := hn0.2; simp only at this; omega
  clear hn0
  simp only [itsM, HN, Int.toNat_natCast] at H
  have S1 : Hid (e0 ≠ 0 → e' = e0) := Lib.hid fun h => by rw [qcd _ _ (by exact h)] at H; exact (congrArg (fun z => z.1.2) H).symm
  have HH := Lib.hid H
  have HR := Lib.hid R
  clear H R
  go_enter Tryz.func126, Tryz.ntmps126
  go_upto_region 0 with fail; refine wp_region_lit ?_
  refine qaa (qak (v := .slice none 0 0) rfl rfl) rfl ?_; (try simp only [Act.put, lyy])
  refine qab ?_
  go_upto_region 1 with fail; refine wp_region_lit ?_
  refine qaa (qak (v := .slice none 0 0) rfl rfl) rfl ?_; (try simp only [Act.put, lyy])
  refine qab ?_
  have E := Lib.hid ((Rg.start HR.out 102 73).know (H0 := LR itAt [] []) fun V _ => LR.nil V)
  go_upto_region 2 with fail; refine wp_region_lit ?_
  refine qaa (qad (v := .pointer (some ⟨p, 0, none⟩)) rfl rfl) rfl ?_; (try simp only [Act.put, lyy])
  refine qaj (qaq qcr rfl rfl rfl) rfl (rcnt_any B p b i i0 e0 _ _ HN E.out.rd) (fun v a1 hs hk hr hT => ?_) (fun a1 hs hk => ?pana1)
  case pana1 =>
    go_wp2_with fail
    have q := S1.out hs
    exact ⟨rfl, E.out.kp.trans hk, .inr ⟨by rw [q]; exact hs, by simp only [q]⟩⟩
  (try simp only [Act.put, lyy])
  subst hT
  replace hs : e0 = 0 := hs
  subst hs
  replace E := Lib.hid ((E.out.call hk hr (H0 := fun _ => True) fun _ _ => trivial).know (H0 := LR itAt [] []) fun V h => h.2)
  clear hk hr S1 HR
  refine qaa (qad (v := .int .i64 0) rfl rfl) rfl ?_; (try simp only [Act.put, lyy])
  refine qab ?_
  go_wp2_with fail
  go_loopw [5, 8] (fun s5 s8 a => ∃ (k q : Nat) (l : List (Int × MEv)) (css : List (List Value)), s8 = .int .i64 (k : Int) ∧ k ≤ n ∧ k = l.length ∧ (∀ y ∈ css, y.length = 73) ∧ (rowsM (itM b) n (i0, 0) = ((rowsM (itM b) (n - k) (q, 0)).1, l ++ (rowsM (itM b) (n - k) (q, 0)).2)) ∧ Rg u B p b q 102 73 s5 k css.flatten (LR itAt l css) a) (fun _ s8 _ => ((n : Int) - intOf s8).toNat)
  case atStart => exact ⟨0, i0, [], [], rfl, by omega, rfl, (fun _ h => by cases h), by simp, E.out⟩
  case round =>
    obtain ⟨k, q, l, css, rfl, hkn, hkl, hq, hrow, hJ⟩ := hrel
    replace E := Lib.hid hJ
    have HQ := Lib.hid hq
    have HRW := Lib.hid hrow
    clear hJ hq hrow
    by_cases hkn2 : k = n
    · subst hkn2
      have HX : Hid (((i', e'), x) = ((q, (0 : Int)), l)) := Lib.hid (by rw [← HH.out, HRW.out, Nat.sub_self, qdb, List.append_nil])
      simp only [Prod.mk.injEq] at HX
      obtain ⟨⟨rfl, rfl⟩, rfl⟩ := HX.out
      go_upto_region 3 with fail; refine wp_region_lit ?_
      refine qaa (qay (c := false) rfl rfl rfl (decide_eq_false (by omega))) rfl ?_; (try simp only [Act.put, lyy])
      refine qab ?_
      go_upto_region 6 with fail; refine wp_region_lit ?_
      refine qaa (qad (v := u5) rfl rfl) rfl ?_; (try simp only [Act.put, lyy])
      refine qaa (qak (v := u5) rfl rfl) rfl ?_; (try simp only [Act.put, lyy])
      refine qab ?_
      have HF : Hid (Fro u.heap.size (fun V => ∃ a' c', u5 = .slice a' x.length c' ∧ SlR 73 itAt x a' c' V) wr) := Lib.hid fun V hV => qc5 (E.out.tell V hV).1 hkl (E.out.tell V hV).2.1 HQ.out (E.out.tell V hV).2.2
      obtain ⟨a', c', hv6, hS0⟩ := HF.out.now
      subst hv6
      have HF2 : Hid (Fro u.heap.size (SlR 73 itAt x a' c') wr) := Lib.hid fun V hV => by
        obtain ⟨a2, c2, h1, h2⟩ := HF.out V hV
        simp only [Value.slice.injEq] at h1
        obtain ⟨rfl, _, rfl⟩ := h1
        exact h2
      go_wp2_with fail
      exact bodyPost_ret (results_tmp Tryz.results126 _ _ _) rfl ⟨E.out.kp, .inl ⟨rfl, E.out.rd, _, rfl, _, _, rfl, HF2.out⟩⟩
    · obtain ⟨m, hm⟩ : ∃ m, n - k = m + 1 := ⟨n - k - 1, by omega⟩
      have hr2 := HRW.out
      rw [hm, qdc _ _ rfl] at hr2
      rcases HG : itM b (q, 0) with ⟨⟨q1, e1⟩, y⟩
      rw [HG] at hr2
      have S2 : Hid (e1 ≠ 0 → e' = e1) := Lib.hid fun h => by have h9 := HH.out; rw [hr2, qcd _ _ (by exact h)] at h9; exact (congrArg (fun z => z.1.2) h9).symm
      replace HRW := Lib.hid hr2
      clear hr2
      go_upto_region 3 with fail; refine wp_region_lit ?_
      refine qaa (qay (c := true) rfl rfl rfl (decide_eq_true (by omega))) rfl ?_; (try simp only [Act.put, lyy])
      refine qab ?_
      go_upto_region 4 with fail; refine wp_region_lit ?_
      refine qaa (qad (v := u5) rfl rfl) rfl ?_; (try simp only [Act.put, lyy])
      refine qaa (qad (v := .func (.func 127) #[] #[]) rfl rfl) rfl ?_; (try simp only [Act.put, lyy])
      refine qaa (qad (v := .pointer (some ⟨p, 0, none⟩)) rfl rfl) rfl ?_; (try simp only [Act.put, lyy])
      refine qaj (qcc enters_ritm rfl rfl rfl) rfl (ritm_any B p b q q1 e1 y _ HG E.out.rd) (fun v3 a3 hs hk hr hT => ?_) (fun a3 hs hk => ?pana3)
      case pana3 =>
        go_wp2_with fail
        have q := S2.out hs
        exact ⟨rfl, E.out.kp.trans hk, .inr ⟨by rw [q]; exact hs, by simp only [q]⟩⟩
      (try simp only [Act.put, lyy])
      replace hs : e1 = 0 := hs
      subst hs
      obtain ⟨X, rfl, lX, oX, fX⟩ := hT
      replace E := Lib.hid (E.out.call hk hr (H0 := itAt y X) fX)
      clear hk hr S2
      refine qaa (qcg (m := X) (z := 73) (zv := .agg ([.int .i64 0, .int .i64 0, .int .i64 0] ++ [.bool false] ++ List.replicate 32 (.int .u8 0) ++ [.int .i64 0, .int .i64 0] ++ List.replicate 32 (.int .u8 0) ++ [.int .i64 0, .int .i64 0] ++ [.slice none 0 0] : List Value).toArray) rfl Tryz.underlying44 (by kernel_rfl) rfl lX (by omega) (by omega)) rfl ?_; (try simp only [Act.put, lyy])
      have A2 := Lib.hid (Arr.new a3 X 102)
      replace E := Lib.hid (E.out.below ((Below.refl a3.heap.size a3).alloc (Nat.le_refl _) (.cells X.toArray 102)))
      generalize a3.alloc (.cells X.toArray 102) = b1 at *
      generalize a3.heap.size = g0 at *
      refine qcw (t := 44) (bw := 152) (zv := .agg ([.int .i64 0, .int .i64 0, .int .i64 0] ++ [.bool false] ++ List.replicate 32 (.int .u8 0) ++ [.int .i64 0, .int .i64 0] ++ List.replicate 32 (.int .u8 0) ++ [.int .i64 0, .int .i64 0] ++ [.slice none 0 0] : List Value).toArray) (z := 73) rfl rfl Tryz.underlying44 (by kernel_rfl) rfl (by omega) rfl rfl A2.out.range lX oX (by omega) (by omega) E.out (fun v7 b2 hG => ?_); (try simp only [Act.put, lyy])
      replace E := Lib.hid (hG.know (H0 := LR itAt (l ++ [y]) (css ++ [X])) fun V h => h.2.snoc h.1)
      clear hG A2
      refine qaa (qak (v := v7) rfl rfl) rfl ?_; (try simp only [Act.put, lyy])
      refine qab ?_
      go_upto_region 5 with fail; refine wp_region_lit ?_
      refine qaa (qa6 (a := k) (b := 1) rfl rfl rfl (by omega)) rfl ?_; (try simp only [Act.put, lyy])
      refine qaa (qad (v := .int .i64 ((k + 1 : Nat) : Int)) rfl rfl) rfl ?_; (try simp only [Act.put, lyy])
      refine qab ?_
      go_wp2_with fail
      exact ⟨⟨k + 1, q1, l ++ [y], css ++ [X], rfl, by omega, by rw [List.length_append, ← hkl]; rfl, (fun z hz => (List.mem_append.1 hz).elim (HQ.out z) fun h => by rw [List.mem_singleton.1 h]; exact lX), by rw [HRW.out, show n - (k + 1) = m by omega, List.append_assoc]; rfl, by rw [List.flatten_append, show [X].flatten = X by simp]; exact E.out⟩, by simp [intOf]; omega⟩
theorem enters_rslt : Enters 140 := qan Tryz.func140 (by kernel_rfl) rfl
set_option maxHeartbeats 8000000 in
theorem rslt_any (B p : Nat) (b : List (BitVec 8)) (i i' : Nat) (e' : Int) (x : MSlot) (u : World) (H : slM b (i, 0) = ((i', e'), x)) (R : RdS B p b i u) : Calls Tryz.prog 140 #[.pointer (some ⟨p, 0, none⟩)] u (RPost B p b u (i', e') fun v u' => ∃ X : List Value, v = .agg X.toArray ∧ X.length = 101 ∧ One X ∧ Fro u.heap.size (slAt x X) u') := by
  rcases H1 : nM b 1099511627776 (i, 0) with ⟨⟨i1, e1⟩, x1⟩
  rcases H2 : pkM b (i1, e1) with ⟨⟨i2, e2⟩, x2⟩
  have S2 : Hid (e1 ≠ 0 → e2 = e1) := Lib.hid fun h => by have q := pkM_stay (b := b) (i := i1) h; rw [H2] at q; exact congrArg Prod.snd q
  rcases H3 : kM 64 b (i2, e2) with ⟨⟨i3, e3⟩, x3⟩
  have S3 : Hid (e2 ≠ 0 → e3 = e2) := Lib.hid fun h => by have q := qcm (n := 64) (b := b) (i := i2) h; rw [H3] at q; exact congrArg Prod.snd q
  rcases H4 : psM b (i3, e3) with ⟨⟨i4, e4⟩, x4⟩
  have S4 : Hid (e3 ≠ 0 → e4 = e3) := Lib.hid fun h => by have q := psM_stay (b := b) (i := i3) h; rw [H4] at q; exact congrArg Prod.snd q
  rcases H5 : nM b 1099511627776 (i4, e4) with ⟨⟨i5, e5⟩, x5⟩
  have S5 : Hid (e4 ≠ 0 → e5 = e4) := Lib.hid fun h => by have q := qbu (most := 1099511627776) (b := b) (i := i4) h; rw [H5] at q; exact congrArg Prod.snd q
  rcases H6 : evsM b (i5, e5) with ⟨⟨i6, e6⟩, x6⟩
  have S6 : Hid (e5 ≠ 0 → e6 = e5) := Lib.hid fun h => by have q := evsM_stay (b := b) (i := i5) h; rw [H6] at q; exact congrArg Prod.snd q
  simp only [slM, H1, H2, H3, H4, H5, H6, Prod.mk.injEq] at H
  obtain ⟨⟨rfl, rfl⟩, rfl⟩ := H
  have E := Lib.hid (Rm.start R)
  clear R
  go_enter Tryz.func140, Tryz.ntmps140
  go_upto_region 0 with fail; refine wp_region_lit ?_
  refine qaa (qa3 (vs := slR ((.int .i64 0)) (pkR ((.int .i64 0)) (z8 32)) (z8 64) ((.slice none 0 0)) ((.int .i64 0)) ((.slice none 0 0))) rfl (by kernel_rfl)) rfl ?_; (try simp only [Act.put, lyy])
  replace E := Lib.hid (E.out.new (slR ((.int .i64 0)) (pkR ((.int .i64 0)) (z8 32)) (z8 64) ((.slice none 0 0)) ((.int .i64 0)) ((.slice none 0 0))) 107)
  generalize u.alloc (.cells (slR ((.int .i64 0)) (pkR ((.int .i64 0)) (z8 32)) (z8 64) ((.slice none 0 0)) ((.int .i64 0)) ((.slice none 0 0))).toArray 107) = a1 at *
  obtain ⟨g2, hg0⟩ : ∃ k, k = u.heap.size := ⟨_, rfl⟩
  rw [← hg0] at E ⊢
  clear hg0
  refine qab ?_
  go_upto_region 1 with fail; refine wp_region_lit ?_
  refine qaa (qad (v := .pointer (some ⟨p, 0, none⟩)) rfl rfl) rfl ?_; (try simp only [Act.put, lyy])
  refine qaj (qaq qbh rfl rfl rfl) rfl (qb2 B p b i i1 e1 x1 _ H1 E.out.rd) (fun v1 a3 hs hk hr hT => ?_) (fun a3 hs hk => ?pana3)
  case pana3 =>
    go_wp2_with fail
    replace hs : e1 ≠ 0 := hs
    have t2 := S2.out
    have t3 := S3.out
    have t4 := S4.out
    have t5 := S5.out
    have t6 := S6.out
    have q : e6 = e1 := by omega
    exact ⟨rfl, E.out.panic hk, .inr ⟨by rw [q]; exact hs, by simp only [q]⟩⟩
  (try simp only [Act.put, lyy])
  replace hs : e1 = 0 := hs
  subst hs
  subst hT
  replace E := Lib.hid (E.out.call hk hr (H0 := fun _ => True) (fun _ _ => trivial))
  clear hk hr
  refine qaa (qad (v := .pointer (some ⟨p, 0, none⟩)) rfl rfl) rfl ?_; (try simp only [Act.put, lyy])
  refine qaj (qaq enters_rpre rfl rfl rfl) rfl (rpre_any B p b i1 i2 e2 x2 _ H2 E.out.rd) (fun v2 a4 hs hk hr hT => ?_) (fun a4 hs hk => ?pana4)
  case pana4 =>
    go_wp2_with fail
    replace hs : e2 ≠ 0 := hs
    have t3 := S3.out
    have t4 := S4.out
    have t5 := S5.out
    have t6 := S6.out
    have q : e6 = e2 := by omega
    exact ⟨rfl, E.out.panic hk, .inr ⟨by rw [q]; exact hs, by simp only [q]⟩⟩
  (try simp only [Act.put, lyy])
  replace hs : e2 = 0 := hs
  subst hs
  obtain ⟨rfl, l2⟩ := hT
  replace E := Lib.hid (E.out.call hk hr (H0 := fun _ => True) (fun _ _ => trivial))
  clear hk hr
  refine qaa (qad (v := .pointer (some ⟨p, 0, none⟩)) rfl rfl) rfl ?_; (try simp only [Act.put, lyy])
  refine qaj (qaq enters_rsig rfl rfl rfl) rfl (rsig_any B p b i2 i3 e3 x3 _ H3 E.out.rd) (fun v3 a5 hs hk hr hT => ?_) (fun a5 hs hk => ?pana5)
  case pana5 =>
    go_wp2_with fail
    replace hs : e3 ≠ 0 := hs
    have t4 := S4.out
    have t5 := S5.out
    have t6 := S6.out
    have q : e6 = e3 := by omega
    exact ⟨rfl, E.out.panic hk, .inr ⟨by rw [q]; exact hs, by simp only [q]⟩⟩
  (try simp only [Act.put, lyy])
  replace hs : e3 = 0 := hs
  subst hs
  obtain ⟨rfl, l3⟩ := hT
  replace E := Lib.hid (E.out.call hk hr (H0 := fun _ => True) (fun _ _ => trivial))
  clear hk hr
  refine qaa (qad (v := .pointer (some ⟨p, 0, none⟩)) rfl rfl) rfl ?_; (try simp only [Act.put, lyy])
  refine qaj (qaf enters_ralP rfl rfl rfl rfl) rfl (ralP_any B p b i3 i4 e4 x4 _ H4 E.out.rd) (fun v4 a6 hs hk hr hT => ?_) (fun a6 hs hk => ?pana6)
  case pana6 =>
    go_wp2_with fail
    replace hs : e4 ≠ 0 := hs
    have t5 := S5.out
    have t6 := S6.out
    have q : e6 = e4 := by omega
    exact ⟨rfl, E.out.panic hk, .inr ⟨by rw [q]; exact hs, by simp only [q]⟩⟩
  (try simp only [Act.put, lyy])
  replace hs : e4 = 0 := hs
  subst hs
  obtain ⟨c4, d4, rfl, f4⟩ := hT
  replace E := Lib.hid (E.out.call hk hr (H0 := SlR 33 pkAt x4 c4 d4) (f4))
  clear hk hr
  refine qaa (qad (v := .pointer (some ⟨p, 0, none⟩)) rfl rfl) rfl ?_; (try simp only [Act.put, lyy])
  refine qaj (qaq qbh rfl rfl rfl) rfl (qb2 B p b i4 i5 e5 x5 _ H5 E.out.rd) (fun v5 a7 hs hk hr hT => ?_) (fun a7 hs hk => ?pana7)
  case pana7 =>
    go_wp2_with fail
    replace hs : e5 ≠ 0 := hs
    have t6 := S6.out
    have q : e6 = e5 := by omega
    exact ⟨rfl, E.out.panic hk, .inr ⟨by rw [q]; exact hs, by simp only [q]⟩⟩
  (try simp only [Act.put, lyy])
  replace hs : e5 = 0 := hs
  subst hs
  subst hT
  replace E := Lib.hid (E.out.call hk hr (H0 := fun _ => True) (fun _ _ => trivial))
  clear hk hr
  refine qaa (qad (v := .pointer (some ⟨p, 0, none⟩)) rfl rfl) rfl ?_; (try simp only [Act.put, lyy])
  refine qaj (qaf enters_ralV rfl rfl rfl rfl) rfl (ralV_any B p b i5 i6 e6 x6 _ H6 E.out.rd) (fun v6 a8 hs hk hr hT => ?_) (fun a8 hs hk => ?pana8)
  case pana8 =>
    go_wp2_with fail
    exact ⟨rfl, E.out.panic hk, .inr ⟨hs, rfl⟩⟩
  (try simp only [Act.put, lyy])
  replace hs : e6 = 0 := hs
  subst hs
  obtain ⟨c6, d6, rfl, f6⟩ := hT
  replace E := Lib.hid (E.out.call hk hr (H0 := SlR 72 evAt x6 c6 d6) (f6))
  clear hk hr
  refine qaa (qa7 (cells := (slR (.int .i64 x1) (pkC x2) (x3.map b8) (.slice c4 x4.length d4) (.int .i64 x5) (.slice c6 x6.length d6)).toArray) (ps := [(0, .int .i64 x1), (1, .agg (pkC x2).toArray), (2, .agg (x3.map b8).toArray), (3, .slice c4 x4.length d4), (4, .int .i64 x5), (5, .slice c6 x6.length d6)]) rfl rfl (slR_all rfl (pkC_len' l2) (by rw [List.length_map, l3]) rfl rfl rfl)) rfl ?_; (try simp only [Act.put, lyy])
  refine qal (qa0 (vs := slR (.int .i64 x1) (pkC x2) (x3.map b8) (.slice c4 x4.length d4) (.int .i64 x5) (.slice c6 x6.length d6)) rfl (szR (slR_len (pkC_len' l2) (by rw [List.length_map, l3])) (by kernel_rfl)) rfl rfl (One.all (slR_one rfl (pkC_one l2) (One.b8 _) rfl rfl rfl)) ((E.out.get (i := 0) rfl).thereM (by have q1 : (slR (.int .i64 x1) (pkC x2) (x3.map b8) (.slice c4 x4.length d4) (.int .i64 x5) (.slice c6 x6.length d6)).length = 101 := (slR_len (pkC_len' l2) (by rw [List.length_map, l3])); have q2 : (slR ((.int .i64 0)) (pkR ((.int .i64 0)) (z8 32)) (z8 64) ((.slice none 0 0)) ((.int .i64 0)) ((.slice none 0 0))).length = 101 := (slR_len (qar (qac 32)) (qac 64)); omega))) rfl rfl ?_
  replace E := Lib.hid (E.out.put 0 rfl (m := slR (.int .i64 x1) (pkC x2) (x3.map b8) (.slice c4 x4.length d4) (.int .i64 x5) (.slice c6 x6.length d6)) ((show (slR (.int .i64 x1) (pkC x2) (x3.map b8) (.slice c4 x4.length d4) (.int .i64 x5) (.slice c6 x6.length d6)).length = 101 from (slR_len (pkC_len' l2) (by rw [List.length_map, l3]))).trans (show (slR ((.int .i64 0)) (pkR ((.int .i64 0)) (z8 32)) (z8 64) ((.slice none 0 0)) ((.int .i64 0)) ((.slice none 0 0))).length = 101 from (slR_len (qar (qac 32)) (qac 64))).symm))
  generalize a8.setCells g2 0 (slR (.int .i64 x1) (pkC x2) (x3.map b8) (.slice c4 x4.length d4) (.int .i64 x5) (.slice c6 x6.length d6)) = a9 at *
  replace E := Lib.hid (show Rm _ _ _ _ _ [(g2, slR (.int .i64 x1) (pkC x2) (x3.map b8) (.slice c4 x4.length d4) (.int .i64 x5) (.slice c6 x6.length d6))] _ a9 from E.out)
  refine qab ?_
  go_wp2_with fail
  exact bodyPost_ret (v := .agg (slR (.int .i64 x1) (pkC x2) (x3.map b8) (.slice c4 x4.length d4) (.int .i64 x5) (.slice c6 x6.length d6)).toArray) (qbj Tryz.results140 rfl Tryz.underlying107 rfl (szR (slR_len (pkC_len' l2) (by rw [List.length_map, l3])) (by kernel_rfl)) (E.out.get (i := 0) rfl).range) rfl ⟨E.out.kp, .inl ⟨(by first | rfl | exact hs), E.out.rd, _, rfl, _, rfl, (slR_len (pkC_len' l2) (by rw [List.length_map, l3])), (slR_one rfl (pkC_one l2) (One.b8 _) rfl rfl rfl), fun V hV => ⟨c4, d4, c6, d6, rfl, (E.out.tell V hV).2.2.1, (E.out.tell V hV).1⟩⟩⟩
theorem enters_ralS : Enters 139 := qan Tryz.func139 (by kernel_rfl) rfl
set_option maxHeartbeats 8000000 in
theorem ralS_any (B p : Nat) (b : List (BitVec 8)) (i i' : Nat) (e' : Int) (x : List MSlot) (u : World) (H : slsM b (i, 0) = ((i', e'), x)) (R : RdS B p b i u) : Calls Tryz.prog 139 #[.pointer (some ⟨p, 0, none⟩), .func (.func 140) #[] #[]] u (RPost B p b u (i', e') fun v u' => ∃ a c, v = .slice a x.length c ∧ Fro u.heap.size (SlR 101 slAt x a c) u') := by
  rcases HN : nM b 60000 (i, 0) with ⟨⟨i0, e0⟩, N⟩
  have hn0 := nM_num (b := b) (most := 60000) (s := (i, 0)) (by omega)
  rw [HN] at hn0
  obtain ⟨n, hn⟩ : ∃ n : Nat, N = (n : Int) := ⟨N.toNat, by omega⟩
  subst hn
  have hnn : n ≤ 60000 := by have := hn0.2; simp only at this; omega
  clear hn0
  simp only [slsM, HN, Int.toNat_natCast] at H
  have S1 : Hid (e0 ≠ 0 → e' = e0) := Lib.hid fun h => by rw [qcd _ _ (by exact h)] at H; exact (congrArg (fun z => z.1.2) H).symm
  have HH := Lib.hid H
  have HR := Lib.hid R
  clear H R
  go_enter Tryz.func139, Tryz.ntmps139
  go_upto_region 0 with fail; refine wp_region_lit ?_
  refine qaa (qak (v := .slice none 0 0) rfl rfl) rfl ?_; (try simp only [Act.put, lyy])
  refine qab ?_
  go_upto_region 1 with fail; refine wp_region_lit ?_
  refine qaa (qak (v := .slice none 0 0) rfl rfl) rfl ?_; (try simp only [Act.put, lyy])
  refine qab ?_
  have E := Lib.hid ((Rg.start HR.out 107 101).know (H0 := LR slAt [] []) fun V _ => LR.nil V)
  go_upto_region 2 with fail; refine wp_region_lit ?_
  refine qaa (qad (v := .pointer (some ⟨p, 0, none⟩)) rfl rfl) rfl ?_; (try simp only [Act.put, lyy])
  refine qaj (qaq qcr rfl rfl rfl) rfl (rcnt_any B p b i i0 e0 _ _ HN E.out.rd) (fun v a1 hs hk hr hT => ?_) (fun a1 hs hk => ?pana1)
  case pana1 =>
    go_wp2_with fail
    have q := S1.out hs
    exact ⟨rfl, E.out.kp.trans hk, .inr ⟨by rw [q]; exact hs, by simp only [q]⟩⟩
  (try simp only [Act.put, lyy])
  subst hT
  replace hs : e0 = 0 := hs
  subst hs
  replace E := Lib.hid ((E.out.call hk hr (H0 := fun _ => True) fun _ _ => trivial).know (H0 := LR slAt [] []) fun V h => h.2)
  clear hk hr S1 HR
  refine qaa (qad (v := .int .i64 0) rfl rfl) rfl ?_; (try simp only [Act.put, lyy])
  refine qab ?_
  go_wp2_with fail
  go_loopw [5, 8] (fun s5 s8 a => ∃ (k q : Nat) (l : List MSlot) (css : List (List Value)), s8 = .int .i64 (k : Int) ∧ k ≤ n ∧ k = l.length ∧ (∀ y ∈ css, y.length = 101) ∧ (rowsM (slM b) n (i0, 0) = ((rowsM (slM b) (n - k) (q, 0)).1, l ++ (rowsM (slM b) (n - k) (q, 0)).2)) ∧ Rg u B p b q 107 101 s5 k css.flatten (LR slAt l css) a) (fun _ s8 _ => ((n : Int) - intOf s8).toNat)
  case atStart => exact ⟨0, i0, [], [], rfl, by omega, rfl, (fun _ h => by cases h), by simp, E.out⟩
  case round =>
    obtain ⟨k, q, l, css, rfl, hkn, hkl, hq, hrow, hJ⟩ := hrel
    replace E := Lib.hid hJ
    have HQ := Lib.hid hq
    have HRW := Lib.hid hrow
    clear hJ hq hrow
    by_cases hkn2 : k = n
    · subst hkn2
      have HX : Hid (((i', e'), x) = ((q, (0 : Int)), l)) := Lib.hid (by rw [← HH.out, HRW.out, Nat.sub_self, qdb, List.append_nil])
      simp only [Prod.mk.injEq] at HX
      obtain ⟨⟨rfl, rfl⟩, rfl⟩ := HX.out
      go_upto_region 3 with fail; refine wp_region_lit ?_
      refine qaa (qay (c := false) rfl rfl rfl (decide_eq_false (by omega))) rfl ?_; (try simp only [Act.put, lyy])
      refine qab ?_
      go_upto_region 6 with fail; refine wp_region_lit ?_
      refine qaa (qad (v := u5) rfl rfl) rfl ?_; (try simp only [Act.put, lyy])
      refine qaa (qak (v := u5) rfl rfl) rfl ?_; (try simp only [Act.put, lyy])
      refine qab ?_
      have HF : Hid (Fro u.heap.size (fun V => ∃ a' c', u5 = .slice a' x.length c' ∧ SlR 101 slAt x a' c' V) wr) := Lib.hid fun V hV => qc5 (E.out.tell V hV).1 hkl (E.out.tell V hV).2.1 HQ.out (E.out.tell V hV).2.2
      obtain ⟨a', c', hv6, hS0⟩ := HF.out.now
      subst hv6
      have HF2 : Hid (Fro u.heap.size (SlR 101 slAt x a' c') wr) := Lib.hid fun V hV => by
        obtain ⟨a2, c2, h1, h2⟩ := HF.out V hV
        simp only [Value.slice.injEq] at h1
        obtain ⟨rfl, _, rfl⟩ := h1
        exact h2
      go_wp2_with fail
      exact bodyPost_ret (results_tmp Tryz.results139 _ _ _) rfl ⟨E.out.kp, .inl ⟨rfl, E.out.rd, _, rfl, _, _, rfl, HF2.out⟩⟩
    · obtain ⟨m, hm⟩ : ∃ m, n - k = m + 1 := ⟨n - k - 1, by omega⟩
      have hr2 := HRW.out
      rw [hm, qdc _ _ rfl] at hr2
      rcases HG : slM b (q, 0) with ⟨⟨q1, e1⟩, y⟩
      rw [HG] at hr2
      have S2 : Hid (e1 ≠ 0 → e' = e1) := Lib.hid fun h => by have h9 := HH.out; rw [hr2, qcd _ _ (by exact h)] at h9; exact (congrArg (fun z => z.1.2) h9).symm
      replace HRW := Lib.hid hr2
      clear hr2
      go_upto_region 3 with fail; refine wp_region_lit ?_
      refine qaa (qay (c := true) rfl rfl rfl (decide_eq_true (by omega))) rfl ?_; (try simp only [Act.put, lyy])
      refine qab ?_
      go_upto_region 4 with fail; refine wp_region_lit ?_
      refine qaa (qad (v := u5) rfl rfl) rfl ?_; (try simp only [Act.put, lyy])
      refine qaa (qad (v := .func (.func 140) #[] #[]) rfl rfl) rfl ?_; (try simp only [Act.put, lyy])
      refine qaa (qad (v := .pointer (some ⟨p, 0, none⟩)) rfl rfl) rfl ?_; (try simp only [Act.put, lyy])
      refine qaj (qcc enters_rslt rfl rfl rfl) rfl (rslt_any B p b q q1 e1 y _ HG E.out.rd) (fun v3 a3 hs hk hr hT => ?_) (fun a3 hs hk => ?pana3)
      case pana3 =>
        go_wp2_with fail
        have q := S2.out hs
        exact ⟨rfl, E.out.kp.trans hk, .inr ⟨by rw [q]; exact hs, by simp only [q]⟩⟩
      (try simp only [Act.put, lyy])
      replace hs : e1 = 0 := hs
      subst hs
      obtain ⟨X, rfl, lX, oX, fX⟩ := hT
      replace E := Lib.hid (E.out.call hk hr (H0 := slAt y X) fX)
      clear hk hr S2
      refine qaa (qcg (m := X) (z := 101) (zv := .agg ([.int .i64 0, .int .i64 0] ++ List.replicate 96 (.int .u8 0) ++ [.slice none 0 0] ++ [.int .i64 0] ++ [.slice none 0 0] : List Value).toArray) rfl Tryz.underlying57 (by kernel_rfl) rfl lX (by omega) (by omega)) rfl ?_; (try simp only [Act.put, lyy])
      have A2 := Lib.hid (Arr.new a3 X 107)
      replace E := Lib.hid (E.out.below ((Below.refl a3.heap.size a3).alloc (Nat.le_refl _) (.cells X.toArray 107)))
      generalize a3.alloc (.cells X.toArray 107) = b1 at *
      generalize a3.heap.size = g0 at *
      refine qcw (t := 57) (bw := 168) (zv := .agg ([.int .i64 0, .int .i64 0] ++ List.replicate 96 (.int .u8 0) ++ [.slice none 0 0] ++ [.int .i64 0] ++ [.slice none 0 0] : List Value).toArray) (z := 101) rfl rfl Tryz.underlying57 (by kernel_rfl) rfl (by omega) rfl rfl A2.out.range lX oX (by omega) (by omega) E.out (fun v7 b2 hG => ?_); (try simp only [Act.put, lyy])
      replace E := Lib.hid (hG.know (H0 := LR slAt (l ++ [y]) (css ++ [X])) fun V h => h.2.snoc h.1)
      clear hG A2
      refine qaa (qak (v := v7) rfl rfl) rfl ?_; (try simp only [Act.put, lyy])
      refine qab ?_
      go_upto_region 5 with fail; refine wp_region_lit ?_
      refine qaa (qa6 (a := k) (b := 1) rfl rfl rfl (by omega)) rfl ?_; (try simp only [Act.put, lyy])
      refine qaa (qad (v := .int .i64 ((k + 1 : Nat) : Int)) rfl rfl) rfl ?_; (try simp only [Act.put, lyy])
      refine qab ?_
      go_wp2_with fail
      exact ⟨⟨k + 1, q1, l ++ [y], css ++ [X], rfl, by omega, by rw [List.length_append, ← hkl]; rfl, (fun z hz => (List.mem_append.1 hz).elim (HQ.out z) fun h => by rw [List.mem_singleton.1 h]; exact lX), by rw [HRW.out, show n - (k + 1) = m by omega, List.append_assoc]; rfl, by rw [List.flatten_append, show [X].flatten = X by simp]; exact E.out⟩, by simp [intOf]; omega⟩
theorem enters_ralK : Enters 141 := qan Tryz.func141 (by kernel_rfl) rfl
set_option maxHeartbeats 8000000 in
theorem ralK_any (B p : Nat) (b : List (BitVec 8)) (i i' : Nat) (e' : Int) (x : List (List (BitVec 8))) (u : World) (H : tkM b (i, 0) = ((i', e'), x)) (R : RdS B p b i u) : Calls Tryz.prog 141 #[.pointer (some ⟨p, 0, none⟩), .func (.func 104) #[] #[]] u (RPost B p b u (i', e') fun v u' => ∃ a c, v = .slice a x.length c ∧ Fro u.heap.size (SlR 32 tkAt x a c) u') := by
  rcases HN : nM b 60000 (i, 0) with ⟨⟨i0, e0⟩, N⟩
  have hn0 := nM_num (b := b) (most := 60000) (s := (i, 0)) (by omega)
  rw [HN] at hn0
  obtain ⟨n, hn⟩ : ∃ n : Nat, N = (n : Int) := ⟨N.toNat, by omega⟩
  subst hn
  have hnn : n ≤ 60000 := by have := hn0.2; simp only at this; omega
  clear hn0
  simp only [tkM, HN, Int.toNat_natCast] at H
  have S1 : Hid (e0 ≠ 0 → e' = e0) := Lib.hid fun h => by rw [qcd _ _ (by exact h)] at H; exact (congrArg (fun z => z.1.2) H).symm
  have HH := Lib.hid H
  have HR := Lib.hid R
  clear H R
  go_enter Tryz.func141, Tryz.ntmps141
  go_upto_region 0 with fail; refine wp_region_lit ?_
  refine qaa (qak (v := .slice none 0 0) rfl rfl) rfl ?_; (try simp only [Act.put, lyy])
  refine qab ?_
  go_upto_region 1 with fail; refine wp_region_lit ?_
  refine qaa (qak (v := .slice none 0 0) rfl rfl) rfl ?_; (try simp only [Act.put, lyy])
  refine qab ?_
  have E := Lib.hid ((Rg.start HR.out 27 32).know (H0 := LR tkAt [] []) fun V _ => LR.nil V)
  go_upto_region 2 with fail; refine wp_region_lit ?_
  refine qaa (qad (v := .pointer (some ⟨p, 0, none⟩)) rfl rfl) rfl ?_; (try simp only [Act.put, lyy])
  refine qaj (qaq qcr rfl rfl rfl) rfl (rcnt_any B p b i i0 e0 _ _ HN E.out.rd) (fun v a1 hs hk hr hT => ?_) (fun a1 hs hk => ?pana1)
  case pana1 =>
    go_wp2_with fail
    have q := S1.out hs
    exact ⟨rfl, E.out.kp.trans hk, .inr ⟨by rw [q]; exact hs, by simp only [q]⟩⟩
  (try simp only [Act.put, lyy])
  subst hT
  replace hs : e0 = 0 := hs
  subst hs
  replace E := Lib.hid ((E.out.call hk hr (H0 := fun _ => True) fun _ _ => trivial).know (H0 := LR tkAt [] []) fun V h => h.2)
  clear hk hr S1 HR
  refine qaa (qad (v := .int .i64 0) rfl rfl) rfl ?_; (try simp only [Act.put, lyy])
  refine qab ?_
  go_wp2_with fail
  go_loopw [5, 8] (fun s5 s8 a => ∃ (k q : Nat) (l : List (List (BitVec 8))) (css : List (List Value)), s8 = .int .i64 (k : Int) ∧ k ≤ n ∧ k = l.length ∧ (∀ y ∈ css, y.length = 32) ∧ (rowsM (kM 32 b) n (i0, 0) = ((rowsM (kM 32 b) (n - k) (q, 0)).1, l ++ (rowsM (kM 32 b) (n - k) (q, 0)).2)) ∧ Rg u B p b q 27 32 s5 k css.flatten (LR tkAt l css) a) (fun _ s8 _ => ((n : Int) - intOf s8).toNat)
  case atStart => exact ⟨0, i0, [], [], rfl, by omega, rfl, (fun _ h => by cases h), by simp, E.out⟩
  case round =>
    obtain ⟨k, q, l, css, rfl, hkn, hkl, hq, hrow, hJ⟩ := hrel
    replace E := Lib.hid hJ
    have HQ := Lib.hid hq
    have HRW := Lib.hid hrow
    clear hJ hq hrow
    by_cases hkn2 : k = n
    · subst hkn2
      have HX : Hid (((i', e'), x) = ((q, (0 : Int)), l)) := Lib.hid (by rw [← HH.out, HRW.out, Nat.sub_self, qdb, List.append_nil])
      simp only [Prod.mk.injEq] at HX
      obtain ⟨⟨rfl, rfl⟩, rfl⟩ := HX.out
      go_upto_region 3 with fail; refine wp_region_lit ?_
      refine qaa (qay (c := false) rfl rfl rfl (decide_eq_false (by omega))) rfl ?_; (try simp only [Act.put, lyy])
      refine qab ?_
      go_upto_region 6 with fail; refine wp_region_lit ?_
      refine qaa (qad (v := u5) rfl rfl) rfl ?_; (try simp only [Act.put, lyy])
      refine qaa (qak (v := u5) rfl rfl) rfl ?_; (try simp only [Act.put, lyy])
      refine qab ?_
      have HF : Hid (Fro u.heap.size (fun V => ∃ a' c', u5 = .slice a' x.length c' ∧ SlR 32 tkAt x a' c' V) wr) := Lib.hid fun V hV => qc5 (E.out.tell V hV).1 hkl (E.out.tell V hV).2.1 HQ.out (E.out.tell V hV).2.2
      obtain ⟨a', c', hv6, hS0⟩ := HF.out.now
      subst hv6
      have HF2 : Hid (Fro u.heap.size (SlR 32 tkAt x a' c') wr) := Lib.hid fun V hV => by
        obtain ⟨a2, c2, h1, h2⟩ := HF.out V hV
        simp only [Value.slice.injEq] at h1
        obtain ⟨rfl, _, rfl⟩ := h1
        exact h2
      go_wp2_with fail
      exact bodyPost_ret (results_tmp Tryz.results141 _ _ _) rfl ⟨E.out.kp, .inl ⟨rfl, E.out.rd, _, rfl, _, _, rfl, HF2.out⟩⟩
    · obtain ⟨m, hm⟩ : ∃ m, n - k = m + 1 := ⟨n - k - 1, by omega⟩
      have hr2 := HRW.out
      rw [hm, qdc _ _ rfl] at hr2
      rcases HG : kM 32 b (q, 0) with ⟨⟨q1, e1⟩, y⟩
      rw [HG] at hr2
      have S2 : Hid (e1 ≠ 0 → e' = e1) := Lib.hid fun h => by have h9 := HH.out; rw [hr2, qcd _ _ (by exact h)] at h9; exact (congrArg (fun z => z.1.2) h9).symm
      replace HRW := Lib.hid hr2
      clear hr2
      go_upto_region 3 with fail; refine wp_region_lit ?_
      refine qaa (qay (c := true) rfl rfl rfl (decide_eq_true (by omega))) rfl ?_; (try simp only [Act.put, lyy])
      refine qab ?_
      go_upto_region 4 with fail; refine wp_region_lit ?_
      refine qaa (qad (v := u5) rfl rfl) rfl ?_; (try simp only [Act.put, lyy])
      refine qaa (qad (v := .func (.func 104) #[] #[]) rfl rfl) rfl ?_; (try simp only [Act.put, lyy])
      refine qaa (qad (v := .pointer (some ⟨p, 0, none⟩)) rfl rfl) rfl ?_; (try simp only [Act.put, lyy])
      refine qaj (qcc qcq rfl rfl rfl) rfl (rkey_any B p b q q1 e1 y _ HG E.out.rd) (fun v3 a3 hs hk hr hT => ?_) (fun a3 hs hk => ?pana3)
      case pana3 =>
        go_wp2_with fail
        have q := S2.out hs
        exact ⟨rfl, E.out.kp.trans hk, .inr ⟨by rw [q]; exact hs, by simp only [q]⟩⟩
      (try simp only [Act.put, lyy])
      replace hs : e1 = 0 := hs
      subst hs
      obtain ⟨rfl, hl3⟩ := hT
      obtain ⟨X, hX⟩ : ∃ X, X = y.map b8 := ⟨_, rfl⟩
      rw [← hX]
      have lX : X.length = 32 := by rw [hX, List.length_map]; exact hl3
      have oX : One X := by rw [hX]; exact One.b8 _
      have fX : Fro wr.heap.size (tkAt y X) a3 := fun _ _ => hX
      replace E := Lib.hid (E.out.call hk hr (H0 := tkAt y X) fX)
      clear hk hr S2
      refine qaa (qcg (m := X) (z := 32) (zv := .agg (List.replicate 32 (.int .u8 0) : List Value).toArray) rfl Tryz.underlying58 (by kernel_rfl) rfl lX (by omega) (by omega)) rfl ?_; (try simp only [Act.put, lyy])
      have A2 := Lib.hid (Arr.new a3 X 27)
      replace E := Lib.hid (E.out.below ((Below.refl a3.heap.size a3).alloc (Nat.le_refl _) (.cells X.toArray 27)))
      generalize a3.alloc (.cells X.toArray 27) = b1 at *
      generalize a3.heap.size = g0 at *
      refine qcw (t := 58) (bw := 32) (zv := .agg (List.replicate 32 (.int .u8 0) : List Value).toArray) (z := 32) rfl rfl Tryz.underlying58 (by kernel_rfl) rfl (by omega) rfl rfl A2.out.range lX oX (by omega) (by omega) E.out (fun v7 b2 hG => ?_); (try simp only [Act.put, lyy])
      replace E := Lib.hid (hG.know (H0 := LR tkAt (l ++ [y]) (css ++ [X])) fun V h => h.2.snoc h.1)
      clear hG A2
      refine qaa (qak (v := v7) rfl rfl) rfl ?_; (try simp only [Act.put, lyy])
      refine qab ?_
      go_upto_region 5 with fail; refine wp_region_lit ?_
      refine qaa (qa6 (a := k) (b := 1) rfl rfl rfl (by omega)) rfl ?_; (try simp only [Act.put, lyy])
      refine qaa (qad (v := .int .i64 ((k + 1 : Nat) : Int)) rfl rfl) rfl ?_; (try simp only [Act.put, lyy])
      refine qab ?_
      go_wp2_with fail
      exact ⟨⟨k + 1, q1, l ++ [y], css ++ [X], rfl, by omega, by rw [List.length_append, ← hkl]; rfl, (fun z hz => (List.mem_append.1 hz).elim (HQ.out z) fun h => by rw [List.mem_singleton.1 h]; exact lX), by rw [HRW.out, show n - (k + 1) = m by omega, List.append_assoc]; rfl, by rw [List.flatten_append, show [X].flatten = X by simp]; exact E.out⟩, by simp [intOf]; omega⟩
end Go.Proofs.YtcgbgmbnagmohaaGreat
namespace Go.Proofs.YtcgbgmbnagmohaaGreat
open Go.RowKit
set_option maxRecDepth 20000
attribute [local irreducible] wpList
theorem enters_rreq : Enters 66 := qan Tryz.func66 (by kernel_rfl) rfl
set_option maxHeartbeats 8000000 in
theorem rreq_any (B p : Nat) (b : List (BitVec 8)) (i i' : Nat) (e' : Int) (x : MRq) (u : World) (H : rdRqA b (i, 0) = ((i', e'), x)) (R : RdS B p b i u) : Calls Tryz.prog 66 #[.pointer (some ⟨p, 0, none⟩)] u (RPost B p b u (i', e') fun v u' => ∃ X : List Value, v = .agg X.toArray ∧ X.length = 237 ∧ One X ∧ Fro u.heap.size (rqAt x X) u') := by
  rcases H1 : nM b 255 (i, 0) with ⟨⟨i1, e1⟩, x1⟩
  rcases H2 : nM b 1099511627776 (i1, e1) with ⟨⟨i2, e2⟩, x2⟩
  have S2 : Hid (e1 ≠ 0 → e2 = e1) := Lib.hid fun h => by have q := qbu (most := 1099511627776) (b := b) (i := i1) h; rw [H2] at q; exact congrArg Prod.snd q
  rcases H3 : nM b 1099511627776 (i2, e2) with ⟨⟨i3, e3⟩, x3⟩
  have S3 : Hid (e2 ≠ 0 → e3 = e2) := Lib.hid fun h => by have q := qbu (most := 1099511627776) (b := b) (i := i2) h; rw [H3] at q; exact congrArg Prod.snd q
  rcases H4 : byM b (i3, e3) with ⟨⟨i4, e4⟩, x4⟩
  have S4 : Hid (e3 ≠ 0 → e4 = e3) := Lib.hid fun h => by have q := byM_stay (b := b) (i := i3) h; rw [H4] at q; exact congrArg Prod.snd q
  rcases H5 : byM b (i4, e4) with ⟨⟨i5, e5⟩, x5⟩
  have S5 : Hid (e4 ≠ 0 → e5 = e4) := Lib.hid fun h => by have q := byM_stay (b := b) (i := i4) h; rw [H5] at q; exact congrArg Prod.snd q
  rcases H6 : byM b (i5, e5) with ⟨⟨i6, e6⟩, x6⟩
  have S6 : Hid (e5 ≠ 0 → e6 = e5) := Lib.hid fun h => by have q := byM_stay (b := b) (i := i5) h; rw [H6] at q; exact congrArg Prod.snd q
  rcases H7 : lsM b (i6, e6) with ⟨⟨i7, e7⟩, x7⟩
  have S7 : Hid (e6 ≠ 0 → e7 = e6) := Lib.hid fun h => by have q := lsM_stay (b := b) (i := i6) h; rw [H7] at q; exact congrArg Prod.snd q
  rcases H8 : kM 32 b (i7, e7) with ⟨⟨i8, e8⟩, x8⟩
  have S8 : Hid (e7 ≠ 0 → e8 = e7) := Lib.hid fun h => by have q := qcm (n := 32) (b := b) (i := i7) h; rw [H8] at q; exact congrArg Prod.snd q
  rcases H9 : pkM b (i8, e8) with ⟨⟨i9, e9⟩, x9⟩
  have S9 : Hid (e8 ≠ 0 → e9 = e8) := Lib.hid fun h => by have q := pkM_stay (b := b) (i := i8) h; rw [H9] at q; exact congrArg Prod.snd q
  rcases H10 : kM 64 b (i9, e9) with ⟨⟨i10, e10⟩, x10⟩
  have S10 : Hid (e9 ≠ 0 → e10 = e9) := Lib.hid fun h => by have q := qcm (n := 64) (b := b) (i := i9) h; rw [H10] at q; exact congrArg Prod.snd q
  rcases H11 : psM b (i10, e10) with ⟨⟨i11, e11⟩, x11⟩
  have S11 : Hid (e10 ≠ 0 → e11 = e10) := Lib.hid fun h => by have q := psM_stay (b := b) (i := i10) h; rw [H11] at q; exact congrArg Prod.snd q
  rcases H12 : nM b 1099511627776 (i11, e11) with ⟨⟨i12, e12⟩, x12⟩
  have S12 : Hid (e11 ≠ 0 → e12 = e11) := Lib.hid fun h => by have q := qbu (most := 1099511627776) (b := b) (i := i11) h; rw [H12] at q; exact congrArg Prod.snd q
  rcases H13 : itsM b (i12, e12) with ⟨⟨i13, e13⟩, x13⟩
  have S13 : Hid (e12 ≠ 0 → e13 = e12) := Lib.hid fun h => by have q := itsM_stay (b := b) (i := i12) h; rw [H13] at q; exact congrArg Prod.snd q
  simp only [rdRqA, H1, H2, H3, H4, H5, H6, H7, H8, H9, H10, H11, H12, H13, Prod.mk.injEq] at H
  obtain ⟨⟨rfl, rfl⟩, rfl⟩ := H
  have E := Lib.hid (Rm.start R)
  clear R
  go_enter Tryz.func66, Tryz.ntmps66
  go_upto_region 0 with fail; refine wp_region_lit ?_
  refine qaa (qa3 (vs := rqR ((.int .u8 0)) ((.int .i64 0)) ((.int .i64 0)) ((.string ⟨#[]⟩)) ((.string ⟨#[]⟩)) ((.string ⟨#[]⟩)) (lsR ((.int .i64 0)) ((.int .i64 0)) (z8 32) ((.slice none 0 0)) (z8 64)) (z8 32) (pkR ((.int .i64 0)) (z8 32)) (z8 64) ((.slice none 0 0)) ((.int .i64 0)) ((.slice none 0 0))) rfl (by kernel_rfl)) rfl ?_; (try simp only [Act.put, lyy])
  replace E := Lib.hid (E.out.new (rqR ((.int .u8 0)) ((.int .i64 0)) ((.int .i64 0)) ((.string ⟨#[]⟩)) ((.string ⟨#[]⟩)) ((.string ⟨#[]⟩)) (lsR ((.int .i64 0)) ((.int .i64 0)) (z8 32) ((.slice none 0 0)) (z8 64)) (z8 32) (pkR ((.int .i64 0)) (z8 32)) (z8 64) ((.slice none 0 0)) ((.int .i64 0)) ((.slice none 0 0))) 46)
  generalize u.alloc (.cells (rqR ((.int .u8 0)) ((.int .i64 0)) ((.int .i64 0)) ((.string ⟨#[]⟩)) ((.string ⟨#[]⟩)) ((.string ⟨#[]⟩)) (lsR ((.int .i64 0)) ((.int .i64 0)) (z8 32) ((.slice none 0 0)) (z8 64)) (z8 32) (pkR ((.int .i64 0)) (z8 32)) (z8 64) ((.slice none 0 0)) ((.int .i64 0)) ((.slice none 0 0))).toArray 46) = a1 at *
  obtain ⟨g2, hg0⟩ : ∃ k, k = u.heap.size := ⟨_, rfl⟩
  rw [← hg0] at E ⊢
  clear hg0
  refine qab ?_
  go_upto_region 1 with fail; refine wp_region_lit ?_
  refine qaa (qad (v := .pointer (some ⟨p, 0, none⟩)) rfl rfl) rfl ?_; (try simp only [Act.put, lyy])
  refine qaj (qaq enters_rsml rfl rfl rfl) rfl (rsml_any B p b i i1 e1 x1 _ H1 E.out.rd) (fun v1 a3 hs hk hr hT => ?_) (fun a3 hs hk => ?pana3)
  case pana3 =>
    go_wp2_with fail
    replace hs : e1 ≠ 0 := hs
    have t2 := S2.out
    have t3 := S3.out
    have t4 := S4.out
    have t5 := S5.out
    have t6 := S6.out
    have t7 := S7.out
    have t8 := S8.out
    have t9 := S9.out
    have t10 := S10.out
    have t11 := S11.out
    have t12 := S12.out
    have t13 := S13.out
    have q : e13 = e1 := by omega
    exact ⟨rfl, E.out.panic hk, .inr ⟨by rw [q]; exact hs, by simp only [q]⟩⟩
  (try simp only [Act.put, lyy])
  replace hs : e1 = 0 := hs
  subst hs
  subst hT
  have n1 := nM_num (b := b) (most := 255) (s := (i, 0)) (by omega)
  rw [H1] at n1
  simp only at n1
  replace E := Lib.hid (E.out.call hk hr (H0 := fun _ => True) (fun _ _ => trivial))
  clear hk hr
  refine qaa (run_cvu8R rfl rfl n1.1 n1.2) rfl ?_; (try simp only [Act.put, lyy])
  refine qaa (qad (v := .pointer (some ⟨p, 0, none⟩)) rfl rfl) rfl ?_; (try simp only [Act.put, lyy])
  refine qaj (qaq qbh rfl rfl rfl) rfl (qb2 B p b i1 i2 e2 x2 _ H2 E.out.rd) (fun v2 a4 hs hk hr hT => ?_) (fun a4 hs hk => ?pana4)
  case pana4 =>
    go_wp2_with fail
    replace hs : e2 ≠ 0 := hs
    have t3 := S3.out
    have t4 := S4.out
    have t5 := S5.out
    have t6 := S6.out
    have t7 := S7.out
    have t8 := S8.out
    have t9 := S9.out
    have t10 := S10.out
    have t11 := S11.out
    have t12 := S12.out
    have t13 := S13.out
    have q : e13 = e2 := by omega
    exact ⟨rfl, E.out.panic hk, .inr ⟨by rw [q]; exact hs, by simp only [q]⟩⟩
  (try simp only [Act.put, lyy])
  replace hs : e2 = 0 := hs
  subst hs
  subst hT
  replace E := Lib.hid (E.out.call hk hr (H0 := fun _ => True) (fun _ _ => trivial))
  clear hk hr
  refine qaa (qad (v := .pointer (some ⟨p, 0, none⟩)) rfl rfl) rfl ?_; (try simp only [Act.put, lyy])
  refine qaj (qaq qbh rfl rfl rfl) rfl (qb2 B p b i2 i3 e3 x3 _ H3 E.out.rd) (fun v3 a5 hs hk hr hT => ?_) (fun a5 hs hk => ?pana5)
  case pana5 =>
    go_wp2_with fail
    replace hs : e3 ≠ 0 := hs
    have t4 := S4.out
    have t5 := S5.out
    have t6 := S6.out
    have t7 := S7.out
    have t8 := S8.out
    have t9 := S9.out
    have t10 := S10.out
    have t11 := S11.out
    have t12 := S12.out
    have t13 := S13.out
    have q : e13 = e3 := by omega
    exact ⟨rfl, E.out.panic hk, .inr ⟨by rw [q]; exact hs, by simp only [q]⟩⟩
  (try simp only [Act.put, lyy])
  replace hs : e3 = 0 := hs
  subst hs
  subst hT
  replace E := Lib.hid (E.out.call hk hr (H0 := fun _ => True) (fun _ _ => trivial))
  clear hk hr
  refine qaa (qad (v := .pointer (some ⟨p, 0, none⟩)) rfl rfl) rfl ?_; (try simp only [Act.put, lyy])
  refine qaj (qaq enters_rtxt rfl rfl rfl) rfl (rtxt_any B p b i3 i4 e4 x4 _ H4 E.out.rd) (fun v4 a6 hs hk hr hT => ?_) (fun a6 hs hk => ?pana6)
  case pana6 =>
    go_wp2_with fail
    replace hs : e4 ≠ 0 := hs
    have t5 := S5.out
    have t6 := S6.out
    have t7 := S7.out
    have t8 := S8.out
    have t9 := S9.out
    have t10 := S10.out
    have t11 := S11.out
    have t12 := S12.out
    have t13 := S13.out
    have q : e13 = e4 := by omega
    exact ⟨rfl, E.out.panic hk, .inr ⟨by rw [q]; exact hs, by simp only [q]⟩⟩
  (try simp only [Act.put, lyy])
  replace hs : e4 = 0 := hs
  subst hs
  subst hT
  replace E := Lib.hid (E.out.call hk hr (H0 := fun _ => True) (fun _ _ => trivial))
  clear hk hr
  refine qaa (qad (v := .pointer (some ⟨p, 0, none⟩)) rfl rfl) rfl ?_; (try simp only [Act.put, lyy])
  refine qaj (qaq enters_rtxt rfl rfl rfl) rfl (rtxt_any B p b i4 i5 e5 x5 _ H5 E.out.rd) (fun v5 a7 hs hk hr hT => ?_) (fun a7 hs hk => ?pana7)
  case pana7 =>
    go_wp2_with fail
    replace hs : e5 ≠ 0 := hs
    have t6 := S6.out
    have t7 := S7.out
    have t8 := S8.out
    have t9 := S9.out
    have t10 := S10.out
    have t11 := S11.out
    have t12 := S12.out
    have t13 := S13.out
    have q : e13 = e5 := by omega
    exact ⟨rfl, E.out.panic hk, .inr ⟨by rw [q]; exact hs, by simp only [q]⟩⟩
  (try simp only [Act.put, lyy])
  replace hs : e5 = 0 := hs
  subst hs
  subst hT
  replace E := Lib.hid (E.out.call hk hr (H0 := fun _ => True) (fun _ _ => trivial))
  clear hk hr
  refine qaa (qad (v := .pointer (some ⟨p, 0, none⟩)) rfl rfl) rfl ?_; (try simp only [Act.put, lyy])
  refine qaj (qaq enters_rtxt rfl rfl rfl) rfl (rtxt_any B p b i5 i6 e6 x6 _ H6 E.out.rd) (fun v6 a8 hs hk hr hT => ?_) (fun a8 hs hk => ?pana8)
  case pana8 =>
    go_wp2_with fail
    replace hs : e6 ≠ 0 := hs
    have t7 := S7.out
    have t8 := S8.out
    have t9 := S9.out
    have t10 := S10.out
    have t11 := S11.out
    have t12 := S12.out
    have t13 := S13.out
    have q : e13 = e6 := by omega
    exact ⟨rfl, E.out.panic hk, .inr ⟨by rw [q]; exact hs, by simp only [q]⟩⟩
  (try simp only [Act.put, lyy])
  replace hs : e6 = 0 := hs
  subst hs
  subst hT
  replace E := Lib.hid (E.out.call hk hr (H0 := fun _ => True) (fun _ _ => trivial))
  clear hk hr
  refine qaa (qad (v := .pointer (some ⟨p, 0, none⟩)) rfl rfl) rfl ?_; (try simp only [Act.put, lyy])
  refine qaj (qaq enters_rlst rfl rfl rfl) rfl (rlst_any B p b i6 i7 e7 x7 _ H7 E.out.rd) (fun v7 a9 hs hk hr hT => ?_) (fun a9 hs hk => ?pana9)
  case pana9 =>
    go_wp2_with fail
    replace hs : e7 ≠ 0 := hs
    have t8 := S8.out
    have t9 := S9.out
    have t10 := S10.out
    have t11 := S11.out
    have t12 := S12.out
    have t13 := S13.out
    have q : e13 = e7 := by omega
    exact ⟨rfl, E.out.panic hk, .inr ⟨by rw [q]; exact hs, by simp only [q]⟩⟩
  (try simp only [Act.put, lyy])
  replace hs : e7 = 0 := hs
  subst hs
  obtain ⟨X7, rfl, l7, o7, f7⟩ := hT
  replace E := Lib.hid (E.out.call hk hr (H0 := lsAt x7 X7) (f7))
  clear hk hr
  refine qaa (qad (v := .pointer (some ⟨p, 0, none⟩)) rfl rfl) rfl ?_; (try simp only [Act.put, lyy])
  refine qaj (qaq qcq rfl rfl rfl) rfl (rkey_any B p b i7 i8 e8 x8 _ H8 E.out.rd) (fun v8 a10 hs hk hr hT => ?_) (fun a10 hs hk => ?pana10)
  case pana10 =>
    go_wp2_with fail
    replace hs : e8 ≠ 0 := hs
    have t9 := S9.out
    have t10 := S10.out
    have t11 := S11.out
    have t12 := S12.out
    have t13 := S13.out
    have q : e13 = e8 := by omega
    exact ⟨rfl, E.out.panic hk, .inr ⟨by rw [q]; exact hs, by simp only [q]⟩⟩
  (try simp only [Act.put, lyy])
  replace hs : e8 = 0 := hs
  subst hs
  obtain ⟨rfl, l8⟩ := hT
  replace E := Lib.hid (E.out.call hk hr (H0 := fun _ => True) (fun _ _ => trivial))
  clear hk hr
  refine qaa (qad (v := .pointer (some ⟨p, 0, none⟩)) rfl rfl) rfl ?_; (try simp only [Act.put, lyy])
  refine qaj (qaq enters_rpre rfl rfl rfl) rfl (rpre_any B p b i8 i9 e9 x9 _ H9 E.out.rd) (fun v9 a11 hs hk hr hT => ?_) (fun a11 hs hk => ?pana11)
  case pana11 =>
    go_wp2_with fail
    replace hs : e9 ≠ 0 := hs
    have t10 := S10.out
    have t11 := S11.out
    have t12 := S12.out
    have t13 := S13.out
    have q : e13 = e9 := by omega
    exact ⟨rfl, E.out.panic hk, .inr ⟨by rw [q]; exact hs, by simp only [q]⟩⟩
  (try simp only [Act.put, lyy])
  replace hs : e9 = 0 := hs
  subst hs
  obtain ⟨rfl, l9⟩ := hT
  replace E := Lib.hid (E.out.call hk hr (H0 := fun _ => True) (fun _ _ => trivial))
  clear hk hr
  refine qaa (qad (v := .pointer (some ⟨p, 0, none⟩)) rfl rfl) rfl ?_; (try simp only [Act.put, lyy])
  refine qaj (qaq enters_rsig rfl rfl rfl) rfl (rsig_any B p b i9 i10 e10 x10 _ H10 E.out.rd) (fun v10 a12 hs hk hr hT => ?_) (fun a12 hs hk => ?pana12)
  case pana12 =>
    go_wp2_with fail
    replace hs : e10 ≠ 0 := hs
    have t11 := S11.out
    have t12 := S12.out
    have t13 := S13.out
    have q : e13 = e10 := by omega
    exact ⟨rfl, E.out.panic hk, .inr ⟨by rw [q]; exact hs, by simp only [q]⟩⟩
  (try simp only [Act.put, lyy])
  replace hs : e10 = 0 := hs
  subst hs
  obtain ⟨rfl, l10⟩ := hT
  replace E := Lib.hid (E.out.call hk hr (H0 := fun _ => True) (fun _ _ => trivial))
  clear hk hr
  refine qaa (qad (v := .pointer (some ⟨p, 0, none⟩)) rfl rfl) rfl ?_; (try simp only [Act.put, lyy])
  refine qaj (qaf enters_ralP rfl rfl rfl rfl) rfl (ralP_any B p b i10 i11 e11 x11 _ H11 E.out.rd) (fun v11 a13 hs hk hr hT => ?_) (fun a13 hs hk => ?pana13)
  case pana13 =>
    go_wp2_with fail
    replace hs : e11 ≠ 0 := hs
    have t12 := S12.out
    have t13 := S13.out
    have q : e13 = e11 := by omega
    exact ⟨rfl, E.out.panic hk, .inr ⟨by rw [q]; exact hs, by simp only [q]⟩⟩
  (try simp only [Act.put, lyy])
  replace hs : e11 = 0 := hs
  subst hs
  obtain ⟨c11, d11, rfl, f11⟩ := hT
  replace E := Lib.hid (E.out.call hk hr (H0 := SlR 33 pkAt x11 c11 d11) (f11))
  clear hk hr
  refine qaa (qad (v := .pointer (some ⟨p, 0, none⟩)) rfl rfl) rfl ?_; (try simp only [Act.put, lyy])
  refine qaj (qaq qbh rfl rfl rfl) rfl (qb2 B p b i11 i12 e12 x12 _ H12 E.out.rd) (fun v12 a14 hs hk hr hT => ?_) (fun a14 hs hk => ?pana14)
  case pana14 =>
    go_wp2_with fail
    replace hs : e12 ≠ 0 := hs
    have t13 := S13.out
    have q : e13 = e12 := by omega
    exact ⟨rfl, E.out.panic hk, .inr ⟨by rw [q]; exact hs, by simp only [q]⟩⟩
  (try simp only [Act.put, lyy])
  replace hs : e12 = 0 := hs
  subst hs
  subst hT
  replace E := Lib.hid (E.out.call hk hr (H0 := fun _ => True) (fun _ _ => trivial))
  clear hk hr
  refine qaa (qad (v := .pointer (some ⟨p, 0, none⟩)) rfl rfl) rfl ?_; (try simp only [Act.put, lyy])
  refine qaj (qaf enters_ralI rfl rfl rfl rfl) rfl (ralI_any B p b i12 i13 e13 x13 _ H13 E.out.rd) (fun v13 a15 hs hk hr hT => ?_) (fun a15 hs hk => ?pana15)
  case pana15 =>
    go_wp2_with fail
    exact ⟨rfl, E.out.panic hk, .inr ⟨hs, rfl⟩⟩
  (try simp only [Act.put, lyy])
  replace hs : e13 = 0 := hs
  subst hs
  obtain ⟨c13, d13, rfl, f13⟩ := hT
  replace E := Lib.hid (E.out.call hk hr (H0 := SlR 73 itAt x13 c13 d13) (f13))
  clear hk hr
  refine qaa (qa7 (cells := (rqR (.int .u8 x1) (.int .i64 x2) (.int .i64 x3) (.string (strOf x4)) (.string (strOf x5)) (.string (strOf x6)) (X7) (x8.map b8) (pkC x9) (x10.map b8) (.slice c11 x11.length d11) (.int .i64 x12) (.slice c13 x13.length d13)).toArray) (ps := [(0, .int .u8 x1), (1, .int .i64 x2), (2, .int .i64 x3), (3, .string (strOf x4)), (4, .string (strOf x5)), (5, .string (strOf x6)), (6, .agg (X7).toArray), (7, .agg (x8.map b8).toArray), (8, .agg (pkC x9).toArray), (9, .agg (x10.map b8).toArray), (10, .slice c11 x11.length d11), (11, .int .i64 x12), (12, .slice c13 x13.length d13)]) rfl rfl (rqR_all rfl rfl rfl rfl rfl rfl l7 (by rw [List.length_map, l8]) (pkC_len' l9) (by rw [List.length_map, l10]) rfl rfl rfl)) rfl ?_; (try simp only [Act.put, lyy])
  refine qal (qa0 (vs := rqR (.int .u8 x1) (.int .i64 x2) (.int .i64 x3) (.string (strOf x4)) (.string (strOf x5)) (.string (strOf x6)) (X7) (x8.map b8) (pkC x9) (x10.map b8) (.slice c11 x11.length d11) (.int .i64 x12) (.slice c13 x13.length d13)) rfl (szR (qa1 l7 (by rw [List.length_map, l8]) (pkC_len' l9) (by rw [List.length_map, l10])) (by kernel_rfl)) rfl rfl (One.all (qc6 rfl rfl rfl rfl rfl rfl o7 (One.b8 _) (pkC_one l9) (One.b8 _) rfl rfl rfl)) ((E.out.get (i := 0) rfl).thereM (by have q1 : (rqR (.int .u8 x1) (.int .i64 x2) (.int .i64 x3) (.string (strOf x4)) (.string (strOf x5)) (.string (strOf x6)) (X7) (x8.map b8) (pkC x9) (x10.map b8) (.slice c11 x11.length d11) (.int .i64 x12) (.slice c13 x13.length d13)).length = 237 := (qa1 l7 (by rw [List.length_map, l8]) (pkC_len' l9) (by rw [List.length_map, l10])); have q2 : (rqR ((.int .u8 0)) ((.int .i64 0)) ((.int .i64 0)) ((.string ⟨#[]⟩)) ((.string ⟨#[]⟩)) ((.string ⟨#[]⟩)) (lsR ((.int .i64 0)) ((.int .i64 0)) (z8 32) ((.slice none 0 0)) (z8 64)) (z8 32) (pkR ((.int .i64 0)) (z8 32)) (z8 64) ((.slice none 0 0)) ((.int .i64 0)) ((.slice none 0 0))).length = 237 := (qa1 (qas (qac 32) (qac 64)) (qac 32) (qar (qac 32)) (qac 64)); omega))) rfl rfl ?_
  replace E := Lib.hid (E.out.put 0 rfl (m := rqR (.int .u8 x1) (.int .i64 x2) (.int .i64 x3) (.string (strOf x4)) (.string (strOf x5)) (.string (strOf x6)) (X7) (x8.map b8) (pkC x9) (x10.map b8) (.slice c11 x11.length d11) (.int .i64 x12) (.slice c13 x13.length d13)) ((show (rqR (.int .u8 x1) (.int .i64 x2) (.int .i64 x3) (.string (strOf x4)) (.string (strOf x5)) (.string (strOf x6)) (X7) (x8.map b8) (pkC x9) (x10.map b8) (.slice c11 x11.length d11) (.int .i64 x12) (.slice c13 x13.length d13)).length = 237 from (qa1 l7 (by rw [List.length_map, l8]) (pkC_len' l9) (by rw [List.length_map, l10]))).trans (show (rqR ((.int .u8 0)) ((.int .i64 0)) ((.int .i64 0)) ((.string ⟨#[]⟩)) ((.string ⟨#[]⟩)) ((.string ⟨#[]⟩)) (lsR ((.int .i64 0)) ((.int .i64 0)) (z8 32) ((.slice none 0 0)) (z8 64)) (z8 32) (pkR ((.int .i64 0)) (z8 32)) (z8 64) ((.slice none 0 0)) ((.int .i64 0)) ((.slice none 0 0))).length = 237 from (qa1 (qas (qac 32) (qac 64)) (qac 32) (qar (qac 32)) (qac 64))).symm))
  generalize a15.setCells g2 0 (rqR (.int .u8 x1) (.int .i64 x2) (.int .i64 x3) (.string (strOf x4)) (.string (strOf x5)) (.string (strOf x6)) (X7) (x8.map b8) (pkC x9) (x10.map b8) (.slice c11 x11.length d11) (.int .i64 x12) (.slice c13 x13.length d13)) = a16 at *
  replace E := Lib.hid (show Rm _ _ _ _ _ [(g2, rqR (.int .u8 x1) (.int .i64 x2) (.int .i64 x3) (.string (strOf x4)) (.string (strOf x5)) (.string (strOf x6)) (X7) (x8.map b8) (pkC x9) (x10.map b8) (.slice c11 x11.length d11) (.int .i64 x12) (.slice c13 x13.length d13))] _ a16 from E.out)
  refine qab ?_
  go_wp2_with fail
  exact bodyPost_ret (v := .agg (rqR (.int .u8 x1) (.int .i64 x2) (.int .i64 x3) (.string (strOf x4)) (.string (strOf x5)) (.string (strOf x6)) (X7) (x8.map b8) (pkC x9) (x10.map b8) (.slice c11 x11.length d11) (.int .i64 x12) (.slice c13 x13.length d13)).toArray) (qbj Tryz.results66 rfl Tryz.underlying46 rfl (szR (qa1 l7 (by rw [List.length_map, l8]) (pkC_len' l9) (by rw [List.length_map, l10])) (by kernel_rfl)) (E.out.get (i := 0) rfl).range) rfl ⟨E.out.kp, .inl ⟨(by first | rfl | exact hs), E.out.rd, _, rfl, _, rfl, (qa1 l7 (by rw [List.length_map, l8]) (pkC_len' l9) (by rw [List.length_map, l10])), (qc6 rfl rfl rfl rfl rfl rfl o7 (One.b8 _) (pkC_one l9) (One.b8 _) rfl rfl rfl), fun V hV => ⟨X7, c11, d11, c13, d13, rfl, (E.out.tell V hV).2.2.2.2.2.2.1, (E.out.tell V hV).2.2.1, (E.out.tell V hV).1⟩⟩⟩
theorem enters_racc : Enters 74 := qan Tryz.func74 (by kernel_rfl) rfl
set_option maxHeartbeats 8000000 in
theorem racc_any (B p : Nat) (b : List (BitVec 8)) (i i' : Nat) (e' : Int) (x : MAc) (u : World) (H : rdAcA b (i, 0) = ((i', e'), x)) (R : RdS B p b i u) : Calls Tryz.prog 74 #[.pointer (some ⟨p, 0, none⟩)] u (RPost B p b u (i', e') fun v u' => ∃ X : List Value, v = .agg X.toArray ∧ X.length = 105 ∧ One X ∧ Fro u.heap.size (acAt x X) u') := by
  rcases H1 : nM b 1099511627776 (i, 0) with ⟨⟨i1, e1⟩, x1⟩
  rcases H2 : byM b (i1, e1) with ⟨⟨i2, e2⟩, x2⟩
  have S2 : Hid (e1 ≠ 0 → e2 = e1) := Lib.hid fun h => by have q := byM_stay (b := b) (i := i1) h; rw [H2] at q; exact congrArg Prod.snd q
  rcases H3 : nM b 1099511627776 (i2, e2) with ⟨⟨i3, e3⟩, x3⟩
  have S3 : Hid (e2 ≠ 0 → e3 = e2) := Lib.hid fun h => by have q := qbu (most := 1099511627776) (b := b) (i := i2) h; rw [H3] at q; exact congrArg Prod.snd q
  rcases H4 : nM b 1099511627776 (i3, e3) with ⟨⟨i4, e4⟩, x4⟩
  have S4 : Hid (e3 ≠ 0 → e4 = e3) := Lib.hid fun h => by have q := qbu (most := 1099511627776) (b := b) (i := i3) h; rw [H4] at q; exact congrArg Prod.snd q
  rcases H5 : lsM b (i4, e4) with ⟨⟨i5, e5⟩, x5⟩
  have S5 : Hid (e4 ≠ 0 → e5 = e4) := Lib.hid fun h => by have q := lsM_stay (b := b) (i := i4) h; rw [H5] at q; exact congrArg Prod.snd q
  rcases H6 : slsM b (i5, e5) with ⟨⟨i6, e6⟩, x6⟩
  have S6 : Hid (e5 ≠ 0 → e6 = e5) := Lib.hid fun h => by have q := slsM_stay (b := b) (i := i5) h; rw [H6] at q; exact congrArg Prod.snd q
  rcases H7 : tkM b (i6, e6) with ⟨⟨i7, e7⟩, x7⟩
  have S7 : Hid (e6 ≠ 0 → e7 = e6) := Lib.hid fun h => by have q := tkM_stay (b := b) (i := i6) h; rw [H7] at q; exact congrArg Prod.snd q
  simp only [rdAcA, H1, H2, H3, H4, H5, H6, H7, Prod.mk.injEq] at H
  obtain ⟨⟨rfl, rfl⟩, rfl⟩ := H
  have E := Lib.hid (Rm.start R)
  clear R
  go_enter Tryz.func74, Tryz.ntmps74
  go_upto_region 0 with fail; refine wp_region_lit ?_
  refine qaa (qa3 (vs := acR ((.int .i64 0)) ((.string ⟨#[]⟩)) ((.int .i64 0)) ((.int .i64 0)) (lsR ((.int .i64 0)) ((.int .i64 0)) (z8 32) ((.slice none 0 0)) (z8 64)) ((.slice none 0 0)) ((.slice none 0 0))) rfl (by kernel_rfl)) rfl ?_; (try simp only [Act.put, lyy])
  replace E := Lib.hid (E.out.new (acR ((.int .i64 0)) ((.string ⟨#[]⟩)) ((.int .i64 0)) ((.int .i64 0)) (lsR ((.int .i64 0)) ((.int .i64 0)) (z8 32) ((.slice none 0 0)) (z8 64)) ((.slice none 0 0)) ((.slice none 0 0))) 60)
  generalize u.alloc (.cells (acR ((.int .i64 0)) ((.string ⟨#[]⟩)) ((.int .i64 0)) ((.int .i64 0)) (lsR ((.int .i64 0)) ((.int .i64 0)) (z8 32) ((.slice none 0 0)) (z8 64)) ((.slice none 0 0)) ((.slice none 0 0))).toArray 60) = a1 at *
  obtain ⟨g2, hg0⟩ : ∃ k, k = u.heap.size := ⟨_, rfl⟩
  rw [← hg0] at E ⊢
  clear hg0
  refine qab ?_
  go_upto_region 1 with fail; refine wp_region_lit ?_
  refine qaa (qad (v := .pointer (some ⟨p, 0, none⟩)) rfl rfl) rfl ?_; (try simp only [Act.put, lyy])
  refine qaj (qaq qbh rfl rfl rfl) rfl (qb2 B p b i i1 e1 x1 _ H1 E.out.rd) (fun v1 a3 hs hk hr hT => ?_) (fun a3 hs hk => ?pana3)
  case pana3 =>
    go_wp2_with fail
    replace hs : e1 ≠ 0 := hs
    have t2 := S2.out
    have t3 := S3.out
    have t4 := S4.out
    have t5 := S5.out
    have t6 := S6.out
    have t7 := S7.out
    have q : e7 = e1 := by omega
    exact ⟨rfl, E.out.panic hk, .inr ⟨by rw [q]; exact hs, by simp only [q]⟩⟩
  (try simp only [Act.put, lyy])
  replace hs : e1 = 0 := hs
  subst hs
  subst hT
  replace E := Lib.hid (E.out.call hk hr (H0 := fun _ => True) (fun _ _ => trivial))
  clear hk hr
  refine qaa (qad (v := .pointer (some ⟨p, 0, none⟩)) rfl rfl) rfl ?_; (try simp only [Act.put, lyy])
  refine qaj (qaq enters_rtxt rfl rfl rfl) rfl (rtxt_any B p b i1 i2 e2 x2 _ H2 E.out.rd) (fun v2 a4 hs hk hr hT => ?_) (fun a4 hs hk => ?pana4)
  case pana4 =>
    go_wp2_with fail
    replace hs : e2 ≠ 0 := hs
    have t3 := S3.out
    have t4 := S4.out
    have t5 := S5.out
    have t6 := S6.out
    have t7 := S7.out
    have q : e7 = e2 := by omega
    exact ⟨rfl, E.out.panic hk, .inr ⟨by rw [q]; exact hs, by simp only [q]⟩⟩
  (try simp only [Act.put, lyy])
  replace hs : e2 = 0 := hs
  subst hs
  subst hT
  replace E := Lib.hid (E.out.call hk hr (H0 := fun _ => True) (fun _ _ => trivial))
  clear hk hr
  refine qaa (qad (v := .pointer (some ⟨p, 0, none⟩)) rfl rfl) rfl ?_; (try simp only [Act.put, lyy])
  refine qaj (qaq qbh rfl rfl rfl) rfl (qb2 B p b i2 i3 e3 x3 _ H3 E.out.rd) (fun v3 a5 hs hk hr hT => ?_) (fun a5 hs hk => ?pana5)
  case pana5 =>
    go_wp2_with fail
    replace hs : e3 ≠ 0 := hs
    have t4 := S4.out
    have t5 := S5.out
    have t6 := S6.out
    have t7 := S7.out
    have q : e7 = e3 := by omega
    exact ⟨rfl, E.out.panic hk, .inr ⟨by rw [q]; exact hs, by simp only [q]⟩⟩
  (try simp only [Act.put, lyy])
  replace hs : e3 = 0 := hs
  subst hs
  subst hT
  replace E := Lib.hid (E.out.call hk hr (H0 := fun _ => True) (fun _ _ => trivial))
  clear hk hr
  refine qaa (qad (v := .pointer (some ⟨p, 0, none⟩)) rfl rfl) rfl ?_; (try simp only [Act.put, lyy])
  refine qaj (qaq qbh rfl rfl rfl) rfl (qb2 B p b i3 i4 e4 x4 _ H4 E.out.rd) (fun v4 a6 hs hk hr hT => ?_) (fun a6 hs hk => ?pana6)
  case pana6 =>
    go_wp2_with fail
    replace hs : e4 ≠ 0 := hs
    have t5 := S5.out
    have t6 := S6.out
    have t7 := S7.out
    have q : e7 = e4 := by omega
    exact ⟨rfl, E.out.panic hk, .inr ⟨by rw [q]; exact hs, by simp only [q]⟩⟩
  (try simp only [Act.put, lyy])
  replace hs : e4 = 0 := hs
  subst hs
  subst hT
  replace E := Lib.hid (E.out.call hk hr (H0 := fun _ => True) (fun _ _ => trivial))
  clear hk hr
  refine qaa (qad (v := .pointer (some ⟨p, 0, none⟩)) rfl rfl) rfl ?_; (try simp only [Act.put, lyy])
  refine qaj (qaq enters_rlst rfl rfl rfl) rfl (rlst_any B p b i4 i5 e5 x5 _ H5 E.out.rd) (fun v5 a7 hs hk hr hT => ?_) (fun a7 hs hk => ?pana7)
  case pana7 =>
    go_wp2_with fail
    replace hs : e5 ≠ 0 := hs
    have t6 := S6.out
    have t7 := S7.out
    have q : e7 = e5 := by omega
    exact ⟨rfl, E.out.panic hk, .inr ⟨by rw [q]; exact hs, by simp only [q]⟩⟩
  (try simp only [Act.put, lyy])
  replace hs : e5 = 0 := hs
  subst hs
  obtain ⟨X5, rfl, l5, o5, f5⟩ := hT
  replace E := Lib.hid (E.out.call hk hr (H0 := lsAt x5 X5) (f5))
  clear hk hr
  refine qaa (qad (v := .pointer (some ⟨p, 0, none⟩)) rfl rfl) rfl ?_; (try simp only [Act.put, lyy])
  refine qaj (qaf enters_ralS rfl rfl rfl rfl) rfl (ralS_any B p b i5 i6 e6 x6 _ H6 E.out.rd) (fun v6 a8 hs hk hr hT => ?_) (fun a8 hs hk => ?pana8)
  case pana8 =>
    go_wp2_with fail
    replace hs : e6 ≠ 0 := hs
    have t7 := S7.out
    have q : e7 = e6 := by omega
    exact ⟨rfl, E.out.panic hk, .inr ⟨by rw [q]; exact hs, by simp only [q]⟩⟩
  (try simp only [Act.put, lyy])
  replace hs : e6 = 0 := hs
  subst hs
  obtain ⟨c6, d6, rfl, f6⟩ := hT
  replace E := Lib.hid (E.out.call hk hr (H0 := SlR 101 slAt x6 c6 d6) (f6))
  clear hk hr
  refine qaa (qad (v := .pointer (some ⟨p, 0, none⟩)) rfl rfl) rfl ?_; (try simp only [Act.put, lyy])
  refine qaj (qaf enters_ralK rfl rfl rfl rfl) rfl (ralK_any B p b i6 i7 e7 x7 _ H7 E.out.rd) (fun v7 a9 hs hk hr hT => ?_) (fun a9 hs hk => ?pana9)
  case pana9 =>
    go_wp2_with fail
    exact ⟨rfl, E.out.panic hk, .inr ⟨hs, rfl⟩⟩
  (try simp only [Act.put, lyy])
  replace hs : e7 = 0 := hs
  subst hs
  obtain ⟨c7, d7, rfl, f7⟩ := hT
  replace E := Lib.hid (E.out.call hk hr (H0 := SlR 32 tkAt x7 c7 d7) (f7))
  clear hk hr
  refine qaa (qa7 (cells := (acR (.int .i64 x1) (.string (strOf x2)) (.int .i64 x3) (.int .i64 x4) (X5) (.slice c6 x6.length d6) (.slice c7 x7.length d7)).toArray) (ps := [(0, .int .i64 x1), (1, .string (strOf x2)), (2, .int .i64 x3), (3, .int .i64 x4), (4, .agg (X5).toArray), (5, .slice c6 x6.length d6), (6, .slice c7 x7.length d7)]) rfl rfl (acR_all rfl rfl rfl rfl l5 rfl rfl)) rfl ?_; (try simp only [Act.put, lyy])
  refine qal (qa0 (vs := acR (.int .i64 x1) (.string (strOf x2)) (.int .i64 x3) (.int .i64 x4) (X5) (.slice c6 x6.length d6) (.slice c7 x7.length d7)) rfl (szR (qbq l5) (by kernel_rfl)) rfl rfl (One.all (acR_one rfl rfl rfl rfl o5 rfl rfl)) ((E.out.get (i := 0) rfl).thereM (by have q1 : (acR (.int .i64 x1) (.string (strOf x2)) (.int .i64 x3) (.int .i64 x4) (X5) (.slice c6 x6.length d6) (.slice c7 x7.length d7)).length = 105 := (qbq l5); have q2 : (acR ((.int .i64 0)) ((.string ⟨#[]⟩)) ((.int .i64 0)) ((.int .i64 0)) (lsR ((.int .i64 0)) ((.int .i64 0)) (z8 32) ((.slice none 0 0)) (z8 64)) ((.slice none 0 0)) ((.slice none 0 0))).length = 105 := (qbq (qas (qac 32) (qac 64))); omega))) rfl rfl ?_
  replace E := Lib.hid (E.out.put 0 rfl (m := acR (.int .i64 x1) (.string (strOf x2)) (.int .i64 x3) (.int .i64 x4) (X5) (.slice c6 x6.length d6) (.slice c7 x7.length d7)) ((show (acR (.int .i64 x1) (.string (strOf x2)) (.int .i64 x3) (.int .i64 x4) (X5) (.slice c6 x6.length d6) (.slice c7 x7.length d7)).length = 105 from (qbq l5)).trans (show (acR ((.int .i64 0)) ((.string ⟨#[]⟩)) ((.int .i64 0)) ((.int .i64 0)) (lsR ((.int .i64 0)) ((.int .i64 0)) (z8 32) ((.slice none 0 0)) (z8 64)) ((.slice none 0 0)) ((.slice none 0 0))).length = 105 from (qbq (qas (qac 32) (qac 64)))).symm))
  generalize a9.setCells g2 0 (acR (.int .i64 x1) (.string (strOf x2)) (.int .i64 x3) (.int .i64 x4) (X5) (.slice c6 x6.length d6) (.slice c7 x7.length d7)) = a10 at *
  replace E := Lib.hid (show Rm _ _ _ _ _ [(g2, acR (.int .i64 x1) (.string (strOf x2)) (.int .i64 x3) (.int .i64 x4) (X5) (.slice c6 x6.length d6) (.slice c7 x7.length d7))] _ a10 from E.out)
  refine qab ?_
  go_wp2_with fail
  exact bodyPost_ret (v := .agg (acR (.int .i64 x1) (.string (strOf x2)) (.int .i64 x3) (.int .i64 x4) (X5) (.slice c6 x6.length d6) (.slice c7 x7.length d7)).toArray) (qbj Tryz.results74 rfl Tryz.underlying60 rfl (szR (qbq l5) (by kernel_rfl)) (E.out.get (i := 0) rfl).range) rfl ⟨E.out.kp, .inl ⟨(by first | rfl | exact hs), E.out.rd, _, rfl, _, rfl, (qbq l5), (acR_one rfl rfl rfl rfl o5 rfl rfl), fun V hV => ⟨X5, c6, d6, c7, d7, rfl, (E.out.tell V hV).2.2.1, (E.out.tell V hV).2.1, (E.out.tell V hV).1⟩⟩⟩
end Go.Proofs.YtcgbgmbnagmohaaGreat
