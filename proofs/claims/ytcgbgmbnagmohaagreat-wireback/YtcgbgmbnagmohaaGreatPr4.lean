import Derived.Test.YtcgbgmbnagmohaaGreatLy
import Derived.Test.YtcgbgmbnagmohaaGreatPr3
namespace Go.Proofs.YtcgbgmbnagmohaaGreat
open Go.RowKit
set_option maxRecDepth 20000
attribute [local irreducible] wpList
theorem enters_rlst : Enters 58 := qan Tryz.func58 (by kernel_rfl) rfl
set_option maxHeartbeats 8000000 in
theorem rlst_any (B p : Nat) (b : List (BitVec 8)) (i i' : Nat) (e' : Int) (x : MLs) (u : World) (H : lsM b (i, 0) = ((i', e'), x)) (R : RdS B p b i u) : Calls Tryz.prog 58 #[.pointer (some ⟨p, 0, none⟩)] u (RPost B p b u (i', e') fun v u' => ∃ X : List Value, v = .agg X.toArray ∧ X.length = 99 ∧ One X ∧ Fro u.heap.size (lsAt x X) u') := by
  rcases H1 : nM b 1099511627776 (i, 0) with ⟨⟨i1, e1⟩, x1⟩
  rcases H2 : nM b 1099511627776 (i1, e1) with ⟨⟨i2, e2⟩, x2⟩
  have S2 : Hid (e1 ≠ 0 → e2 = e1) := Lib.hid fun h => by have q := qbu (most := 1099511627776) (b := b) (i := i1) h; rw [H2] at q; exact congrArg Prod.snd q
  rcases H3 : kM 32 b (i2, e2) with ⟨⟨i3, e3⟩, x3⟩
  have S3 : Hid (e2 ≠ 0 → e3 = e2) := Lib.hid fun h => by have q := qcm (n := 32) (b := b) (i := i2) h; rw [H3] at q; exact congrArg Prod.snd q
  rcases H4 : enM b (i3, e3) with ⟨⟨i4, e4⟩, x4⟩
  have S4 : Hid (e3 ≠ 0 → e4 = e3) := Lib.hid fun h => by have q := enM_stay (b := b) (i := i3) h; rw [H4] at q; exact congrArg Prod.snd q
  rcases H5 : kM 64 b (i4, e4) with ⟨⟨i5, e5⟩, x5⟩
  have S5 : Hid (e4 ≠ 0 → e5 = e4) := Lib.hid fun h => by have q := qcm (n := 64) (b := b) (i := i4) h; rw [H5] at q; exact congrArg Prod.snd q
  simp only [lsM, H1, H2, H3, H4, H5, Prod.mk.injEq] at H
  obtain ⟨⟨rfl, rfl⟩, rfl⟩ := H
  have E := Lib.hid (Rm.start R)
  clear R
  go_enter Tryz.func58, Tryz.ntmps58
  go_upto_region 0 with fail; refine wp_region_lit ?_
  refine qaa (qa3 (vs := lsR ((.int .i64 0)) ((.int .i64 0)) (z8 32) ((.slice none 0 0)) (z8 64)) rfl (by kernel_rfl)) rfl ?_; (try simp only [Act.put, lyy])
  replace E := Lib.hid (E.out.new (lsR ((.int .i64 0)) ((.int .i64 0)) (z8 32) ((.slice none 0 0)) (z8 64)) 32)
  generalize u.alloc (.cells (lsR ((.int .i64 0)) ((.int .i64 0)) (z8 32) ((.slice none 0 0)) (z8 64)).toArray 32) = a1 at *
  obtain ⟨g2, hg0⟩ : ∃ k, k = u.heap.size := ⟨_, rfl⟩
  rw [← hg0] at E ⊢
  clear hg0
  refine qab ?_
  go_upto_region 1 with fail; refine wp_region_lit ?_
  refine qaa (qad (v := .pointer (some ⟨p, 0, none⟩)) rfl rfl) rfl ?_; (try simp only [Act.put, lyy])
  refine qaj (qaq qbh rfl rfl rfl) rfl (qb2 B p b i i1 e1 x1 _ H1 E.out.rd) (fun v1 a3 hs hk hr hT => ?_) (fun a3 hs hk => ?pana3)
  case pana3 =>
    go_wp2_with fail
    replace hs : e1 ≠ 0 := hs
    have t2 := S2.out
    have t3 := S3.out
    have t4 := S4.out
    have t5 := S5.out
    have q : e5 = e1 := by omega
    exact ⟨rfl, E.out.panic hk, .inr ⟨by rw [q]; exact hs, by simp only [q]⟩⟩
  (try simp only [Act.put, lyy])
  replace hs : e1 = 0 := hs
  subst hs
  subst hT
  replace E := Lib.hid (E.out.call hk hr (H0 := fun _ => True) (fun _ _ => trivial))
  clear hk hr
  refine qaa (qad (v := .pointer (some ⟨p, 0, none⟩)) rfl rfl) rfl ?_; (try simp only [Act.put, lyy])
  refine qaj (qaq qbh rfl rfl rfl) rfl (qb2 B p b i1 i2 e2 x2 _ H2 E.out.rd) (fun v2 a4 hs hk hr hT => ?_) (fun a4 hs hk => ?pana4)
  case pana4 =>
    go_wp2_with fail
    replace hs : e2 ≠ 0 := hs
    have t3 := S3.out
    have t4 := S4.out
    have t5 := S5.out
    have q : e5 = e2 := by omega
    exact ⟨rfl, E.out.panic hk, .inr ⟨by rw [q]; exact hs, by simp only [q]⟩⟩
  (try simp only [Act.put, lyy])
  replace hs : e2 = 0 := hs
  subst hs
  subst hT
  replace E := Lib.hid (E.out.call hk hr (H0 := fun _ => True) (fun _ _ => trivial))
  clear hk hr
  refine qaa (qad (v := .pointer (some ⟨p, 0, none⟩)) rfl rfl) rfl ?_; (try simp only [Act.put, lyy])
  refine qaj (qaq qcq rfl rfl rfl) rfl (rkey_any B p b i2 i3 e3 x3 _ H3 E.out.rd) (fun v3 a5 hs hk hr hT => ?_) (fun a5 hs hk => ?pana5)
  case pana5 =>
    go_wp2_with fail
    replace hs : e3 ≠ 0 := hs
    have t4 := S4.out
    have t5 := S5.out
    have q : e5 = e3 := by omega
    exact ⟨rfl, E.out.panic hk, .inr ⟨by rw [q]; exact hs, by simp only [q]⟩⟩
  (try simp only [Act.put, lyy])
  replace hs : e3 = 0 := hs
  subst hs
  obtain ⟨rfl, l3⟩ := hT
  replace E := Lib.hid (E.out.call hk hr (H0 := fun _ => True) (fun _ _ => trivial))
  clear hk hr
  refine qaa (qad (v := .pointer (some ⟨p, 0, none⟩)) rfl rfl) rfl ?_; (try simp only [Act.put, lyy])
  refine qaj (qaf enters_ralE rfl rfl rfl rfl) rfl (ralE_any B p b i3 i4 e4 x4 _ H4 E.out.rd) (fun v4 a6 hs hk hr hT => ?_) (fun a6 hs hk => ?pana6)
  case pana6 =>
    go_wp2_with fail
    replace hs : e4 ≠ 0 := hs
    have t5 := S5.out
    have q : e5 = e4 := by omega
    exact ⟨rfl, E.out.panic hk, .inr ⟨by rw [q]; exact hs, by simp only [q]⟩⟩
  (try simp only [Act.put, lyy])
  replace hs : e4 = 0 := hs
  subst hs
  obtain ⟨c4, d4, rfl, f4⟩ := hT
  replace E := Lib.hid (E.out.call hk hr (H0 := SlR 33 pkAt x4 c4 d4) (f4))
  clear hk hr
  refine qaa (qad (v := .pointer (some ⟨p, 0, none⟩)) rfl rfl) rfl ?_; (try simp only [Act.put, lyy])
  refine qaj (qaq enters_rsig rfl rfl rfl) rfl (rsig_any B p b i4 i5 e5 x5 _ H5 E.out.rd) (fun v5 a7 hs hk hr hT => ?_) (fun a7 hs hk => ?pana7)
  case pana7 =>
    go_wp2_with fail
    exact ⟨rfl, E.out.panic hk, .inr ⟨hs, rfl⟩⟩
  (try simp only [Act.put, lyy])
  replace hs : e5 = 0 := hs
  subst hs
  obtain ⟨rfl, l5⟩ := hT
  replace E := Lib.hid (E.out.call hk hr (H0 := fun _ => True) (fun _ _ => trivial))
  clear hk hr
  refine qaa (qa7 (cells := (lsR (.int .i64 x1) (.int .i64 x2) (x3.map b8) (.slice c4 x4.length d4) (x5.map b8)).toArray) (ps := [(0, .int .i64 x1), (1, .int .i64 x2), (2, .agg (x3.map b8).toArray), (3, .slice c4 x4.length d4), (4, .agg (x5.map b8).toArray)]) rfl rfl (lsR_all rfl rfl (by rw [List.length_map, l3]) rfl (by rw [List.length_map, l5]))) rfl ?_; (try simp only [Act.put, lyy])
  refine qal (qa0 (vs := lsR (.int .i64 x1) (.int .i64 x2) (x3.map b8) (.slice c4 x4.length d4) (x5.map b8)) rfl (szR (qas (by rw [List.length_map, l3]) (by rw [List.length_map, l5])) (by kernel_rfl)) rfl rfl (One.all (qch rfl rfl (One.b8 _) rfl (One.b8 _))) ((E.out.get (i := 0) rfl).thereM (by have q1 : (lsR (.int .i64 x1) (.int .i64 x2) (x3.map b8) (.slice c4 x4.length d4) (x5.map b8)).length = 99 := (qas (by rw [List.length_map, l3]) (by rw [List.length_map, l5])); have q2 : (lsR ((.int .i64 0)) ((.int .i64 0)) (z8 32) ((.slice none 0 0)) (z8 64)).length = 99 := (qas (qac 32) (qac 64)); omega))) rfl rfl ?_
  replace E := Lib.hid (E.out.put 0 rfl (m := lsR (.int .i64 x1) (.int .i64 x2) (x3.map b8) (.slice c4 x4.length d4) (x5.map b8)) ((show (lsR (.int .i64 x1) (.int .i64 x2) (x3.map b8) (.slice c4 x4.length d4) (x5.map b8)).length = 99 from (qas (by rw [List.length_map, l3]) (by rw [List.length_map, l5]))).trans (show (lsR ((.int .i64 0)) ((.int .i64 0)) (z8 32) ((.slice none 0 0)) (z8 64)).length = 99 from (qas (qac 32) (qac 64))).symm))
  generalize a7.setCells g2 0 (lsR (.int .i64 x1) (.int .i64 x2) (x3.map b8) (.slice c4 x4.length d4) (x5.map b8)) = a8 at *
  replace E := Lib.hid (show Rm _ _ _ _ _ [(g2, lsR (.int .i64 x1) (.int .i64 x2) (x3.map b8) (.slice c4 x4.length d4) (x5.map b8))] _ a8 from E.out)
  refine qab ?_
  go_wp2_with fail
  exact bodyPost_ret (v := .agg (lsR (.int .i64 x1) (.int .i64 x2) (x3.map b8) (.slice c4 x4.length d4) (x5.map b8)).toArray) (qbj Tryz.results58 rfl Tryz.underlying32 rfl (szR (qas (by rw [List.length_map, l3]) (by rw [List.length_map, l5])) (by kernel_rfl)) (E.out.get (i := 0) rfl).range) rfl ⟨E.out.kp, .inl ⟨(by first | rfl | exact hs), E.out.rd, _, rfl, _, rfl, (qas (by rw [List.length_map, l3]) (by rw [List.length_map, l5])), (qch rfl rfl (One.b8 _) rfl (One.b8 _)), fun V hV => ⟨c4, d4, rfl, (E.out.tell V hV).2.1⟩⟩⟩
theorem enters_renv : Enters 62 := qan Tryz.func62 (by kernel_rfl) rfl
set_option maxHeartbeats 8000000 in
theorem renv_any (B p : Nat) (b : List (BitVec 8)) (i i' : Nat) (e' : Int) (x : MEv) (u : World) (H : evM b (i, 0) = ((i', e'), x)) (R : RdS B p b i u) : Calls Tryz.prog 62 #[.pointer (some ⟨p, 0, none⟩)] u (RPost B p b u (i', e') fun v u' => ∃ X : List Value, v = .agg X.toArray ∧ X.length = 72 ∧ One X ∧ Fro u.heap.size (evAt x X) u') := by
  rcases H1 : nM b 1099511627776 (i, 0) with ⟨⟨i1, e1⟩, x1⟩
  rcases H2 : nM b 1099511627776 (i1, e1) with ⟨⟨i2, e2⟩, x2⟩
  have S2 : Hid (e1 ≠ 0 → e2 = e1) := Lib.hid fun h => by have q := qbu (most := 1099511627776) (b := b) (i := i1) h; rw [H2] at q; exact congrArg Prod.snd q
  rcases H3 : trM b (i2, e2) with ⟨⟨i3, e3⟩, x3⟩
  have S3 : Hid (e2 ≠ 0 → e3 = e2) := Lib.hid fun h => by have q := trM_stay (b := b) (i := i2) h; rw [H3] at q; exact congrArg Prod.snd q
  rcases H4 : kM 32 b (i3, e3) with ⟨⟨i4, e4⟩, x4⟩
  have S4 : Hid (e3 ≠ 0 → e4 = e3) := Lib.hid fun h => by have q := qcm (n := 32) (b := b) (i := i3) h; rw [H4] at q; exact congrArg Prod.snd q
  rcases H5 : nM b 1099511627776 (i4, e4) with ⟨⟨i5, e5⟩, x5⟩
  have S5 : Hid (e4 ≠ 0 → e5 = e4) := Lib.hid fun h => by have q := qbu (most := 1099511627776) (b := b) (i := i4) h; rw [H5] at q; exact congrArg Prod.snd q
  rcases H6 : nM b 1099511627776 (i5, e5) with ⟨⟨i6, e6⟩, x6⟩
  have S6 : Hid (e5 ≠ 0 → e6 = e5) := Lib.hid fun h => by have q := qbu (most := 1099511627776) (b := b) (i := i5) h; rw [H6] at q; exact congrArg Prod.snd q
  rcases H7 : hdM b (i6, e6) with ⟨⟨i7, e7⟩, x7⟩
  have S7 : Hid (e6 ≠ 0 → e7 = e6) := Lib.hid fun h => by have q := hdM_stay (b := b) (i := i6) h; rw [H7] at q; exact congrArg Prod.snd q
  rcases H8 : byM b (i7, e7) with ⟨⟨i8, e8⟩, x8⟩
  have S8 : Hid (e7 ≠ 0 → e8 = e7) := Lib.hid fun h => by have q := byM_stay (b := b) (i := i7) h; rw [H8] at q; exact congrArg Prod.snd q
  simp only [evM, H1, H2, H3, H4, H5, H6, H7, H8, Prod.mk.injEq] at H
  obtain ⟨⟨rfl, rfl⟩, rfl⟩ := H
  have E := Lib.hid (Rm.start R)
  clear R
  go_enter Tryz.func62, Tryz.ntmps62
  go_upto_region 0 with fail; refine wp_region_lit ?_
  refine qaa (qa3 (vs := evR ((.int .i64 0)) ((.int .i64 0)) ((.bool false)) (z8 32) ((.int .i64 0)) ((.int .i64 0)) (hdR (z8 32) ((.int .i64 0)) ((.int .i64 0))) ((.slice none 0 0))) rfl (by kernel_rfl)) rfl ?_; (try simp only [Act.put, lyy])
  replace E := Lib.hid (E.out.new (evR ((.int .i64 0)) ((.int .i64 0)) ((.bool false)) (z8 32) ((.int .i64 0)) ((.int .i64 0)) (hdR (z8 32) ((.int .i64 0)) ((.int .i64 0))) ((.slice none 0 0))) 38)
  generalize u.alloc (.cells (evR ((.int .i64 0)) ((.int .i64 0)) ((.bool false)) (z8 32) ((.int .i64 0)) ((.int .i64 0)) (hdR (z8 32) ((.int .i64 0)) ((.int .i64 0))) ((.slice none 0 0))).toArray 38) = a1 at *
  obtain ⟨g2, hg0⟩ : ∃ k, k = u.heap.size := ⟨_, rfl⟩
  rw [← hg0] at E ⊢
  clear hg0
  refine qab ?_
  go_upto_region 1 with fail; refine wp_region_lit ?_
  refine qaa (qad (v := .pointer (some ⟨p, 0, none⟩)) rfl rfl) rfl ?_; (try simp only [Act.put, lyy])
  refine qaj (qaq qbh rfl rfl rfl) rfl (qb2 B p b i i1 e1 x1 _ H1 E.out.rd) (fun v1 a3 hs hk hr hT => ?_) (fun a3 hs hk => ?pana3)
  case pana3 =>
    go_wp2_with fail
    replace hs : e1 ≠ 0 := hs
    have t2 := S2.out
    have t3 := S3.out
    have t4 := S4.out
    have t5 := S5.out
    have t6 := S6.out
    have t7 := S7.out
    have t8 := S8.out
    have q : e8 = e1 := by omega
    exact ⟨rfl, E.out.panic hk, .inr ⟨by rw [q]; exact hs, by simp only [q]⟩⟩
  (try simp only [Act.put, lyy])
  replace hs : e1 = 0 := hs
  subst hs
  subst hT
  replace E := Lib.hid (E.out.call hk hr (H0 := fun _ => True) (fun _ _ => trivial))
  clear hk hr
  refine qaa (qad (v := .pointer (some ⟨p, 0, none⟩)) rfl rfl) rfl ?_; (try simp only [Act.put, lyy])
  refine qaj (qaq qbh rfl rfl rfl) rfl (qb2 B p b i1 i2 e2 x2 _ H2 E.out.rd) (fun v2 a4 hs hk hr hT => ?_) (fun a4 hs hk => ?pana4)
  case pana4 =>
    go_wp2_with fail
    replace hs : e2 ≠ 0 := hs
    have t3 := S3.out
    have t4 := S4.out
    have t5 := S5.out
    have t6 := S6.out
    have t7 := S7.out
    have t8 := S8.out
    have q : e8 = e2 := by omega
    exact ⟨rfl, E.out.panic hk, .inr ⟨by rw [q]; exact hs, by simp only [q]⟩⟩
  (try simp only [Act.put, lyy])
  replace hs : e2 = 0 := hs
  subst hs
  subst hT
  replace E := Lib.hid (E.out.call hk hr (H0 := fun _ => True) (fun _ _ => trivial))
  clear hk hr
  refine qaa (qad (v := .pointer (some ⟨p, 0, none⟩)) rfl rfl) rfl ?_; (try simp only [Act.put, lyy])
  refine qaj (qaq enters_rtru rfl rfl rfl) rfl (rtru_any B p b i2 i3 e3 x3 _ H3 E.out.rd) (fun v3 a5 hs hk hr hT => ?_) (fun a5 hs hk => ?pana5)
  case pana5 =>
    go_wp2_with fail
    replace hs : e3 ≠ 0 := hs
    have t4 := S4.out
    have t5 := S5.out
    have t6 := S6.out
    have t7 := S7.out
    have t8 := S8.out
    have q : e8 = e3 := by omega
    exact ⟨rfl, E.out.panic hk, .inr ⟨by rw [q]; exact hs, by simp only [q]⟩⟩
  (try simp only [Act.put, lyy])
  replace hs : e3 = 0 := hs
  subst hs
  subst hT
  replace E := Lib.hid (E.out.call hk hr (H0 := fun _ => True) (fun _ _ => trivial))
  clear hk hr
  refine qaa (qad (v := .pointer (some ⟨p, 0, none⟩)) rfl rfl) rfl ?_; (try simp only [Act.put, lyy])
  refine qaj (qaq qcq rfl rfl rfl) rfl (rkey_any B p b i3 i4 e4 x4 _ H4 E.out.rd) (fun v4 a6 hs hk hr hT => ?_) (fun a6 hs hk => ?pana6)
  case pana6 =>
    go_wp2_with fail
    replace hs : e4 ≠ 0 := hs
    have t5 := S5.out
    have t6 := S6.out
    have t7 := S7.out
    have t8 := S8.out
    have q : e8 = e4 := by omega
    exact ⟨rfl, E.out.panic hk, .inr ⟨by rw [q]; exact hs, by simp only [q]⟩⟩
  (try simp only [Act.put, lyy])
  replace hs : e4 = 0 := hs
  subst hs
  obtain ⟨rfl, l4⟩ := hT
  replace E := Lib.hid (E.out.call hk hr (H0 := fun _ => True) (fun _ _ => trivial))
  clear hk hr
  refine qaa (qad (v := .pointer (some ⟨p, 0, none⟩)) rfl rfl) rfl ?_; (try simp only [Act.put, lyy])
  refine qaj (qaq qbh rfl rfl rfl) rfl (qb2 B p b i4 i5 e5 x5 _ H5 E.out.rd) (fun v5 a7 hs hk hr hT => ?_) (fun a7 hs hk => ?pana7)
  case pana7 =>
    go_wp2_with fail
    replace hs : e5 ≠ 0 := hs
    have t6 := S6.out
    have t7 := S7.out
    have t8 := S8.out
    have q : e8 = e5 := by omega
    exact ⟨rfl, E.out.panic hk, .inr ⟨by rw [q]; exact hs, by simp only [q]⟩⟩
  (try simp only [Act.put, lyy])
  replace hs : e5 = 0 := hs
  subst hs
  subst hT
  replace E := Lib.hid (E.out.call hk hr (H0 := fun _ => True) (fun _ _ => trivial))
  clear hk hr
  refine qaa (qad (v := .pointer (some ⟨p, 0, none⟩)) rfl rfl) rfl ?_; (try simp only [Act.put, lyy])
  refine qaj (qaq qbh rfl rfl rfl) rfl (qb2 B p b i5 i6 e6 x6 _ H6 E.out.rd) (fun v6 a8 hs hk hr hT => ?_) (fun a8 hs hk => ?pana8)
  case pana8 =>
    go_wp2_with fail
    replace hs : e6 ≠ 0 := hs
    have t7 := S7.out
    have t8 := S8.out
    have q : e8 = e6 := by omega
    exact ⟨rfl, E.out.panic hk, .inr ⟨by rw [q]; exact hs, by simp only [q]⟩⟩
  (try simp only [Act.put, lyy])
  replace hs : e6 = 0 := hs
  subst hs
  subst hT
  have n6 := nM_num (b := b) (most := 1099511627776) (s := (i5, 0)) (by omega)
  rw [H6] at n6
  simp only at n6
  replace E := Lib.hid (E.out.call hk hr (H0 := fun _ => True) (fun _ _ => trivial))
  clear hk hr
  refine qaa (run_sub rfl rfl rfl (by omega) (by omega)) rfl ?_; (try simp only [Act.put, lyy])
  refine qaa (qad (v := .pointer (some ⟨p, 0, none⟩)) rfl rfl) rfl ?_; (try simp only [Act.put, lyy])
  refine qaj (qaq enters_rhdr rfl rfl rfl) rfl (rhdr_any B p b i6 i7 e7 x7 _ H7 E.out.rd) (fun v7 a9 hs hk hr hT => ?_) (fun a9 hs hk => ?pana9)
  case pana9 =>
    go_wp2_with fail
    replace hs : e7 ≠ 0 := hs
    have t8 := S8.out
    have q : e8 = e7 := by omega
    exact ⟨rfl, E.out.panic hk, .inr ⟨by rw [q]; exact hs, by simp only [q]⟩⟩
  (try simp only [Act.put, lyy])
  replace hs : e7 = 0 := hs
  subst hs
  obtain ⟨rfl, l7⟩ := hT
  replace E := Lib.hid (E.out.call hk hr (H0 := fun _ => True) (fun _ _ => trivial))
  clear hk hr
  refine qaa (qad (v := .pointer (some ⟨p, 0, none⟩)) rfl rfl) rfl ?_; (try simp only [Act.put, lyy])
  refine qaj (qaq enters_rbyt rfl rfl rfl) rfl (rbyt_any B p b i7 i8 e8 x8 _ H8 E.out.rd) (fun v8 a10 hs hk hr hT => ?_) (fun a10 hs hk => ?pana10)
  case pana10 =>
    go_wp2_with fail
    exact ⟨rfl, E.out.panic hk, .inr ⟨hs, rfl⟩⟩
  (try simp only [Act.put, lyy])
  replace hs : e8 = 0 := hs
  subst hs
  obtain ⟨c8, d8, rfl, f8⟩ := hT
  replace E := Lib.hid (E.out.call hk hr (H0 := Sl (.slice c8 x8.length d8) x8) (f8))
  clear hk hr
  refine qaa (qa7 (cells := (evR (.int .i64 x1) (.int .i64 x2) (.bool x3) (x4.map b8) (.int .i64 x5) (.int .i64 (x6 - 1)) (hdC x7) (.slice c8 x8.length d8)).toArray) (ps := [(0, .int .i64 x1), (1, .int .i64 x2), (2, .bool x3), (3, .agg (x4.map b8).toArray), (4, .int .i64 x5), (5, .int .i64 (x6 - 1)), (6, .agg (hdC x7).toArray), (7, .slice c8 x8.length d8)]) rfl rfl (evR_all rfl rfl rfl (by rw [List.length_map, l4]) rfl rfl (qcu l7) rfl)) rfl ?_; (try simp only [Act.put, lyy])
  refine qal (qa0 (vs := evR (.int .i64 x1) (.int .i64 x2) (.bool x3) (x4.map b8) (.int .i64 x5) (.int .i64 (x6 - 1)) (hdC x7) (.slice c8 x8.length d8)) rfl (szR (qbk (by rw [List.length_map, l4]) (qcu l7)) (by kernel_rfl)) rfl rfl (One.all (evR_one rfl rfl rfl (One.b8 _) rfl rfl hdC_one rfl)) ((E.out.get (i := 0) rfl).thereM (by have q1 : (evR (.int .i64 x1) (.int .i64 x2) (.bool x3) (x4.map b8) (.int .i64 x5) (.int .i64 (x6 - 1)) (hdC x7) (.slice c8 x8.length d8)).length = 72 := (qbk (by rw [List.length_map, l4]) (qcu l7)); have q2 : (evR ((.int .i64 0)) ((.int .i64 0)) ((.bool false)) (z8 32) ((.int .i64 0)) ((.int .i64 0)) (hdR (z8 32) ((.int .i64 0)) ((.int .i64 0))) ((.slice none 0 0))).length = 72 := (qbk (qac 32) (qa9 (qac 32))); omega))) rfl rfl ?_
  replace E := Lib.hid (E.out.put 0 rfl (m := evR (.int .i64 x1) (.int .i64 x2) (.bool x3) (x4.map b8) (.int .i64 x5) (.int .i64 (x6 - 1)) (hdC x7) (.slice c8 x8.length d8)) ((show (evR (.int .i64 x1) (.int .i64 x2) (.bool x3) (x4.map b8) (.int .i64 x5) (.int .i64 (x6 - 1)) (hdC x7) (.slice c8 x8.length d8)).length = 72 from (qbk (by rw [List.length_map, l4]) (qcu l7))).trans (show (evR ((.int .i64 0)) ((.int .i64 0)) ((.bool false)) (z8 32) ((.int .i64 0)) ((.int .i64 0)) (hdR (z8 32) ((.int .i64 0)) ((.int .i64 0))) ((.slice none 0 0))).length = 72 from (qbk (qac 32) (qa9 (qac 32)))).symm))
  generalize a10.setCells g2 0 (evR (.int .i64 x1) (.int .i64 x2) (.bool x3) (x4.map b8) (.int .i64 x5) (.int .i64 (x6 - 1)) (hdC x7) (.slice c8 x8.length d8)) = a11 at *
  replace E := Lib.hid (show Rm _ _ _ _ _ [(g2, evR (.int .i64 x1) (.int .i64 x2) (.bool x3) (x4.map b8) (.int .i64 x5) (.int .i64 (x6 - 1)) (hdC x7) (.slice c8 x8.length d8))] _ a11 from E.out)
  refine qab ?_
  go_wp2_with fail
  exact bodyPost_ret (v := .agg (evR (.int .i64 x1) (.int .i64 x2) (.bool x3) (x4.map b8) (.int .i64 x5) (.int .i64 (x6 - 1)) (hdC x7) (.slice c8 x8.length d8)).toArray) (qbj Tryz.results62 rfl Tryz.underlying38 rfl (szR (qbk (by rw [List.length_map, l4]) (qcu l7)) (by kernel_rfl)) (E.out.get (i := 0) rfl).range) rfl ⟨E.out.kp, .inl ⟨(by first | rfl | exact hs), E.out.rd, _, rfl, _, rfl, (qbk (by rw [List.length_map, l4]) (qcu l7)), (evR_one rfl rfl rfl (One.b8 _) rfl rfl hdC_one rfl), fun V hV => ⟨c8, d8, by rw [evC_row], (E.out.tell V hV).1⟩⟩⟩
theorem enters_ralV : Enters 135 := qan Tryz.func135 (by kernel_rfl) rfl
set_option maxHeartbeats 8000000 in
theorem ralV_any (B p : Nat) (b : List (BitVec 8)) (i i' : Nat) (e' : Int) (x : List MEv) (u : World) (H : evsM b (i, 0) = ((i', e'), x)) (R : RdS B p b i u) : Calls Tryz.prog 135 #[.pointer (some ⟨p, 0, none⟩), .func (.func 62) #[] #[]] u (RPost B p b u (i', e') fun v u' => ∃ a c, v = .slice a x.length c ∧ Fro u.heap.size (SlR 72 evAt x a c) u') := by
  rcases HN : nM b 60000 (i, 0) with ⟨⟨i0, e0⟩, N⟩
  have hn0 := nM_num (b := b) (most := 60000) (s := (i, 0)) (by omega)
  rw [HN] at hn0
  obtain ⟨n, hn⟩ : ∃ n : Nat, N = (n : Int) := ⟨N.toNat, by omega⟩
  subst hn
  have hnn : n ≤ 60000 := by have := hn0.2; simp only at this; omega
  clear hn0
  simp only [evsM, HN, Int.toNat_natCast] at H
  have S1 : Hid (e0 ≠ 0 → e' = e0) := Lib.hid fun h => by rw [qcd _ _ (by exact h)] at H; exact (congrArg (fun z => z.1.2) H).symm
  have HH := Lib.hid H
  have HR := Lib.hid R
  clear H R
  go_enter Tryz.func135, Tryz.ntmps135
  go_upto_region 0 with fail; refine wp_region_lit ?_
  refine qaa (qak (v := .slice none 0 0) rfl rfl) rfl ?_; (try simp only [Act.put, lyy])
  refine qab ?_
  go_upto_region 1 with fail; refine wp_region_lit ?_
  refine qaa (qak (v := .slice none 0 0) rfl rfl) rfl ?_; (try simp only [Act.put, lyy])
  refine qab ?_
  have E := Lib.hid ((Rg.start HR.out 38 72).know (H0 := LR evAt [] []) fun V _ => LR.nil V)
  go_upto_region 2 with fail; refine wp_region_lit ?_
  refine qaa (qad (v := .pointer (some ⟨p, 0, none⟩)) rfl rfl) rfl ?_; (try simp only [Act.put, lyy])
  refine qaj (qaq qcr rfl rfl rfl) rfl (rcnt_any B p b i i0 e0 _ _ HN E.out.rd) (fun v a1 hs hk hr hT => ?_) (fun a1 hs hk => ?pana1)
  case pana1 =>
    go_wp2_with fail
    have q := S1.out hs
    exact ⟨rfl, E.out.kp.trans hk, .inr ⟨by rw [q]; exact hs, by simp only [q]⟩⟩
  (try simp only [Act.put, lyy])
  subst hT
  replace hs : e0 = 0 := hs
  subst hs
  replace E := Lib.hid ((E.out.call hk hr (H0 := fun _ => True) fun _ _ => trivial).know (H0 := LR evAt [] []) fun V h => h.2)
  clear hk hr S1 HR
  refine qaa (qad (v := .int .i64 0) rfl rfl) rfl ?_; (try simp only [Act.put, lyy])
  refine qab ?_
  go_wp2_with fail
  go_loopw [5, 8] (fun s5 s8 a => ∃ (k q : Nat) (l : List MEv) (css : List (List Value)), s8 = .int .i64 (k : Int) ∧ k ≤ n ∧ k = l.length ∧ (∀ y ∈ css, y.length = 72) ∧ (rowsM (evM b) n (i0, 0) = ((rowsM (evM b) (n - k) (q, 0)).1, l ++ (rowsM (evM b) (n - k) (q, 0)).2)) ∧ Rg u B p b q 38 72 s5 k css.flatten (LR evAt l css) a) (fun _ s8 _ => ((n : Int) - intOf s8).toNat)
  case atStart => exact ⟨0, i0, [], [], rfl, by omega, rfl, (fun _ h => by cases h), by simp, E.out⟩
  case round =>
    obtain ⟨k, q, l, css, rfl, hkn, hkl, hq, hrow, hJ⟩ := hrel
    replace E := Lib.hid hJ
    have HQ := Lib.hid hq
    have HRW := Lib.hid hrow
    clear hJ hq hrow
    by_cases hkn2 : k = n
    · subst hkn2
      have HX : Hid (((i', e'), x) = ((q, (0 : Int)), l)) := Lib.hid (by rw [← HH.out, HRW.out, Nat.sub_self, qdb, List.append_nil])
      simp only [Prod.mk.injEq] at HX
      obtain ⟨⟨rfl, rfl⟩, rfl⟩ := HX.out
      go_upto_region 3 with fail; refine wp_region_lit ?_
      refine qaa (qay (c := false) rfl rfl rfl (decide_eq_false (by omega))) rfl ?_; (try simp only [Act.put, lyy])
      refine qab ?_
      go_upto_region 6 with fail; refine wp_region_lit ?_
      refine qaa (qad (v := u5) rfl rfl) rfl ?_; (try simp only [Act.put, lyy])
      refine qaa (qak (v := u5) rfl rfl) rfl ?_; (try simp only [Act.put, lyy])
      refine qab ?_
      have HF : Hid (Fro u.heap.size (fun V => ∃ a' c', u5 = .slice a' x.length c' ∧ SlR 72 evAt x a' c' V) wr) := Lib.hid fun V hV => qc5 (E.out.tell V hV).1 hkl (E.out.tell V hV).2.1 HQ.out (E.out.tell V hV).2.2
      obtain ⟨a', c', hv6, hS0⟩ := HF.out.now
      subst hv6
      have HF2 : Hid (Fro u.heap.size (SlR 72 evAt x a' c') wr) := Lib.hid fun V hV => by
        obtain ⟨a2, c2, h1, h2⟩ := HF.out V hV
        simp only [Value.slice.injEq] at h1
        obtain ⟨rfl, _, rfl⟩ := h1
        exact h2
      go_wp2_with fail
      exact bodyPost_ret (results_tmp Tryz.results135 _ _ _) rfl ⟨E.out.kp, .inl ⟨rfl, E.out.rd, _, rfl, _, _, rfl, HF2.out⟩⟩
    · obtain ⟨m, hm⟩ : ∃ m, n - k = m + 1 := ⟨n - k - 1, by omega⟩
      have hr2 := HRW.out
      rw [hm, qdc _ _ rfl] at hr2
      rcases HG : evM b (q, 0) with ⟨⟨q1, e1⟩, y⟩
      rw [HG] at hr2
      have S2 : Hid (e1 ≠ 0 → e' = e1) := Lib.hid fun h => by have h9 := HH.out; rw [hr2, qcd _ _ (by exact h)] at h9; exact (congrArg (fun z => z.1.2) h9).symm
      replace HRW := Lib.hid hr2
      clear hr2
      go_upto_region 3 with fail; refine wp_region_lit ?_
      refine qaa (qay (c := true) rfl rfl rfl (decide_eq_true (by omega))) rfl ?_; (try simp only [Act.put, lyy])
      refine qab ?_
      go_upto_region 4 with fail; refine wp_region_lit ?_
      refine qaa (qad (v := u5) rfl rfl) rfl ?_; (try simp only [Act.put, lyy])
      refine qaa (qad (v := .func (.func 62) #[] #[]) rfl rfl) rfl ?_; (try simp only [Act.put, lyy])
      refine qaa (qad (v := .pointer (some ⟨p, 0, none⟩)) rfl rfl) rfl ?_; (try simp only [Act.put, lyy])
      refine qaj (qcc enters_renv rfl rfl rfl) rfl (renv_any B p b q q1 e1 y _ HG E.out.rd) (fun v3 a3 hs hk hr hT => ?_) (fun a3 hs hk => ?pana3)
      case pana3 =>
        go_wp2_with fail
        have q := S2.out hs
        exact ⟨rfl, E.out.kp.trans hk, .inr ⟨by rw [q]; exact hs, by simp only [q]⟩⟩
      (try simp only [Act.put, lyy])
      replace hs : e1 = 0 := hs
      subst hs
      obtain ⟨X, rfl, lX, oX, fX⟩ := hT
      replace E := Lib.hid (E.out.call hk hr (H0 := evAt y X) fX)
      clear hk hr S2
      refine qaa (qcg (m := X) (z := 72) (zv := .agg ([.int .i64 0, .int .i64 0] ++ [.bool false] ++ List.replicate 32 (.int .u8 0) ++ [.int .i64 0, .int .i64 0] ++ List.replicate 32 (.int .u8 0) ++ [.int .i64 0, .int .i64 0] ++ [.slice none 0 0] : List Value).toArray) rfl Tryz.underlying52 (by kernel_rfl) rfl lX (by omega) (by omega)) rfl ?_; (try simp only [Act.put, lyy])
      have A2 := Lib.hid (Arr.new a3 X 38)
      replace E := Lib.hid (E.out.below ((Below.refl a3.heap.size a3).alloc (Nat.le_refl _) (.cells X.toArray 38)))
      generalize a3.alloc (.cells X.toArray 38) = b1 at *
      generalize a3.heap.size = g0 at *
      refine qcw (t := 52) (bw := 144) (zv := .agg ([.int .i64 0, .int .i64 0] ++ [.bool false] ++ List.replicate 32 (.int .u8 0) ++ [.int .i64 0, .int .i64 0] ++ List.replicate 32 (.int .u8 0) ++ [.int .i64 0, .int .i64 0] ++ [.slice none 0 0] : List Value).toArray) (z := 72) rfl rfl Tryz.underlying52 (by kernel_rfl) rfl (by omega) rfl rfl A2.out.range lX oX (by omega) (by omega) E.out (fun v7 b2 hG => ?_); (try simp only [Act.put, lyy])
      replace E := Lib.hid (hG.know (H0 := LR evAt (l ++ [y]) (css ++ [X])) fun V h => h.2.snoc h.1)
      clear hG A2
      refine qaa (qak (v := v7) rfl rfl) rfl ?_; (try simp only [Act.put, lyy])
      refine qab ?_
      go_upto_region 5 with fail; refine wp_region_lit ?_
      refine qaa (qa6 (a := k) (b := 1) rfl rfl rfl (by omega)) rfl ?_; (try simp only [Act.put, lyy])
      refine qaa (qad (v := .int .i64 ((k + 1 : Nat) : Int)) rfl rfl) rfl ?_; (try simp only [Act.put, lyy])
      refine qab ?_
      go_wp2_with fail
      exact ⟨⟨k + 1, q1, l ++ [y], css ++ [X], rfl, by omega, by rw [List.length_append, ← hkl]; rfl, (fun z hz => (List.mem_append.1 hz).elim (HQ.out z) fun h => by rw [List.mem_singleton.1 h]; exact lX), by rw [HRW.out, show n - (k + 1) = m by omega, List.append_assoc]; rfl, by rw [List.flatten_append, show [X].flatten = X by simp]; exact E.out⟩, by simp [intOf]; omega⟩
end Go.Proofs.YtcgbgmbnagmohaaGreat
