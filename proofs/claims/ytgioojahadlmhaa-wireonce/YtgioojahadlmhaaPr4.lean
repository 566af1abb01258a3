import Derived.Test.YtgioojahadlmhaaLy
import Derived.Test.YtgioojahadlmhaaPr3
namespace Go.Proofs.Ytgioojahadlmhaa
open Go.RowKit
set_option maxRecDepth 20000
attribute [local irreducible] wpList
theorem enters_rlst : Enters 52 := qan Try.func52 (by kernel_rfl) rfl
set_option maxHeartbeats 8000000 in
theorem rlst_any (B p : Nat) (b : List (BitVec 8)) (i i' : Nat) (e' : Int) (x : MLs) (u : World) (H : lsM b (i, 0) = ((i', e'), x)) (R : RdS B p b i u) : Calls Try.prog 52 #[.pointer (some ⟨p, 0, none⟩)] u (RPost B p b u (i', e') fun v u' => ∃ X : List Value, v = .agg X.toArray ∧ X.length = 99 ∧ One X ∧ Fro u.heap.size (lsAt x X) u') := by
  rcases H1 : nM b 1099511627776 (i, 0) with ⟨⟨i1, e1⟩, x1⟩
  rcases H2 : nM b 1099511627776 (i1, e1) with ⟨⟨i2, e2⟩, x2⟩
  have S2 : Hid (e1 ≠ 0 → e2 = e1) := Lib.hid fun h => by have q := qbb (most := 1099511627776) (b := b) (i := i1) h; rw [H2] at q; exact congrArg Prod.snd q
  rcases H3 : kM 32 b (i2, e2) with ⟨⟨i3, e3⟩, x3⟩
  have S3 : Hid (e2 ≠ 0 → e3 = e2) := Lib.hid fun h => by have q := qb3 (n := 32) (b := b) (i := i2) h; rw [H3] at q; exact congrArg Prod.snd q
  rcases H4 : enM b (i3, e3) with ⟨⟨i4, e4⟩, x4⟩
  have S4 : Hid (e3 ≠ 0 → e4 = e3) := Lib.hid fun h => by have q := enM_stay (b := b) (i := i3) h; rw [H4] at q; exact congrArg Prod.snd q
  rcases H5 : kM 64 b (i4, e4) with ⟨⟨i5, e5⟩, x5⟩
  have S5 : Hid (e4 ≠ 0 → e5 = e4) := Lib.hid fun h => by have q := qb3 (n := 64) (b := b) (i := i4) h; rw [H5] at q; exact congrArg Prod.snd q
  simp only [lsM, H1, H2, H3, H4, H5, Prod.mk.injEq] at H
  obtain ⟨⟨rfl, rfl⟩, rfl⟩ := H
  have E := Lib.hid (Rm.start R)
  clear R
  go_enter Try.func52, Try.ntmps52
  go_upto_region 0 with fail; refine wp_region_lit ?_
  refine qaa (qa5 (vs := lsR ((.int .i64 0)) ((.int .i64 0)) (z8 32) ((.slice none 0 0)) (z8 64)) rfl (by kernel_rfl)) rfl ?_; (try simp only [Act.put, lyy])
  replace E := Lib.hid (E.out.new (lsR ((.int .i64 0)) ((.int .i64 0)) (z8 32) ((.slice none 0 0)) (z8 64)) 40)
  generalize u.alloc (.cells (lsR ((.int .i64 0)) ((.int .i64 0)) (z8 32) ((.slice none 0 0)) (z8 64)).toArray 40) = a1 at *
  obtain ⟨g2, hg0⟩ : ∃ k, k = u.heap.size := ⟨_, rfl⟩
  rw [← hg0] at E ⊢
  clear hg0
  refine qab ?_
  go_upto_region 1 with fail; refine wp_region_lit ?_
  refine qaa (qad (v := .pointer (some ⟨p, 0, none⟩)) rfl rfl) rfl ?_; (try simp only [Act.put, lyy])
  refine qah (qam qbe rfl rfl rfl) rfl (qb1 B p b i i1 e1 x1 _ H1 E.out.rd) (fun v1 a3 hs hk hr hT => ?_) (fun a3 hs hk => ?pana3)
  case pana3 =>
    go_wp2_with fail
    replace hs : e1 ≠ 0 := hs
    have t2 := S2.out
    have t3 := S3.out
    have t4 := S4.out
    have t5 := S5.out
    have q : e5 = e1 := by omega
    exact ⟨rfl, E.out.panic hk, .inr ⟨by rw [q]; exact hs, by simp only [q]⟩⟩
  (try simp only [Act.put, lyy])
  replace hs : e1 = 0 := hs
  subst hs
  subst hT
  replace E := Lib.hid (E.out.call hk hr (H0 := fun _ => True) (fun _ _ => trivial))
  clear hk hr
  refine qaa (qad (v := .pointer (some ⟨p, 0, none⟩)) rfl rfl) rfl ?_; (try simp only [Act.put, lyy])
  refine qah (qam qbe rfl rfl rfl) rfl (qb1 B p b i1 i2 e2 x2 _ H2 E.out.rd) (fun v2 a4 hs hk hr hT => ?_) (fun a4 hs hk => ?pana4)
  case pana4 =>
    go_wp2_with fail
    replace hs : e2 ≠ 0 := hs
    have t3 := S3.out
    have t4 := S4.out
    have t5 := S5.out
    have q : e5 = e2 := by omega
    exact ⟨rfl, E.out.panic hk, .inr ⟨by rw [q]; exact hs, by simp only [q]⟩⟩
  (try simp only [Act.put, lyy])
  replace hs : e2 = 0 := hs
  subst hs
  subst hT
  replace E := Lib.hid (E.out.call hk hr (H0 := fun _ => True) (fun _ _ => trivial))
  clear hk hr
  refine qaa (qad (v := .pointer (some ⟨p, 0, none⟩)) rfl rfl) rfl ?_; (try simp only [Act.put, lyy])
  refine qah (qam enters_rkey rfl rfl rfl) rfl (rkey_any B p b i2 i3 e3 x3 _ H3 E.out.rd) (fun v3 a5 hs hk hr hT => ?_) (fun a5 hs hk => ?pana5)
  case pana5 =>
    go_wp2_with fail
    replace hs : e3 ≠ 0 := hs
    have t4 := S4.out
    have t5 := S5.out
    have q : e5 = e3 := by omega
    exact ⟨rfl, E.out.panic hk, .inr ⟨by rw [q]; exact hs, by simp only [q]⟩⟩
  (try simp only [Act.put, lyy])
  replace hs : e3 = 0 := hs
  subst hs
  obtain ⟨rfl, l3⟩ := hT
  replace E := Lib.hid (E.out.call hk hr (H0 := fun _ => True) (fun _ _ => trivial))
  clear hk hr
  refine qaa (qad (v := .pointer (some ⟨p, 0, none⟩)) rfl rfl) rfl ?_; (try simp only [Act.put, lyy])
  refine qah (qaf enters_ralE rfl rfl rfl rfl) rfl (ralE_any B p b i3 i4 e4 x4 _ H4 E.out.rd) (fun v4 a6 hs hk hr hT => ?_) (fun a6 hs hk => ?pana6)
  case pana6 =>
    go_wp2_with fail
    replace hs : e4 ≠ 0 := hs
    have t5 := S5.out
    have q : e5 = e4 := by omega
    exact ⟨rfl, E.out.panic hk, .inr ⟨by rw [q]; exact hs, by simp only [q]⟩⟩
  (try simp only [Act.put, lyy])
  replace hs : e4 = 0 := hs
  subst hs
  obtain ⟨c4, d4, rfl, f4⟩ := hT
  replace E := Lib.hid (E.out.call hk hr (H0 := SlR 33 pkAt x4 c4 d4) (f4))
  clear hk hr
  refine qaa (qad (v := .pointer (some ⟨p, 0, none⟩)) rfl rfl) rfl ?_; (try simp only [Act.put, lyy])
  refine qah (qam enters_rsig rfl rfl rfl) rfl (rsig_any B p b i4 i5 e5 x5 _ H5 E.out.rd) (fun v5 a7 hs hk hr hT => ?_) (fun a7 hs hk => ?pana7)
  case pana7 =>
    go_wp2_with fail
    exact ⟨rfl, E.out.panic hk, .inr ⟨hs, rfl⟩⟩
  (try simp only [Act.put, lyy])
  replace hs : e5 = 0 := hs
  subst hs
  obtain ⟨rfl, l5⟩ := hT
  replace E := Lib.hid (E.out.call hk hr (H0 := fun _ => True) (fun _ _ => trivial))
  clear hk hr
  refine qaa (qa8 (cells := (lsR (.int .i64 x1) (.int .i64 x2) (x3.map b8) (.slice c4 x4.length d4) (x5.map b8)).toArray) (ps := [(0, .int .i64 x1), (1, .int .i64 x2), (2, .agg (x3.map b8).toArray), (3, .slice c4 x4.length d4), (4, .agg (x5.map b8).toArray)]) rfl rfl (lsR_all rfl rfl (by rw [List.length_map, l3]) rfl (by rw [List.length_map, l5]))) rfl ?_; (try simp only [Act.put, lyy])
  refine qal (qa1 (vs := lsR (.int .i64 x1) (.int .i64 x2) (x3.map b8) (.slice c4 x4.length d4) (x5.map b8)) rfl (szR (qas (by rw [List.length_map, l3]) (by rw [List.length_map, l5])) (by kernel_rfl)) rfl rfl (One.all (qcm rfl rfl (One.b8 _) rfl (One.b8 _))) ((E.out.get (i := 0) rfl).thereM (by have q1 : (lsR (.int .i64 x1) (.int .i64 x2) (x3.map b8) (.slice c4 x4.length d4) (x5.map b8)).length = 99 := (qas (by rw [List.length_map, l3]) (by rw [List.length_map, l5])); have q2 : (lsR ((.int .i64 0)) ((.int .i64 0)) (z8 32) ((.slice none 0 0)) (z8 64)).length = 99 := (qas (qae 32) (qae 64)); omega))) rfl rfl ?_
  replace E := Lib.hid (E.out.put 0 rfl (m := lsR (.int .i64 x1) (.int .i64 x2) (x3.map b8) (.slice c4 x4.length d4) (x5.map b8)) ((show (lsR (.int .i64 x1) (.int .i64 x2) (x3.map b8) (.slice c4 x4.length d4) (x5.map b8)).length = 99 from (qas (by rw [List.length_map, l3]) (by rw [List.length_map, l5]))).trans (show (lsR ((.int .i64 0)) ((.int .i64 0)) (z8 32) ((.slice none 0 0)) (z8 64)).length = 99 from (qas (qae 32) (qae 64))).symm))
  generalize a7.setCells g2 0 (lsR (.int .i64 x1) (.int .i64 x2) (x3.map b8) (.slice c4 x4.length d4) (x5.map b8)) = a8 at *
  replace E := Lib.hid (show Rm _ _ _ _ _ [(g2, lsR (.int .i64 x1) (.int .i64 x2) (x3.map b8) (.slice c4 x4.length d4) (x5.map b8))] _ a8 from E.out)
  refine qab ?_
  go_wp2_with fail
  exact bodyPost_ret (v := .agg (lsR (.int .i64 x1) (.int .i64 x2) (x3.map b8) (.slice c4 x4.length d4) (x5.map b8)).toArray) (qbg Try.results52 rfl Try.underlying40 rfl (szR (qas (by rw [List.length_map, l3]) (by rw [List.length_map, l5])) (by kernel_rfl)) (E.out.get (i := 0) rfl).range) rfl ⟨E.out.kp, .inl ⟨(by first | rfl | exact hs), E.out.rd, _, rfl, _, rfl, (qas (by rw [List.length_map, l3]) (by rw [List.length_map, l5])), (qcm rfl rfl (One.b8 _) rfl (One.b8 _)), fun V hV => ⟨c4, d4, rfl, (E.out.tell V hV).2.1⟩⟩⟩
theorem enters_renv : Enters 115 := qan Try.func115 (by kernel_rfl) rfl
set_option maxHeartbeats 8000000 in
theorem renv_any (B p : Nat) (b : List (BitVec 8)) (i i' : Nat) (e' : Int) (x : MEv) (u : World) (H : evM b (i, 0) = ((i', e'), x)) (R : RdS B p b i u) : Calls Try.prog 115 #[.pointer (some ⟨p, 0, none⟩)] u (RPost B p b u (i', e') fun v u' => ∃ X : List Value, v = .agg X.toArray ∧ X.length = 72 ∧ One X ∧ Fro u.heap.size (evAt x X) u') := by
  rcases H1 : nM b 1099511627776 (i, 0) with ⟨⟨i1, e1⟩, x1⟩
  rcases H2 : nM b 1099511627776 (i1, e1) with ⟨⟨i2, e2⟩, x2⟩
  have S2 : Hid (e1 ≠ 0 → e2 = e1) := Lib.hid fun h => by have q := qbb (most := 1099511627776) (b := b) (i := i1) h; rw [H2] at q; exact congrArg Prod.snd q
  rcases H3 : trM b (i2, e2) with ⟨⟨i3, e3⟩, x3⟩
  have S3 : Hid (e2 ≠ 0 → e3 = e2) := Lib.hid fun h => by have q := trM_stay (b := b) (i := i2) h; rw [H3] at q; exact congrArg Prod.snd q
  rcases H4 : kM 32 b (i3, e3) with ⟨⟨i4, e4⟩, x4⟩
  have S4 : Hid (e3 ≠ 0 → e4 = e3) := Lib.hid fun h => by have q := qb3 (n := 32) (b := b) (i := i3) h; rw [H4] at q; exact congrArg Prod.snd q
  rcases H5 : nM b 1099511627776 (i4, e4) with ⟨⟨i5, e5⟩, x5⟩
  have S5 : Hid (e4 ≠ 0 → e5 = e4) := Lib.hid fun h => by have q := qbb (most := 1099511627776) (b := b) (i := i4) h; rw [H5] at q; exact congrArg Prod.snd q
  rcases H6 : nM b 1099511627776 (i5, e5) with ⟨⟨i6, e6⟩, x6⟩
  have S6 : Hid (e5 ≠ 0 → e6 = e5) := Lib.hid fun h => by have q := qbb (most := 1099511627776) (b := b) (i := i5) h; rw [H6] at q; exact congrArg Prod.snd q
  rcases H7 : hdM b (i6, e6) with ⟨⟨i7, e7⟩, x7⟩
  have S7 : Hid (e6 ≠ 0 → e7 = e6) := Lib.hid fun h => by have q := hdM_stay (b := b) (i := i6) h; rw [H7] at q; exact congrArg Prod.snd q
  rcases H8 : byM b (i7, e7) with ⟨⟨i8, e8⟩, x8⟩
  have S8 : Hid (e7 ≠ 0 → e8 = e7) := Lib.hid fun h => by have q := qch (b := b) (i := i7) h; rw [H8] at q; exact congrArg Prod.snd q
  simp only [evM, H1, H2, H3, H4, H5, H6, H7, H8, Prod.mk.injEq] at H
  obtain ⟨⟨rfl, rfl⟩, rfl⟩ := H
  have E := Lib.hid (Rm.start R)
  clear R
  go_enter Try.func115, Try.ntmps115
  go_upto_region 0 with fail; refine wp_region_lit ?_
  refine qaa (qa5 (vs := evR ((.int .i64 0)) ((.int .i64 0)) ((.bool false)) (z8 32) ((.int .i64 0)) ((.int .i64 0)) (hdR (z8 32) ((.int .i64 0)) ((.int .i64 0))) ((.slice none 0 0))) rfl (by kernel_rfl)) rfl ?_; (try simp only [Act.put, lyy])
  replace E := Lib.hid (E.out.new (evR ((.int .i64 0)) ((.int .i64 0)) ((.bool false)) (z8 32) ((.int .i64 0)) ((.int .i64 0)) (hdR (z8 32) ((.int .i64 0)) ((.int .i64 0))) ((.slice none 0 0))) 64)
  generalize u.alloc (.cells (evR ((.int .i64 0)) ((.int .i64 0)) ((.bool false)) (z8 32) ((.int .i64 0)) ((.int .i64 0)) (hdR (z8 32) ((.int .i64 0)) ((.int .i64 0))) ((.slice none 0 0))).toArray 64) = a1 at *
  obtain ⟨g2, hg0⟩ : ∃ k, k = u.heap.size := ⟨_, rfl⟩
  rw [← hg0] at E ⊢
  clear hg0
  refine qab ?_
  go_upto_region 1 with fail; refine wp_region_lit ?_
  refine qaa (qad (v := .pointer (some ⟨p, 0, none⟩)) rfl rfl) rfl ?_; (try simp only [Act.put, lyy])
  refine qah (qam qbe rfl rfl rfl) rfl (qb1 B p b i i1 e1 x1 _ H1 E.out.rd) (fun v1 a3 hs hk hr hT => ?_) (fun a3 hs hk => ?pana3)
  case pana3 =>
    go_wp2_with fail
    replace hs : e1 ≠ 0 := hs
    have t2 := S2.out
    have t3 := S3.out
    have t4 := S4.out
    have t5 := S5.out
    have t6 := S6.out
    have t7 := S7.out
    have t8 := S8.out
    have q : e8 = e1 := by omega
    exact ⟨rfl, E.out.panic hk, .inr ⟨by rw [q]; exact hs, by simp only [q]⟩⟩
  (try simp only [Act.put, lyy])
  replace hs : e1 = 0 := hs
  subst hs
  subst hT
  replace E := Lib.hid (E.out.call hk hr (H0 := fun _ => True) (fun _ _ => trivial))
  clear hk hr
  refine qaa (qad (v := .pointer (some ⟨p, 0, none⟩)) rfl rfl) rfl ?_; (try simp only [Act.put, lyy])
  refine qah (qam qbe rfl rfl rfl) rfl (qb1 B p b i1 i2 e2 x2 _ H2 E.out.rd) (fun v2 a4 hs hk hr hT => ?_) (fun a4 hs hk => ?pana4)
  case pana4 =>
    go_wp2_with fail
    replace hs : e2 ≠ 0 := hs
    have t3 := S3.out
    have t4 := S4.out
    have t5 := S5.out
    have t6 := S6.out
    have t7 := S7.out
    have t8 := S8.out
    have q : e8 = e2 := by omega
    exact ⟨rfl, E.out.panic hk, .inr ⟨by rw [q]; exact hs, by simp only [q]⟩⟩
  (try simp only [Act.put, lyy])
  replace hs : e2 = 0 := hs
  subst hs
  subst hT
  replace E := Lib.hid (E.out.call hk hr (H0 := fun _ => True) (fun _ _ => trivial))
  clear hk hr
  refine qaa (qad (v := .pointer (some ⟨p, 0, none⟩)) rfl rfl) rfl ?_; (try simp only [Act.put, lyy])
  refine qah (qam enters_rtru rfl rfl rfl) rfl (rtru_any B p b i2 i3 e3 x3 _ H3 E.out.rd) (fun v3 a5 hs hk hr hT => ?_) (fun a5 hs hk => ?pana5)
  case pana5 =>
    go_wp2_with fail
    replace hs : e3 ≠ 0 := hs
    have t4 := S4.out
    have t5 := S5.out
    have t6 := S6.out
    have t7 := S7.out
    have t8 := S8.out
    have q : e8 = e3 := by omega
    exact ⟨rfl, E.out.panic hk, .inr ⟨by rw [q]; exact hs, by simp only [q]⟩⟩
  (try simp only [Act.put, lyy])
  replace hs : e3 = 0 := hs
  subst hs
  subst hT
  replace E := Lib.hid (E.out.call hk hr (H0 := fun _ => True) (fun _ _ => trivial))
  clear hk hr
  refine qaa (qad (v := .pointer (some ⟨p, 0, none⟩)) rfl rfl) rfl ?_; (try simp only [Act.put, lyy])
  refine qah (qam enters_rkey rfl rfl rfl) rfl (rkey_any B p b i3 i4 e4 x4 _ H4 E.out.rd) (fun v4 a6 hs hk hr hT => ?_) (fun a6 hs hk => ?pana6)
  case pana6 =>
    go_wp2_with fail
    replace hs : e4 ≠ 0 := hs
    have t5 := S5.out
    have t6 := S6.out
    have t7 := S7.out
    have t8 := S8.out
    have q : e8 = e4 := by omega
    exact ⟨rfl, E.out.panic hk, .inr ⟨by rw [q]; exact hs, by simp only [q]⟩⟩
  (try simp only [Act.put, lyy])
  replace hs : e4 = 0 := hs
  subst hs
  obtain ⟨rfl, l4⟩ := hT
  replace E := Lib.hid (E.out.call hk hr (H0 := fun _ => True) (fun _ _ => trivial))
  clear hk hr
  refine qaa (qad (v := .pointer (some ⟨p, 0, none⟩)) rfl rfl) rfl ?_; (try simp only [Act.put, lyy])
  refine qah (qam qbe rfl rfl rfl) rfl (qb1 B p b i4 i5 e5 x5 _ H5 E.out.rd) (fun v5 a7 hs hk hr hT => ?_) (fun a7 hs hk => ?pana7)
  case pana7 =>
    go_wp2_with fail
    replace hs : e5 ≠ 0 := hs
    have t6 := S6.out
    have t7 := S7.out
    have t8 := S8.out
    have q : e8 = e5 := by omega
    exact ⟨rfl, E.out.panic hk, .inr ⟨by rw [q]; exact hs, by simp only [q]⟩⟩
  (try simp only [Act.put, lyy])
  replace hs : e5 = 0 := hs
  subst hs
  subst hT
  replace E := Lib.hid (E.out.call hk hr (H0 := fun _ => True) (fun _ _ => trivial))
  clear hk hr
  refine qaa (qad (v := .pointer (some ⟨p, 0, none⟩)) rfl rfl) rfl ?_; (try simp only [Act.put, lyy])
  refine qah (qam qbe rfl rfl rfl) rfl (qb1 B p b i5 i6 e6 x6 _ H6 E.out.rd) (fun v6 a8 hs hk hr hT => ?_) (fun a8 hs hk => ?pana8)
  case pana8 =>
    go_wp2_with fail
    replace hs : e6 ≠ 0 := hs
    have t7 := S7.out
    have t8 := S8.out
    have q : e8 = e6 := by omega
    exact ⟨rfl, E.out.panic hk, .inr ⟨by rw [q]; exact hs, by simp only [q]⟩⟩
  (try simp only [Act.put, lyy])
  replace hs : e6 = 0 := hs
  subst hs
  subst hT
  have n6 := nM_num (b := b) (most := 1099511627776) (s := (i5, 0)) (by omega)
  rw [H6] at n6
  simp only at n6
  replace E := Lib.hid (E.out.call hk hr (H0 := fun _ => True) (fun _ _ => trivial))
  clear hk hr
  refine qaa (run_sub rfl rfl rfl (by omega) (by omega)) rfl ?_; (try simp only [Act.put, lyy])
  refine qaa (qad (v := .pointer (some ⟨p, 0, none⟩)) rfl rfl) rfl ?_; (try simp only [Act.put, lyy])
  refine qah (qam enters_rhdr rfl rfl rfl) rfl (rhdr_any B p b i6 i7 e7 x7 _ H7 E.out.rd) (fun v7 a9 hs hk hr hT => ?_) (fun a9 hs hk => ?pana9)
  case pana9 =>
    go_wp2_with fail
    replace hs : e7 ≠ 0 := hs
    have t8 := S8.out
    have q : e8 = e7 := by omega
    exact ⟨rfl, E.out.panic hk, .inr ⟨by rw [q]; exact hs, by simp only [q]⟩⟩
  (try simp only [Act.put, lyy])
  replace hs : e7 = 0 := hs
  subst hs
  obtain ⟨rfl, l7⟩ := hT
  replace E := Lib.hid (E.out.call hk hr (H0 := fun _ => True) (fun _ _ => trivial))
  clear hk hr
  refine qaa (qad (v := .pointer (some ⟨p, 0, none⟩)) rfl rfl) rfl ?_; (try simp only [Act.put, lyy])
  refine qah (qam enters_rbyt rfl rfl rfl) rfl (rbyt_any B p b i7 i8 e8 x8 _ H8 E.out.rd) (fun v8 a10 hs hk hr hT => ?_) (fun a10 hs hk => ?pana10)
  case pana10 =>
    go_wp2_with fail
    exact ⟨rfl, E.out.panic hk, .inr ⟨hs, rfl⟩⟩
  (try simp only [Act.put, lyy])
  replace hs : e8 = 0 := hs
  subst hs
  obtain ⟨c8, d8, rfl, f8⟩ := hT
  replace E := Lib.hid (E.out.call hk hr (H0 := Sl (.slice c8 x8.length d8) x8) (f8))
  clear hk hr
  refine qaa (qa8 (cells := (evR (.int .i64 x1) (.int .i64 x2) (.bool x3) (x4.map b8) (.int .i64 x5) (.int .i64 (x6 - 1)) (hdC x7) (.slice c8 x8.length d8)).toArray) (ps := [(0, .int .i64 x1), (1, .int .i64 x2), (2, .bool x3), (3, .agg (x4.map b8).toArray), (4, .int .i64 x5), (5, .int .i64 (x6 - 1)), (6, .agg (hdC x7).toArray), (7, .slice c8 x8.length d8)]) rfl rfl (evR_all rfl rfl rfl (by rw [List.length_map, l4]) rfl rfl (hdC_len l7) rfl)) rfl ?_; (try simp only [Act.put, lyy])
  refine qal (qa1 (vs := evR (.int .i64 x1) (.int .i64 x2) (.bool x3) (x4.map b8) (.int .i64 x5) (.int .i64 (x6 - 1)) (hdC x7) (.slice c8 x8.length d8)) rfl (szR (qbl (by rw [List.length_map, l4]) (hdC_len l7)) (by kernel_rfl)) rfl rfl (One.all (evR_one rfl rfl rfl (One.b8 _) rfl rfl hdC_one rfl)) ((E.out.get (i := 0) rfl).thereM (by have q1 : (evR (.int .i64 x1) (.int .i64 x2) (.bool x3) (x4.map b8) (.int .i64 x5) (.int .i64 (x6 - 1)) (hdC x7) (.slice c8 x8.length d8)).length = 72 := (qbl (by rw [List.length_map, l4]) (hdC_len l7)); have q2 : (evR ((.int .i64 0)) ((.int .i64 0)) ((.bool false)) (z8 32) ((.int .i64 0)) ((.int .i64 0)) (hdR (z8 32) ((.int .i64 0)) ((.int .i64 0))) ((.slice none 0 0))).length = 72 := (qbl (qae 32) (qbd (qae 32))); omega))) rfl rfl ?_
  replace E := Lib.hid (E.out.put 0 rfl (m := evR (.int .i64 x1) (.int .i64 x2) (.bool x3) (x4.map b8) (.int .i64 x5) (.int .i64 (x6 - 1)) (hdC x7) (.slice c8 x8.length d8)) ((show (evR (.int .i64 x1) (.int .i64 x2) (.bool x3) (x4.map b8) (.int .i64 x5) (.int .i64 (x6 - 1)) (hdC x7) (.slice c8 x8.length d8)).length = 72 from (qbl (by rw [List.length_map, l4]) (hdC_len l7))).trans (show (evR ((.int .i64 0)) ((.int .i64 0)) ((.bool false)) (z8 32) ((.int .i64 0)) ((.int .i64 0)) (hdR (z8 32) ((.int .i64 0)) ((.int .i64 0))) ((.slice none 0 0))).length = 72 from (qbl (qae 32) (qbd (qae 32)))).symm))
  generalize a10.setCells g2 0 (evR (.int .i64 x1) (.int .i64 x2) (.bool x3) (x4.map b8) (.int .i64 x5) (.int .i64 (x6 - 1)) (hdC x7) (.slice c8 x8.length d8)) = a11 at *
  replace E := Lib.hid (show Rm _ _ _ _ _ [(g2, evR (.int .i64 x1) (.int .i64 x2) (.bool x3) (x4.map b8) (.int .i64 x5) (.int .i64 (x6 - 1)) (hdC x7) (.slice c8 x8.length d8))] _ a11 from E.out)
  refine qab ?_
  go_wp2_with fail
  exact bodyPost_ret (v := .agg (evR (.int .i64 x1) (.int .i64 x2) (.bool x3) (x4.map b8) (.int .i64 x5) (.int .i64 (x6 - 1)) (hdC x7) (.slice c8 x8.length d8)).toArray) (qbg Try.results115 rfl Try.underlying64 rfl (szR (qbl (by rw [List.length_map, l4]) (hdC_len l7)) (by kernel_rfl)) (E.out.get (i := 0) rfl).range) rfl ⟨E.out.kp, .inl ⟨(by first | rfl | exact hs), E.out.rd, _, rfl, _, rfl, (qbl (by rw [List.length_map, l4]) (hdC_len l7)), (evR_one rfl rfl rfl (One.b8 _) rfl rfl hdC_one rfl), fun V hV => ⟨c8, d8, by rw [evC_row], (E.out.tell V hV).1⟩⟩⟩
end Go.Proofs.Ytgioojahadlmhaa
