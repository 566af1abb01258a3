import Derived.Test.YtcgbgmbnagmohaaLy
import Derived.Test.YtcgbgmbnagmohaaPr5
namespace Go.Proofs.Ytcgbgmbnagmohaa
open Go.RowKit
set_option maxRecDepth 20000
attribute [local irreducible] wpList
theorem enters_rreq : Enters 40 := qak Try.func40 (by kernel_rfl) rfl
set_option maxHeartbeats 8000000 in
theorem rreq_any (B p : Nat) (b : List (BitVec 8)) (i i' : Nat) (e' : Int) (x : MRq) (u : World) (H : rdRqA b (i, 0) = ((i', e'), x)) (R : RdS B p b i u) : Calls Try.prog 40 #[.pointer (some ⟨p, 0, none⟩)] u (RPost B p b u (i', e') fun v u' => ∃ X : List Value, v = .agg X.toArray ∧ X.length = 237 ∧ One X ∧ Fro u.heap.size (rqAt x X) u') := by
  rcases H1 : nM b 255 (i, 0) with ⟨⟨i1, e1⟩, x1⟩
  rcases H2 : nM b 1099511627776 (i1, e1) with ⟨⟨i2, e2⟩, x2⟩
  have S2 : Hid (e1 ≠ 0 → e2 = e1) := Lib.hid fun h => by have q := qa6 (most := 1099511627776) (b := b) (i := i1) h; rw [H2] at q; exact congrArg Prod.snd q
  rcases H3 : nM b 1099511627776 (i2, e2) with ⟨⟨i3, e3⟩, x3⟩
  have S3 : Hid (e2 ≠ 0 → e3 = e2) := Lib.hid fun h => by have q := qa6 (most := 1099511627776) (b := b) (i := i2) h; rw [H3] at q; exact congrArg Prod.snd q
  rcases H4 : byM b (i3, e3) with ⟨⟨i4, e4⟩, x4⟩
  have S4 : Hid (e3 ≠ 0 → e4 = e3) := Lib.hid fun h => by have q := qca (b := b) (i := i3) h; rw [H4] at q; exact congrArg Prod.snd q
  rcases H5 : byM b (i4, e4) with ⟨⟨i5, e5⟩, x5⟩
  have S5 : Hid (e4 ≠ 0 → e5 = e4) := Lib.hid fun h => by have q := qca (b := b) (i := i4) h; rw [H5] at q; exact congrArg Prod.snd q
  rcases H6 : byM b (i5, e5) with ⟨⟨i6, e6⟩, x6⟩
  have S6 : Hid (e5 ≠ 0 → e6 = e5) := Lib.hid fun h => by have q := qca (b := b) (i := i5) h; rw [H6] at q; exact congrArg Prod.snd q
  rcases H7 : lsM b (i6, e6) with ⟨⟨i7, e7⟩, x7⟩
  have S7 : Hid (e6 ≠ 0 → e7 = e6) := Lib.hid fun h => by have q := lsM_stay (b := b) (i := i6) h; rw [H7] at q; exact congrArg Prod.snd q
  rcases H8 : kM 32 b (i7, e7) with ⟨⟨i8, e8⟩, x8⟩
  have S8 : Hid (e7 ≠ 0 → e8 = e7) := Lib.hid fun h => by have q := qb3 (n := 32) (b := b) (i := i7) h; rw [H8] at q; exact congrArg Prod.snd q
  rcases H9 : pkM b (i8, e8) with ⟨⟨i9, e9⟩, x9⟩
  have S9 : Hid (e8 ≠ 0 → e9 = e8) := Lib.hid fun h => by have q := pkM_stay (b := b) (i := i8) h; rw [H9] at q; exact congrArg Prod.snd q
  rcases H10 : kM 64 b (i9, e9) with ⟨⟨i10, e10⟩, x10⟩
  have S10 : Hid (e9 ≠ 0 → e10 = e9) := Lib.hid fun h => by have q := qb3 (n := 64) (b := b) (i := i9) h; rw [H10] at q; exact congrArg Prod.snd q
  rcases H11 : psM b (i10, e10) with ⟨⟨i11, e11⟩, x11⟩
  have S11 : Hid (e10 ≠ 0 → e11 = e10) := Lib.hid fun h => by have q := psM_stay (b := b) (i := i10) h; rw [H11] at q; exact congrArg Prod.snd q
  rcases H12 : nM b 1099511627776 (i11, e11) with ⟨⟨i12, e12⟩, x12⟩
  have S12 : Hid (e11 ≠ 0 → e12 = e11) := Lib.hid fun h => by have q := qa6 (most := 1099511627776) (b := b) (i := i11) h; rw [H12] at q; exact congrArg Prod.snd q
  rcases H13 : itsM b (i12, e12) with ⟨⟨i13, e13⟩, x13⟩
  have S13 : Hid (e12 ≠ 0 → e13 = e12) := Lib.hid fun h => by have q := itsM_stay (b := b) (i := i12) h; rw [H13] at q; exact congrArg Prod.snd q
  simp only [rdRqA, H1, H2, H3, H4, H5, H6, H7, H8, H9, H10, H11, H12, H13, Prod.mk.injEq] at H
  obtain ⟨⟨rfl, rfl⟩, rfl⟩ := H
  have E := Lib.hid (Rm.start R)
  clear R
  go_enter Try.func40, Try.ntmps40
  go_upto_region 0 with fail; refine wp_region_lit ?_
  refine qaa (qay (vs := rqR ((.int .u8 0)) ((.int .i64 0)) ((.int .i64 0)) ((.string ⟨#[]⟩)) ((.string ⟨#[]⟩)) ((.string ⟨#[]⟩)) (lsR ((.int .i64 0)) ((.int .i64 0)) (z8 32) ((.slice none 0 0)) (z8 64)) (z8 32) (pkR ((.int .i64 0)) (z8 32)) (z8 64) ((.slice none 0 0)) ((.int .i64 0)) ((.slice none 0 0))) rfl (by kernel_rfl)) rfl ?_; (try simp only [Act.put, lyy])
  replace E := Lib.hid (E.out.new (rqR ((.int .u8 0)) ((.int .i64 0)) ((.int .i64 0)) ((.string ⟨#[]⟩)) ((.string ⟨#[]⟩)) ((.string ⟨#[]⟩)) (lsR ((.int .i64 0)) ((.int .i64 0)) (z8 32) ((.slice none 0 0)) (z8 64)) (z8 32) (pkR ((.int .i64 0)) (z8 32)) (z8 64) ((.slice none 0 0)) ((.int .i64 0)) ((.slice none 0 0))) 38)
  generalize u.alloc (.cells (rqR ((.int .u8 0)) ((.int .i64 0)) ((.int .i64 0)) ((.string ⟨#[]⟩)) ((.string ⟨#[]⟩)) ((.string ⟨#[]⟩)) (lsR ((.int .i64 0)) ((.int .i64 0)) (z8 32) ((.slice none 0 0)) (z8 64)) (z8 32) (pkR ((.int .i64 0)) (z8 32)) (z8 64) ((.slice none 0 0)) ((.int .i64 0)) ((.slice none 0 0))).toArray 38) = a1 at *
  obtain ⟨g2, hg0⟩ : ∃ k, k = u.heap.size := ⟨_, rfl⟩
  rw [← hg0] at E ⊢
  clear hg0
  refine qab ?_
  go_upto_region 1 with fail; refine wp_region_lit ?_
  refine qaa (qad (v := .pointer (some ⟨p, 0, none⟩)) rfl rfl) rfl ?_; (try simp only [Act.put, lyy])
  refine qag (qal enters_rsml rfl rfl rfl) rfl (rsml_any B p b i i1 e1 x1 _ H1 E.out.rd) (fun v1 a3 hs hk hr hT => ?_) (fun a3 hs hk => ?pana3)
  case pana3 =>
    go_wp2_with fail
    replace hs : e1 ≠ 0 := hs
    have t2 := S2.out
    have t3 := S3.out
    have t4 := S4.out
    have t5 := S5.out
    have t6 := S6.out
    have t7 := S7.out
    have t8 := S8.out
    have t9 := S9.out
    have t10 := S10.out
    have t11 := S11.out
    have t12 := S12.out
    have t13 := S13.out
    have q : e13 = e1 := by omega
    exact ⟨rfl, E.out.panic hk, .inr ⟨by rw [q]; exact hs, by simp only [q]⟩⟩
  (try simp only [Act.put, lyy])
  replace hs : e1 = 0 := hs
  subst hs
  subst hT
  have n1 := nM_num (b := b) (most := 255) (s := (i, 0)) (by omega)
  rw [H1] at n1
  simp only at n1
  replace E := Lib.hid (E.out.call hk hr (H0 := fun _ => True) (fun _ _ => trivial))
  clear hk hr
  refine qaa (run_cvu8R rfl rfl n1.1 n1.2) rfl ?_; (try simp only [Act.put, lyy])
  refine qaa (qad (v := .pointer (some ⟨p, 0, none⟩)) rfl rfl) rfl ?_; (try simp only [Act.put, lyy])
  refine qag (qal qa7 rfl rfl rfl) rfl (qbq B p b i1 i2 e2 x2 _ H2 E.out.rd) (fun v2 a4 hs hk hr hT => ?_) (fun a4 hs hk => ?pana4)
  case pana4 =>
    go_wp2_with fail
    replace hs : e2 ≠ 0 := hs
    have t3 := S3.out
    have t4 := S4.out
    have t5 := S5.out
    have t6 := S6.out
    have t7 := S7.out
    have t8 := S8.out
    have t9 := S9.out
    have t10 := S10.out
    have t11 := S11.out
    have t12 := S12.out
    have t13 := S13.out
    have q : e13 = e2 := by omega
    exact ⟨rfl, E.out.panic hk, .inr ⟨by rw [q]; exact hs, by simp only [q]⟩⟩
  (try simp only [Act.put, lyy])
  replace hs : e2 = 0 := hs
  subst hs
  subst hT
  replace E := Lib.hid (E.out.call hk hr (H0 := fun _ => True) (fun _ _ => trivial))
  clear hk hr
  refine qaa (qad (v := .pointer (some ⟨p, 0, none⟩)) rfl rfl) rfl ?_; (try simp only [Act.put, lyy])
  refine qag (qal qa7 rfl rfl rfl) rfl (qbq B p b i2 i3 e3 x3 _ H3 E.out.rd) (fun v3 a5 hs hk hr hT => ?_) (fun a5 hs hk => ?pana5)
  case pana5 =>
    go_wp2_with fail
    replace hs : e3 ≠ 0 := hs
    have t4 := S4.out
    have t5 := S5.out
    have t6 := S6.out
    have t7 := S7.out
    have t8 := S8.out
    have t9 := S9.out
    have t10 := S10.out
    have t11 := S11.out
    have t12 := S12.out
    have t13 := S13.out
    have q : e13 = e3 := by omega
    exact ⟨rfl, E.out.panic hk, .inr ⟨by rw [q]; exact hs, by simp only [q]⟩⟩
  (try simp only [Act.put, lyy])
  replace hs : e3 = 0 := hs
  subst hs
  subst hT
  replace E := Lib.hid (E.out.call hk hr (H0 := fun _ => True) (fun _ _ => trivial))
  clear hk hr
  refine qaa (qad (v := .pointer (some ⟨p, 0, none⟩)) rfl rfl) rfl ?_; (try simp only [Act.put, lyy])
  refine qag (qal enters_rtxt rfl rfl rfl) rfl (rtxt_any B p b i3 i4 e4 x4 _ H4 E.out.rd) (fun v4 a6 hs hk hr hT => ?_) (fun a6 hs hk => ?pana6)
  case pana6 =>
    go_wp2_with fail
    replace hs : e4 ≠ 0 := hs
    have t5 := S5.out
    have t6 := S6.out
    have t7 := S7.out
    have t8 := S8.out
    have t9 := S9.out
    have t10 := S10.out
    have t11 := S11.out
    have t12 := S12.out
    have t13 := S13.out
    have q : e13 = e4 := by omega
    exact ⟨rfl, E.out.panic hk, .inr ⟨by rw [q]; exact hs, by simp only [q]⟩⟩
  (try simp only [Act.put, lyy])
  replace hs : e4 = 0 := hs
  subst hs
  subst hT
  replace E := Lib.hid (E.out.call hk hr (H0 := fun _ => True) (fun _ _ => trivial))
  clear hk hr
  refine qaa (qad (v := .pointer (some ⟨p, 0, none⟩)) rfl rfl) rfl ?_; (try simp only [Act.put, lyy])
  refine qag (qal enters_rtxt rfl rfl rfl) rfl (rtxt_any B p b i4 i5 e5 x5 _ H5 E.out.rd) (fun v5 a7 hs hk hr hT => ?_) (fun a7 hs hk => ?pana7)
  case pana7 =>
    go_wp2_with fail
    replace hs : e5 ≠ 0 := hs
    have t6 := S6.out
    have t7 := S7.out
    have t8 := S8.out
    have t9 := S9.out
    have t10 := S10.out
    have t11 := S11.out
    have t12 := S12.out
    have t13 := S13.out
    have q : e13 = e5 := by omega
    exact ⟨rfl, E.out.panic hk, .inr ⟨by rw [q]; exact hs, by simp only [q]⟩⟩
  (try simp only [Act.put, lyy])
  replace hs : e5 = 0 := hs
  subst hs
  subst hT
  replace E := Lib.hid (E.out.call hk hr (H0 := fun _ => True) (fun _ _ => trivial))
  clear hk hr
  refine qaa (qad (v := .pointer (some ⟨p, 0, none⟩)) rfl rfl) rfl ?_; (try simp only [Act.put, lyy])
  refine qag (qal enters_rtxt rfl rfl rfl) rfl (rtxt_any B p b i5 i6 e6 x6 _ H6 E.out.rd) (fun v6 a8 hs hk hr hT => ?_) (fun a8 hs hk => ?pana8)
  case pana8 =>
    go_wp2_with fail
    replace hs : e6 ≠ 0 := hs
    have t7 := S7.out
    have t8 := S8.out
    have t9 := S9.out
    have t10 := S10.out
    have t11 := S11.out
    have t12 := S12.out
    have t13 := S13.out
    have q : e13 = e6 := by omega
    exact ⟨rfl, E.out.panic hk, .inr ⟨by rw [q]; exact hs, by simp only [q]⟩⟩
  (try simp only [Act.put, lyy])
  replace hs : e6 = 0 := hs
  subst hs
  subst hT
  replace E := Lib.hid (E.out.call hk hr (H0 := fun _ => True) (fun _ _ => trivial))
  clear hk hr
  refine qaa (qad (v := .pointer (some ⟨p, 0, none⟩)) rfl rfl) rfl ?_; (try simp only [Act.put, lyy])
  refine qag (qal enters_rlst rfl rfl rfl) rfl (rlst_any B p b i6 i7 e7 x7 _ H7 E.out.rd) (fun v7 a9 hs hk hr hT => ?_) (fun a9 hs hk => ?pana9)
  case pana9 =>
    go_wp2_with fail
    replace hs : e7 ≠ 0 := hs
    have t8 := S8.out
    have t9 := S9.out
    have t10 := S10.out
    have t11 := S11.out
    have t12 := S12.out
    have t13 := S13.out
    have q : e13 = e7 := by omega
    exact ⟨rfl, E.out.panic hk, .inr ⟨by rw [q]; exact hs, by simp only [q]⟩⟩
  (try simp only [Act.put, lyy])
  replace hs : e7 = 0 := hs
  subst hs
  obtain ⟨X7, rfl, l7, o7, f7⟩ := hT
  replace E := Lib.hid (E.out.call hk hr (H0 := lsAt x7 X7) (f7))
  clear hk hr
  refine qaa (qad (v := .pointer (some ⟨p, 0, none⟩)) rfl rfl) rfl ?_; (try simp only [Act.put, lyy])
  refine qag (qal qco rfl rfl rfl) rfl (rkey_any B p b i7 i8 e8 x8 _ H8 E.out.rd) (fun v8 a10 hs hk hr hT => ?_) (fun a10 hs hk => ?pana10)
  case pana10 =>
    go_wp2_with fail
    replace hs : e8 ≠ 0 := hs
    have t9 := S9.out
    have t10 := S10.out
    have t11 := S11.out
    have t12 := S12.out
    have t13 := S13.out
    have q : e13 = e8 := by omega
    exact ⟨rfl, E.out.panic hk, .inr ⟨by rw [q]; exact hs, by simp only [q]⟩⟩
  (try simp only [Act.put, lyy])
  replace hs : e8 = 0 := hs
  subst hs
  obtain ⟨rfl, l8⟩ := hT
  replace E := Lib.hid (E.out.call hk hr (H0 := fun _ => True) (fun _ _ => trivial))
  clear hk hr
  refine qaa (qad (v := .pointer (some ⟨p, 0, none⟩)) rfl rfl) rfl ?_; (try simp only [Act.put, lyy])
  refine qag (qal enters_rpre rfl rfl rfl) rfl (rpre_any B p b i8 i9 e9 x9 _ H9 E.out.rd) (fun v9 a11 hs hk hr hT => ?_) (fun a11 hs hk => ?pana11)
  case pana11 =>
    go_wp2_with fail
    replace hs : e9 ≠ 0 := hs
    have t10 := S10.out
    have t11 := S11.out
    have t12 := S12.out
    have t13 := S13.out
    have q : e13 = e9 := by omega
    exact ⟨rfl, E.out.panic hk, .inr ⟨by rw [q]; exact hs, by simp only [q]⟩⟩
  (try simp only [Act.put, lyy])
  replace hs : e9 = 0 := hs
  subst hs
  obtain ⟨rfl, l9⟩ := hT
  replace E := Lib.hid (E.out.call hk hr (H0 := fun _ => True) (fun _ _ => trivial))
  clear hk hr
  refine qaa (qad (v := .pointer (some ⟨p, 0, none⟩)) rfl rfl) rfl ?_; (try simp only [Act.put, lyy])
  refine qag (qal enters_rsig rfl rfl rfl) rfl (rsig_any B p b i9 i10 e10 x10 _ H10 E.out.rd) (fun v10 a12 hs hk hr hT => ?_) (fun a12 hs hk => ?pana12)
  case pana12 =>
    go_wp2_with fail
    replace hs : e10 ≠ 0 := hs
    have t11 := S11.out
    have t12 := S12.out
    have t13 := S13.out
    have q : e13 = e10 := by omega
    exact ⟨rfl, E.out.panic hk, .inr ⟨by rw [q]; exact hs, by simp only [q]⟩⟩
  (try simp only [Act.put, lyy])
  replace hs : e10 = 0 := hs
  subst hs
  obtain ⟨rfl, l10⟩ := hT
  replace E := Lib.hid (E.out.call hk hr (H0 := fun _ => True) (fun _ _ => trivial))
  clear hk hr
  refine qaa (qad (v := .pointer (some ⟨p, 0, none⟩)) rfl rfl) rfl ?_; (try simp only [Act.put, lyy])
  refine qag (qae enters_ralP rfl rfl rfl rfl) rfl (ralP_any B p b i10 i11 e11 x11 _ H11 E.out.rd) (fun v11 a13 hs hk hr hT => ?_) (fun a13 hs hk => ?pana13)
  case pana13 =>
    go_wp2_with fail
    replace hs : e11 ≠ 0 := hs
    have t12 := S12.out
    have t13 := S13.out
    have q : e13 = e11 := by omega
    exact ⟨rfl, E.out.panic hk, .inr ⟨by rw [q]; exact hs, by simp only [q]⟩⟩
  (try simp only [Act.put, lyy])
  replace hs : e11 = 0 := hs
  subst hs
  obtain ⟨c11, d11, rfl, f11⟩ := hT
  replace E := Lib.hid (E.out.call hk hr (H0 := SlR 33 pkAt x11 c11 d11) (f11))
  clear hk hr
  refine qaa (qad (v := .pointer (some ⟨p, 0, none⟩)) rfl rfl) rfl ?_; (try simp only [Act.put, lyy])
  refine qag (qal qa7 rfl rfl rfl) rfl (qbq B p b i11 i12 e12 x12 _ H12 E.out.rd) (fun v12 a14 hs hk hr hT => ?_) (fun a14 hs hk => ?pana14)
  case pana14 =>
    go_wp2_with fail
    replace hs : e12 ≠ 0 := hs
    have t13 := S13.out
    have q : e13 = e12 := by omega
    exact ⟨rfl, E.out.panic hk, .inr ⟨by rw [q]; exact hs, by simp only [q]⟩⟩
  (try simp only [Act.put, lyy])
  replace hs : e12 = 0 := hs
  subst hs
  subst hT
  replace E := Lib.hid (E.out.call hk hr (H0 := fun _ => True) (fun _ _ => trivial))
  clear hk hr
  refine qaa (qad (v := .pointer (some ⟨p, 0, none⟩)) rfl rfl) rfl ?_; (try simp only [Act.put, lyy])
  refine qag (qae enters_ralI rfl rfl rfl rfl) rfl (ralI_any B p b i12 i13 e13 x13 _ H13 E.out.rd) (fun v13 a15 hs hk hr hT => ?_) (fun a15 hs hk => ?pana15)
  case pana15 =>
    go_wp2_with fail
    exact ⟨rfl, E.out.panic hk, .inr ⟨hs, rfl⟩⟩
  (try simp only [Act.put, lyy])
  replace hs : e13 = 0 := hs
  subst hs
  obtain ⟨c13, d13, rfl, f13⟩ := hT
  replace E := Lib.hid (E.out.call hk hr (H0 := SlR 73 itAt x13 c13 d13) (f13))
  clear hk hr
  refine qaa (qa4 (cells := (rqR (.int .u8 x1) (.int .i64 x2) (.int .i64 x3) (.string (strOf x4)) (.string (strOf x5)) (.string (strOf x6)) (X7) (x8.map b8) (pkC x9) (x10.map b8) (.slice c11 x11.length d11) (.int .i64 x12) (.slice c13 x13.length d13)).toArray) (ps := [(0, .int .u8 x1), (1, .int .i64 x2), (2, .int .i64 x3), (3, .string (strOf x4)), (4, .string (strOf x5)), (5, .string (strOf x6)), (6, .agg (X7).toArray), (7, .agg (x8.map b8).toArray), (8, .agg (pkC x9).toArray), (9, .agg (x10.map b8).toArray), (10, .slice c11 x11.length d11), (11, .int .i64 x12), (12, .slice c13 x13.length d13)]) rfl rfl (rqR_all rfl rfl rfl rfl rfl rfl l7 (by rw [List.length_map, l8]) (pkC_len' l9) (by rw [List.length_map, l10]) rfl rfl rfl)) rfl ?_; (try simp only [Act.put, lyy])
  refine qah (qax (vs := rqR (.int .u8 x1) (.int .i64 x2) (.int .i64 x3) (.string (strOf x4)) (.string (strOf x5)) (.string (strOf x6)) (X7) (x8.map b8) (pkC x9) (x10.map b8) (.slice c11 x11.length d11) (.int .i64 x12) (.slice c13 x13.length d13)) rfl (szR (qas l7 (by rw [List.length_map, l8]) (pkC_len' l9) (by rw [List.length_map, l10])) (by kernel_rfl)) rfl rfl (One.all (qcm rfl rfl rfl rfl rfl rfl o7 (One.b8 _) (pkC_one l9) (One.b8 _) rfl rfl rfl)) ((E.out.get (i := 0) rfl).thereM (by have q1 : (rqR (.int .u8 x1) (.int .i64 x2) (.int .i64 x3) (.string (strOf x4)) (.string (strOf x5)) (.string (strOf x6)) (X7) (x8.map b8) (pkC x9) (x10.map b8) (.slice c11 x11.length d11) (.int .i64 x12) (.slice c13 x13.length d13)).length = 237 := (qas l7 (by rw [List.length_map, l8]) (pkC_len' l9) (by rw [List.length_map, l10])); have q2 : (rqR ((.int .u8 0)) ((.int .i64 0)) ((.int .i64 0)) ((.string ⟨#[]⟩)) ((.string ⟨#[]⟩)) ((.string ⟨#[]⟩)) (lsR ((.int .i64 0)) ((.int .i64 0)) (z8 32) ((.slice none 0 0)) (z8 64)) (z8 32) (pkR ((.int .i64 0)) (z8 32)) (z8 64) ((.slice none 0 0)) ((.int .i64 0)) ((.slice none 0 0))).length = 237 := (qas (qan (qac 32) (qac 64)) (qac 32) (qao (qac 32)) (qac 64)); omega))) rfl rfl ?_
  replace E := Lib.hid (E.out.put 0 rfl (m := rqR (.int .u8 x1) (.int .i64 x2) (.int .i64 x3) (.string (strOf x4)) (.string (strOf x5)) (.string (strOf x6)) (X7) (x8.map b8) (pkC x9) (x10.map b8) (.slice c11 x11.length d11) (.int .i64 x12) (.slice c13 x13.length d13)) ((show (rqR (.int .u8 x1) (.int .i64 x2) (.int .i64 x3) (.string (strOf x4)) (.string (strOf x5)) (.string (strOf x6)) (X7) (x8.map b8) (pkC x9) (x10.map b8) (.slice c11 x11.length d11) (.int .i64 x12) (.slice c13 x13.length d13)).length = 237 from (qas l7 (by rw [List.length_map, l8]) (pkC_len' l9) (by rw [List.length_map, l10]))).trans (show (rqR ((.int .u8 0)) ((.int .i64 0)) ((.int .i64 0)) ((.string ⟨#[]⟩)) ((.string ⟨#[]⟩)) ((.string ⟨#[]⟩)) (lsR ((.int .i64 0)) ((.int .i64 0)) (z8 32) ((.slice none 0 0)) (z8 64)) (z8 32) (pkR ((.int .i64 0)) (z8 32)) (z8 64) ((.slice none 0 0)) ((.int .i64 0)) ((.slice none 0 0))).length = 237 from (qas (qan (qac 32) (qac 64)) (qac 32) (qao (qac 32)) (qac 64))).symm))
  generalize a15.setCells g2 0 (rqR (.int .u8 x1) (.int .i64 x2) (.int .i64 x3) (.string (strOf x4)) (.string (strOf x5)) (.string (strOf x6)) (X7) (x8.map b8) (pkC x9) (x10.map b8) (.slice c11 x11.length d11) (.int .i64 x12) (.slice c13 x13.length d13)) = a16 at *
  replace E := Lib.hid (show Rm _ _ _ _ _ [(g2, rqR (.int .u8 x1) (.int .i64 x2) (.int .i64 x3) (.string (strOf x4)) (.string (strOf x5)) (.string (strOf x6)) (X7) (x8.map b8) (pkC x9) (x10.map b8) (.slice c11 x11.length d11) (.int .i64 x12) (.slice c13 x13.length d13))] _ a16 from E.out)
  refine qab ?_
  go_wp2_with fail
  exact bodyPost_ret (v := .agg (rqR (.int .u8 x1) (.int .i64 x2) (.int .i64 x3) (.string (strOf x4)) (.string (strOf x5)) (.string (strOf x6)) (X7) (x8.map b8) (pkC x9) (x10.map b8) (.slice c11 x11.length d11) (.int .i64 x12) (.slice c13 x13.length d13)).toArray) (qa9 Try.results40 rfl Try.underlying38 rfl (szR (qas l7 (by rw [List.length_map, l8]) (pkC_len' l9) (by rw [List.length_map, l10])) (by kernel_rfl)) (E.out.get (i := 0) rfl).range) rfl ⟨E.out.kp, .inl ⟨(by first | rfl | exact hs), E.out.rd, _, rfl, _, rfl, (qas l7 (by rw [List.length_map, l8]) (pkC_len' l9) (by rw [List.length_map, l10])), (qcm rfl rfl rfl rfl rfl rfl o7 (One.b8 _) (pkC_one l9) (One.b8 _) rfl rfl rfl), fun V hV => ⟨X7, c11, d11, c13, d13, rfl, (E.out.tell V hV).2.2.2.2.2.2.1, (E.out.tell V hV).2.2.1, (E.out.tell V hV).1⟩⟩⟩
theorem enters_racc : Enters 42 := qak Try.func42 (by kernel_rfl) rfl
set_option maxHeartbeats 8000000 in
theorem racc_any (B p : Nat) (b : List (BitVec 8)) (i i' : Nat) (e' : Int) (x : MAc) (u : World) (H : rdAcA b (i, 0) = ((i', e'), x)) (R : RdS B p b i u) : Calls Try.prog 42 #[.pointer (some ⟨p, 0, none⟩)] u (RPost B p b u (i', e') fun v u' => ∃ X : List Value, v = .agg X.toArray ∧ X.length = 105 ∧ One X ∧ Fro u.heap.size (acAt x X) u') := by
  rcases H1 : nM b 1099511627776 (i, 0) with ⟨⟨i1, e1⟩, x1⟩
  rcases H2 : byM b (i1, e1) with ⟨⟨i2, e2⟩, x2⟩
  have S2 : Hid (e1 ≠ 0 → e2 = e1) := Lib.hid fun h => by have q := qca (b := b) (i := i1) h; rw [H2] at q; exact congrArg Prod.snd q
  rcases H3 : nM b 1099511627776 (i2, e2) with ⟨⟨i3, e3⟩, x3⟩
  have S3 : Hid (e2 ≠ 0 → e3 = e2) := Lib.hid fun h => by have q := qa6 (most := 1099511627776) (b := b) (i := i2) h; rw [H3] at q; exact congrArg Prod.snd q
  rcases H4 : nM b 1099511627776 (i3, e3) with ⟨⟨i4, e4⟩, x4⟩
  have S4 : Hid (e3 ≠ 0 → e4 = e3) := Lib.hid fun h => by have q := qa6 (most := 1099511627776) (b := b) (i := i3) h; rw [H4] at q; exact congrArg Prod.snd q
  rcases H5 : lsM b (i4, e4) with ⟨⟨i5, e5⟩, x5⟩
  have S5 : Hid (e4 ≠ 0 → e5 = e4) := Lib.hid fun h => by have q := lsM_stay (b := b) (i := i4) h; rw [H5] at q; exact congrArg Prod.snd q
  rcases H6 : slsM b (i5, e5) with ⟨⟨i6, e6⟩, x6⟩
  have S6 : Hid (e5 ≠ 0 → e6 = e5) := Lib.hid fun h => by have q := slsM_stay (b := b) (i := i5) h; rw [H6] at q; exact congrArg Prod.snd q
  rcases H7 : tkM b (i6, e6) with ⟨⟨i7, e7⟩, x7⟩
  have S7 : Hid (e6 ≠ 0 → e7 = e6) := Lib.hid fun h => by have q := tkM_stay (b := b) (i := i6) h; rw [H7] at q; exact congrArg Prod.snd q
  simp only [rdAcA, H1, H2, H3, H4, H5, H6, H7, Prod.mk.injEq] at H
  obtain ⟨⟨rfl, rfl⟩, rfl⟩ := H
  have E := Lib.hid (Rm.start R)
  clear R
  go_enter Try.func42, Try.ntmps42
  go_upto_region 0 with fail; refine wp_region_lit ?_
  refine qaa (qay (vs := acR ((.int .i64 0)) ((.string ⟨#[]⟩)) ((.int .i64 0)) ((.int .i64 0)) (lsR ((.int .i64 0)) ((.int .i64 0)) (z8 32) ((.slice none 0 0)) (z8 64)) ((.slice none 0 0)) ((.slice none 0 0))) rfl (by kernel_rfl)) rfl ?_; (try simp only [Act.put, lyy])
  replace E := Lib.hid (E.out.new (acR ((.int .i64 0)) ((.string ⟨#[]⟩)) ((.int .i64 0)) ((.int .i64 0)) (lsR ((.int .i64 0)) ((.int .i64 0)) (z8 32) ((.slice none 0 0)) (z8 64)) ((.slice none 0 0)) ((.slice none 0 0))) 44)
  generalize u.alloc (.cells (acR ((.int .i64 0)) ((.string ⟨#[]⟩)) ((.int .i64 0)) ((.int .i64 0)) (lsR ((.int .i64 0)) ((.int .i64 0)) (z8 32) ((.slice none 0 0)) (z8 64)) ((.slice none 0 0)) ((.slice none 0 0))).toArray 44) = a1 at *
  obtain ⟨g2, hg0⟩ : ∃ k, k = u.heap.size := ⟨_, rfl⟩
  rw [← hg0] at E ⊢
  clear hg0
  refine qab ?_
  go_upto_region 1 with fail; refine wp_region_lit ?_
  refine qaa (qad (v := .pointer (some ⟨p, 0, none⟩)) rfl rfl) rfl ?_; (try simp only [Act.put, lyy])
  refine qag (qal qa7 rfl rfl rfl) rfl (qbq B p b i i1 e1 x1 _ H1 E.out.rd) (fun v1 a3 hs hk hr hT => ?_) (fun a3 hs hk => ?pana3)
  case pana3 =>
    go_wp2_with fail
    replace hs : e1 ≠ 0 := hs
    have t2 := S2.out
    have t3 := S3.out
    have t4 := S4.out
    have t5 := S5.out
    have t6 := S6.out
    have t7 := S7.out
    have q : e7 = e1 := by omega
    exact ⟨rfl, E.out.panic hk, .inr ⟨by rw [q]; exact hs, by simp only [q]⟩⟩
  (try simp only [Act.put, lyy])
  replace hs : e1 = 0 := hs
  subst hs
  subst hT
  replace E := Lib.hid (E.out.call hk hr (H0 := fun _ => True) (fun _ _ => trivial))
  clear hk hr
  refine qaa (qad (v := .pointer (some ⟨p, 0, none⟩)) rfl rfl) rfl ?_; (try simp only [Act.put, lyy])
  refine qag (qal enters_rtxt rfl rfl rfl) rfl (rtxt_any B p b i1 i2 e2 x2 _ H2 E.out.rd) (fun v2 a4 hs hk hr hT => ?_) (fun a4 hs hk => ?pana4)
  case pana4 =>
    go_wp2_with fail
    replace hs : e2 ≠ 0 := hs
    have t3 := S3.out
    have t4 := S4.out
    have t5 := S5.out
    have t6 := S6.out
    have t7 := S7.out
    have q : e7 = e2 := by omega
    exact ⟨rfl, E.out.panic hk, .inr ⟨by rw [q]; exact hs, by simp only [q]⟩⟩
  (try simp only [Act.put, lyy])
  replace hs : e2 = 0 := hs
  subst hs
  subst hT
  replace E := Lib.hid (E.out.call hk hr (H0 := fun _ => True) (fun _ _ => trivial))
  clear hk hr
  refine qaa (qad (v := .pointer (some ⟨p, 0, none⟩)) rfl rfl) rfl ?_; (try simp only [Act.put, lyy])
  refine qag (qal qa7 rfl rfl rfl) rfl (qbq B p b i2 i3 e3 x3 _ H3 E.out.rd) (fun v3 a5 hs hk hr hT => ?_) (fun a5 hs hk => ?pana5)
  case pana5 =>
    go_wp2_with fail
    replace hs : e3 ≠ 0 := hs
    have t4 := S4.out
    have t5 := S5.out
    have t6 := S6.out
    have t7 := S7.out
    have q : e7 = e3 := by omega
    exact ⟨rfl, E.out.panic hk, .inr ⟨by rw [q]; exact hs, by simp only [q]⟩⟩
  (try simp only [Act.put, lyy])
  replace hs : e3 = 0 := hs
  subst hs
  subst hT
  replace E := Lib.hid (E.out.call hk hr (H0 := fun _ => True) (fun _ _ => trivial))
  clear hk hr
  refine qaa (qad (v := .pointer (some ⟨p, 0, none⟩)) rfl rfl) rfl ?_; (try simp only [Act.put, lyy])
  refine qag (qal qa7 rfl rfl rfl) rfl (qbq B p b i3 i4 e4 x4 _ H4 E.out.rd) (fun v4 a6 hs hk hr hT => ?_) (fun a6 hs hk => ?pana6)
  case pana6 =>
    go_wp2_with fail
    replace hs : e4 ≠ 0 := hs
    have t5 := S5.out
    have t6 := S6.out
    have t7 := S7.out
    have q : e7 = e4 := by omega
    exact ⟨rfl, E.out.panic hk, .inr ⟨by rw [q]; exact hs, by simp only [q]⟩⟩
  (try simp only [Act.put, lyy])
  replace hs : e4 = 0 := hs
  subst hs
  subst hT
  replace E := Lib.hid (E.out.call hk hr (H0 := fun _ => True) (fun _ _ => trivial))
  clear hk hr
  refine qaa (qad (v := .pointer (some ⟨p, 0, none⟩)) rfl rfl) rfl ?_; (try simp only [Act.put, lyy])
  refine qag (qal enters_rlst rfl rfl rfl) rfl (rlst_any B p b i4 i5 e5 x5 _ H5 E.out.rd) (fun v5 a7 hs hk hr hT => ?_) (fun a7 hs hk => ?pana7)
  case pana7 =>
    go_wp2_with fail
    replace hs : e5 ≠ 0 := hs
    have t6 := S6.out
    have t7 := S7.out
    have q : e7 = e5 := by omega
    exact ⟨rfl, E.out.panic hk, .inr ⟨by rw [q]; exact hs, by simp only [q]⟩⟩
  (try simp only [Act.put, lyy])
  replace hs : e5 = 0 := hs
  subst hs
  obtain ⟨X5, rfl, l5, o5, f5⟩ := hT
  replace E := Lib.hid (E.out.call hk hr (H0 := lsAt x5 X5) (f5))
  clear hk hr
  refine qaa (qad (v := .pointer (some ⟨p, 0, none⟩)) rfl rfl) rfl ?_; (try simp only [Act.put, lyy])
  refine qag (qae enters_ralS rfl rfl rfl rfl) rfl (ralS_any B p b i5 i6 e6 x6 _ H6 E.out.rd) (fun v6 a8 hs hk hr hT => ?_) (fun a8 hs hk => ?pana8)
  case pana8 =>
    go_wp2_with fail
    replace hs : e6 ≠ 0 := hs
    have t7 := S7.out
    have q : e7 = e6 := by omega
    exact ⟨rfl, E.out.panic hk, .inr ⟨by rw [q]; exact hs, by simp only [q]⟩⟩
  (try simp only [Act.put, lyy])
  replace hs : e6 = 0 := hs
  subst hs
  obtain ⟨c6, d6, rfl, f6⟩ := hT
  replace E := Lib.hid (E.out.call hk hr (H0 := SlR 101 slAt x6 c6 d6) (f6))
  clear hk hr
  refine qaa (qad (v := .pointer (some ⟨p, 0, none⟩)) rfl rfl) rfl ?_; (try simp only [Act.put, lyy])
  refine qag (qae enters_ralK rfl rfl rfl rfl) rfl (ralK_any B p b i6 i7 e7 x7 _ H7 E.out.rd) (fun v7 a9 hs hk hr hT => ?_) (fun a9 hs hk => ?pana9)
  case pana9 =>
    go_wp2_with fail
    exact ⟨rfl, E.out.panic hk, .inr ⟨hs, rfl⟩⟩
  (try simp only [Act.put, lyy])
  replace hs : e7 = 0 := hs
  subst hs
  obtain ⟨c7, d7, rfl, f7⟩ := hT
  replace E := Lib.hid (E.out.call hk hr (H0 := SlR 32 tkAt x7 c7 d7) (f7))
  clear hk hr
  refine qaa (qa4 (cells := (acR (.int .i64 x1) (.string (strOf x2)) (.int .i64 x3) (.int .i64 x4) (X5) (.slice c6 x6.length d6) (.slice c7 x7.length d7)).toArray) (ps := [(0, .int .i64 x1), (1, .string (strOf x2)), (2, .int .i64 x3), (3, .int .i64 x4), (4, .agg (X5).toArray), (5, .slice c6 x6.length d6), (6, .slice c7 x7.length d7)]) rfl rfl (acR_all rfl rfl rfl rfl l5 rfl rfl)) rfl ?_; (try simp only [Act.put, lyy])
  refine qah (qax (vs := acR (.int .i64 x1) (.string (strOf x2)) (.int .i64 x3) (.int .i64 x4) (X5) (.slice c6 x6.length d6) (.slice c7 x7.length d7)) rfl (szR (qa8 l5) (by kernel_rfl)) rfl rfl (One.all (acR_one rfl rfl rfl rfl o5 rfl rfl)) ((E.out.get (i := 0) rfl).thereM (by have q1 : (acR (.int .i64 x1) (.string (strOf x2)) (.int .i64 x3) (.int .i64 x4) (X5) (.slice c6 x6.length d6) (.slice c7 x7.length d7)).length = 105 := (qa8 l5); have q2 : (acR ((.int .i64 0)) ((.string ⟨#[]⟩)) ((.int .i64 0)) ((.int .i64 0)) (lsR ((.int .i64 0)) ((.int .i64 0)) (z8 32) ((.slice none 0 0)) (z8 64)) ((.slice none 0 0)) ((.slice none 0 0))).length = 105 := (qa8 (qan (qac 32) (qac 64))); omega))) rfl rfl ?_
  replace E := Lib.hid (E.out.put 0 rfl (m := acR (.int .i64 x1) (.string (strOf x2)) (.int .i64 x3) (.int .i64 x4) (X5) (.slice c6 x6.length d6) (.slice c7 x7.length d7)) ((show (acR (.int .i64 x1) (.string (strOf x2)) (.int .i64 x3) (.int .i64 x4) (X5) (.slice c6 x6.length d6) (.slice c7 x7.length d7)).length = 105 from (qa8 l5)).trans (show (acR ((.int .i64 0)) ((.string ⟨#[]⟩)) ((.int .i64 0)) ((.int .i64 0)) (lsR ((.int .i64 0)) ((.int .i64 0)) (z8 32) ((.slice none 0 0)) (z8 64)) ((.slice none 0 0)) ((.slice none 0 0))).length = 105 from (qa8 (qan (qac 32) (qac 64)))).symm))
  generalize a9.setCells g2 0 (acR (.int .i64 x1) (.string (strOf x2)) (.int .i64 x3) (.int .i64 x4) (X5) (.slice c6 x6.length d6) (.slice c7 x7.length d7)) = a10 at *
  replace E := Lib.hid (show Rm _ _ _ _ _ [(g2, acR (.int .i64 x1) (.string (strOf x2)) (.int .i64 x3) (.int .i64 x4) (X5) (.slice c6 x6.length d6) (.slice c7 x7.length d7))] _ a10 from E.out)
  refine qab ?_
  go_wp2_with fail
  exact bodyPost_ret (v := .agg (acR (.int .i64 x1) (.string (strOf x2)) (.int .i64 x3) (.int .i64 x4) (X5) (.slice c6 x6.length d6) (.slice c7 x7.length d7)).toArray) (qa9 Try.results42 rfl Try.underlying44 rfl (szR (qa8 l5) (by kernel_rfl)) (E.out.get (i := 0) rfl).range) rfl ⟨E.out.kp, .inl ⟨(by first | rfl | exact hs), E.out.rd, _, rfl, _, rfl, (qa8 l5), (acR_one rfl rfl rfl rfl o5 rfl rfl), fun V hV => ⟨X5, c6, d6, c7, d7, rfl, (E.out.tell V hV).2.2.1, (E.out.tell V hV).2.1, (E.out.tell V hV).1⟩⟩⟩
end Go.Proofs.Ytcgbgmbnagmohaa
