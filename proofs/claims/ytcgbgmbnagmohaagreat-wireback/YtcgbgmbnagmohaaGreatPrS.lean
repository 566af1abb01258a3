import Derived.Test.YtcgbgmbnagmohaaGreatLy
import Derived.Test.YtcgbgmbnagmohaaGreatPr7
import Derived.Test.YtcgbgmbnagmohaaGreatPrC
namespace Go.Proofs.YtcgbgmbnagmohaaGreat
open Go.RowKit
set_option maxRecDepth 20000
attribute [local irreducible] wpList
theorem enters_rbun : Enters 134 := qan Tryz.func134 (by kernel_rfl) rfl
set_option maxHeartbeats 8000000 in
theorem rbun_any (B p : Nat) (b : List (BitVec 8)) (i i' : Nat) (e' : Int) (x : MBu) (u : World) (H : buM b (i, 0) = ((i', e'), x)) (R : RdS B p b i u) : Calls Tryz.prog 134 #[.pointer (some ⟨p, 0, none⟩)] u (RPost B p b u (i', e') fun v u' => ∃ X : List Value, v = .agg X.toArray ∧ X.length = 164 ∧ One X ∧ Fro u.heap.size (buAt x X) u') := by
  rcases H1 : nM b 1099511627776 (i, 0) with ⟨⟨i1, e1⟩, x1⟩
  rcases H2 : nM b 1099511627776 (i1, e1) with ⟨⟨i2, e2⟩, x2⟩
  have S2 : Hid (e1 ≠ 0 → e2 = e1) := Lib.hid fun h => by have q := qbu (most := 1099511627776) (b := b) (i := i1) h; rw [H2] at q; exact congrArg Prod.snd q
  rcases H3 : kM 32 b (i2, e2) with ⟨⟨i3, e3⟩, x3⟩
  have S3 : Hid (e2 ≠ 0 → e3 = e2) := Lib.hid fun h => by have q := qcm (n := 32) (b := b) (i := i2) h; rw [H3] at q; exact congrArg Prod.snd q
  rcases H4 : kM 32 b (i3, e3) with ⟨⟨i4, e4⟩, x4⟩
  have S4 : Hid (e3 ≠ 0 → e4 = e3) := Lib.hid fun h => by have q := qcm (n := 32) (b := b) (i := i3) h; rw [H4] at q; exact congrArg Prod.snd q
  rcases H5 : pkM b (i4, e4) with ⟨⟨i5, e5⟩, x5⟩
  have S5 : Hid (e4 ≠ 0 → e5 = e4) := Lib.hid fun h => by have q := pkM_stay (b := b) (i := i4) h; rw [H5] at q; exact congrArg Prod.snd q
  rcases H6 : kM 64 b (i5, e5) with ⟨⟨i6, e6⟩, x6⟩
  have S6 : Hid (e5 ≠ 0 → e6 = e5) := Lib.hid fun h => by have q := qcm (n := 64) (b := b) (i := i5) h; rw [H6] at q; exact congrArg Prod.snd q
  rcases H7 : psM b (i6, e6) with ⟨⟨i7, e7⟩, x7⟩
  have S7 : Hid (e6 ≠ 0 → e7 = e6) := Lib.hid fun h => by have q := psM_stay (b := b) (i := i6) h; rw [H7] at q; exact congrArg Prod.snd q
  simp only [buM, H1, H2, H3, H4, H5, H6, H7, Prod.mk.injEq] at H
  obtain ⟨⟨rfl, rfl⟩, rfl⟩ := H
  have E := Lib.hid (Rm.start R)
  clear R
  go_enter Tryz.func134, Tryz.ntmps134
  go_upto_region 0 with fail; refine wp_region_lit ?_
  refine qaa (qa3 (vs := buR ((.int .i64 0)) ((.int .i64 0)) (z8 32) (z8 32) (pkR ((.int .i64 0)) (z8 32)) (z8 64) ((.slice none 0 0))) rfl (by kernel_rfl)) rfl ?_; (try simp only [Act.put, lyy])
  replace E := Lib.hid (E.out.new (buR ((.int .i64 0)) ((.int .i64 0)) (z8 32) (z8 32) (pkR ((.int .i64 0)) (z8 32)) (z8 64) ((.slice none 0 0))) 51)
  generalize u.alloc (.cells (buR ((.int .i64 0)) ((.int .i64 0)) (z8 32) (z8 32) (pkR ((.int .i64 0)) (z8 32)) (z8 64) ((.slice none 0 0))).toArray 51) = a1 at *
  obtain ⟨g2, hg0⟩ : ∃ k, k = u.heap.size := ⟨_, rfl⟩
  rw [← hg0] at E ⊢
  clear hg0
  refine qab ?_
  go_upto_region 1 with fail; refine wp_region_lit ?_
  refine qaa (qad (v := .pointer (some ⟨p, 0, none⟩)) rfl rfl) rfl ?_; (try simp only [Act.put, lyy])
  refine qaj (qaq qbh rfl rfl rfl) rfl (qb2 B p b i i1 e1 x1 _ H1 E.out.rd) (fun v1 a3 hs hk hr hT => ?_) (fun a3 hs hk => ?pana3)
  case pana3 =>
    go_wp2_with fail
    replace hs : e1 ≠ 0 := hs
    have t2 := S2.out
    have t3 := S3.out
    have t4 := S4.out
    have t5 := S5.out
    have t6 := S6.out
    have t7 := S7.out
    have q : e7 = e1 := by omega
    exact ⟨rfl, E.out.panic hk, .inr ⟨by rw [q]; exact hs, by simp only [q]⟩⟩
  (try simp only [Act.put, lyy])
  replace hs : e1 = 0 := hs
  subst hs
  subst hT
  replace E := Lib.hid (E.out.call hk hr (H0 := fun _ => True) (fun _ _ => trivial))
  clear hk hr
  refine qaa (qad (v := .pointer (some ⟨p, 0, none⟩)) rfl rfl) rfl ?_; (try simp only [Act.put, lyy])
  refine qaj (qaq qbh rfl rfl rfl) rfl (qb2 B p b i1 i2 e2 x2 _ H2 E.out.rd) (fun v2 a4 hs hk hr hT => ?_) (fun a4 hs hk => ?pana4)
  case pana4 =>
    go_wp2_with fail
    replace hs : e2 ≠ 0 := hs
    have t3 := S3.out
    have t4 := S4.out
    have t5 := S5.out
    have t6 := S6.out
    have t7 := S7.out
    have q : e7 = e2 := by omega
    exact ⟨rfl, E.out.panic hk, .inr ⟨by rw [q]; exact hs, by simp only [q]⟩⟩
  (try simp only [Act.put, lyy])
  replace hs : e2 = 0 := hs
  subst hs
  subst hT
  replace E := Lib.hid (E.out.call hk hr (H0 := fun _ => True) (fun _ _ => trivial))
  clear hk hr
  refine qaa (qad (v := .pointer (some ⟨p, 0, none⟩)) rfl rfl) rfl ?_; (try simp only [Act.put, lyy])
  refine qaj (qaq qcq rfl rfl rfl) rfl (rkey_any B p b i2 i3 e3 x3 _ H3 E.out.rd) (fun v3 a5 hs hk hr hT => ?_) (fun a5 hs hk => ?pana5)
  case pana5 =>
    go_wp2_with fail
    replace hs : e3 ≠ 0 := hs
    have t4 := S4.out
    have t5 := S5.out
    have t6 := S6.out
    have t7 := S7.out
    have q : e7 = e3 := by omega
    exact ⟨rfl, E.out.panic hk, .inr ⟨by rw [q]; exact hs, by simp only [q]⟩⟩
  (try simp only [Act.put, lyy])
  replace hs : e3 = 0 := hs
  subst hs
  obtain ⟨rfl, l3⟩ := hT
  replace E := Lib.hid (E.out.call hk hr (H0 := fun _ => True) (fun _ _ => trivial))
  clear hk hr
  refine qaa (qad (v := .pointer (some ⟨p, 0, none⟩)) rfl rfl) rfl ?_; (try simp only [Act.put, lyy])
  refine qaj (qaq qcq rfl rfl rfl) rfl (rkey_any B p b i3 i4 e4 x4 _ H4 E.out.rd) (fun v4 a6 hs hk hr hT => ?_) (fun a6 hs hk => ?pana6)
  case pana6 =>
    go_wp2_with fail
    replace hs : e4 ≠ 0 := hs
    have t5 := S5.out
    have t6 := S6.out
    have t7 := S7.out
    have q : e7 = e4 := by omega
    exact ⟨rfl, E.out.panic hk, .inr ⟨by rw [q]; exact hs, by simp only [q]⟩⟩
  (try simp only [Act.put, lyy])
  replace hs : e4 = 0 := hs
  subst hs
  obtain ⟨rfl, l4⟩ := hT
  replace E := Lib.hid (E.out.call hk hr (H0 := fun _ => True) (fun _ _ => trivial))
  clear hk hr
  refine qaa (qad (v := .pointer (some ⟨p, 0, none⟩)) rfl rfl) rfl ?_; (try simp only [Act.put, lyy])
  refine qaj (qaq enters_rpre rfl rfl rfl) rfl (rpre_any B p b i4 i5 e5 x5 _ H5 E.out.rd) (fun v5 a7 hs hk hr hT => ?_) (fun a7 hs hk => ?pana7)
  case pana7 =>
    go_wp2_with fail
    replace hs : e5 ≠ 0 := hs
    have t6 := S6.out
    have t7 := S7.out
    have q : e7 = e5 := by omega
    exact ⟨rfl, E.out.panic hk, .inr ⟨by rw [q]; exact hs, by simp only [q]⟩⟩
  (try simp only [Act.put, lyy])
  replace hs : e5 = 0 := hs
  subst hs
  obtain ⟨rfl, l5⟩ := hT
  replace E := Lib.hid (E.out.call hk hr (H0 := fun _ => True) (fun _ _ => trivial))
  clear hk hr
  refine qaa (qad (v := .pointer (some ⟨p, 0, none⟩)) rfl rfl) rfl ?_; (try simp only [Act.put, lyy])
  refine qaj (qaq enters_rsig rfl rfl rfl) rfl (rsig_any B p b i5 i6 e6 x6 _ H6 E.out.rd) (fun v6 a8 hs hk hr hT => ?_) (fun a8 hs hk => ?pana8)
  case pana8 =>
    go_wp2_with fail
    replace hs : e6 ≠ 0 := hs
    have t7 := S7.out
    have q : e7 = e6 := by omega
    exact ⟨rfl, E.out.panic hk, .inr ⟨by rw [q]; exact hs, by simp only [q]⟩⟩
  (try simp only [Act.put, lyy])
  replace hs : e6 = 0 := hs
  subst hs
  obtain ⟨rfl, l6⟩ := hT
  replace E := Lib.hid (E.out.call hk hr (H0 := fun _ => True) (fun _ _ => trivial))
  clear hk hr
  refine qaa (qad (v := .pointer (some ⟨p, 0, none⟩)) rfl rfl) rfl ?_; (try simp only [Act.put, lyy])
  refine qaj (qaf enters_ralP rfl rfl rfl rfl) rfl (ralP_any B p b i6 i7 e7 x7 _ H7 E.out.rd) (fun v7 a9 hs hk hr hT => ?_) (fun a9 hs hk => ?pana9)
  case pana9 =>
    go_wp2_with fail
    exact ⟨rfl, E.out.panic hk, .inr ⟨hs, rfl⟩⟩
  (try simp only [Act.put, lyy])
  replace hs : e7 = 0 := hs
  subst hs
  obtain ⟨c7, d7, rfl, f7⟩ := hT
  replace E := Lib.hid (E.out.call hk hr (H0 := SlR 33 pkAt x7 c7 d7) (f7))
  clear hk hr
  refine qaa (qa7 (cells := (buR (.int .i64 x1) (.int .i64 x2) (x3.map b8) (x4.map b8) (pkC x5) (x6.map b8) (.slice c7 x7.length d7)).toArray) (ps := [(0, .int .i64 x1), (1, .int .i64 x2), (2, .agg (x3.map b8).toArray), (3, .agg (x4.map b8).toArray), (4, .agg (pkC x5).toArray), (5, .agg (x6.map b8).toArray), (6, .slice c7 x7.length d7)]) rfl rfl (buR_all rfl rfl (by rw [List.length_map, l3]) (by rw [List.length_map, l4]) (pkC_len' l5) (by rw [List.length_map, l6]) rfl)) rfl ?_; (try simp only [Act.put, lyy])
  refine qal (qa0 (vs := buR (.int .i64 x1) (.int .i64 x2) (x3.map b8) (x4.map b8) (pkC x5) (x6.map b8) (.slice c7 x7.length d7)) rfl (szR (qbg (by rw [List.length_map, l3]) (by rw [List.length_map, l4]) (pkC_len' l5) (by rw [List.length_map, l6])) (by kernel_rfl)) rfl rfl (One.all (buR_one rfl rfl (One.b8 _) (One.b8 _) (pkC_one l5) (One.b8 _) rfl)) ((E.out.get (i := 0) rfl).thereM (by have q1 : (buR (.int .i64 x1) (.int .i64 x2) (x3.map b8) (x4.map b8) (pkC x5) (x6.map b8) (.slice c7 x7.length d7)).length = 164 := (qbg (by rw [List.length_map, l3]) (by rw [List.length_map, l4]) (pkC_len' l5) (by rw [List.length_map, l6])); have q2 : (buR ((.int .i64 0)) ((.int .i64 0)) (z8 32) (z8 32) (pkR ((.int .i64 0)) (z8 32)) (z8 64) ((.slice none 0 0))).length = 164 := (qbg (qac 32) (qac 32) (qar (qac 32)) (qac 64)); omega))) rfl rfl ?_
  replace E := Lib.hid (E.out.put 0 rfl (m := buR (.int .i64 x1) (.int .i64 x2) (x3.map b8) (x4.map b8) (pkC x5) (x6.map b8) (.slice c7 x7.length d7)) ((show (buR (.int .i64 x1) (.int .i64 x2) (x3.map b8) (x4.map b8) (pkC x5) (x6.map b8) (.slice c7 x7.length d7)).length = 164 from (qbg (by rw [List.length_map, l3]) (by rw [List.length_map, l4]) (pkC_len' l5) (by rw [List.length_map, l6]))).trans (show (buR ((.int .i64 0)) ((.int .i64 0)) (z8 32) (z8 32) (pkR ((.int .i64 0)) (z8 32)) (z8 64) ((.slice none 0 0))).length = 164 from (qbg (qac 32) (qac 32) (qar (qac 32)) (qac 64))).symm))
  generalize a9.setCells g2 0 (buR (.int .i64 x1) (.int .i64 x2) (x3.map b8) (x4.map b8) (pkC x5) (x6.map b8) (.slice c7 x7.length d7)) = a10 at *
  replace E := Lib.hid (show Rm _ _ _ _ _ [(g2, buR (.int .i64 x1) (.int .i64 x2) (x3.map b8) (x4.map b8) (pkC x5) (x6.map b8) (.slice c7 x7.length d7))] _ a10 from E.out)
  refine qab ?_
  go_wp2_with fail
  exact bodyPost_ret (v := .agg (buR (.int .i64 x1) (.int .i64 x2) (x3.map b8) (x4.map b8) (pkC x5) (x6.map b8) (.slice c7 x7.length d7)).toArray) (qbj Tryz.results134 rfl Tryz.underlying51 rfl (szR (qbg (by rw [List.length_map, l3]) (by rw [List.length_map, l4]) (pkC_len' l5) (by rw [List.length_map, l6])) (by kernel_rfl)) (E.out.get (i := 0) rfl).range) rfl ⟨E.out.kp, .inl ⟨(by first | rfl | exact hs), E.out.rd, _, rfl, _, rfl, (qbg (by rw [List.length_map, l3]) (by rw [List.length_map, l4]) (pkC_len' l5) (by rw [List.length_map, l6])), (buR_one rfl rfl (One.b8 _) (One.b8 _) (pkC_one l5) (One.b8 _) rfl), fun V hV => ⟨c7, d7, rfl, (E.out.tell V hV).1⟩⟩⟩
theorem enters_rrsp : Enters 70 := qan Tryz.func70 (by kernel_rfl) rfl
set_option maxHeartbeats 8000000 in
theorem rrsp_any (B p : Nat) (b : List (BitVec 8)) (i i' : Nat) (e' : Int) (x : MRp) (u : World) (H : rdRpA b (i, 0) = ((i', e'), x)) (R : RdS B p b i u) : Calls Tryz.prog 70 #[.pointer (some ⟨p, 0, none⟩)] u (RPost B p b u (i', e') fun v u' => ∃ X : List Value, v = .agg X.toArray ∧ X.length = 265 ∧ One X ∧ Fro u.heap.size (rpAt x X) u') := by
  rcases H1 : nM b 255 (i, 0) with ⟨⟨i1, e1⟩, x1⟩
  rcases H2 : lsM b (i1, e1) with ⟨⟨i2, e2⟩, x2⟩
  have S2 : Hid (e1 ≠ 0 → e2 = e1) := Lib.hid fun h => by have q := lsM_stay (b := b) (i := i1) h; rw [H2] at q; exact congrArg Prod.snd q
  rcases H3 : buM b (i2, e2) with ⟨⟨i3, e3⟩, x3⟩
  have S3 : Hid (e2 ≠ 0 → e3 = e2) := Lib.hid fun h => by have q := buM_stay (b := b) (i := i2) h; rw [H3] at q; exact congrArg Prod.snd q
  rcases H4 : evsM b (i3, e3) with ⟨⟨i4, e4⟩, x4⟩
  have S4 : Hid (e3 ≠ 0 → e4 = e3) := Lib.hid fun h => by have q := evsM_stay (b := b) (i := i3) h; rw [H4] at q; exact congrArg Prod.snd q
  simp only [rdRpA, H1, H2, H3, H4, Prod.mk.injEq] at H
  obtain ⟨⟨rfl, rfl⟩, rfl⟩ := H
  have E := Lib.hid (Rm.start R)
  clear R
  go_enter Tryz.func70, Tryz.ntmps70
  go_upto_region 0 with fail; refine wp_region_lit ?_
  refine qaa (qa3 (vs := rpR ((.int .u16 0)) (lsR ((.int .i64 0)) ((.int .i64 0)) (z8 32) ((.slice none 0 0)) (z8 64)) (buR ((.int .i64 0)) ((.int .i64 0)) (z8 32) (z8 32) (pkR ((.int .i64 0)) (z8 32)) (z8 64) ((.slice none 0 0))) ((.slice none 0 0))) rfl (by kernel_rfl)) rfl ?_; (try simp only [Act.put, lyy])
  replace E := Lib.hid (E.out.new (rpR ((.int .u16 0)) (lsR ((.int .i64 0)) ((.int .i64 0)) (z8 32) ((.slice none 0 0)) (z8 64)) (buR ((.int .i64 0)) ((.int .i64 0)) (z8 32) (z8 32) (pkR ((.int .i64 0)) (z8 32)) (z8 64) ((.slice none 0 0))) ((.slice none 0 0))) 54)
  generalize u.alloc (.cells (rpR ((.int .u16 0)) (lsR ((.int .i64 0)) ((.int .i64 0)) (z8 32) ((.slice none 0 0)) (z8 64)) (buR ((.int .i64 0)) ((.int .i64 0)) (z8 32) (z8 32) (pkR ((.int .i64 0)) (z8 32)) (z8 64) ((.slice none 0 0))) ((.slice none 0 0))).toArray 54) = a1 at *
  obtain ⟨g2, hg0⟩ : ∃ k, k = u.heap.size := ⟨_, rfl⟩
  rw [← hg0] at E ⊢
  clear hg0
  refine qab ?_
  go_upto_region 1 with fail; refine wp_region_lit ?_
  refine qaa (qad (v := .pointer (some ⟨p, 0, none⟩)) rfl rfl) rfl ?_; (try simp only [Act.put, lyy])
  refine qaj (qaq enters_rsml rfl rfl rfl) rfl (rsml_any B p b i i1 e1 x1 _ H1 E.out.rd) (fun v1 a3 hs hk hr hT => ?_) (fun a3 hs hk => ?pana3)
  case pana3 =>
    go_wp2_with fail
    replace hs : e1 ≠ 0 := hs
    have t2 := S2.out
    have t3 := S3.out
    have t4 := S4.out
    have q : e4 = e1 := by omega
    exact ⟨rfl, E.out.panic hk, .inr ⟨by rw [q]; exact hs, by simp only [q]⟩⟩
  (try simp only [Act.put, lyy])
  replace hs : e1 = 0 := hs
  subst hs
  subst hT
  have n1 := nM_num (b := b) (most := 255) (s := (i, 0)) (by omega)
  rw [H1] at n1
  simp only at n1
  replace E := Lib.hid (E.out.call hk hr (H0 := fun _ => True) (fun _ _ => trivial))
  clear hk hr
  refine qaa (run_cvu16 rfl rfl n1.1 n1.2) rfl ?_; (try simp only [Act.put, lyy])
  refine qaa (qad (v := .pointer (some ⟨p, 0, none⟩)) rfl rfl) rfl ?_; (try simp only [Act.put, lyy])
  refine qaj (qaq enters_rlst rfl rfl rfl) rfl (rlst_any B p b i1 i2 e2 x2 _ H2 E.out.rd) (fun v2 a4 hs hk hr hT => ?_) (fun a4 hs hk => ?pana4)
  case pana4 =>
    go_wp2_with fail
    replace hs : e2 ≠ 0 := hs
    have t3 := S3.out
    have t4 := S4.out
    have q : e4 = e2 := by omega
    exact ⟨rfl, E.out.panic hk, .inr ⟨by rw [q]; exact hs, by simp only [q]⟩⟩
  (try simp only [Act.put, lyy])
  replace hs : e2 = 0 := hs
  subst hs
  obtain ⟨X2, rfl, l2, o2, f2⟩ := hT
  replace E := Lib.hid (E.out.call hk hr (H0 := lsAt x2 X2) (f2))
  clear hk hr
  refine qaa (qad (v := .pointer (some ⟨p, 0, none⟩)) rfl rfl) rfl ?_; (try simp only [Act.put, lyy])
  refine qaj (qaq enters_rbun rfl rfl rfl) rfl (rbun_any B p b i2 i3 e3 x3 _ H3 E.out.rd) (fun v3 a5 hs hk hr hT => ?_) (fun a5 hs hk => ?pana5)
  case pana5 =>
    go_wp2_with fail
    replace hs : e3 ≠ 0 := hs
    have t4 := S4.out
    have q : e4 = e3 := by omega
    exact ⟨rfl, E.out.panic hk, .inr ⟨by rw [q]; exact hs, by simp only [q]⟩⟩
  (try simp only [Act.put, lyy])
  replace hs : e3 = 0 := hs
  subst hs
  obtain ⟨X3, rfl, l3, o3, f3⟩ := hT
  replace E := Lib.hid (E.out.call hk hr (H0 := buAt x3 X3) (f3))
  clear hk hr
  refine qaa (qad (v := .pointer (some ⟨p, 0, none⟩)) rfl rfl) rfl ?_; (try simp only [Act.put, lyy])
  refine qaj (qaf enters_ralV rfl rfl rfl rfl) rfl (ralV_any B p b i3 i4 e4 x4 _ H4 E.out.rd) (fun v4 a6 hs hk hr hT => ?_) (fun a6 hs hk => ?pana6)
  case pana6 =>
    go_wp2_with fail
    exact ⟨rfl, E.out.panic hk, .inr ⟨hs, rfl⟩⟩
  (try simp only [Act.put, lyy])
  replace hs : e4 = 0 := hs
  subst hs
  obtain ⟨c4, d4, rfl, f4⟩ := hT
  replace E := Lib.hid (E.out.call hk hr (H0 := SlR 72 evAt x4 c4 d4) (f4))
  clear hk hr
  refine qaa (qa7 (cells := (rpR (.int .u16 x1) (X2) (X3) (.slice c4 x4.length d4)).toArray) (ps := [(0, .int .u16 x1), (1, .agg (X2).toArray), (2, .agg (X3).toArray), (3, .slice c4 x4.length d4)]) rfl rfl (rpR_all rfl l2 l3 rfl)) rfl ?_; (try simp only [Act.put, lyy])
  refine qal (qa0 (vs := rpR (.int .u16 x1) (X2) (X3) (.slice c4 x4.length d4)) rfl (szR (qbo l2 l3) (by kernel_rfl)) rfl rfl (One.all (rpR_one rfl o2 o3 rfl)) ((E.out.get (i := 0) rfl).thereM (by have q1 : (rpR (.int .u16 x1) (X2) (X3) (.slice c4 x4.length d4)).length = 265 := (qbo l2 l3); have q2 : (rpR ((.int .u16 0)) (lsR ((.int .i64 0)) ((.int .i64 0)) (z8 32) ((.slice none 0 0)) (z8 64)) (buR ((.int .i64 0)) ((.int .i64 0)) (z8 32) (z8 32) (pkR ((.int .i64 0)) (z8 32)) (z8 64) ((.slice none 0 0))) ((.slice none 0 0))).length = 265 := (qbo (qas (qac 32) (qac 64)) (qbg (qac 32) (qac 32) (qar (qac 32)) (qac 64))); omega))) rfl rfl ?_
  replace E := Lib.hid (E.out.put 0 rfl (m := rpR (.int .u16 x1) (X2) (X3) (.slice c4 x4.length d4)) ((show (rpR (.int .u16 x1) (X2) (X3) (.slice c4 x4.length d4)).length = 265 from (qbo l2 l3)).trans (show (rpR ((.int .u16 0)) (lsR ((.int .i64 0)) ((.int .i64 0)) (z8 32) ((.slice none 0 0)) (z8 64)) (buR ((.int .i64 0)) ((.int .i64 0)) (z8 32) (z8 32) (pkR ((.int .i64 0)) (z8 32)) (z8 64) ((.slice none 0 0))) ((.slice none 0 0))).length = 265 from (qbo (qas (qac 32) (qac 64)) (qbg (qac 32) (qac 32) (qar (qac 32)) (qac 64)))).symm))
  generalize a6.setCells g2 0 (rpR (.int .u16 x1) (X2) (X3) (.slice c4 x4.length d4)) = a7 at *
  replace E := Lib.hid (show Rm _ _ _ _ _ [(g2, rpR (.int .u16 x1) (X2) (X3) (.slice c4 x4.length d4))] _ a7 from E.out)
  refine qab ?_
  go_wp2_with fail
  exact bodyPost_ret (v := .agg (rpR (.int .u16 x1) (X2) (X3) (.slice c4 x4.length d4)).toArray) (qbj Tryz.results70 rfl Tryz.underlying54 rfl (szR (qbo l2 l3) (by kernel_rfl)) (E.out.get (i := 0) rfl).range) rfl ⟨E.out.kp, .inl ⟨(by first | rfl | exact hs), E.out.rd, _, rfl, _, rfl, (qbo l2 l3), (rpR_one rfl o2 o3 rfl), fun V hV => ⟨X2, X3, c4, d4, rfl, (E.out.tell V hV).2.2.1, (E.out.tell V hV).2.1, (E.out.tell V hV).1⟩⟩⟩
end Go.Proofs.YtcgbgmbnagmohaaGreat
namespace Go.Proofs.YtcgbgmbnagmohaaGreat
open Go.RowKit
set_option maxRecDepth 20000
attribute [local irreducible] wpList
def zRp : MRp := ⟨0, zLs, zBu, []⟩
theorem rpAt_zero (V : World) : rpAt zRp (rpR (.int .u16 0) (lsR (.int .i64 0) (.int .i64 0) (z8 32) (.slice none 0 0) (z8 64)) (buR (.int .i64 0) (.int .i64 0) (z8 32) (z8 32) (pkR (.int .i64 0) (z8 32)) (z8 64) (.slice none 0 0)) (.slice none 0 0)) V := ⟨_, _, none, 0, rfl, lsAt_zero V, buAt_zero V, slR_nil _ _ _⟩
theorem rdRpA_stay {b : List (BitVec 8)} {i : Nat} {e : Int} (h : e ≠ 0) : (rdRpA b (i, e)).1 = (i, e) := by
  show (evsM b (buM b (lsM b (nM b 255 (i, e)).1).1).1).1 = _
  rw [qbu h, lsM_stay h, buM_stay h, evsM_stay h]
set_option maxHeartbeats 400000 in
theorem caRp_short (g : Nat) (x : Value) (w : World) (hc : w.cell? ⟨g, 0, none⟩ = some x) (hz : w.frozen? ⟨g, 0, none⟩ = false) :
    CallsD Tryz.prog 133 #[.pointer (some ⟨g, 0, none⟩)] (.panicking [{ v := .iface 197 (.agg #[]), recovered := false }]) w fun e u' w' =>
      e = .returned (.tuple #[]) ∧ u' = .panicking [{ v := .iface 197 (.agg #[]), recovered := true }] ∧ w' = w.setCell ⟨g, 0, none⟩ (.int .u16 10) := by
  refine callsD_of_wpS Tryz.func133 rfl fun c₀ cs hu => ?_
  apply wpS_seq
  apply wpS_region
  simp [wpOpsS, go_sem, recoverD, hu, Tryz.ntmps133, Exit.thenS]
  refine wpS_of_wp ?_
  have ht := ta_short
  go_wp2
  simp [bodyPostS, results, Tryz.results133, go_sem]
set_option maxHeartbeats 400000 in
theorem caRp_form (g : Nat) (x : Value) (w : World) (hc : w.cell? ⟨g, 0, none⟩ = some x) (hz : w.frozen? ⟨g, 0, none⟩ = false) :
    CallsD Tryz.prog 133 #[.pointer (some ⟨g, 0, none⟩)] (.panicking [{ v := .iface 200 (.agg #[]), recovered := false }]) w fun e u' w' =>
      e = .returned (.tuple #[]) ∧ u' = .panicking [{ v := .iface 200 (.agg #[]), recovered := true }] ∧ w' = w.setCell ⟨g, 0, none⟩ (.int .u16 11) := by
  refine callsD_of_wpS Tryz.func133 rfl fun c₀ cs hu => ?_
  apply wpS_seq
  apply wpS_region
  simp [wpOpsS, go_sem, recoverD, hu, Tryz.ntmps133, Exit.thenS]
  refine wpS_of_wp ?_
  have ht := ta_form
  go_wp2
  simp [bodyPostS, results, Tryz.results133, go_sem]
set_option maxHeartbeats 400000 in
theorem caRp_idle (g : Nat) (w : World) : CallsD Tryz.prog 133 #[.pointer (some ⟨g, 0, none⟩)] .returning w fun e u' w' => e = .returned (.tuple #[]) ∧ u' = .returning ∧ w' = w := by
  refine callsD_of_wpS Tryz.func133 rfl fun c₀ cs hu => ?_
  apply wpS_seq
  apply wpS_region
  simp [wpOpsS, go_sem, recoverD, hu, Tryz.ntmps133, Exit.thenS]
  refine wpS_of_wp ?_
  go_wp2
  cases c₀
  simp_all [bodyPostS, results, Tryz.results133, go_sem]
theorem caRp_pan (g : Nat) (x : Value) (e : Int) (w : World) (hc : w.cell? ⟨g, 0, none⟩ = some x) (hz : w.frozen? ⟨g, 0, none⟩ = false) : CallsD Tryz.prog 133 #[.pointer (some ⟨g, 0, none⟩)] (.panicking [pan e]) w fun en u' w' => en = .returned (.tuple #[]) ∧ u' = .panicking [panR e] ∧ w' = w.setCell ⟨g, 0, none⟩ (.int .u16 (errOf e)) := by
  by_cases h : e = 10
  · have h1 : pan e = { v := .iface 197 (.agg #[]), recovered := false } := by unfold pan; rw [if_pos h]
    have h2 : panR e = { v := .iface 197 (.agg #[]), recovered := true } := by unfold panR; rw [h1]
    rw [h1, h2, show errOf e = 10 by unfold errOf; rw [if_pos h]]
    exact caRp_short g x w hc hz
  · have h1 : pan e = { v := .iface 200 (.agg #[]), recovered := false } := by unfold pan; rw [if_neg h]
    have h2 : panR e = { v := .iface 200 (.agg #[]), recovered := true } := by unfold panR; rw [h1]
    rw [h1, h2, show errOf e = 11 by unfold errOf; rw [if_neg h]]
    exact caRp_form g x w hc hz
theorem enters_rxRp : Enters 69 := qan Tryz.func69 (by kernel_rfl) rfl
theorem enters_ryRp : Enters 25 := qan Tryz.func25 (by kernel_rfl) rfl
set_option maxHeartbeats 8000000 in
theorem rxRp_any (a0 : Option Addr) (b : List (BitVec 8)) (c0 : Nat) (x : MRp) (err : Int) (H : rdRp b = (x, err)) (w : World) (hb : Sl (.slice a0 b.length c0) b w) : Calls Tryz.prog 69 #[.slice a0 b.length c0, .func (.func 70) #[] #[]] w fun r w' => ∃ v', r = .returned v' ∧ ((∃ X : List Value, v' = .tuple #[.agg X.toArray, .int .u16 err] ∧ X.length = 265 ∧ One X ∧ Fro w.heap.size (rpAt x X) w') ∧ Below w.heap.size w w') := by
  rcases HM : rdRpA b (0, 0) with ⟨⟨q, e⟩, y⟩
  have hok : ok3 e := by have h := rdRpA_ok (b := b) (s := (0, 0)) (.inl rfl); rw [HM] at h; exact h
  have HX3 : Hid (60000 < b.length → x = zRp ∧ err = 3) := Lib.hid fun h => by
    have hz : rdRpA ([] : List (BitVec 8)) (0, 3) = rdRpA ([] : List (BitVec 8)) (0, 3) := rfl
    have hs : (rdRpA ([] : List (BitVec 8)) (0, 3)).1 = (0, 3) := rdRpA_stay (show (3 : Int) ≠ 0 by decide)
    simp only [rdRp, qb0, if_pos h] at H
    rw [hs] at H
    simp only [endM, if_neg (fun h : (3 : Int) = 0 ∧ (0 : Nat) < ([] : List (BitVec 8)).length => absurd h.1 (by decide)), if_neg (show ¬ (3 : Int) = 0 by decide), Prod.mk.injEq] at H
    exact ⟨H.1.symm, H.2.symm⟩
  have HX : Hid (¬ 60000 < b.length → if endM b.length q e = 0 then x = y ∧ err = 0 else x = zRp ∧ err = endM b.length q e) := Lib.hid fun h => by
    simp only [rdRp, qb0, if_neg h, HM] at H
    by_cases h2 : endM b.length q e = 0
    · rw [if_pos h2] at H ⊢; simp only [Prod.mk.injEq] at H; exact ⟨H.1.symm, H.2.symm⟩
    · rw [if_neg h2] at H ⊢; simp only [Prod.mk.injEq] at H; exact ⟨H.1.symm, H.2.symm⟩
  have HH := Lib.hid HM
  have HS := Lib.hid hb
  clear H HM hb
  have E := Lib.hid (Ev.start (w := w) (F := fun _ => True) fun _ _ => trivial)
  generalize hlen : b.length = m at *
  have HLN := Lib.hid hlen
  clear hlen
  go_enter_defers Tryz.func69, Tryz.ntmps69
  go_upto_region 0 with fail; refine wp_region_lit ?_
  refine qaa (qa3 (vs := (rpR ((.int .u16 0)) (lsR ((.int .i64 0)) ((.int .i64 0)) (z8 32) ((.slice none 0 0)) (z8 64)) (buR ((.int .i64 0)) ((.int .i64 0)) (z8 32) (z8 32) (pkR ((.int .i64 0)) (z8 32)) (z8 64) ((.slice none 0 0))) ((.slice none 0 0)))) rfl (by kernel_rfl)) rfl ?_; (try simp only [Act.put, lyy])
  replace E := Lib.hid (E.out.new ((rpR ((.int .u16 0)) (lsR ((.int .i64 0)) ((.int .i64 0)) (z8 32) ((.slice none 0 0)) (z8 64)) (buR ((.int .i64 0)) ((.int .i64 0)) (z8 32) (z8 32) (pkR ((.int .i64 0)) (z8 32)) (z8 64) ((.slice none 0 0))) ((.slice none 0 0)))) 54)
  generalize hw0 : w.alloc (.cells ((rpR ((.int .u16 0)) (lsR ((.int .i64 0)) ((.int .i64 0)) (z8 32) ((.slice none 0 0)) (z8 64)) (buR ((.int .i64 0)) ((.int .i64 0)) (z8 32) (z8 32) (pkR ((.int .i64 0)) (z8 32)) (z8 64) ((.slice none 0 0))) ((.slice none 0 0))) : List Value).toArray 54) = a1 at E ⊢
  clear hw0
  obtain ⟨g1, hg0⟩ : ∃ k, k = w.heap.size := ⟨_, rfl⟩
  rw [← hg0] at E ⊢
  clear hg0
  refine qaa (run_alc1 (v := .int .u16 0) rfl (by kernel_rfl) rfl) rfl ?_; (try simp only [Act.put, lyy])
  replace E := Lib.hid (E.out.new ([.int .u16 0]) 49)
  generalize a1.alloc (.cells ([.int .u16 0] : List Value).toArray 49) = a2 at *
  generalize a1.heap.size = g2 at *
  refine qab ?_
  go_upto_region 1 with fail; refine wp_region_lit ?_
  refine qaa (qad (v := .slice a0 m c0) rfl rfl) rfl ?_; (try simp only [Act.put, lyy])
  refine qaa (qa4 rfl Tryz.underlying22 rfl) rfl ?_; (try simp only [Act.put, lyy])
  by_cases hlong : 60000 < m
  · refine qaa (qbi (c := true) rfl rfl rfl (decide_eq_true (by omega))) rfl ?_; (try simp only [Act.put, lyy])
    refine qab ?_
    go_upto_region 2 with fail; refine wp_region_lit ?_
    refine qaa (qat (vs := (rpR ((.int .u16 0)) (lsR ((.int .i64 0)) ((.int .i64 0)) (z8 32) ((.slice none 0 0)) (z8 64)) (buR ((.int .i64 0)) ((.int .i64 0)) (z8 32) (z8 32) (pkR ((.int .i64 0)) (z8 32)) (z8 64) ((.slice none 0 0))) ((.slice none 0 0)))) rfl Tryz.underlying54 rfl (szR (qbo (qas (qac 32) (qac 64)) (qbg (qac 32) (qac 32) (qar (qac 32)) (qac 64))) (by kernel_rfl)) rfl (E.out.get (i := 1) rfl).range) rfl ?_; (try simp only [Act.put, lyy])
    refine qal (qa0 (vs := (rpR ((.int .u16 0)) (lsR ((.int .i64 0)) ((.int .i64 0)) (z8 32) ((.slice none 0 0)) (z8 64)) (buR ((.int .i64 0)) ((.int .i64 0)) (z8 32) (z8 32) (pkR ((.int .i64 0)) (z8 32)) (z8 64) ((.slice none 0 0))) ((.slice none 0 0)))) rfl (szR (qbo (qas (qac 32) (qac 64)) (qbg (qac 32) (qac 32) (qar (qac 32)) (qac 64))) (by kernel_rfl)) rfl rfl (One.all (rpR_one rfl (qch rfl rfl (One.b8 _) rfl (One.b8 _)) (buR_one rfl rfl (One.b8 _) (One.b8 _) (qb8 rfl (One.b8 _)) (One.b8 _) rfl) rfl)) ((E.out.get (i := 1) rfl).thereM (by have q1 : ((rpR ((.int .u16 0)) (lsR ((.int .i64 0)) ((.int .i64 0)) (z8 32) ((.slice none 0 0)) (z8 64)) (buR ((.int .i64 0)) ((.int .i64 0)) (z8 32) (z8 32) (pkR ((.int .i64 0)) (z8 32)) (z8 64) ((.slice none 0 0))) ((.slice none 0 0))) : List Value).length = 265 := (qbo (qas (qac 32) (qac 64)) (qbg (qac 32) (qac 32) (qar (qac 32)) (qac 64))); omega))) rfl rfl ?_
    replace E := Lib.hid (E.out.put 1 rfl (m := (rpR ((.int .u16 0)) (lsR ((.int .i64 0)) ((.int .i64 0)) (z8 32) ((.slice none 0 0)) (z8 64)) (buR ((.int .i64 0)) ((.int .i64 0)) (z8 32) (z8 32) (pkR ((.int .i64 0)) (z8 32)) (z8 64) ((.slice none 0 0))) ((.slice none 0 0)))) rfl)
    generalize a2.setCells g1 0 ((rpR ((.int .u16 0)) (lsR ((.int .i64 0)) ((.int .i64 0)) (z8 32) ((.slice none 0 0)) (z8 64)) (buR ((.int .i64 0)) ((.int .i64 0)) (z8 32) (z8 32) (pkR ((.int .i64 0)) (z8 32)) (z8 64) ((.slice none 0 0))) ((.slice none 0 0)))) = a3 at *
    refine qal (qb5 (v := .int .u16 3) rfl (by kernel_rfl) rfl rfl rfl rfl ((E.out.get (i := 0) rfl).c 0 _ rfl) ((E.out.get (i := 0) rfl).f 0)) rfl rfl ?_
    replace E := Lib.hid (E.out.set 0 rfl (j := 0) (by show 0 < 1; omega) (.int .u16 3))
    replace E := Lib.hid (show Ev _ [(g2, [.int .u16 3]), (g1, (rpR ((.int .u16 0)) (lsR ((.int .i64 0)) ((.int .i64 0)) (z8 32) ((.slice none 0 0)) (z8 64)) (buR ((.int .i64 0)) ((.int .i64 0)) (z8 32) (z8 32) (pkR ((.int .i64 0)) (z8 32)) (z8 64) ((.slice none 0 0))) ((.slice none 0 0))))] _ _ _ _ from E.out)
    generalize a3.setCell ⟨g2, 0, none⟩ (.int .u16 3) = a4 at *
    refine qab ?_
    go_wp2_with fail
    obtain ⟨rfl, rfl⟩ := HX3.out hlong
    exact ⟨_, qbb Tryz.results69 rfl rfl Tryz.underlying54 rfl Tryz.underlying49 rfl (szR (qbo (qas (qac 32) (qac 64)) (qbg (qac 32) (qac 32) (qar (qac 32)) (qac 64))) (by kernel_rfl)) (E.out.get (i := 1) rfl).range ((E.out.get (i := 0) rfl).c 0 _ rfl), _, rfl, ⟨_, rfl, (qbo (qas (qac 32) (qac 64)) (qbg (qac 32) (qac 32) (qar (qac 32)) (qac 64))), (rpR_one rfl (qch rfl rfl (One.b8 _) rfl (One.b8 _)) (buR_one rfl rfl (One.b8 _) (One.b8 _) (qb8 rfl (One.b8 _)) (One.b8 _) rfl) rfl), fun V _ => rpAt_zero V⟩, E.out.bl⟩
  · refine qaa (qbi (c := false) rfl rfl rfl (decide_eq_false (by omega))) rfl ?_; (try simp only [Act.put, lyy])
    refine qab ?_
    have hx := HX.out hlong
    clear HX3 HX
    go_upto_region 3 with fail; refine wp_region_lit ?_
    refine qaa (run_mkf (v := .pointer (some ⟨g2, 0, none⟩)) rfl rfl) rfl ?_; (try simp only [Act.put, lyy])
    refine qc7 (d := { target := .fn (.func 133) #[.pointer (some ⟨g2, 0, none⟩)], args := #[] }) (run_defer rfl rfl) rfl ?_; (try simp only [Act.put])
    refine qab ?_
    go_upto_region 4 with fail; refine wp_region_lit ?_
    refine qaa (qad (v := .slice a0 m c0) rfl rfl) rfl ?_; (try simp only [Act.put, lyy])
    refine qaa (qa7 (cells := #[.slice a0 m c0]) (ps := [(0, .slice a0 m c0)]) rfl rfl (by kernel_rfl)) rfl ?_; (try simp only [Act.put, lyy])
    refine qaa (qa3 (vs := [.slice none 0 0]) rfl (by kernel_rfl)) rfl ?_; (try simp only [Act.put, lyy])
    replace E := Lib.hid (E.out.new ([.slice none 0 0]) 199)
    generalize a2.alloc (.cells ([.slice none 0 0] : List Value).toArray 199) = a5 at *
    generalize a2.heap.size = g3 at *
    refine qal (qa0 (vs := [.slice a0 m c0]) rfl (szR (n := 1) rfl (by kernel_rfl)) rfl rfl (One.all (One.cons rfl One.nil)) ((E.out.get (i := 0) rfl).thereM (by show 0 + 1 ≤ 1; omega))) rfl rfl ?_
    replace E := Lib.hid (E.out.put 0 rfl (m := [.slice a0 m c0]) rfl)
    replace E := Lib.hid (show Ev _ [(g3, [.slice a0 m c0]), (g2, [.int .u16 0]), (g1, (rpR ((.int .u16 0)) (lsR ((.int .i64 0)) ((.int .i64 0)) (z8 32) ((.slice none 0 0)) (z8 64)) (buR ((.int .i64 0)) ((.int .i64 0)) (z8 32) (z8 32) (pkR ((.int .i64 0)) (z8 32)) (z8 64) ((.slice none 0 0))) ((.slice none 0 0))))] _ _ _ _ from E.out)
    generalize a5.setCells g3 0 [.slice a0 m c0] = a6 at *
    refine qab ?_
    have HR : Hid (RdS a6.heap.size g3 b 0 a6) := Lib.hid (by have hA := E.out.get (i := 0) rfl; have hg := (E.out.mv.all (g3, [.slice a0 m c0]) (List.mem_cons_self ..)).1; have hS := HS.out; have hq := HLN.out; subst hq; exact rdS_new hA E.out.bl hg hS)
    clear HS
    go_upto_region 5 with fail; refine wp_region_lit ?_
    refine qaa (qad (v := .func (.func 70) #[] #[]) rfl rfl) rfl ?_; (try simp only [Act.put, lyy])
    refine qaj (qcc enters_rrsp rfl rfl rfl) rfl (rrsp_any _ g3 b 0 q e y _ HH.out HR.out) (fun v a7 hs hk hr hT => ?_) (fun a7 hs hk => ?pana)
    case pana =>
      go_wp2_with fail
      replace hs : e ≠ 0 := hs
      replace E := Lib.hid (E.out.callIn hk (H0 := fun _ => True) fun _ _ => trivial)
      have hen : endM m q e = e := by unfold endM; rw [if_neg (fun h => hs h.1)]
      rw [hen, if_neg hs] at hx
      obtain ⟨rfl, rfl⟩ := hx
      have her := errOf_ok hok hs
      refine leaves_cons (f := 133) (args := #[.pointer (some ⟨g2, 0, none⟩)]) (by simp) (by simp [go_sem]) ?_
      refine (caRp_pan g2 _ err _ ((E.out.get (i := 0) rfl).c 0 _ rfl) ((E.out.get (i := 0) rfl).f 0)).mono ?_
      rintro en u1 w1 ⟨rfl, rfl, rfl⟩
      replace E := Lib.hid (E.out.set 0 rfl (j := 0) (by show 0 < 1; omega) (.int .u16 (errOf err)))
      rw [her] at E
      rw [her]
      replace E := Lib.hid (show Ev _ [(g2, [.int .u16 err]), (g1, (rpR ((.int .u16 0)) (lsR ((.int .i64 0)) ((.int .i64 0)) (z8 32) ((.slice none 0 0)) (z8 64)) (buR ((.int .i64 0)) ((.int .i64 0)) (z8 32) (z8 32) (pkR ((.int .i64 0)) (z8 32)) (z8 64) ((.slice none 0 0))) ((.slice none 0 0))))] _ _ _ _ from E.out)
      exact ⟨_, qbb Tryz.results69 rfl rfl Tryz.underlying54 rfl Tryz.underlying49 rfl (szR (qbo (qas (qac 32) (qac 64)) (qbg (qac 32) (qac 32) (qar (qac 32)) (qac 64))) (by kernel_rfl)) (E.out.get (i := 1) rfl).range ((E.out.get (i := 0) rfl).c 0 _ rfl), _, rfl, ⟨_, rfl, (qbo (qas (qac 32) (qac 64)) (qbg (qac 32) (qac 32) (qar (qac 32)) (qac 64))), (rpR_one rfl (qch rfl rfl (One.b8 _) rfl (One.b8 _)) (buR_one rfl rfl (One.b8 _) (One.b8 _) (qb8 rfl (One.b8 _)) (One.b8 _) rfl) rfl), fun V _ => rpAt_zero V⟩, E.out.bl⟩
    (try simp only [Act.put, lyy])
    replace hs : e = 0 := hs
    subst hs
    obtain ⟨X, rfl, lX, oX, fX⟩ := hT
    replace E := Lib.hid (E.out.callIn hk (H0 := rpAt y X) fX)
    have hB7 := hr.Bu
    have HR2 := Lib.hid hr
    clear hk hr HR fX
    refine qaa (qa3 (vs := (rpR ((.int .u16 0)) (lsR ((.int .i64 0)) ((.int .i64 0)) (z8 32) ((.slice none 0 0)) (z8 64)) (buR ((.int .i64 0)) ((.int .i64 0)) (z8 32) (z8 32) (pkR ((.int .i64 0)) (z8 32)) (z8 64) ((.slice none 0 0))) ((.slice none 0 0)))) rfl (by kernel_rfl)) rfl ?_; (try simp only [Act.put, lyy])
    replace HR2 := Lib.hid (HR2.out.below ((Below.refl _ _).alloc (Nat.le_refl _) (.cells ((rpR ((.int .u16 0)) (lsR ((.int .i64 0)) ((.int .i64 0)) (z8 32) ((.slice none 0 0)) (z8 64)) (buR ((.int .i64 0)) ((.int .i64 0)) (z8 32) (z8 32) (pkR ((.int .i64 0)) (z8 32)) (z8 64) ((.slice none 0 0))) ((.slice none 0 0))) : List Value).toArray 54)))
    replace E := Lib.hid (E.out.new ((rpR ((.int .u16 0)) (lsR ((.int .i64 0)) ((.int .i64 0)) (z8 32) ((.slice none 0 0)) (z8 64)) (buR ((.int .i64 0)) ((.int .i64 0)) (z8 32) (z8 32) (pkR ((.int .i64 0)) (z8 32)) (z8 64) ((.slice none 0 0))) ((.slice none 0 0)))) 54)
    generalize a7.alloc (.cells ((rpR ((.int .u16 0)) (lsR ((.int .i64 0)) ((.int .i64 0)) (z8 32) ((.slice none 0 0)) (z8 64)) (buR ((.int .i64 0)) ((.int .i64 0)) (z8 32) (z8 32) (pkR ((.int .i64 0)) (z8 32)) (z8 64) ((.slice none 0 0))) ((.slice none 0 0))) : List Value).toArray 54) = a8 at *
    have hG4 : a6.heap.size ≤ a7.heap.size := hB7
    generalize a7.heap.size = g4 at *
    refine qal (qa0 (vs := X) rfl (szR lX (by kernel_rfl)) rfl rfl (One.all oX) ((E.out.get (i := 0) rfl).thereM (by have q1 : ((rpR ((.int .u16 0)) (lsR ((.int .i64 0)) ((.int .i64 0)) (z8 32) ((.slice none 0 0)) (z8 64)) (buR ((.int .i64 0)) ((.int .i64 0)) (z8 32) (z8 32) (pkR ((.int .i64 0)) (z8 32)) (z8 64) ((.slice none 0 0))) ((.slice none 0 0))) : List Value).length = 265 := (qbo (qas (qac 32) (qac 64)) (qbg (qac 32) (qac 32) (qar (qac 32)) (qac 64))); omega))) rfl rfl ?_
    replace HR2 := Lib.hid (HR2.out.step (qbe hG4 X 0 (Below.refl _ a8)))
    replace E := Lib.hid (E.out.put 0 rfl (m := X) (lX.trans (show ((rpR ((.int .u16 0)) (lsR ((.int .i64 0)) ((.int .i64 0)) (z8 32) ((.slice none 0 0)) (z8 64)) (buR ((.int .i64 0)) ((.int .i64 0)) (z8 32) (z8 32) (pkR ((.int .i64 0)) (z8 32)) (z8 64) ((.slice none 0 0))) ((.slice none 0 0))) : List Value).length = 265 from (qbo (qas (qac 32) (qac 64)) (qbg (qac 32) (qac 32) (qar (qac 32)) (qac 64)))).symm))
    replace E := Lib.hid (show Ev _ [(g4, X), (g2, [.int .u16 0]), (g1, (rpR ((.int .u16 0)) (lsR ((.int .i64 0)) ((.int .i64 0)) (z8 32) ((.slice none 0 0)) (z8 64)) (buR ((.int .i64 0)) ((.int .i64 0)) (z8 32) (z8 32) (pkR ((.int .i64 0)) (z8 32)) (z8 64) ((.slice none 0 0))) ((.slice none 0 0))))] _ _ _ _ from E.out)
    generalize a8.setCells g4 0 X = a9 at *
    refine qab ?_
    obtain ⟨hq, -, -, al, cl, hA, -⟩ := HR2.out
    have hdl : (b.drop q).length = m - q := by rw [List.length_drop, HLN.out]
    have HA := Lib.hid hA
    clear hA HR2
    generalize (b.drop q).length = r at *
    go_upto_region 6 with fail; refine wp_region_lit ?_
    refine qaa (qai (s := 0) (k := 0) rfl Tryz.underlying199 rfl (by kernel_rfl) rfl rfl) rfl ?_; (try simp only [Act.put, lyy])
    refine qaa (qam (v := .slice al r cl) rfl Tryz.underlying22 rfl rfl (HA.out.c 0 _ rfl)) rfl ?_; (try simp only [Act.put, lyy])
    refine qaa (qa4 rfl Tryz.underlying22 rfl) rfl ?_; (try simp only [Act.put, lyy])
    by_cases hleft : q < m
    · refine qaa (qbi (c := true) rfl rfl rfl (decide_eq_true (by omega))) rfl ?_; (try simp only [Act.put, lyy])
      refine qab ?_
      have hen : endM m q 0 = 11 := by unfold endM; rw [if_pos ⟨rfl, hleft⟩]
      rw [hen, if_neg nz11] at hx
      obtain ⟨rfl, rfl⟩ := hx
      go_upto_region 7 with fail; refine wp_region_lit ?_
      refine qaa (run_bld (cells := #[]) rfl (by kernel_rfl)) rfl ?_; (try simp only [Act.put, lyy])
      refine qaa (run_mki (v := .agg #[]) rfl (by kernel_rfl) rfl) rfl ?_; (try simp only [Act.put, lyy])
      refine qb3 rfl rfl rfl ?_
      go_wp2_with fail
      refine leaves_cons (f := 133) (args := #[.pointer (some ⟨g2, 0, none⟩)]) (by simp) (by simp [go_sem]) ?_
      refine (caRp_form g2 _ _ ((E.out.get (i := 1) rfl).c 0 _ rfl) ((E.out.get (i := 1) rfl).f 0)).mono ?_
      rintro en u1 w1 ⟨rfl, rfl, rfl⟩
      replace E := Lib.hid (E.out.set 1 rfl (j := 0) (by show 0 < 1; omega) (.int .u16 (11)))
      replace E := Lib.hid (show Ev _ [(g4, X), (g2, [.int .u16 11]), (g1, (rpR ((.int .u16 0)) (lsR ((.int .i64 0)) ((.int .i64 0)) (z8 32) ((.slice none 0 0)) (z8 64)) (buR ((.int .i64 0)) ((.int .i64 0)) (z8 32) (z8 32) (pkR ((.int .i64 0)) (z8 32)) (z8 64) ((.slice none 0 0))) ((.slice none 0 0))))] _ _ _ _ from E.out)
      exact ⟨_, qbb Tryz.results69 rfl rfl Tryz.underlying54 rfl Tryz.underlying49 rfl (szR (qbo (qas (qac 32) (qac 64)) (qbg (qac 32) (qac 32) (qar (qac 32)) (qac 64))) (by kernel_rfl)) (E.out.get (i := 2) rfl).range ((E.out.get (i := 1) rfl).c 0 _ rfl), _, rfl, ⟨_, rfl, (qbo (qas (qac 32) (qac 64)) (qbg (qac 32) (qac 32) (qar (qac 32)) (qac 64))), (rpR_one rfl (qch rfl rfl (One.b8 _) rfl (One.b8 _)) (buR_one rfl rfl (One.b8 _) (One.b8 _) (qb8 rfl (One.b8 _)) (One.b8 _) rfl) rfl), fun V _ => rpAt_zero V⟩, E.out.bl⟩
    · refine qaa (qbi (c := false) rfl rfl rfl (decide_eq_false (by omega))) rfl ?_; (try simp only [Act.put, lyy])
      refine qab ?_
      have hen : endM m q 0 = 0 := by unfold endM; rw [if_neg (fun h => hleft h.2)]
      rw [hen, if_pos rfl] at hx
      obtain ⟨rfl, rfl⟩ := hx
      go_upto_region 8 with fail; refine wp_region_lit ?_
      refine qaa (qat (vs := X) rfl Tryz.underlying54 rfl (szR lX (by kernel_rfl)) rfl (E.out.get (i := 0) rfl).range) rfl ?_; (try simp only [Act.put, lyy])
      refine qal (qa0 (vs := X) rfl (szR lX (by kernel_rfl)) rfl rfl (One.all oX) ((E.out.get (i := 2) rfl).thereM (by have q1 : ((rpR ((.int .u16 0)) (lsR ((.int .i64 0)) ((.int .i64 0)) (z8 32) ((.slice none 0 0)) (z8 64)) (buR ((.int .i64 0)) ((.int .i64 0)) (z8 32) (z8 32) (pkR ((.int .i64 0)) (z8 32)) (z8 64) ((.slice none 0 0))) ((.slice none 0 0))) : List Value).length = 265 := (qbo (qas (qac 32) (qac 64)) (qbg (qac 32) (qac 32) (qar (qac 32)) (qac 64))); omega))) rfl rfl ?_
      replace E := Lib.hid (E.out.put 2 rfl (m := X) (lX.trans (show ((rpR ((.int .u16 0)) (lsR ((.int .i64 0)) ((.int .i64 0)) (z8 32) ((.slice none 0 0)) (z8 64)) (buR ((.int .i64 0)) ((.int .i64 0)) (z8 32) (z8 32) (pkR ((.int .i64 0)) (z8 32)) (z8 64) ((.slice none 0 0))) ((.slice none 0 0))) : List Value).length = 265 from (qbo (qas (qac 32) (qac 64)) (qbg (qac 32) (qac 32) (qar (qac 32)) (qac 64)))).symm))
      generalize a9.setCells g1 0 X = b1 at *
      refine qal (qb5 (v := .int .u16 0) rfl (by kernel_rfl) rfl rfl rfl rfl ((E.out.get (i := 1) rfl).c 0 _ rfl) ((E.out.get (i := 1) rfl).f 0)) rfl rfl ?_
      replace E := Lib.hid (E.out.set 1 rfl (j := 0) (by show 0 < 1; omega) (.int .u16 0))
      replace E := Lib.hid (show Ev _ [(g4, X), (g2, [.int .u16 0]), (g1, X)] _ _ _ _ from E.out)
      generalize b1.setCell ⟨g2, 0, none⟩ (.int .u16 0) = b2 at *
      refine qab ?_
      go_wp2_with fail
      refine leaves_cons (f := 133) (args := #[.pointer (some ⟨g2, 0, none⟩)]) (by simp) (by simp [go_sem]) ?_
      refine (caRp_idle g2 _).mono ?_
      rintro en u1 w1 ⟨rfl, rfl, rfl⟩
      exact ⟨_, qbb Tryz.results69 rfl rfl Tryz.underlying54 rfl Tryz.underlying49 rfl (szR lX (by kernel_rfl)) (E.out.get (i := 2) rfl).range ((E.out.get (i := 1) rfl).c 0 _ rfl), _, rfl, ⟨_, rfl, lX, oX, fun V hV => (E.out.tell V hV).1⟩, E.out.bl⟩
set_option maxHeartbeats 8000000 in
theorem ryRp_any (a0 : Option Addr) (b : List (BitVec 8)) (c0 : Nat) (x : MRp) (err : Int) (H : rdRp b = (x, err)) (w : World) (hb : Sl (.slice a0 b.length c0) b w) : Calls Tryz.prog 25 #[.slice a0 b.length c0] w fun r w' => ∃ v', r = .returned v' ∧ ((∃ X : List Value, v' = .tuple #[.agg X.toArray, .int .u16 err] ∧ X.length = 265 ∧ One X ∧ Fro w.heap.size (rpAt x X) w') ∧ Below w.heap.size w w') := by
  have HC : Hid (∀ u : World, Below w.heap.size w u → Calls Tryz.prog 69 #[.slice a0 b.length c0, .func (.func 70) #[] #[]] u fun r w' => ∃ v', r = .returned v' ∧ ((∃ X : List Value, v' = .tuple #[.agg X.toArray, .int .u16 err] ∧ X.length = 265 ∧ One X ∧ Fro u.heap.size (rpAt x X) w') ∧ Below u.heap.size u w')) := Lib.hid fun u hu => rxRp_any a0 b c0 x err H u (hb.below hu)
  clear H hb
  generalize b.length = m at *
  have E := Lib.hid (Ev.start (w := w) (F := fun _ => True) fun _ _ => trivial)
  go_enter Tryz.func25, Tryz.ntmps25
  go_upto_region 0 with fail; refine wp_region_lit ?_
  refine qaa (qa3 (vs := (rpR ((.int .u16 0)) (lsR ((.int .i64 0)) ((.int .i64 0)) (z8 32) ((.slice none 0 0)) (z8 64)) (buR ((.int .i64 0)) ((.int .i64 0)) (z8 32) (z8 32) (pkR ((.int .i64 0)) (z8 32)) (z8 64) ((.slice none 0 0))) ((.slice none 0 0)))) rfl (by kernel_rfl)) rfl ?_; (try simp only [Act.put, lyy])
  replace E := Lib.hid (E.out.new ((rpR ((.int .u16 0)) (lsR ((.int .i64 0)) ((.int .i64 0)) (z8 32) ((.slice none 0 0)) (z8 64)) (buR ((.int .i64 0)) ((.int .i64 0)) (z8 32) (z8 32) (pkR ((.int .i64 0)) (z8 32)) (z8 64) ((.slice none 0 0))) ((.slice none 0 0)))) 54)
  generalize hw0 : w.alloc (.cells ((rpR ((.int .u16 0)) (lsR ((.int .i64 0)) ((.int .i64 0)) (z8 32) ((.slice none 0 0)) (z8 64)) (buR ((.int .i64 0)) ((.int .i64 0)) (z8 32) (z8 32) (pkR ((.int .i64 0)) (z8 32)) (z8 64) ((.slice none 0 0))) ((.slice none 0 0))) : List Value).toArray 54) = a1 at E ⊢
  clear hw0
  obtain ⟨g1, hg0⟩ : ∃ k, k = w.heap.size := ⟨_, rfl⟩
  rw [← hg0] at E ⊢
  clear hg0
  refine qaa (qak (v := .int .u16 0) rfl rfl) rfl ?_; (try simp only [Act.put, lyy])
  refine qab ?_
  go_upto_region 1 with fail; refine wp_region_lit ?_
  refine qaa (qad (v := .slice a0 m c0) rfl rfl) rfl ?_; (try simp only [Act.put, lyy])
  refine qag (qaf enters_rxRp rfl rfl rfl rfl) rfl (HC.out _ E.out.bl) (fun v a2 hR => ?_); (try simp only [Act.put, lyy])
  obtain ⟨⟨X, rfl, lX, oX, fX⟩, hb⟩ := hR
  replace E := Lib.hid (E.out.call hb fX)
  clear hb fX HC
  refine qaa (qbt (v := .agg X.toArray) rfl rfl rfl) rfl ?_; (try simp only [Act.put, lyy])
  refine qaa (qbt (v := .int .u16 err) rfl rfl rfl) rfl ?_; (try simp only [Act.put, lyy])
  refine qal (qa0 (vs := X) rfl (szR lX (by kernel_rfl)) rfl rfl (One.all oX) ((E.out.get (i := 0) rfl).thereM (by have q1 : ((rpR ((.int .u16 0)) (lsR ((.int .i64 0)) ((.int .i64 0)) (z8 32) ((.slice none 0 0)) (z8 64)) (buR ((.int .i64 0)) ((.int .i64 0)) (z8 32) (z8 32) (pkR ((.int .i64 0)) (z8 32)) (z8 64) ((.slice none 0 0))) ((.slice none 0 0))) : List Value).length = 265 := (qbo (qas (qac 32) (qac 64)) (qbg (qac 32) (qac 32) (qar (qac 32)) (qac 64))); omega))) rfl rfl ?_
  replace E := Lib.hid (E.out.put 0 rfl (m := X) (lX.trans (show ((rpR ((.int .u16 0)) (lsR ((.int .i64 0)) ((.int .i64 0)) (z8 32) ((.slice none 0 0)) (z8 64)) (buR ((.int .i64 0)) ((.int .i64 0)) (z8 32) (z8 32) (pkR ((.int .i64 0)) (z8 32)) (z8 64) ((.slice none 0 0))) ((.slice none 0 0))) : List Value).length = 265 from (qbo (qas (qac 32) (qac 64)) (qbg (qac 32) (qac 32) (qar (qac 32)) (qac 64)))).symm))
  replace E := Lib.hid (show Ev _ [(g1, X)] _ _ _ _ from E.out)
  generalize a2.setCells g1 0 X = a3 at *
  refine qaa (qak (v := .int .u16 err) rfl rfl) rfl ?_; (try simp only [Act.put, lyy])
  refine qab ?_
  go_wp2_with fail
  exact bodyPost_ret (v := .tuple #[.agg X.toArray, .int .u16 err]) (results_rowT Tryz.results25 rfl Tryz.underlying54 rfl (szR lX (by kernel_rfl)) (E.out.get (i := 0) rfl).range) rfl ⟨_, rfl, ⟨_, rfl, lX, oX, fun V hV => (E.out.tell V hV).1⟩, E.out.bl⟩
end Go.Proofs.YtcgbgmbnagmohaaGreat
