import Derived.Test.YtcgbgmbnagmohaaGreatLy
import Derived.Test.YtcgbgmbnagmohaaGreatPr2
namespace Go.Proofs.YtcgbgmbnagmohaaGreat
open Go.RowKit
set_option maxRecDepth 20000
attribute [local irreducible] wpList
theorem enters_rpre : Enters 124 := qan Tryz.func124 (by kernel_rfl) rfl
set_option maxHeartbeats 8000000 in
theorem rpre_any (B p : Nat) (b : List (BitVec 8)) (i i' : Nat) (e' : Int) (x : MPk) (u : World) (H : pkM b (i, 0) = ((i', e'), x)) (R : RdS B p b i u) : Calls Tryz.prog 124 #[.pointer (some ⟨p, 0, none⟩)] u (RPost B p b u (i', e') fun v _ => v = .agg (pkC x).toArray ∧ x.key.length = 32) := by
  rcases H1 : nM b 1099511627776 (i, 0) with ⟨⟨i1, e1⟩, x1⟩
  rcases H2 : kM 32 b (i1, e1) with ⟨⟨i2, e2⟩, x2⟩
  have S2 : Hid (e1 ≠ 0 → e2 = e1) := Lib.hid fun h => by have q := qcm (n := 32) (b := b) (i := i1) h; rw [H2] at q; exact congrArg Prod.snd q
  simp only [pkM, H1, H2, Prod.mk.injEq] at H
  obtain ⟨⟨rfl, rfl⟩, rfl⟩ := H
  have E := Lib.hid (Rm.start R)
  clear R
  go_enter Tryz.func124, Tryz.ntmps124
  go_upto_region 0 with fail; refine wp_region_lit ?_
  refine qaa (qa3 (vs := pkR ((.int .i64 0)) (z8 32)) rfl (by kernel_rfl)) rfl ?_; (try simp only [Act.put, lyy])
  replace E := Lib.hid (E.out.new (pkR ((.int .i64 0)) (z8 32)) 42)
  generalize u.alloc (.cells (pkR ((.int .i64 0)) (z8 32)).toArray 42) = a1 at *
  obtain ⟨g2, hg0⟩ : ∃ k, k = u.heap.size := ⟨_, rfl⟩
  rw [← hg0] at E ⊢
  clear hg0
  refine qab ?_
  go_upto_region 1 with fail; refine wp_region_lit ?_
  refine qaa (qad (v := .pointer (some ⟨p, 0, none⟩)) rfl rfl) rfl ?_; (try simp only [Act.put, lyy])
  refine qaj (qaq qbh rfl rfl rfl) rfl (qb2 B p b i i1 e1 x1 _ H1 E.out.rd) (fun v1 a3 hs hk hr hT => ?_) (fun a3 hs hk => ?pana3)
  case pana3 =>
    go_wp2_with fail
    replace hs : e1 ≠ 0 := hs
    have t2 := S2.out
    have q : e2 = e1 := by omega
    exact ⟨rfl, E.out.panic hk, .inr ⟨by rw [q]; exact hs, by simp only [q]⟩⟩
  (try simp only [Act.put, lyy])
  replace hs : e1 = 0 := hs
  subst hs
  subst hT
  replace E := Lib.hid (E.out.call hk hr (H0 := fun _ => True) (fun _ _ => trivial))
  clear hk hr
  refine qaa (qad (v := .pointer (some ⟨p, 0, none⟩)) rfl rfl) rfl ?_; (try simp only [Act.put, lyy])
  refine qaj (qaq qcq rfl rfl rfl) rfl (rkey_any B p b i1 i2 e2 x2 _ H2 E.out.rd) (fun v2 a4 hs hk hr hT => ?_) (fun a4 hs hk => ?pana4)
  case pana4 =>
    go_wp2_with fail
    exact ⟨rfl, E.out.panic hk, .inr ⟨hs, rfl⟩⟩
  (try simp only [Act.put, lyy])
  replace hs : e2 = 0 := hs
  subst hs
  obtain ⟨rfl, l2⟩ := hT
  replace E := Lib.hid (E.out.call hk hr (H0 := fun _ => True) (fun _ _ => trivial))
  clear hk hr
  refine qaa (qa7 (cells := (pkR (.int .i64 x1) (x2.map b8)).toArray) (ps := [(0, .int .i64 x1), (1, .agg (x2.map b8).toArray)]) rfl rfl (pkR_all rfl (by rw [List.length_map, l2]))) rfl ?_; (try simp only [Act.put, lyy])
  refine qal (qa0 (vs := pkR (.int .i64 x1) (x2.map b8)) rfl (szR (qar (by rw [List.length_map, l2])) (by kernel_rfl)) rfl rfl (One.all (qb8 rfl (One.b8 _))) ((E.out.get (i := 0) rfl).thereM (by have q1 : (pkR (.int .i64 x1) (x2.map b8)).length = 33 := (qar (by rw [List.length_map, l2])); have q2 : (pkR ((.int .i64 0)) (z8 32)).length = 33 := (qar (qac 32)); omega))) rfl rfl ?_
  replace E := Lib.hid (E.out.put 0 rfl (m := pkR (.int .i64 x1) (x2.map b8)) ((show (pkR (.int .i64 x1) (x2.map b8)).length = 33 from (qar (by rw [List.length_map, l2]))).trans (show (pkR ((.int .i64 0)) (z8 32)).length = 33 from (qar (qac 32))).symm))
  generalize a4.setCells g2 0 (pkR (.int .i64 x1) (x2.map b8)) = a5 at *
  replace E := Lib.hid (show Rm _ _ _ _ _ [(g2, pkR (.int .i64 x1) (x2.map b8))] _ a5 from E.out)
  refine qab ?_
  go_wp2_with fail
  exact bodyPost_ret (v := .agg (pkR (.int .i64 x1) (x2.map b8)).toArray) (qbj Tryz.results124 rfl Tryz.underlying42 rfl (szR (qar (by rw [List.length_map, l2])) (by kernel_rfl)) (E.out.get (i := 0) rfl).range) rfl ⟨E.out.kp, .inl ⟨(by first | rfl | exact hs), E.out.rd, _, rfl, (by first | exact ⟨by rw [pkC_row], l2⟩ | rw [pkC_row] | simp [pkC_row, l2])⟩⟩
theorem enters_rent : Enters 106 := qan Tryz.func106 (by kernel_rfl) rfl
set_option maxHeartbeats 8000000 in
theorem rent_any (B p : Nat) (b : List (BitVec 8)) (i i' : Nat) (e' : Int) (x : MPk) (u : World) (H : pkM b (i, 0) = ((i', e'), x)) (R : RdS B p b i u) : Calls Tryz.prog 106 #[.pointer (some ⟨p, 0, none⟩)] u (RPost B p b u (i', e') fun v _ => v = .agg (pkC x).toArray ∧ x.key.length = 32) := by
  rcases H1 : nM b 1099511627776 (i, 0) with ⟨⟨i1, e1⟩, x1⟩
  rcases H2 : kM 32 b (i1, e1) with ⟨⟨i2, e2⟩, x2⟩
  have S2 : Hid (e1 ≠ 0 → e2 = e1) := Lib.hid fun h => by have q := qcm (n := 32) (b := b) (i := i1) h; rw [H2] at q; exact congrArg Prod.snd q
  simp only [pkM, H1, H2, Prod.mk.injEq] at H
  obtain ⟨⟨rfl, rfl⟩, rfl⟩ := H
  have E := Lib.hid (Rm.start R)
  clear R
  go_enter Tryz.func106, Tryz.ntmps106
  go_upto_region 0 with fail; refine wp_region_lit ?_
  refine qaa (qa3 (vs := enR ((.int .i64 0)) (z8 32)) rfl (by kernel_rfl)) rfl ?_; (try simp only [Act.put, lyy])
  replace E := Lib.hid (E.out.new (enR ((.int .i64 0)) (z8 32)) 92)
  generalize u.alloc (.cells (enR ((.int .i64 0)) (z8 32)).toArray 92) = a1 at *
  obtain ⟨g2, hg0⟩ : ∃ k, k = u.heap.size := ⟨_, rfl⟩
  rw [← hg0] at E ⊢
  clear hg0
  refine qab ?_
  go_upto_region 1 with fail; refine wp_region_lit ?_
  refine qaa (qad (v := .pointer (some ⟨p, 0, none⟩)) rfl rfl) rfl ?_; (try simp only [Act.put, lyy])
  refine qaj (qaq qbh rfl rfl rfl) rfl (qb2 B p b i i1 e1 x1 _ H1 E.out.rd) (fun v1 a3 hs hk hr hT => ?_) (fun a3 hs hk => ?pana3)
  case pana3 =>
    go_wp2_with fail
    replace hs : e1 ≠ 0 := hs
    have t2 := S2.out
    have q : e2 = e1 := by omega
    exact ⟨rfl, E.out.panic hk, .inr ⟨by rw [q]; exact hs, by simp only [q]⟩⟩
  (try simp only [Act.put, lyy])
  replace hs : e1 = 0 := hs
  subst hs
  subst hT
  replace E := Lib.hid (E.out.call hk hr (H0 := fun _ => True) (fun _ _ => trivial))
  clear hk hr
  refine qaa (qad (v := .pointer (some ⟨p, 0, none⟩)) rfl rfl) rfl ?_; (try simp only [Act.put, lyy])
  refine qaj (qaq qcq rfl rfl rfl) rfl (rkey_any B p b i1 i2 e2 x2 _ H2 E.out.rd) (fun v2 a4 hs hk hr hT => ?_) (fun a4 hs hk => ?pana4)
  case pana4 =>
    go_wp2_with fail
    exact ⟨rfl, E.out.panic hk, .inr ⟨hs, rfl⟩⟩
  (try simp only [Act.put, lyy])
  replace hs : e2 = 0 := hs
  subst hs
  obtain ⟨rfl, l2⟩ := hT
  replace E := Lib.hid (E.out.call hk hr (H0 := fun _ => True) (fun _ _ => trivial))
  clear hk hr
  refine qaa (qa7 (cells := (enR (.int .i64 x1) (x2.map b8)).toArray) (ps := [(0, .int .i64 x1), (1, .agg (x2.map b8).toArray)]) rfl rfl (enR_all rfl (by rw [List.length_map, l2]))) rfl ?_; (try simp only [Act.put, lyy])
  refine qal (qa0 (vs := enR (.int .i64 x1) (x2.map b8)) rfl (szR (enR_len (by rw [List.length_map, l2])) (by kernel_rfl)) rfl rfl (One.all (enR_one rfl (One.b8 _))) ((E.out.get (i := 0) rfl).thereM (by have q1 : (enR (.int .i64 x1) (x2.map b8)).length = 33 := (enR_len (by rw [List.length_map, l2])); have q2 : (enR ((.int .i64 0)) (z8 32)).length = 33 := (enR_len (qac 32)); omega))) rfl rfl ?_
  replace E := Lib.hid (E.out.put 0 rfl (m := enR (.int .i64 x1) (x2.map b8)) ((show (enR (.int .i64 x1) (x2.map b8)).length = 33 from (enR_len (by rw [List.length_map, l2]))).trans (show (enR ((.int .i64 0)) (z8 32)).length = 33 from (enR_len (qac 32))).symm))
  generalize a4.setCells g2 0 (enR (.int .i64 x1) (x2.map b8)) = a5 at *
  replace E := Lib.hid (show Rm _ _ _ _ _ [(g2, enR (.int .i64 x1) (x2.map b8))] _ a5 from E.out)
  refine qab ?_
  go_wp2_with fail
  exact bodyPost_ret (v := .agg (enR (.int .i64 x1) (x2.map b8)).toArray) (qbj Tryz.results106 rfl Tryz.underlying92 rfl (szR (enR_len (by rw [List.length_map, l2])) (by kernel_rfl)) (E.out.get (i := 0) rfl).range) rfl ⟨E.out.kp, .inl ⟨(by first | rfl | exact hs), E.out.rd, _, rfl, (by first | exact ⟨by rw [pkC_en], l2⟩ | rw [pkC_en] | simp [pkC_en, l2])⟩⟩
theorem enters_rhdr : Enters 115 := qan Tryz.func115 (by kernel_rfl) rfl
set_option maxHeartbeats 8000000 in
theorem rhdr_any (B p : Nat) (b : List (BitVec 8)) (i i' : Nat) (e' : Int) (x : MHd) (u : World) (H : hdM b (i, 0) = ((i', e'), x)) (R : RdS B p b i u) : Calls Tryz.prog 115 #[.pointer (some ⟨p, 0, none⟩)] u (RPost B p b u (i', e') fun v _ => v = .agg (hdC x).toArray ∧ x.r.length = 32) := by
  rcases H1 : kM 32 b (i, 0) with ⟨⟨i1, e1⟩, x1⟩
  rcases H2 : nM b 1099511627776 (i1, e1) with ⟨⟨i2, e2⟩, x2⟩
  have S2 : Hid (e1 ≠ 0 → e2 = e1) := Lib.hid fun h => by have q := qbu (most := 1099511627776) (b := b) (i := i1) h; rw [H2] at q; exact congrArg Prod.snd q
  rcases H3 : nM b 1099511627776 (i2, e2) with ⟨⟨i3, e3⟩, x3⟩
  have S3 : Hid (e2 ≠ 0 → e3 = e2) := Lib.hid fun h => by have q := qbu (most := 1099511627776) (b := b) (i := i2) h; rw [H3] at q; exact congrArg Prod.snd q
  simp only [hdM, H1, H2, H3, Prod.mk.injEq] at H
  obtain ⟨⟨rfl, rfl⟩, rfl⟩ := H
  have E := Lib.hid (Rm.start R)
  clear R
  go_enter Tryz.func115, Tryz.ntmps115
  go_upto_region 0 with fail; refine wp_region_lit ?_
  refine qaa (qa3 (vs := hdR (z8 32) ((.int .i64 0)) ((.int .i64 0))) rfl (by kernel_rfl)) rfl ?_; (try simp only [Act.put, lyy])
  replace E := Lib.hid (E.out.new (hdR (z8 32) ((.int .i64 0)) ((.int .i64 0))) 36)
  generalize u.alloc (.cells (hdR (z8 32) ((.int .i64 0)) ((.int .i64 0))).toArray 36) = a1 at *
  obtain ⟨g2, hg0⟩ : ∃ k, k = u.heap.size := ⟨_, rfl⟩
  rw [← hg0] at E ⊢
  clear hg0
  refine qab ?_
  go_upto_region 1 with fail; refine wp_region_lit ?_
  refine qaa (qad (v := .pointer (some ⟨p, 0, none⟩)) rfl rfl) rfl ?_; (try simp only [Act.put, lyy])
  refine qaj (qaq qcq rfl rfl rfl) rfl (rkey_any B p b i i1 e1 x1 _ H1 E.out.rd) (fun v1 a3 hs hk hr hT => ?_) (fun a3 hs hk => ?pana3)
  case pana3 =>
    go_wp2_with fail
    replace hs : e1 ≠ 0 := hs
    have t2 := S2.out
    have t3 := S3.out
    have q : e3 = e1 := by omega
    exact ⟨rfl, E.out.panic hk, .inr ⟨by rw [q]; exact hs, by simp only [q]⟩⟩
  (try simp only [Act.put, lyy])
  replace hs : e1 = 0 := hs
  subst hs
  obtain ⟨rfl, l1⟩ := hT
  replace E := Lib.hid (E.out.call hk hr (H0 := fun _ => True) (fun _ _ => trivial))
  clear hk hr
  refine qaa (qad (v := .pointer (some ⟨p, 0, none⟩)) rfl rfl) rfl ?_; (try simp only [Act.put, lyy])
  refine qaj (qaq qbh rfl rfl rfl) rfl (qb2 B p b i1 i2 e2 x2 _ H2 E.out.rd) (fun v2 a4 hs hk hr hT => ?_) (fun a4 hs hk => ?pana4)
  case pana4 =>
    go_wp2_with fail
    replace hs : e2 ≠ 0 := hs
    have t3 := S3.out
    have q : e3 = e2 := by omega
    exact ⟨rfl, E.out.panic hk, .inr ⟨by rw [q]; exact hs, by simp only [q]⟩⟩
  (try simp only [Act.put, lyy])
  replace hs : e2 = 0 := hs
  subst hs
  subst hT
  replace E := Lib.hid (E.out.call hk hr (H0 := fun _ => True) (fun _ _ => trivial))
  clear hk hr
  refine qaa (qad (v := .pointer (some ⟨p, 0, none⟩)) rfl rfl) rfl ?_; (try simp only [Act.put, lyy])
  refine qaj (qaq qbh rfl rfl rfl) rfl (qb2 B p b i2 i3 e3 x3 _ H3 E.out.rd) (fun v3 a5 hs hk hr hT => ?_) (fun a5 hs hk => ?pana5)
  case pana5 =>
    go_wp2_with fail
    exact ⟨rfl, E.out.panic hk, .inr ⟨hs, rfl⟩⟩
  (try simp only [Act.put, lyy])
  replace hs : e3 = 0 := hs
  subst hs
  subst hT
  replace E := Lib.hid (E.out.call hk hr (H0 := fun _ => True) (fun _ _ => trivial))
  clear hk hr
  refine qaa (qa7 (cells := (hdR (x1.map b8) (.int .i64 x2) (.int .i64 x3)).toArray) (ps := [(0, .agg (x1.map b8).toArray), (1, .int .i64 x2), (2, .int .i64 x3)]) rfl rfl (hdR_all (by rw [List.length_map, l1]) rfl rfl)) rfl ?_; (try simp only [Act.put, lyy])
  refine qal (qa0 (vs := hdR (x1.map b8) (.int .i64 x2) (.int .i64 x3)) rfl (szR (qa9 (by rw [List.length_map, l1])) (by kernel_rfl)) rfl rfl (One.all (hdR_one (One.b8 _) rfl rfl)) ((E.out.get (i := 0) rfl).thereM (by have q1 : (hdR (x1.map b8) (.int .i64 x2) (.int .i64 x3)).length = 34 := (qa9 (by rw [List.length_map, l1])); have q2 : (hdR (z8 32) ((.int .i64 0)) ((.int .i64 0))).length = 34 := (qa9 (qac 32)); omega))) rfl rfl ?_
  replace E := Lib.hid (E.out.put 0 rfl (m := hdR (x1.map b8) (.int .i64 x2) (.int .i64 x3)) ((show (hdR (x1.map b8) (.int .i64 x2) (.int .i64 x3)).length = 34 from (qa9 (by rw [List.length_map, l1]))).trans (show (hdR (z8 32) ((.int .i64 0)) ((.int .i64 0))).length = 34 from (qa9 (qac 32))).symm))
  generalize a5.setCells g2 0 (hdR (x1.map b8) (.int .i64 x2) (.int .i64 x3)) = a6 at *
  replace E := Lib.hid (show Rm _ _ _ _ _ [(g2, hdR (x1.map b8) (.int .i64 x2) (.int .i64 x3))] _ a6 from E.out)
  refine qab ?_
  go_wp2_with fail
  exact bodyPost_ret (v := .agg (hdR (x1.map b8) (.int .i64 x2) (.int .i64 x3)).toArray) (qbj Tryz.results115 rfl Tryz.underlying36 rfl (szR (qa9 (by rw [List.length_map, l1])) (by kernel_rfl)) (E.out.get (i := 0) rfl).range) rfl ⟨E.out.kp, .inl ⟨(by first | rfl | exact hs), E.out.rd, _, rfl, (by first | exact ⟨by rw [hdC_row], l1⟩ | rw [hdC_row] | simp [hdC_row, l1])⟩⟩
theorem enters_ralP : Enters 125 := qan Tryz.func125 (by kernel_rfl) rfl
set_option maxHeartbeats 8000000 in
theorem ralP_any (B p : Nat) (b : List (BitVec 8)) (i i' : Nat) (e' : Int) (x : List MPk) (u : World) (H : psM b (i, 0) = ((i', e'), x)) (R : RdS B p b i u) : Calls Tryz.prog 125 #[.pointer (some ⟨p, 0, none⟩), .func (.func 124) #[] #[]] u (RPost B p b u (i', e') fun v u' => ∃ a c, v = .slice a x.length c ∧ Fro u.heap.size (SlR 33 pkAt x a c) u') := by
  rcases HN : nM b 60000 (i, 0) with ⟨⟨i0, e0⟩, N⟩
  have hn0 := nM_num (b := b) (most := 60000) (s := (i, 0)) (by omega)
  rw [HN] at hn0
  obtain ⟨n, hn⟩ : ∃ n : Nat, N = (n : Int) := ⟨N.toNat, by omega⟩
  subst hn
  have hnn : n ≤ 60000 := by have := hn0.2; simp only at this; omega
  clear hn0
  simp only [psM, HN, Int.toNat_natCast] at H
  have S1 : Hid (e0 ≠ 0 → e' = e0) := Lib.hid fun h => by rw [qcd _ _ (by exact h)] at H; exact (congrArg (fun z => z.1.2) H).symm
  have HH := Lib.hid H
  have HR := Lib.hid R
  clear H R
  go_enter Tryz.func125, Tryz.ntmps125
  go_upto_region 0 with fail; refine wp_region_lit ?_
  refine qaa (qak (v := .slice none 0 0) rfl rfl) rfl ?_; (try simp only [Act.put, lyy])
  refine qab ?_
  go_upto_region 1 with fail; refine wp_region_lit ?_
  refine qaa (qak (v := .slice none 0 0) rfl rfl) rfl ?_; (try simp only [Act.put, lyy])
  refine qab ?_
  have E := Lib.hid ((Rg.start HR.out 42 33).know (H0 := LR pkAt [] []) fun V _ => LR.nil V)
  go_upto_region 2 with fail; refine wp_region_lit ?_
  refine qaa (qad (v := .pointer (some ⟨p, 0, none⟩)) rfl rfl) rfl ?_; (try simp only [Act.put, lyy])
  refine qaj (qaq qcr rfl rfl rfl) rfl (rcnt_any B p b i i0 e0 _ _ HN E.out.rd) (fun v a1 hs hk hr hT => ?_) (fun a1 hs hk => ?pana1)
  case pana1 =>
    go_wp2_with fail
    have q := S1.out hs
    exact ⟨rfl, E.out.kp.trans hk, .inr ⟨by rw [q]; exact hs, by simp only [q]⟩⟩
  (try simp only [Act.put, lyy])
  subst hT
  replace hs : e0 = 0 := hs
  subst hs
  replace E := Lib.hid ((E.out.call hk hr (H0 := fun _ => True) fun _ _ => trivial).know (H0 := LR pkAt [] []) fun V h => h.2)
  clear hk hr S1 HR
  refine qaa (qad (v := .int .i64 0) rfl rfl) rfl ?_; (try simp only [Act.put, lyy])
  refine qab ?_
  go_wp2_with fail
  go_loopw [5, 8] (fun s5 s8 a => ∃ (k q : Nat) (l : List MPk) (css : List (List Value)), s8 = .int .i64 (k : Int) ∧ k ≤ n ∧ k = l.length ∧ (∀ y ∈ css, y.length = 33) ∧ (rowsM (pkM b) n (i0, 0) = ((rowsM (pkM b) (n - k) (q, 0)).1, l ++ (rowsM (pkM b) (n - k) (q, 0)).2)) ∧ Rg u B p b q 42 33 s5 k css.flatten (LR pkAt l css) a) (fun _ s8 _ => ((n : Int) - intOf s8).toNat)
  case atStart => exact ⟨0, i0, [], [], rfl, by omega, rfl, (fun _ h => by cases h), by simp, E.out⟩
  case round =>
    obtain ⟨k, q, l, css, rfl, hkn, hkl, hq, hrow, hJ⟩ := hrel
    replace E := Lib.hid hJ
    have HQ := Lib.hid hq
    have HRW := Lib.hid hrow
    clear hJ hq hrow
    by_cases hkn2 : k = n
    · subst hkn2
      have HX : Hid (((i', e'), x) = ((q, (0 : Int)), l)) := Lib.hid (by rw [← HH.out, HRW.out, Nat.sub_self, qdb, List.append_nil])
      simp only [Prod.mk.injEq] at HX
      obtain ⟨⟨rfl, rfl⟩, rfl⟩ := HX.out
      go_upto_region 3 with fail; refine wp_region_lit ?_
      refine qaa (qay (c := false) rfl rfl rfl (decide_eq_false (by omega))) rfl ?_; (try simp only [Act.put, lyy])
      refine qab ?_
      go_upto_region 6 with fail; refine wp_region_lit ?_
      refine qaa (qad (v := u5) rfl rfl) rfl ?_; (try simp only [Act.put, lyy])
      refine qaa (qak (v := u5) rfl rfl) rfl ?_; (try simp only [Act.put, lyy])
      refine qab ?_
      have HF : Hid (Fro u.heap.size (fun V => ∃ a' c', u5 = .slice a' x.length c' ∧ SlR 33 pkAt x a' c' V) wr) := Lib.hid fun V hV => qc5 (E.out.tell V hV).1 hkl (E.out.tell V hV).2.1 HQ.out (E.out.tell V hV).2.2
      obtain ⟨a', c', hv6, hS0⟩ := HF.out.now
      subst hv6
      have HF2 : Hid (Fro u.heap.size (SlR 33 pkAt x a' c') wr) := Lib.hid fun V hV => by
        obtain ⟨a2, c2, h1, h2⟩ := HF.out V hV
        simp only [Value.slice.injEq] at h1
        obtain ⟨rfl, _, rfl⟩ := h1
        exact h2
      go_wp2_with fail
      exact bodyPost_ret (results_tmp Tryz.results125 _ _ _) rfl ⟨E.out.kp, .inl ⟨rfl, E.out.rd, _, rfl, _, _, rfl, HF2.out⟩⟩
    · obtain ⟨m, hm⟩ : ∃ m, n - k = m + 1 := ⟨n - k - 1, by omega⟩
      have hr2 := HRW.out
      rw [hm, qdc _ _ rfl] at hr2
      rcases HG : pkM b (q, 0) with ⟨⟨q1, e1⟩, y⟩
      rw [HG] at hr2
      have S2 : Hid (e1 ≠ 0 → e' = e1) := Lib.hid fun h => by have h9 := HH.out; rw [hr2, qcd _ _ (by exact h)] at h9; exact (congrArg (fun z => z.1.2) h9).symm
      replace HRW := Lib.hid hr2
      clear hr2
      go_upto_region 3 with fail; refine wp_region_lit ?_
      refine qaa (qay (c := true) rfl rfl rfl (decide_eq_true (by omega))) rfl ?_; (try simp only [Act.put, lyy])
      refine qab ?_
      go_upto_region 4 with fail; refine wp_region_lit ?_
      refine qaa (qad (v := u5) rfl rfl) rfl ?_; (try simp only [Act.put, lyy])
      refine qaa (qad (v := .func (.func 124) #[] #[]) rfl rfl) rfl ?_; (try simp only [Act.put, lyy])
      refine qaa (qad (v := .pointer (some ⟨p, 0, none⟩)) rfl rfl) rfl ?_; (try simp only [Act.put, lyy])
      refine qaj (qcc enters_rpre rfl rfl rfl) rfl (rpre_any B p b q q1 e1 y _ HG E.out.rd) (fun v3 a3 hs hk hr hT => ?_) (fun a3 hs hk => ?pana3)
      case pana3 =>
        go_wp2_with fail
        have q := S2.out hs
        exact ⟨rfl, E.out.kp.trans hk, .inr ⟨by rw [q]; exact hs, by simp only [q]⟩⟩
      (try simp only [Act.put, lyy])
      replace hs : e1 = 0 := hs
      subst hs
      obtain ⟨rfl, hl3⟩ := hT
      obtain ⟨X, hX⟩ : ∃ X, X = pkC y := ⟨_, rfl⟩
      rw [← hX]
      have lX : X.length = 33 := by rw [hX]; exact pkC_len' hl3
      have oX : One X := by rw [hX]; exact pkC_one hl3
      have fX : Fro wr.heap.size (pkAt y X) a3 := fun _ _ => hX
      replace E := Lib.hid (E.out.call hk hr (H0 := pkAt y X) fX)
      clear hk hr S2
      refine qaa (qcg (m := X) (z := 33) (zv := .agg ([.int .i64 0] ++ List.replicate 32 (.int .u8 0) : List Value).toArray) rfl Tryz.underlying43 (by kernel_rfl) rfl lX (by omega) (by omega)) rfl ?_; (try simp only [Act.put, lyy])
      have A2 := Lib.hid (Arr.new a3 X 42)
      replace E := Lib.hid (E.out.below ((Below.refl a3.heap.size a3).alloc (Nat.le_refl _) (.cells X.toArray 42)))
      generalize a3.alloc (.cells X.toArray 42) = b1 at *
      generalize a3.heap.size = g0 at *
      refine qcw (t := 43) (bw := 40) (zv := .agg ([.int .i64 0] ++ List.replicate 32 (.int .u8 0) : List Value).toArray) (z := 33) rfl rfl Tryz.underlying43 (by kernel_rfl) rfl (by omega) rfl rfl A2.out.range lX oX (by omega) (by omega) E.out (fun v7 b2 hG => ?_); (try simp only [Act.put, lyy])
      replace E := Lib.hid (hG.know (H0 := LR pkAt (l ++ [y]) (css ++ [X])) fun V h => h.2.snoc h.1)
      clear hG A2
      refine qaa (qak (v := v7) rfl rfl) rfl ?_; (try simp only [Act.put, lyy])
      refine qab ?_
      go_upto_region 5 with fail; refine wp_region_lit ?_
      refine qaa (qa6 (a := k) (b := 1) rfl rfl rfl (by omega)) rfl ?_; (try simp only [Act.put, lyy])
      refine qaa (qad (v := .int .i64 ((k + 1 : Nat) : Int)) rfl rfl) rfl ?_; (try simp only [Act.put, lyy])
      refine qab ?_
      go_wp2_with fail
      exact ⟨⟨k + 1, q1, l ++ [y], css ++ [X], rfl, by omega, by rw [List.length_append, ← hkl]; rfl, (fun z hz => (List.mem_append.1 hz).elim (HQ.out z) fun h => by rw [List.mem_singleton.1 h]; exact lX), by rw [HRW.out, show n - (k + 1) = m by omega, List.append_assoc]; rfl, by rw [List.flatten_append, show [X].flatten = X by simp]; exact E.out⟩, by simp [intOf]; omega⟩
theorem enters_ralE : Enters 105 := qan Tryz.func105 (by kernel_rfl) rfl
set_option maxHeartbeats 8000000 in
theorem ralE_any (B p : Nat) (b : List (BitVec 8)) (i i' : Nat) (e' : Int) (x : List MPk) (u : World) (H : enM b (i, 0) = ((i', e'), x)) (R : RdS B p b i u) : Calls Tryz.prog 105 #[.pointer (some ⟨p, 0, none⟩), .func (.func 106) #[] #[]] u (RPost B p b u (i', e') fun v u' => ∃ a c, v = .slice a x.length c ∧ Fro u.heap.size (SlR 33 pkAt x a c) u') := by
  rcases HN : nM b 60000 (i, 0) with ⟨⟨i0, e0⟩, N⟩
  have hn0 := nM_num (b := b) (most := 60000) (s := (i, 0)) (by omega)
  rw [HN] at hn0
  obtain ⟨n, hn⟩ : ∃ n : Nat, N = (n : Int) := ⟨N.toNat, by omega⟩
  subst hn
  have hnn : n ≤ 60000 := by have := hn0.2; simp only at this; omega
  clear hn0
  simp only [enM, HN, Int.toNat_natCast] at H
  have S1 : Hid (e0 ≠ 0 → e' = e0) := Lib.hid fun h => by rw [qcd _ _ (by exact h)] at H; exact (congrArg (fun z => z.1.2) H).symm
  have HH := Lib.hid H
  have HR := Lib.hid R
  clear H R
  go_enter Tryz.func105, Tryz.ntmps105
  go_upto_region 0 with fail; refine wp_region_lit ?_
  refine qaa (qak (v := .slice none 0 0) rfl rfl) rfl ?_; (try simp only [Act.put, lyy])
  refine qab ?_
  go_upto_region 1 with fail; refine wp_region_lit ?_
  refine qaa (qak (v := .slice none 0 0) rfl rfl) rfl ?_; (try simp only [Act.put, lyy])
  refine qab ?_
  have E := Lib.hid ((Rg.start HR.out 92 33).know (H0 := LR pkAt [] []) fun V _ => LR.nil V)
  go_upto_region 2 with fail; refine wp_region_lit ?_
  refine qaa (qad (v := .pointer (some ⟨p, 0, none⟩)) rfl rfl) rfl ?_; (try simp only [Act.put, lyy])
  refine qaj (qaq qcr rfl rfl rfl) rfl (rcnt_any B p b i i0 e0 _ _ HN E.out.rd) (fun v a1 hs hk hr hT => ?_) (fun a1 hs hk => ?pana1)
  case pana1 =>
    go_wp2_with fail
    have q := S1.out hs
    exact ⟨rfl, E.out.kp.trans hk, .inr ⟨by rw [q]; exact hs, by simp only [q]⟩⟩
  (try simp only [Act.put, lyy])
  subst hT
  replace hs : e0 = 0 := hs
  subst hs
  replace E := Lib.hid ((E.out.call hk hr (H0 := fun _ => True) fun _ _ => trivial).know (H0 := LR pkAt [] []) fun V h => h.2)
  clear hk hr S1 HR
  refine qaa (qad (v := .int .i64 0) rfl rfl) rfl ?_; (try simp only [Act.put, lyy])
  refine qab ?_
  go_wp2_with fail
  go_loopw [5, 8] (fun s5 s8 a => ∃ (k q : Nat) (l : List MPk) (css : List (List Value)), s8 = .int .i64 (k : Int) ∧ k ≤ n ∧ k = l.length ∧ (∀ y ∈ css, y.length = 33) ∧ (rowsM (pkM b) n (i0, 0) = ((rowsM (pkM b) (n - k) (q, 0)).1, l ++ (rowsM (pkM b) (n - k) (q, 0)).2)) ∧ Rg u B p b q 92 33 s5 k css.flatten (LR pkAt l css) a) (fun _ s8 _ => ((n : Int) - intOf s8).toNat)
  case atStart => exact ⟨0, i0, [], [], rfl, by omega, rfl, (fun _ h => by cases h), by simp, E.out⟩
  case round =>
    obtain ⟨k, q, l, css, rfl, hkn, hkl, hq, hrow, hJ⟩ := hrel
    replace E := Lib.hid hJ
    have HQ := Lib.hid hq
    have HRW := Lib.hid hrow
    clear hJ hq hrow
    by_cases hkn2 : k = n
    · subst hkn2
      have HX : Hid (((i', e'), x) = ((q, (0 : Int)), l)) := Lib.hid (by rw [← HH.out, HRW.out, Nat.sub_self, qdb, List.append_nil])
      simp only [Prod.mk.injEq] at HX
      obtain ⟨⟨rfl, rfl⟩, rfl⟩ := HX.out
      go_upto_region 3 with fail; refine wp_region_lit ?_
      refine qaa (qay (c := false) rfl rfl rfl (decide_eq_false (by omega))) rfl ?_; (try simp only [Act.put, lyy])
      refine qab ?_
      go_upto_region 6 with fail; refine wp_region_lit ?_
      refine qaa (qad (v := u5) rfl rfl) rfl ?_; (try simp only [Act.put, lyy])
      refine qaa (qak (v := u5) rfl rfl) rfl ?_; (try simp only [Act.put, lyy])
      refine qab ?_
      have HF : Hid (Fro u.heap.size (fun V => ∃ a' c', u5 = .slice a' x.length c' ∧ SlR 33 pkAt x a' c' V) wr) := Lib.hid fun V hV => qc5 (E.out.tell V hV).1 hkl (E.out.tell V hV).2.1 HQ.out (E.out.tell V hV).2.2
      obtain ⟨a', c', hv6, hS0⟩ := HF.out.now
      subst hv6
      have HF2 : Hid (Fro u.heap.size (SlR 33 pkAt x a' c') wr) := Lib.hid fun V hV => by
        obtain ⟨a2, c2, h1, h2⟩ := HF.out V hV
        simp only [Value.slice.injEq] at h1
        obtain ⟨rfl, _, rfl⟩ := h1
        exact h2
      go_wp2_with fail
      exact bodyPost_ret (results_tmp Tryz.results105 _ _ _) rfl ⟨E.out.kp, .inl ⟨rfl, E.out.rd, _, rfl, _, _, rfl, HF2.out⟩⟩
    · obtain ⟨m, hm⟩ : ∃ m, n - k = m + 1 := ⟨n - k - 1, by omega⟩
      have hr2 := HRW.out
      rw [hm, qdc _ _ rfl] at hr2
      rcases HG : pkM b (q, 0) with ⟨⟨q1, e1⟩, y⟩
      rw [HG] at hr2
      have S2 : Hid (e1 ≠ 0 → e' = e1) := Lib.hid fun h => by have h9 := HH.out; rw [hr2, qcd _ _ (by exact h)] at h9; exact (congrArg (fun z => z.1.2) h9).symm
      replace HRW := Lib.hid hr2
      clear hr2
      go_upto_region 3 with fail; refine wp_region_lit ?_
      refine qaa (qay (c := true) rfl rfl rfl (decide_eq_true (by omega))) rfl ?_; (try simp only [Act.put, lyy])
      refine qab ?_
      go_upto_region 4 with fail; refine wp_region_lit ?_
      refine qaa (qad (v := u5) rfl rfl) rfl ?_; (try simp only [Act.put, lyy])
      refine qaa (qad (v := .func (.func 106) #[] #[]) rfl rfl) rfl ?_; (try simp only [Act.put, lyy])
      refine qaa (qad (v := .pointer (some ⟨p, 0, none⟩)) rfl rfl) rfl ?_; (try simp only [Act.put, lyy])
      refine qaj (qcc enters_rent rfl rfl rfl) rfl (rent_any B p b q q1 e1 y _ HG E.out.rd) (fun v3 a3 hs hk hr hT => ?_) (fun a3 hs hk => ?pana3)
      case pana3 =>
        go_wp2_with fail
        have q := S2.out hs
        exact ⟨rfl, E.out.kp.trans hk, .inr ⟨by rw [q]; exact hs, by simp only [q]⟩⟩
      (try simp only [Act.put, lyy])
      replace hs : e1 = 0 := hs
      subst hs
      obtain ⟨rfl, hl3⟩ := hT
      obtain ⟨X, hX⟩ : ∃ X, X = pkC y := ⟨_, rfl⟩
      rw [← hX]
      have lX : X.length = 33 := by rw [hX]; exact pkC_len' hl3
      have oX : One X := by rw [hX]; exact pkC_one hl3
      have fX : Fro wr.heap.size (pkAt y X) a3 := fun _ _ => hX
      replace E := Lib.hid (E.out.call hk hr (H0 := pkAt y X) fX)
      clear hk hr S2
      refine qaa (qcg (m := X) (z := 33) (zv := .agg ([.int .i64 0] ++ List.replicate 32 (.int .u8 0) : List Value).toArray) rfl Tryz.underlying28 (by kernel_rfl) rfl lX (by omega) (by omega)) rfl ?_; (try simp only [Act.put, lyy])
      have A2 := Lib.hid (Arr.new a3 X 92)
      replace E := Lib.hid (E.out.below ((Below.refl a3.heap.size a3).alloc (Nat.le_refl _) (.cells X.toArray 92)))
      generalize a3.alloc (.cells X.toArray 92) = b1 at *
      generalize a3.heap.size = g0 at *
      refine qcw (t := 28) (bw := 40) (zv := .agg ([.int .i64 0] ++ List.replicate 32 (.int .u8 0) : List Value).toArray) (z := 33) rfl rfl Tryz.underlying28 (by kernel_rfl) rfl (by omega) rfl rfl A2.out.range lX oX (by omega) (by omega) E.out (fun v7 b2 hG => ?_); (try simp only [Act.put, lyy])
      replace E := Lib.hid (hG.know (H0 := LR pkAt (l ++ [y]) (css ++ [X])) fun V h => h.2.snoc h.1)
      clear hG A2
      refine qaa (qak (v := v7) rfl rfl) rfl ?_; (try simp only [Act.put, lyy])
      refine qab ?_
      go_upto_region 5 with fail; refine wp_region_lit ?_
      refine qaa (qa6 (a := k) (b := 1) rfl rfl rfl (by omega)) rfl ?_; (try simp only [Act.put, lyy])
      refine qaa (qad (v := .int .i64 ((k + 1 : Nat) : Int)) rfl rfl) rfl ?_; (try simp only [Act.put, lyy])
      refine qab ?_
      go_wp2_with fail
      exact ⟨⟨k + 1, q1, l ++ [y], css ++ [X], rfl, by omega, by rw [List.length_append, ← hkl]; rfl, (fun z hz => (List.mem_append.1 hz).elim (HQ.out z) fun h => by rw [List.mem_singleton.1 h]; exact lX), by rw [HRW.out, show n - (k + 1) = m by omega, List.append_assoc]; rfl, by rw [List.flatten_append, show [X].flatten = X by simp]; exact E.out⟩, by simp [intOf]; omega⟩
end Go.Proofs.YtcgbgmbnagmohaaGreat
