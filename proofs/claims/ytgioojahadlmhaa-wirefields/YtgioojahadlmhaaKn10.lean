/- What keywardlaw10's known answers: true. -/
import Derived.Test.YtgioojahadlmhaaPr2
import Derived.Test.YtgioojahadlmhaaPrC
import Derived.Test.YtgioojahadlmhaaPw6
import Derived.Test.YtgioojahadlmhaaEqS
namespace Go.Proofs.Ytgioojahadlmhaa
open Go.RowKit
set_option maxRecDepth 20000
attribute [local irreducible] wpList

theorem enters_rpre : Enters 93 := enters_of Try.func93 (by kernel_rfl) rfl
set_option maxHeartbeats 8000000 in
theorem rpre_any (B p : Nat) (b : List (BitVec 8)) (i i' : Nat) (e' : Int) (x : MPk) (u : World) (H : pkM b (i, 0) = ((i', e'), x)) (R : RdS B p b i u) : Calls Try.prog 93 #[.pointer (some ⟨p, 0, none⟩)] u (RPost B p b u (i', e') fun v _ => v = .agg (pkC x).toArray ∧ x.key.length = 32) := by
  rcases H1 : nM b 1099511627776 (i, 0) with ⟨⟨i1, e1⟩, x1⟩
  rcases H2 : kM 32 b (i1, e1) with ⟨⟨i2, e2⟩, x2⟩
  have S2 : Hid (e1 ≠ 0 → e2 = e1) := Lib.hid fun h => by have q := kM_stay (n := 32) (b := b) (i := i1) h; rw [H2] at q; exact congrArg Prod.snd q
  simp only [pkM, H1, H2, Prod.mk.injEq] at H
  obtain ⟨⟨rfl, rfl⟩, rfl⟩ := H
  have E := Lib.hid (Rm.start R)
  clear R
  go_enter Try.func93, Try.ntmps93
  go_upto_region 0 with fail; refine wp_region_lit ?_
  refine wpList_val (run_alc (vs := pkR ((.int .i64 0)) (z8 32)) rfl (by kernel_rfl)) rfl ?_; (try simp only [Act.put, List.setIfInBounds_toArray, List.set_cons_zero, List.set_cons_succ])
  replace E := Lib.hid (E.out.new (pkR ((.int .i64 0)) (z8 32)) 42)
  generalize u.alloc (.cells (pkR ((.int .i64 0)) (z8 32)).toArray 42) = a1 at *
  obtain ⟨g2, hg0⟩ : ∃ k, k = u.heap.size := ⟨_, rfl⟩
  rw [← hg0] at E ⊢
  clear hg0
  refine wpList_end ?_
  go_upto_region 1 with fail; refine wp_region_lit ?_
  refine wpList_val (run_mv (v := .pointer (some ⟨p, 0, none⟩)) rfl rfl) rfl ?_; (try simp only [Act.put, List.setIfInBounds_toArray, List.set_cons_zero, List.set_cons_succ])
  refine wpList_callP (run_call1 enters_rnum rfl rfl rfl) rfl (rnum_any B p b i i1 e1 x1 _ H1 E.out.rd) (fun v1 a3 hs hk hr hT => ?_) (fun a3 hs hk => ?pana3)
  case pana3 =>
    go_wp2_with fail
    replace hs : e1 ≠ 0 := hs
    have t2 := S2.out
    have q : e2 = e1 := by omega
    exact ⟨rfl, E.out.panic hk, .inr ⟨by rw [q]; exact hs, by simp only [q]⟩⟩
  (try simp only [Act.put, List.setIfInBounds_toArray, List.set_cons_zero, List.set_cons_succ])
  replace hs : e1 = 0 := hs
  subst hs
  subst hT
  replace E := Lib.hid (E.out.call hk hr (H0 := fun _ => True) (fun _ _ => trivial))
  clear hk hr
  refine wpList_val (run_mv (v := .pointer (some ⟨p, 0, none⟩)) rfl rfl) rfl ?_; (try simp only [Act.put, List.setIfInBounds_toArray, List.set_cons_zero, List.set_cons_succ])
  refine wpList_callP (run_call1 enters_rkey rfl rfl rfl) rfl (rkey_any B p b i1 i2 e2 x2 _ H2 E.out.rd) (fun v2 a4 hs hk hr hT => ?_) (fun a4 hs hk => ?pana4)
  case pana4 =>
    go_wp2_with fail
    exact ⟨rfl, E.out.panic hk, .inr ⟨hs, rfl⟩⟩
  (try simp only [Act.put, List.setIfInBounds_toArray, List.set_cons_zero, List.set_cons_succ])
  replace hs : e2 = 0 := hs
  subst hs
  obtain ⟨rfl, l2⟩ := hT
  replace E := Lib.hid (E.out.call hk hr (H0 := fun _ => True) (fun _ _ => trivial))
  clear hk hr
  refine wpList_val (run_bldP (cells := (pkR (.int .i64 x1) (x2.map b8)).toArray) (ps := [(0, .int .i64 x1), (1, .agg (x2.map b8).toArray)]) rfl rfl (pkR_all rfl (by rw [List.length_map, l2]))) rfl ?_; (try simp only [Act.put, List.setIfInBounds_toArray, List.set_cons_zero, List.set_cons_succ])
  refine wpList_skip (run_stM (vs := pkR (.int .i64 x1) (x2.map b8)) rfl (szR (pkR_len (by rw [List.length_map, l2])) (by kernel_rfl)) rfl rfl (One.all (pkR_one rfl (One.b8 _))) ((E.out.get (i := 0) rfl).thereM (by have q1 : (pkR (.int .i64 x1) (x2.map b8)).length = 33 := (pkR_len (by rw [List.length_map, l2])); have q2 : (pkR ((.int .i64 0)) (z8 32)).length = 33 := (pkR_len (z8_lenR 32)); omega))) rfl rfl ?_
  replace E := Lib.hid (E.out.put 0 rfl (m := pkR (.int .i64 x1) (x2.map b8)) ((show (pkR (.int .i64 x1) (x2.map b8)).length = 33 from (pkR_len (by rw [List.length_map, l2]))).trans (show (pkR ((.int .i64 0)) (z8 32)).length = 33 from (pkR_len (z8_lenR 32))).symm))
  generalize a4.setCells g2 0 (pkR (.int .i64 x1) (x2.map b8)) = a5 at *
  replace E := Lib.hid (show Rm _ _ _ _ _ [(g2, pkR (.int .i64 x1) (x2.map b8))] _ a5 from E.out)
  refine wpList_end ?_
  go_wp2_with fail
  exact bodyPost_ret (v := .agg (pkR (.int .i64 x1) (x2.map b8)).toArray) (results_rowB Try.results93 rfl Try.underlying42 rfl (szR (pkR_len (by rw [List.length_map, l2])) (by kernel_rfl)) (E.out.get (i := 0) rfl).range) rfl ⟨E.out.kp, .inl ⟨(by first | rfl | exact hs), E.out.rd, _, rfl, (by first | exact ⟨by rw [pkC_row], l2⟩ | rw [pkC_row] | simp [pkC_row, l2])⟩⟩
theorem enters_rent : Enters 104 := enters_of Try.func104 (by kernel_rfl) rfl
set_option maxHeartbeats 8000000 in
theorem rent_any (B p : Nat) (b : List (BitVec 8)) (i i' : Nat) (e' : Int) (x : MPk) (u : World) (H : pkM b (i, 0) = ((i', e'), x)) (R : RdS B p b i u) : Calls Try.prog 104 #[.pointer (some ⟨p, 0, none⟩)] u (RPost B p b u (i', e') fun v _ => v = .agg (pkC x).toArray ∧ x.key.length = 32) := by
  rcases H1 : nM b 1099511627776 (i, 0) with ⟨⟨i1, e1⟩, x1⟩
  rcases H2 : kM 32 b (i1, e1) with ⟨⟨i2, e2⟩, x2⟩
  have S2 : Hid (e1 ≠ 0 → e2 = e1) := Lib.hid fun h => by have q := kM_stay (n := 32) (b := b) (i := i1) h; rw [H2] at q; exact congrArg Prod.snd q
  simp only [pkM, H1, H2, Prod.mk.injEq] at H
  obtain ⟨⟨rfl, rfl⟩, rfl⟩ := H
  have E := Lib.hid (Rm.start R)
  clear R
  go_enter Try.func104, Try.ntmps104
  go_upto_region 0 with fail; refine wp_region_lit ?_
  refine wpList_val (run_alc (vs := enR ((.int .i64 0)) (z8 32)) rfl (by kernel_rfl)) rfl ?_; (try simp only [Act.put, List.setIfInBounds_toArray, List.set_cons_zero, List.set_cons_succ])
  replace E := Lib.hid (E.out.new (enR ((.int .i64 0)) (z8 32)) 123)
  generalize u.alloc (.cells (enR ((.int .i64 0)) (z8 32)).toArray 123) = a1 at *
  obtain ⟨g2, hg0⟩ : ∃ k, k = u.heap.size := ⟨_, rfl⟩
  rw [← hg0] at E ⊢
  clear hg0
  refine wpList_end ?_
  go_upto_region 1 with fail; refine wp_region_lit ?_
  refine wpList_val (run_mv (v := .pointer (some ⟨p, 0, none⟩)) rfl rfl) rfl ?_; (try simp only [Act.put, List.setIfInBounds_toArray, List.set_cons_zero, List.set_cons_succ])
  refine wpList_callP (run_call1 enters_rnum rfl rfl rfl) rfl (rnum_any B p b i i1 e1 x1 _ H1 E.out.rd) (fun v1 a3 hs hk hr hT => ?_) (fun a3 hs hk => ?pana3)
  case pana3 =>
    go_wp2_with fail
    replace hs : e1 ≠ 0 := hs
    have t2 := S2.out
    have q : e2 = e1 := by omega
    exact ⟨rfl, E.out.panic hk, .inr ⟨by rw [q]; exact hs, by simp only [q]⟩⟩
  (try simp only [Act.put, List.setIfInBounds_toArray, List.set_cons_zero, List.set_cons_succ])
  replace hs : e1 = 0 := hs
  subst hs
  subst hT
  replace E := Lib.hid (E.out.call hk hr (H0 := fun _ => True) (fun _ _ => trivial))
  clear hk hr
  refine wpList_val (run_mv (v := .pointer (some ⟨p, 0, none⟩)) rfl rfl) rfl ?_; (try simp only [Act.put, List.setIfInBounds_toArray, List.set_cons_zero, List.set_cons_succ])
  refine wpList_callP (run_call1 enters_rkey rfl rfl rfl) rfl (rkey_any B p b i1 i2 e2 x2 _ H2 E.out.rd) (fun v2 a4 hs hk hr hT => ?_) (fun a4 hs hk => ?pana4)
  case pana4 =>
    go_wp2_with fail
    exact ⟨rfl, E.out.panic hk, .inr ⟨hs, rfl⟩⟩
  (try simp only [Act.put, List.setIfInBounds_toArray, List.set_cons_zero, List.set_cons_succ])
  replace hs : e2 = 0 := hs
  subst hs
  obtain ⟨rfl, l2⟩ := hT
  replace E := Lib.hid (E.out.call hk hr (H0 := fun _ => True) (fun _ _ => trivial))
  clear hk hr
  refine wpList_val (run_bldP (cells := (enR (.int .i64 x1) (x2.map b8)).toArray) (ps := [(0, .int .i64 x1), (1, .agg (x2.map b8).toArray)]) rfl rfl (enR_all rfl (by rw [List.length_map, l2]))) rfl ?_; (try simp only [Act.put, List.setIfInBounds_toArray, List.set_cons_zero, List.set_cons_succ])
  refine wpList_skip (run_stM (vs := enR (.int .i64 x1) (x2.map b8)) rfl (szR (enR_len (by rw [List.length_map, l2])) (by kernel_rfl)) rfl rfl (One.all (enR_one rfl (One.b8 _))) ((E.out.get (i := 0) rfl).thereM (by have q1 : (enR (.int .i64 x1) (x2.map b8)).length = 33 := (enR_len (by rw [List.length_map, l2])); have q2 : (enR ((.int .i64 0)) (z8 32)).length = 33 := (enR_len (z8_lenR 32)); omega))) rfl rfl ?_
  replace E := Lib.hid (E.out.put 0 rfl (m := enR (.int .i64 x1) (x2.map b8)) ((show (enR (.int .i64 x1) (x2.map b8)).length = 33 from (enR_len (by rw [List.length_map, l2]))).trans (show (enR ((.int .i64 0)) (z8 32)).length = 33 from (enR_len (z8_lenR 32))).symm))
  generalize a4.setCells g2 0 (enR (.int .i64 x1) (x2.map b8)) = a5 at *
  replace E := Lib.hid (show Rm _ _ _ _ _ [(g2, enR (.int .i64 x1) (x2.map b8))] _ a5 from E.out)
  refine wpList_end ?_
  go_wp2_with fail
  exact bodyPost_ret (v := .agg (enR (.int .i64 x1) (x2.map b8)).toArray) (results_rowB Try.results104 rfl Try.underlying123 rfl (szR (enR_len (by rw [List.length_map, l2])) (by kernel_rfl)) (E.out.get (i := 0) rfl).range) rfl ⟨E.out.kp, .inl ⟨(by first | rfl | exact hs), E.out.rd, _, rfl, (by first | exact ⟨by rw [pkC_en], l2⟩ | rw [pkC_en] | simp [pkC_en, l2])⟩⟩
theorem enters_rhdr : Enters 117 := enters_of Try.func117 (by kernel_rfl) rfl
set_option maxHeartbeats 8000000 in
theorem rhdr_any (B p : Nat) (b : List (BitVec 8)) (i i' : Nat) (e' : Int) (x : MHd) (u : World) (H : hdM b (i, 0) = ((i', e'), x)) (R : RdS B p b i u) : Calls Try.prog 117 #[.pointer (some ⟨p, 0, none⟩)] u (RPost B p b u (i', e') fun v _ => v = .agg (hdC x).toArray ∧ x.r.length = 32) := by
  rcases H1 : kM 32 b (i, 0) with ⟨⟨i1, e1⟩, x1⟩
  rcases H2 : nM b 1099511627776 (i1, e1) with ⟨⟨i2, e2⟩, x2⟩
  have S2 : Hid (e1 ≠ 0 → e2 = e1) := Lib.hid fun h => by have q := nM_stay (most := 1099511627776) (b := b) (i := i1) h; rw [H2] at q; exact congrArg Prod.snd q
  rcases H3 : nM b 1099511627776 (i2, e2) with ⟨⟨i3, e3⟩, x3⟩
  have S3 : Hid (e2 ≠ 0 → e3 = e2) := Lib.hid fun h => by have q := nM_stay (most := 1099511627776) (b := b) (i := i2) h; rw [H3] at q; exact congrArg Prod.snd q
  simp only [hdM, H1, H2, H3, Prod.mk.injEq] at H
  obtain ⟨⟨rfl, rfl⟩, rfl⟩ := H
  have E := Lib.hid (Rm.start R)
  clear R
  go_enter Try.func117, Try.ntmps117
  go_upto_region 0 with fail; refine wp_region_lit ?_
  refine wpList_val (run_alc (vs := hdR (z8 32) ((.int .i64 0)) ((.int .i64 0))) rfl (by kernel_rfl)) rfl ?_; (try simp only [Act.put, List.setIfInBounds_toArray, List.set_cons_zero, List.set_cons_succ])
  replace E := Lib.hid (E.out.new (hdR (z8 32) ((.int .i64 0)) ((.int .i64 0))) 62)
  generalize u.alloc (.cells (hdR (z8 32) ((.int .i64 0)) ((.int .i64 0))).toArray 62) = a1 at *
  obtain ⟨g2, hg0⟩ : ∃ k, k = u.heap.size := ⟨_, rfl⟩
  rw [← hg0] at E ⊢
  clear hg0
  refine wpList_end ?_
  go_upto_region 1 with fail; refine wp_region_lit ?_
  refine wpList_val (run_mv (v := .pointer (some ⟨p, 0, none⟩)) rfl rfl) rfl ?_; (try simp only [Act.put, List.setIfInBounds_toArray, List.set_cons_zero, List.set_cons_succ])
  refine wpList_callP (run_call1 enters_rkey rfl rfl rfl) rfl (rkey_any B p b i i1 e1 x1 _ H1 E.out.rd) (fun v1 a3 hs hk hr hT => ?_) (fun a3 hs hk => ?pana3)
  case pana3 =>
    go_wp2_with fail
    replace hs : e1 ≠ 0 := hs
    have t2 := S2.out
    have t3 := S3.out
    have q : e3 = e1 := by omega
    exact ⟨rfl, E.out.panic hk, .inr ⟨by rw [q]; exact hs, by simp only [q]⟩⟩
  (try simp only [Act.put, List.setIfInBounds_toArray, List.set_cons_zero, List.set_cons_succ])
  replace hs : e1 = 0 := hs
  subst hs
  obtain ⟨rfl, l1⟩ := hT
  replace E := Lib.hid (E.out.call hk hr (H0 := fun _ => True) (fun _ _ => trivial))
  clear hk hr
  refine wpList_val (run_mv (v := .pointer (some ⟨p, 0, none⟩)) rfl rfl) rfl ?_; (try simp only [Act.put, List.setIfInBounds_toArray, List.set_cons_zero, List.set_cons_succ])
  refine wpList_callP (run_call1 enters_rnum rfl rfl rfl) rfl (rnum_any B p b i1 i2 e2 x2 _ H2 E.out.rd) (fun v2 a4 hs hk hr hT => ?_) (fun a4 hs hk => ?pana4)
  case pana4 =>
    go_wp2_with fail
    replace hs : e2 ≠ 0 := hs
    have t3 := S3.out
    have q : e3 = e2 := by omega
    exact ⟨rfl, E.out.panic hk, .inr ⟨by rw [q]; exact hs, by simp only [q]⟩⟩
  (try simp only [Act.put, List.setIfInBounds_toArray, List.set_cons_zero, List.set_cons_succ])
  replace hs : e2 = 0 := hs
  subst hs
  subst hT
  replace E := Lib.hid (E.out.call hk hr (H0 := fun _ => True) (fun _ _ => trivial))
  clear hk hr
  refine wpList_val (run_mv (v := .pointer (some ⟨p, 0, none⟩)) rfl rfl) rfl ?_; (try simp only [Act.put, List.setIfInBounds_toArray, List.set_cons_zero, List.set_cons_succ])
  refine wpList_callP (run_call1 enters_rnum rfl rfl rfl) rfl (rnum_any B p b i2 i3 e3 x3 _ H3 E.out.rd) (fun v3 a5 hs hk hr hT => ?_) (fun a5 hs hk => ?pana5)
  case pana5 =>
    go_wp2_with fail
    exact ⟨rfl, E.out.panic hk, .inr ⟨hs, rfl⟩⟩
  (try simp only [Act.put, List.setIfInBounds_toArray, List.set_cons_zero, List.set_cons_succ])
  replace hs : e3 = 0 := hs
  subst hs
  subst hT
  replace E := Lib.hid (E.out.call hk hr (H0 := fun _ => True) (fun _ _ => trivial))
  clear hk hr
  refine wpList_val (run_bldP (cells := (hdR (x1.map b8) (.int .i64 x2) (.int .i64 x3)).toArray) (ps := [(0, .agg (x1.map b8).toArray), (1, .int .i64 x2), (2, .int .i64 x3)]) rfl rfl (hdR_all (by rw [List.length_map, l1]) rfl rfl)) rfl ?_; (try simp only [Act.put, List.setIfInBounds_toArray, List.set_cons_zero, List.set_cons_succ])
  refine wpList_skip (run_stM (vs := hdR (x1.map b8) (.int .i64 x2) (.int .i64 x3)) rfl (szR (hdR_len (by rw [List.length_map, l1])) (by kernel_rfl)) rfl rfl (One.all (hdR_one (One.b8 _) rfl rfl)) ((E.out.get (i := 0) rfl).thereM (by have q1 : (hdR (x1.map b8) (.int .i64 x2) (.int .i64 x3)).length = 34 := (hdR_len (by rw [List.length_map, l1])); have q2 : (hdR (z8 32) ((.int .i64 0)) ((.int .i64 0))).length = 34 := (hdR_len (z8_lenR 32)); omega))) rfl rfl ?_
  replace E := Lib.hid (E.out.put 0 rfl (m := hdR (x1.map b8) (.int .i64 x2) (.int .i64 x3)) ((show (hdR (x1.map b8) (.int .i64 x2) (.int .i64 x3)).length = 34 from (hdR_len (by rw [List.length_map, l1]))).trans (show (hdR (z8 32) ((.int .i64 0)) ((.int .i64 0))).length = 34 from (hdR_len (z8_lenR 32))).symm))
  generalize a5.setCells g2 0 (hdR (x1.map b8) (.int .i64 x2) (.int .i64 x3)) = a6 at *
  replace E := Lib.hid (show Rm _ _ _ _ _ [(g2, hdR (x1.map b8) (.int .i64 x2) (.int .i64 x3))] _ a6 from E.out)
  refine wpList_end ?_
  go_wp2_with fail
  exact bodyPost_ret (v := .agg (hdR (x1.map b8) (.int .i64 x2) (.int .i64 x3)).toArray) (results_rowB Try.results117 rfl Try.underlying62 rfl (szR (hdR_len (by rw [List.length_map, l1])) (by kernel_rfl)) (E.out.get (i := 0) rfl).range) rfl ⟨E.out.kp, .inl ⟨(by first | rfl | exact hs), E.out.rd, _, rfl, (by first | exact ⟨by rw [hdC_row], l1⟩ | rw [hdC_row] | simp [hdC_row, l1])⟩⟩
theorem enters_ralP : Enters 95 := enters_of Try.func95 (by kernel_rfl) rfl
set_option maxHeartbeats 8000000 in
theorem ralP_any (B p : Nat) (b : List (BitVec 8)) (i i' : Nat) (e' : Int) (x : List MPk) (u : World) (H : psM b (i, 0) = ((i', e'), x)) (R : RdS B p b i u) : Calls Try.prog 95 #[.pointer (some ⟨p, 0, none⟩), .func (.func 93) #[] #[]] u (RPost B p b u (i', e') fun v u' => ∃ a c, v = .slice a x.length c ∧ Fro u.heap.size (SlR 33 pkAt x a c) u') := by
  rcases HN : nM b 60000 (i, 0) with ⟨⟨i0, e0⟩, N⟩
  have hn0 := nM_num (b := b) (most := 60000) (s := (i, 0)) (by omega)
  rw [HN] at hn0
  obtain ⟨n, hn⟩ : ∃ n : Nat, N = (n : Int) := ⟨N.toNat, by omega⟩
  subst hn
  have hnn : n ≤ 60000 := by have := hn0.2; simp only at this; omega
  clear hn0
  simp only [psM, HN, Int.toNat_natCast] at H
  have S1 : Hid (e0 ≠ 0 → e' = e0) := Lib.hid fun h => by rw [rowsM_err _ _ (by exact h)] at H; exact (congrArg (fun z => z.1.2) H).symm
  have HH := Lib.hid H
  have HR := Lib.hid R
  clear H R
  go_enter Try.func95, Try.ntmps95
  go_upto_region 0 with fail; refine wp_region_lit ?_
  refine wpList_val (run_asg (v := .slice none 0 0) rfl rfl) rfl ?_; (try simp only [Act.put, List.setIfInBounds_toArray, List.set_cons_zero, List.set_cons_succ])
  refine wpList_end ?_
  go_upto_region 1 with fail; refine wp_region_lit ?_
  refine wpList_val (run_asg (v := .slice none 0 0) rfl rfl) rfl ?_; (try simp only [Act.put, List.setIfInBounds_toArray, List.set_cons_zero, List.set_cons_succ])
  refine wpList_end ?_
  have E := Lib.hid ((Rg.start HR.out 42 33).know (H0 := LR pkAt [] []) fun V _ => LR.nil V)
  go_upto_region 2 with fail; refine wp_region_lit ?_
  refine wpList_val (run_mv (v := .pointer (some ⟨p, 0, none⟩)) rfl rfl) rfl ?_; (try simp only [Act.put, List.setIfInBounds_toArray, List.set_cons_zero, List.set_cons_succ])
  refine wpList_callP (run_call1 enters_rcnt rfl rfl rfl) rfl (rcnt_any B p b i i0 e0 _ _ HN E.out.rd) (fun v a1 hs hk hr hT => ?_) (fun a1 hs hk => ?pana1)
  case pana1 =>
    go_wp2_with fail
    have q := S1.out hs
    exact ⟨rfl, E.out.kp.trans hk, .inr ⟨by rw [q]; exact hs, by simp only [q]⟩⟩
  (try simp only [Act.put, List.setIfInBounds_toArray, List.set_cons_zero, List.set_cons_succ])
  subst hT
  replace hs : e0 = 0 := hs
  subst hs
  replace E := Lib.hid ((E.out.call hk hr (H0 := fun _ => True) fun _ _ => trivial).know (H0 := LR pkAt [] []) fun V h => h.2)
  clear hk hr S1 HR
  refine wpList_val (run_mv (v := .int .i64 0) rfl rfl) rfl ?_; (try simp only [Act.put, List.setIfInBounds_toArray, List.set_cons_zero, List.set_cons_succ])
  refine wpList_end ?_
  go_wp2_with fail
  go_loopw [5, 8] (fun s5 s8 a => ∃ (k q : Nat) (l : List MPk) (css : List (List Value)), s8 = .int .i64 (k : Int) ∧ k ≤ n ∧ k = l.length ∧ (∀ y ∈ css, y.length = 33) ∧ (rowsM (pkM b) n (i0, 0) = ((rowsM (pkM b) (n - k) (q, 0)).1, l ++ (rowsM (pkM b) (n - k) (q, 0)).2)) ∧ Rg u B p b q 42 33 s5 k css.flatten (LR pkAt l css) a) (fun _ s8 _ => ((n : Int) - intOf s8).toNat)
  case atStart => exact ⟨0, i0, [], [], rfl, by omega, rfl, (fun _ h => by cases h), by simp, E.out⟩
  case round =>
    obtain ⟨k, q, l, css, rfl, hkn, hkl, hq, hrow, hJ⟩ := hrel
    replace E := Lib.hid hJ
    have HQ := Lib.hid hq
    have HRW := Lib.hid hrow
    clear hJ hq hrow
    by_cases hkn2 : k = n
    · subst hkn2
      have HX : Hid (((i', e'), x) = ((q, (0 : Int)), l)) := Lib.hid (by rw [← HH.out, HRW.out, Nat.sub_self, rowsM_zero, List.append_nil])
      simp only [Prod.mk.injEq] at HX
      obtain ⟨⟨rfl, rfl⟩, rfl⟩ := HX.out
      go_upto_region 3 with fail; refine wp_region_lit ?_
      refine wpList_val (run_lssb (c := false) rfl rfl rfl (decide_eq_false (by omega))) rfl ?_; (try simp only [Act.put, List.setIfInBounds_toArray, List.set_cons_zero, List.set_cons_succ])
      refine wpList_end ?_
      go_upto_region 6 with fail; refine wp_region_lit ?_
      refine wpList_val (run_mv (v := u5) rfl rfl) rfl ?_; (try simp only [Act.put, List.setIfInBounds_toArray, List.set_cons_zero, List.set_cons_succ])
      refine wpList_val (run_asg (v := u5) rfl rfl) rfl ?_; (try simp only [Act.put, List.setIfInBounds_toArray, List.set_cons_zero, List.set_cons_succ])
      refine wpList_end ?_
      have HF : Hid (Fro u.heap.size (fun V => ∃ a' c', u5 = .slice a' x.length c' ∧ SlR 33 pkAt x a' c' V) wr) := Lib.hid fun V hV => slR_own (E.out.tell V hV).1 hkl (E.out.tell V hV).2.1 HQ.out (E.out.tell V hV).2.2
      obtain ⟨a', c', hv6, hS0⟩ := HF.out.now
      subst hv6
      have HF2 : Hid (Fro u.heap.size (SlR 33 pkAt x a' c') wr) := Lib.hid fun V hV => by
        obtain ⟨a2, c2, h1, h2⟩ := HF.out V hV
        simp only [Value.slice.injEq] at h1
        obtain ⟨rfl, _, rfl⟩ := h1
        exact h2
      go_wp2_with fail
      exact bodyPost_ret (results_tmp Try.results95 _ _ _) rfl ⟨E.out.kp, .inl ⟨rfl, E.out.rd, _, rfl, _, _, rfl, HF2.out⟩⟩
    · obtain ⟨m, hm⟩ : ∃ m, n - k = m + 1 := ⟨n - k - 1, by omega⟩
      have hr2 := HRW.out
      rw [hm, rowsM_step _ _ rfl] at hr2
      rcases HG : pkM b (q, 0) with ⟨⟨q1, e1⟩, y⟩
      rw [HG] at hr2
      have S2 : Hid (e1 ≠ 0 → e' = e1) := Lib.hid fun h => by have h9 := HH.out; rw [hr2, rowsM_err _ _ (by exact h)] at h9; exact (congrArg (fun z => z.1.2) h9).symm
      replace HRW := Lib.hid hr2
      clear hr2
      go_upto_region 3 with fail; refine wp_region_lit ?_
      refine wpList_val (run_lssb (c := true) rfl rfl rfl (decide_eq_true (by omega))) rfl ?_; (try simp only [Act.put, List.setIfInBounds_toArray, List.set_cons_zero, List.set_cons_succ])
      refine wpList_end ?_
      go_upto_region 4 with fail; refine wp_region_lit ?_
      refine wpList_val (run_mv (v := u5) rfl rfl) rfl ?_; (try simp only [Act.put, List.setIfInBounds_toArray, List.set_cons_zero, List.set_cons_succ])
      refine wpList_val (run_mv (v := .func (.func 93) #[] #[]) rfl rfl) rfl ?_; (try simp only [Act.put, List.setIfInBounds_toArray, List.set_cons_zero, List.set_cons_succ])
      refine wpList_val (run_mv (v := .pointer (some ⟨p, 0, none⟩)) rfl rfl) rfl ?_; (try simp only [Act.put, List.setIfInBounds_toArray, List.set_cons_zero, List.set_cons_succ])
      refine wpList_callP (run_callv1 enters_rpre rfl rfl rfl) rfl (rpre_any B p b q q1 e1 y _ HG E.out.rd) (fun v3 a3 hs hk hr hT => ?_) (fun a3 hs hk => ?pana3)
      case pana3 =>
        go_wp2_with fail
        have q := S2.out hs
        exact ⟨rfl, E.out.kp.trans hk, .inr ⟨by rw [q]; exact hs, by simp only [q]⟩⟩
      (try simp only [Act.put, List.setIfInBounds_toArray, List.set_cons_zero, List.set_cons_succ])
      replace hs : e1 = 0 := hs
      subst hs
      obtain ⟨rfl, hl3⟩ := hT
      obtain ⟨X, hX⟩ : ∃ X, X = pkC y := ⟨_, rfl⟩
      rw [← hX]
      have lX : X.length = 33 := by rw [hX]; exact pkC_len' hl3
      have oX : One X := by rw [hX]; exact pkC_one hl3
      have fX : Fro wr.heap.size (pkAt y X) a3 := fun _ _ => hX
      replace E := Lib.hid (E.out.call hk hr (H0 := pkAt y X) fX)
      clear hk hr S2
      refine wpList_val (run_bsl1 (m := X) (z := 33) (zv := .agg ([.int .i64 0] ++ List.replicate 32 (.int .u8 0) : List Value).toArray) rfl Try.underlying43 (by kernel_rfl) rfl lX (by omega) (by omega)) rfl ?_; (try simp only [Act.put, List.setIfInBounds_toArray, List.set_cons_zero, List.set_cons_succ])
      have A2 := Lib.hid (Arr.new a3 X 42)
      replace E := Lib.hid (E.out.below ((Below.refl a3.heap.size a3).alloc (Nat.le_refl _) (.cells X.toArray 42)))
      generalize a3.alloc (.cells X.toArray 42) = b1 at *
      generalize a3.heap.size = g0 at *
      refine wpList_growR (t := 43) (bw := 40) (zv := .agg ([.int .i64 0] ++ List.replicate 32 (.int .u8 0) : List Value).toArray) (z := 33) rfl rfl Try.underlying43 (by kernel_rfl) rfl (by omega) rfl rfl A2.out.range lX oX (by omega) (by omega) E.out (fun v7 b2 hG => ?_); (try simp only [Act.put, List.setIfInBounds_toArray, List.set_cons_zero, List.set_cons_succ])
      replace E := Lib.hid (hG.know (H0 := LR pkAt (l ++ [y]) (css ++ [X])) fun V h => h.2.snoc h.1)
      clear hG A2
      refine wpList_val (run_asg (v := v7) rfl rfl) rfl ?_; (try simp only [Act.put, List.setIfInBounds_toArray, List.set_cons_zero, List.set_cons_succ])
      refine wpList_end ?_
      go_upto_region 5 with fail; refine wp_region_lit ?_
      refine wpList_val (run_addN (a := k) (b := 1) rfl rfl rfl (by omega)) rfl ?_; (try simp only [Act.put, List.setIfInBounds_toArray, List.set_cons_zero, List.set_cons_succ])
      refine wpList_val (run_mv (v := .int .i64 ((k + 1 : Nat) : Int)) rfl rfl) rfl ?_; (try simp only [Act.put, List.setIfInBounds_toArray, List.set_cons_zero, List.set_cons_succ])
      refine wpList_end ?_
      go_wp2_with fail
      exact ⟨⟨k + 1, q1, l ++ [y], css ++ [X], rfl, by omega, by rw [List.length_append, ← hkl]; rfl, (fun z hz => (List.mem_append.1 hz).elim (HQ.out z) fun h => by rw [List.mem_singleton.1 h]; exact lX), by rw [HRW.out, show n - (k + 1) = m by omega, List.append_assoc]; rfl, by rw [List.flatten_append, show [X].flatten = X by simp]; exact E.out⟩, by simp [intOf]; omega⟩
theorem enters_ralE : Enters 103 := enters_of Try.func103 (by kernel_rfl) rfl
set_option maxHeartbeats 8000000 in
theorem ralE_any (B p : Nat) (b : List (BitVec 8)) (i i' : Nat) (e' : Int) (x : List MPk) (u : World) (H : enM b (i, 0) = ((i', e'), x)) (R : RdS B p b i u) : Calls Try.prog 103 #[.pointer (some ⟨p, 0, none⟩), .func (.func 104) #[] #[]] u (RPost B p b u (i', e') fun v u' => ∃ a c, v = .slice a x.length c ∧ Fro u.heap.size (SlR 33 pkAt x a c) u') := by
  rcases HN : nM b 60000 (i, 0) with ⟨⟨i0, e0⟩, N⟩
  have hn0 := nM_num (b := b) (most := 60000) (s := (i, 0)) (by omega)
  rw [HN] at hn0
  obtain ⟨n, hn⟩ : ∃ n : Nat, N = (n : Int) := ⟨N.toNat, by omega⟩
  subst hn
  have hnn : n ≤ 60000 := by have := hn0.2; simp only at this; omega
  clear hn0
  simp only [enM, HN, Int.toNat_natCast] at H
  have S1 : Hid (e0 ≠ 0 → e' = e0) := Lib.hid fun h => by rw [rowsM_err _ _ (by exact h)] at H; exact (congrArg (fun z => z.1.2) H).symm
  have HH := Lib.hid H
  have HR := Lib.hid R
  clear H R
  go_enter Try.func103, Try.ntmps103
  go_upto_region 0 with fail; refine wp_region_lit ?_
  refine wpList_val (run_asg (v := .slice none 0 0) rfl rfl) rfl ?_; (try simp only [Act.put, List.setIfInBounds_toArray, List.set_cons_zero, List.set_cons_succ])
  refine wpList_end ?_
  go_upto_region 1 with fail; refine wp_region_lit ?_
  refine wpList_val (run_asg (v := .slice none 0 0) rfl rfl) rfl ?_; (try simp only [Act.put, List.setIfInBounds_toArray, List.set_cons_zero, List.set_cons_succ])
  refine wpList_end ?_
  have E := Lib.hid ((Rg.start HR.out 123 33).know (H0 := LR pkAt [] []) fun V _ => LR.nil V)
  go_upto_region 2 with fail; refine wp_region_lit ?_
  refine wpList_val (run_mv (v := .pointer (some ⟨p, 0, none⟩)) rfl rfl) rfl ?_; (try simp only [Act.put, List.setIfInBounds_toArray, List.set_cons_zero, List.set_cons_succ])
  refine wpList_callP (run_call1 enters_rcnt rfl rfl rfl) rfl (rcnt_any B p b i i0 e0 _ _ HN E.out.rd) (fun v a1 hs hk hr hT => ?_) (fun a1 hs hk => ?pana1)
  case pana1 =>
    go_wp2_with fail
    have q := S1.out hs
    exact ⟨rfl, E.out.kp.trans hk, .inr ⟨by rw [q]; exact hs, by simp only [q]⟩⟩
  (try simp only [Act.put, List.setIfInBounds_toArray, List.set_cons_zero, List.set_cons_succ])
  subst hT
  replace hs : e0 = 0 := hs
  subst hs
  replace E := Lib.hid ((E.out.call hk hr (H0 := fun _ => True) fun _ _ => trivial).know (H0 := LR pkAt [] []) fun V h => h.2)
  clear hk hr S1 HR
  refine wpList_val (run_mv (v := .int .i64 0) rfl rfl) rfl ?_; (try simp only [Act.put, List.setIfInBounds_toArray, List.set_cons_zero, List.set_cons_succ])
  refine wpList_end ?_
  go_wp2_with fail
  go_loopw [5, 8] (fun s5 s8 a => ∃ (k q : Nat) (l : List MPk) (css : List (List Value)), s8 = .int .i64 (k : Int) ∧ k ≤ n ∧ k = l.length ∧ (∀ y ∈ css, y.length = 33) ∧ (rowsM (pkM b) n (i0, 0) = ((rowsM (pkM b) (n - k) (q, 0)).1, l ++ (rowsM (pkM b) (n - k) (q, 0)).2)) ∧ Rg u B p b q 123 33 s5 k css.flatten (LR pkAt l css) a) (fun _ s8 _ => ((n : Int) - intOf s8).toNat)
  case atStart => exact ⟨0, i0, [], [], rfl, by omega, rfl, (fun _ h => by cases h), by simp, E.out⟩
  case round =>
    obtain ⟨k, q, l, css, rfl, hkn, hkl, hq, hrow, hJ⟩ := hrel
    replace E := Lib.hid hJ
    have HQ := Lib.hid hq
    have HRW := Lib.hid hrow
    clear hJ hq hrow
    by_cases hkn2 : k = n
    · subst hkn2
      have HX : Hid (((i', e'), x) = ((q, (0 : Int)), l)) := Lib.hid (by rw [← HH.out, HRW.out, Nat.sub_self, rowsM_zero, List.append_nil])
      simp only [Prod.mk.injEq] at HX
      obtain ⟨⟨rfl, rfl⟩, rfl⟩ := HX.out
      go_upto_region 3 with fail; refine wp_region_lit ?_
      refine wpList_val (run_lssb (c := false) rfl rfl rfl (decide_eq_false (by omega))) rfl ?_; (try simp only [Act.put, List.setIfInBounds_toArray, List.set_cons_zero, List.set_cons_succ])
      refine wpList_end ?_
      go_upto_region 6 with fail; refine wp_region_lit ?_
      refine wpList_val (run_mv (v := u5) rfl rfl) rfl ?_; (try simp only [Act.put, List.setIfInBounds_toArray, List.set_cons_zero, List.set_cons_succ])
      refine wpList_val (run_asg (v := u5) rfl rfl) rfl ?_; (try simp only [Act.put, List.setIfInBounds_toArray, List.set_cons_zero, List.set_cons_succ])
      refine wpList_end ?_
      have HF : Hid (Fro u.heap.size (fun V => ∃ a' c', u5 = .slice a' x.length c' ∧ SlR 33 pkAt x a' c' V) wr) := Lib.hid fun V hV => slR_own (E.out.tell V hV).1 hkl (E.out.tell V hV).2.1 HQ.out (E.out.tell V hV).2.2
      obtain ⟨a', c', hv6, hS0⟩ := HF.out.now
      subst hv6
      have HF2 : Hid (Fro u.heap.size (SlR 33 pkAt x a' c') wr) := Lib.hid fun V hV => by
        obtain ⟨a2, c2, h1, h2⟩ := HF.out V hV
        simp only [Value.slice.injEq] at h1
        obtain ⟨rfl, _, rfl⟩ := h1
        exact h2
      go_wp2_with fail
      exact bodyPost_ret (results_tmp Try.results103 _ _ _) rfl ⟨E.out.kp, .inl ⟨rfl, E.out.rd, _, rfl, _, _, rfl, HF2.out⟩⟩
    · obtain ⟨m, hm⟩ : ∃ m, n - k = m + 1 := ⟨n - k - 1, by omega⟩
      have hr2 := HRW.out
      rw [hm, rowsM_step _ _ rfl] at hr2
      rcases HG : pkM b (q, 0) with ⟨⟨q1, e1⟩, y⟩
      rw [HG] at hr2
      have S2 : Hid (e1 ≠ 0 → e' = e1) := Lib.hid fun h => by have h9 := HH.out; rw [hr2, rowsM_err _ _ (by exact h)] at h9; exact (congrArg (fun z => z.1.2) h9).symm
      replace HRW := Lib.hid hr2
      clear hr2
      go_upto_region 3 with fail; refine wp_region_lit ?_
      refine wpList_val (run_lssb (c := true) rfl rfl rfl (decide_eq_true (by omega))) rfl ?_; (try simp only [Act.put, List.setIfInBounds_toArray, List.set_cons_zero, List.set_cons_succ])
      refine wpList_end ?_
      go_upto_region 4 with fail; refine wp_region_lit ?_
      refine wpList_val (run_mv (v := u5) rfl rfl) rfl ?_; (try simp only [Act.put, List.setIfInBounds_toArray, List.set_cons_zero, List.set_cons_succ])
      refine wpList_val (run_mv (v := .func (.func 104) #[] #[]) rfl rfl) rfl ?_; (try simp only [Act.put, List.setIfInBounds_toArray, List.set_cons_zero, List.set_cons_succ])
      refine wpList_val (run_mv (v := .pointer (some ⟨p, 0, none⟩)) rfl rfl) rfl ?_; (try simp only [Act.put, List.setIfInBounds_toArray, List.set_cons_zero, List.set_cons_succ])
      refine wpList_callP (run_callv1 enters_rent rfl rfl rfl) rfl (rent_any B p b q q1 e1 y _ HG E.out.rd) (fun v3 a3 hs hk hr hT => ?_) (fun a3 hs hk => ?pana3)
      case pana3 =>
        go_wp2_with fail
        have q := S2.out hs
        exact ⟨rfl, E.out.kp.trans hk, .inr ⟨by rw [q]; exact hs, by simp only [q]⟩⟩
      (try simp only [Act.put, List.setIfInBounds_toArray, List.set_cons_zero, List.set_cons_succ])
      replace hs : e1 = 0 := hs
      subst hs
      obtain ⟨rfl, hl3⟩ := hT
      obtain ⟨X, hX⟩ : ∃ X, X = pkC y := ⟨_, rfl⟩
      rw [← hX]
      have lX : X.length = 33 := by rw [hX]; exact pkC_len' hl3
      have oX : One X := by rw [hX]; exact pkC_one hl3
      have fX : Fro wr.heap.size (pkAt y X) a3 := fun _ _ => hX
      replace E := Lib.hid (E.out.call hk hr (H0 := pkAt y X) fX)
      clear hk hr S2
      refine wpList_val (run_bsl1 (m := X) (z := 33) (zv := .agg ([.int .i64 0] ++ List.replicate 32 (.int .u8 0) : List Value).toArray) rfl Try.underlying36 (by kernel_rfl) rfl lX (by omega) (by omega)) rfl ?_; (try simp only [Act.put, List.setIfInBounds_toArray, List.set_cons_zero, List.set_cons_succ])
      have A2 := Lib.hid (Arr.new a3 X 123)
      replace E := Lib.hid (E.out.below ((Below.refl a3.heap.size a3).alloc (Nat.le_refl _) (.cells X.toArray 123)))
      generalize a3.alloc (.cells X.toArray 123) = b1 at *
      generalize a3.heap.size = g0 at *
      refine wpList_growR (t := 36) (bw := 40) (zv := .agg ([.int .i64 0] ++ List.replicate 32 (.int .u8 0) : List Value).toArray) (z := 33) rfl rfl Try.underlying36 (by kernel_rfl) rfl (by omega) rfl rfl A2.out.range lX oX (by omega) (by omega) E.out (fun v7 b2 hG => ?_); (try simp only [Act.put, List.setIfInBounds_toArray, List.set_cons_zero, List.set_cons_succ])
      replace E := Lib.hid (hG.know (H0 := LR pkAt (l ++ [y]) (css ++ [X])) fun V h => h.2.snoc h.1)
      clear hG A2
      refine wpList_val (run_asg (v := v7) rfl rfl) rfl ?_; (try simp only [Act.put, List.setIfInBounds_toArray, List.set_cons_zero, List.set_cons_succ])
      refine wpList_end ?_
      go_upto_region 5 with fail; refine wp_region_lit ?_
      refine wpList_val (run_addN (a := k) (b := 1) rfl rfl rfl (by omega)) rfl ?_; (try simp only [Act.put, List.setIfInBounds_toArray, List.set_cons_zero, List.set_cons_succ])
      refine wpList_val (run_mv (v := .int .i64 ((k + 1 : Nat) : Int)) rfl rfl) rfl ?_; (try simp only [Act.put, List.setIfInBounds_toArray, List.set_cons_zero, List.set_cons_succ])
      refine wpList_end ?_
      go_wp2_with fail
      exact ⟨⟨k + 1, q1, l ++ [y], css ++ [X], rfl, by omega, by rw [List.length_append, ← hkl]; rfl, (fun z hz => (List.mem_append.1 hz).elim (HQ.out z) fun h => by rw [List.mem_singleton.1 h]; exact lX), by rw [HRW.out, show n - (k + 1) = m by omega, List.append_assoc]; rfl, by rw [List.flatten_append, show [X].flatten = X by simp]; exact E.out⟩, by simp [intOf]; omega⟩
end Go.Proofs.Ytgioojahadlmhaa
namespace Go.Proofs.Ytgioojahadlmhaa
open Go.RowKit
set_option maxRecDepth 20000
attribute [local irreducible] wpList

theorem enters_rusr : Enters 76 := enters_of Try.func76 (by kernel_rfl) rfl
set_option maxHeartbeats 8000000 in
theorem rusr_any (B p : Nat) (b : List (BitVec 8)) (i i' : Nat) (e' : Int) (x : MUs) (u : World) (H : usM b (i, 0) = ((i', e'), x)) (R : RdS B p b i u) : Calls Try.prog 76 #[.pointer (some ⟨p, 0, none⟩)] u (RPost B p b u (i', e') fun v u' => ∃ X : List Value, v = .agg X.toArray ∧ X.length = 3 ∧ One X ∧ Fro u.heap.size (usAt x X) u') := by
  rcases H1 : byM b (i, 0) with ⟨⟨i1, e1⟩, x1⟩
  rcases H2 : nM b 1099511627776 (i1, e1) with ⟨⟨i2, e2⟩, x2⟩
  have S2 : Hid (e1 ≠ 0 → e2 = e1) := Lib.hid fun h => by have q := nM_stay (most := 1099511627776) (b := b) (i := i1) h; rw [H2] at q; exact congrArg Prod.snd q
  rcases H3 : trM b (i2, e2) with ⟨⟨i3, e3⟩, x3⟩
  have S3 : Hid (e2 ≠ 0 → e3 = e2) := Lib.hid fun h => by have q := trM_stay (b := b) (i := i2) h; rw [H3] at q; exact congrArg Prod.snd q
  simp only [usM, H1, H2, H3, Prod.mk.injEq] at H
  obtain ⟨⟨rfl, rfl⟩, rfl⟩ := H
  have E := Lib.hid (Rm.start R)
  clear R
  go_enter Try.func76, Try.ntmps76
  go_upto_region 0 with fail; refine wp_region_lit ?_
  refine wpList_val (run_alc (vs := usR ((.string ⟨#[]⟩)) ((.int .i64 0)) ((.bool false))) rfl (by kernel_rfl)) rfl ?_; (try simp only [Act.put, List.setIfInBounds_toArray, List.set_cons_zero, List.set_cons_succ])
  replace E := Lib.hid (E.out.new (usR ((.string ⟨#[]⟩)) ((.int .i64 0)) ((.bool false))) 25)
  generalize u.alloc (.cells (usR ((.string ⟨#[]⟩)) ((.int .i64 0)) ((.bool false))).toArray 25) = a1 at *
  obtain ⟨g2, hg0⟩ : ∃ k, k = u.heap.size := ⟨_, rfl⟩
  rw [← hg0] at E ⊢
  clear hg0
  refine wpList_end ?_
  go_upto_region 1 with fail; refine wp_region_lit ?_
  refine wpList_val (run_mv (v := .pointer (some ⟨p, 0, none⟩)) rfl rfl) rfl ?_; (try simp only [Act.put, List.setIfInBounds_toArray, List.set_cons_zero, List.set_cons_succ])
  refine wpList_callP (run_call1 enters_rtxt rfl rfl rfl) rfl (rtxt_any B p b i i1 e1 x1 _ H1 E.out.rd) (fun v1 a3 hs hk hr hT => ?_) (fun a3 hs hk => ?pana3)
  case pana3 =>
    go_wp2_with fail
    replace hs : e1 ≠ 0 := hs
    have t2 := S2.out
    have t3 := S3.out
    have q : e3 = e1 := by omega
    exact ⟨rfl, E.out.panic hk, .inr ⟨by rw [q]; exact hs, by simp only [q]⟩⟩
  (try simp only [Act.put, List.setIfInBounds_toArray, List.set_cons_zero, List.set_cons_succ])
  replace hs : e1 = 0 := hs
  subst hs
  subst hT
  replace E := Lib.hid (E.out.call hk hr (H0 := fun _ => True) (fun _ _ => trivial))
  clear hk hr
  refine wpList_val (run_mv (v := .pointer (some ⟨p, 0, none⟩)) rfl rfl) rfl ?_; (try simp only [Act.put, List.setIfInBounds_toArray, List.set_cons_zero, List.set_cons_succ])
  refine wpList_callP (run_call1 enters_rnum rfl rfl rfl) rfl (rnum_any B p b i1 i2 e2 x2 _ H2 E.out.rd) (fun v2 a4 hs hk hr hT => ?_) (fun a4 hs hk => ?pana4)
  case pana4 =>
    go_wp2_with fail
    replace hs : e2 ≠ 0 := hs
    have t3 := S3.out
    have q : e3 = e2 := by omega
    exact ⟨rfl, E.out.panic hk, .inr ⟨by rw [q]; exact hs, by simp only [q]⟩⟩
  (try simp only [Act.put, List.setIfInBounds_toArray, List.set_cons_zero, List.set_cons_succ])
  replace hs : e2 = 0 := hs
  subst hs
  subst hT
  replace E := Lib.hid (E.out.call hk hr (H0 := fun _ => True) (fun _ _ => trivial))
  clear hk hr
  refine wpList_val (run_mv (v := .pointer (some ⟨p, 0, none⟩)) rfl rfl) rfl ?_; (try simp only [Act.put, List.setIfInBounds_toArray, List.set_cons_zero, List.set_cons_succ])
  refine wpList_callP (run_call1 enters_rtru rfl rfl rfl) rfl (rtru_any B p b i2 i3 e3 x3 _ H3 E.out.rd) (fun v3 a5 hs hk hr hT => ?_) (fun a5 hs hk => ?pana5)
  case pana5 =>
    go_wp2_with fail
    exact ⟨rfl, E.out.panic hk, .inr ⟨hs, rfl⟩⟩
  (try simp only [Act.put, List.setIfInBounds_toArray, List.set_cons_zero, List.set_cons_succ])
  replace hs : e3 = 0 := hs
  subst hs
  subst hT
  replace E := Lib.hid (E.out.call hk hr (H0 := fun _ => True) (fun _ _ => trivial))
  clear hk hr
  refine wpList_val (run_bldP (cells := (usR (.string (strOf x1)) (.int .i64 x2) (.bool x3)).toArray) (ps := [(0, .string (strOf x1)), (1, .int .i64 x2), (2, .bool x3)]) rfl rfl (usR_all rfl rfl rfl)) rfl ?_; (try simp only [Act.put, List.setIfInBounds_toArray, List.set_cons_zero, List.set_cons_succ])
  refine wpList_skip (run_stM (vs := usR (.string (strOf x1)) (.int .i64 x2) (.bool x3)) rfl (szR usR_len (by kernel_rfl)) rfl rfl (One.all (usR_one rfl rfl rfl)) ((E.out.get (i := 0) rfl).thereM (by have q1 : (usR (.string (strOf x1)) (.int .i64 x2) (.bool x3)).length = 3 := usR_len; have q2 : (usR ((.string ⟨#[]⟩)) ((.int .i64 0)) ((.bool false))).length = 3 := usR_len; omega))) rfl rfl ?_
  replace E := Lib.hid (E.out.put 0 rfl (m := usR (.string (strOf x1)) (.int .i64 x2) (.bool x3)) ((show (usR (.string (strOf x1)) (.int .i64 x2) (.bool x3)).length = 3 from usR_len).trans (show (usR ((.string ⟨#[]⟩)) ((.int .i64 0)) ((.bool false))).length = 3 from usR_len).symm))
  generalize a5.setCells g2 0 (usR (.string (strOf x1)) (.int .i64 x2) (.bool x3)) = a6 at *
  replace E := Lib.hid (show Rm _ _ _ _ _ [(g2, usR (.string (strOf x1)) (.int .i64 x2) (.bool x3))] _ a6 from E.out)
  refine wpList_end ?_
  go_wp2_with fail
  exact bodyPost_ret (v := .agg (usR (.string (strOf x1)) (.int .i64 x2) (.bool x3)).toArray) (results_rowB Try.results76 rfl Try.underlying25 rfl (szR usR_len (by kernel_rfl)) (E.out.get (i := 0) rfl).range) rfl ⟨E.out.kp, .inl ⟨(by first | rfl | exact hs), E.out.rd, _, rfl, _, rfl, usR_len, (usR_one rfl rfl rfl), fun V hV => rfl⟩⟩
theorem enters_ralU : Enters 75 := enters_of Try.func75 (by kernel_rfl) rfl
set_option maxHeartbeats 8000000 in
theorem ralU_any (B p : Nat) (b : List (BitVec 8)) (i i' : Nat) (e' : Int) (x : List MUs) (u : World) (H : ussM b (i, 0) = ((i', e'), x)) (R : RdS B p b i u) : Calls Try.prog 75 #[.pointer (some ⟨p, 0, none⟩), .func (.func 76) #[] #[]] u (RPost B p b u (i', e') fun v u' => ∃ a c, v = .slice a x.length c ∧ Fro u.heap.size (SlR 3 usAt x a c) u') := by
  rcases HN : nM b 60000 (i, 0) with ⟨⟨i0, e0⟩, N⟩
  have hn0 := nM_num (b := b) (most := 60000) (s := (i, 0)) (by omega)
  rw [HN] at hn0
  obtain ⟨n, hn⟩ : ∃ n : Nat, N = (n : Int) := ⟨N.toNat, by omega⟩
  subst hn
  have hnn : n ≤ 60000 := by have := hn0.2; simp only at this; omega
  clear hn0
  simp only [ussM, HN, Int.toNat_natCast] at H
  have S1 : Hid (e0 ≠ 0 → e' = e0) := Lib.hid fun h => by rw [rowsM_err _ _ (by exact h)] at H; exact (congrArg (fun z => z.1.2) H).symm
  have HH := Lib.hid H
  have HR := Lib.hid R
  clear H R
  go_enter Try.func75, Try.ntmps75
  go_upto_region 0 with fail; refine wp_region_lit ?_
  refine wpList_val (run_asg (v := .slice none 0 0) rfl rfl) rfl ?_; (try simp only [Act.put, List.setIfInBounds_toArray, List.set_cons_zero, List.set_cons_succ])
  refine wpList_end ?_
  go_upto_region 1 with fail; refine wp_region_lit ?_
  refine wpList_val (run_asg (v := .slice none 0 0) rfl rfl) rfl ?_; (try simp only [Act.put, List.setIfInBounds_toArray, List.set_cons_zero, List.set_cons_succ])
  refine wpList_end ?_
  have E := Lib.hid ((Rg.start HR.out 25 3).know (H0 := LR usAt [] []) fun V _ => LR.nil V)
  go_upto_region 2 with fail; refine wp_region_lit ?_
  refine wpList_val (run_mv (v := .pointer (some ⟨p, 0, none⟩)) rfl rfl) rfl ?_; (try simp only [Act.put, List.setIfInBounds_toArray, List.set_cons_zero, List.set_cons_succ])
  refine wpList_callP (run_call1 enters_rcnt rfl rfl rfl) rfl (rcnt_any B p b i i0 e0 _ _ HN E.out.rd) (fun v a1 hs hk hr hT => ?_) (fun a1 hs hk => ?pana1)
  case pana1 =>
    go_wp2_with fail
    have q := S1.out hs
    exact ⟨rfl, E.out.kp.trans hk, .inr ⟨by rw [q]; exact hs, by simp only [q]⟩⟩
  (try simp only [Act.put, List.setIfInBounds_toArray, List.set_cons_zero, List.set_cons_succ])
  subst hT
  replace hs : e0 = 0 := hs
  subst hs
  replace E := Lib.hid ((E.out.call hk hr (H0 := fun _ => True) fun _ _ => trivial).know (H0 := LR usAt [] []) fun V h => h.2)
  clear hk hr S1 HR
  refine wpList_val (run_mv (v := .int .i64 0) rfl rfl) rfl ?_; (try simp only [Act.put, List.setIfInBounds_toArray, List.set_cons_zero, List.set_cons_succ])
  refine wpList_end ?_
  go_wp2_with fail
  go_loopw [5, 8] (fun s5 s8 a => ∃ (k q : Nat) (l : List MUs) (css : List (List Value)), s8 = .int .i64 (k : Int) ∧ k ≤ n ∧ k = l.length ∧ (∀ y ∈ css, y.length = 3) ∧ (rowsM (usM b) n (i0, 0) = ((rowsM (usM b) (n - k) (q, 0)).1, l ++ (rowsM (usM b) (n - k) (q, 0)).2)) ∧ Rg u B p b q 25 3 s5 k css.flatten (LR usAt l css) a) (fun _ s8 _ => ((n : Int) - intOf s8).toNat)
  case atStart => exact ⟨0, i0, [], [], rfl, by omega, rfl, (fun _ h => by cases h), by simp, E.out⟩
  case round =>
    obtain ⟨k, q, l, css, rfl, hkn, hkl, hq, hrow, hJ⟩ := hrel
    replace E := Lib.hid hJ
    have HQ := Lib.hid hq
    have HRW := Lib.hid hrow
    clear hJ hq hrow
    by_cases hkn2 : k = n
    · subst hkn2
      have HX : Hid (((i', e'), x) = ((q, (0 : Int)), l)) := Lib.hid (by rw [← HH.out, HRW.out, Nat.sub_self, rowsM_zero, List.append_nil])
      simp only [Prod.mk.injEq] at HX
      obtain ⟨⟨rfl, rfl⟩, rfl⟩ := HX.out
      go_upto_region 3 with fail; refine wp_region_lit ?_
      refine wpList_val (run_lssb (c := false) rfl rfl rfl (decide_eq_false (by omega))) rfl ?_; (try simp only [Act.put, List.setIfInBounds_toArray, List.set_cons_zero, List.set_cons_succ])
      refine wpList_end ?_
      go_upto_region 6 with fail; refine wp_region_lit ?_
      refine wpList_val (run_mv (v := u5) rfl rfl) rfl ?_; (try simp only [Act.put, List.setIfInBounds_toArray, List.set_cons_zero, List.set_cons_succ])
      refine wpList_val (run_asg (v := u5) rfl rfl) rfl ?_; (try simp only [Act.put, List.setIfInBounds_toArray, List.set_cons_zero, List.set_cons_succ])
      refine wpList_end ?_
      have HF : Hid (Fro u.heap.size (fun V => ∃ a' c', u5 = .slice a' x.length c' ∧ SlR 3 usAt x a' c' V) wr) := Lib.hid fun V hV => slR_own (E.out.tell V hV).1 hkl (E.out.tell V hV).2.1 HQ.out (E.out.tell V hV).2.2
      obtain ⟨a', c', hv6, hS0⟩ := HF.out.now
      subst hv6
      have HF2 : Hid (Fro u.heap.size (SlR 3 usAt x a' c') wr) := Lib.hid fun V hV => by
        obtain ⟨a2, c2, h1, h2⟩ := HF.out V hV
        simp only [Value.slice.injEq] at h1
        obtain ⟨rfl, _, rfl⟩ := h1
        exact h2
      go_wp2_with fail
      exact bodyPost_ret (results_tmp Try.results75 _ _ _) rfl ⟨E.out.kp, .inl ⟨rfl, E.out.rd, _, rfl, _, _, rfl, HF2.out⟩⟩
    · obtain ⟨m, hm⟩ : ∃ m, n - k = m + 1 := ⟨n - k - 1, by omega⟩
      have hr2 := HRW.out
      rw [hm, rowsM_step _ _ rfl] at hr2
      rcases HG : usM b (q, 0) with ⟨⟨q1, e1⟩, y⟩
      rw [HG] at hr2
      have S2 : Hid (e1 ≠ 0 → e' = e1) := Lib.hid fun h => by have h9 := HH.out; rw [hr2, rowsM_err _ _ (by exact h)] at h9; exact (congrArg (fun z => z.1.2) h9).symm
      replace HRW := Lib.hid hr2
      clear hr2
      go_upto_region 3 with fail; refine wp_region_lit ?_
      refine wpList_val (run_lssb (c := true) rfl rfl rfl (decide_eq_true (by omega))) rfl ?_; (try simp only [Act.put, List.setIfInBounds_toArray, List.set_cons_zero, List.set_cons_succ])
      refine wpList_end ?_
      go_upto_region 4 with fail; refine wp_region_lit ?_
      refine wpList_val (run_mv (v := u5) rfl rfl) rfl ?_; (try simp only [Act.put, List.setIfInBounds_toArray, List.set_cons_zero, List.set_cons_succ])
      refine wpList_val (run_mv (v := .func (.func 76) #[] #[]) rfl rfl) rfl ?_; (try simp only [Act.put, List.setIfInBounds_toArray, List.set_cons_zero, List.set_cons_succ])
      refine wpList_val (run_mv (v := .pointer (some ⟨p, 0, none⟩)) rfl rfl) rfl ?_; (try simp only [Act.put, List.setIfInBounds_toArray, List.set_cons_zero, List.set_cons_succ])
      refine wpList_callP (run_callv1 enters_rusr rfl rfl rfl) rfl (rusr_any B p b q q1 e1 y _ HG E.out.rd) (fun v3 a3 hs hk hr hT => ?_) (fun a3 hs hk => ?pana3)
      case pana3 =>
        go_wp2_with fail
        have q := S2.out hs
        exact ⟨rfl, E.out.kp.trans hk, .inr ⟨by rw [q]; exact hs, by simp only [q]⟩⟩
      (try simp only [Act.put, List.setIfInBounds_toArray, List.set_cons_zero, List.set_cons_succ])
      replace hs : e1 = 0 := hs
      subst hs
      obtain ⟨X, rfl, lX, oX, fX⟩ := hT
      replace E := Lib.hid (E.out.call hk hr (H0 := usAt y X) fX)
      clear hk hr S2
      refine wpList_val (run_bsl1 (m := X) (z := 3) (zv := .agg ([.string ⟨#[]⟩, .int .i64 0, .bool false] : List Value).toArray) rfl Try.underlying26 (by kernel_rfl) rfl lX (by omega) (by omega)) rfl ?_; (try simp only [Act.put, List.setIfInBounds_toArray, List.set_cons_zero, List.set_cons_succ])
      have A2 := Lib.hid (Arr.new a3 X 25)
      replace E := Lib.hid (E.out.below ((Below.refl a3.heap.size a3).alloc (Nat.le_refl _) (.cells X.toArray 25)))
      generalize a3.alloc (.cells X.toArray 25) = b1 at *
      generalize a3.heap.size = g0 at *
      refine wpList_growR (t := 26) (bw := 32) (zv := .agg ([.string ⟨#[]⟩, .int .i64 0, .bool false] : List Value).toArray) (z := 3) rfl rfl Try.underlying26 (by kernel_rfl) rfl (by omega) rfl rfl A2.out.range lX oX (by omega) (by omega) E.out (fun v7 b2 hG => ?_); (try simp only [Act.put, List.setIfInBounds_toArray, List.set_cons_zero, List.set_cons_succ])
      replace E := Lib.hid (hG.know (H0 := LR usAt (l ++ [y]) (css ++ [X])) fun V h => h.2.snoc h.1)
      clear hG A2
      refine wpList_val (run_asg (v := v7) rfl rfl) rfl ?_; (try simp only [Act.put, List.setIfInBounds_toArray, List.set_cons_zero, List.set_cons_succ])
      refine wpList_end ?_
      go_upto_region 5 with fail; refine wp_region_lit ?_
      refine wpList_val (run_addN (a := k) (b := 1) rfl rfl rfl (by omega)) rfl ?_; (try simp only [Act.put, List.setIfInBounds_toArray, List.set_cons_zero, List.set_cons_succ])
      refine wpList_val (run_mv (v := .int .i64 ((k + 1 : Nat) : Int)) rfl rfl) rfl ?_; (try simp only [Act.put, List.setIfInBounds_toArray, List.set_cons_zero, List.set_cons_succ])
      refine wpList_end ?_
      go_wp2_with fail
      exact ⟨⟨k + 1, q1, l ++ [y], css ++ [X], rfl, by omega, by rw [List.length_append, ← hkl]; rfl, (fun z hz => (List.mem_append.1 hz).elim (HQ.out z) fun h => by rw [List.mem_singleton.1 h]; exact lX), by rw [HRW.out, show n - (k + 1) = m by omega, List.append_assoc]; rfl, by rw [List.flatten_append, show [X].flatten = X by simp]; exact E.out⟩, by simp [intOf]; omega⟩
theorem enters_russ : Enters 38 := enters_of Try.func38 (by kernel_rfl) rfl
set_option maxHeartbeats 8000000 in
theorem russ_any (B p : Nat) (b : List (BitVec 8)) (i i' : Nat) (e' : Int) (x : List MUs) (u : World) (H : ussM b (i, 0) = ((i', e'), x)) (R : RdS B p b i u) : Calls Try.prog 38 #[.pointer (some ⟨p, 0, none⟩)] u (RPost B p b u (i', e') fun v u' => ∃ a c, v = .slice a x.length c ∧ Fro u.heap.size (SlR 3 usAt x a c) u') := by
  have HR := Lib.hid R
  have HH := Lib.hid H
  clear R H
  go_enter Try.func38, Try.ntmps38
  go_upto_region 0 with fail; refine wp_region_lit ?_
  refine wpList_val (run_asg (v := .slice none 0 0) rfl rfl) rfl ?_; (try simp only [Act.put, List.setIfInBounds_toArray, List.set_cons_zero, List.set_cons_succ])
  refine wpList_end ?_
  go_upto_region 1 with fail; refine wp_region_lit ?_
  refine wpList_val (run_mv (v := .pointer (some ⟨p, 0, none⟩)) rfl rfl) rfl ?_; (try simp only [Act.put, List.setIfInBounds_toArray, List.set_cons_zero, List.set_cons_succ])
  refine wpList_callP (run_call2 enters_ralU rfl rfl rfl rfl) rfl (ralU_any B p b i i' e' x _ HH.out HR.out) (fun v a1 hs hk hr hT => ?_) (fun a1 hs hk => ?pana1)
  case pana1 =>
    go_wp2_with fail
    exact ⟨rfl, hk, .inr ⟨hs, rfl⟩⟩
  (try simp only [Act.put, List.setIfInBounds_toArray, List.set_cons_zero, List.set_cons_succ])
  obtain ⟨a2, c2, rfl, f2⟩ := hT
  have HK := Lib.hid hk
  have HR2 := Lib.hid hr
  have HF := Lib.hid f2
  clear hk hr f2
  refine wpList_val (run_asg (v := .slice a2 x.length c2) rfl rfl) rfl ?_; (try simp only [Act.put, List.setIfInBounds_toArray, List.set_cons_zero, List.set_cons_succ])
  refine wpList_end ?_
  go_wp2_with fail
  exact bodyPost_ret (results_tmp Try.results38 _ _ _) rfl ⟨HK.out, .inl ⟨(by first | exact hs | rfl), HR2.out, _, rfl, _, _, rfl, HF.out⟩⟩
end Go.Proofs.Ytgioojahadlmhaa
namespace Go.Proofs.Ytgioojahadlmhaa
open Go.RowKit
set_option maxRecDepth 20000
attribute [local irreducible] wpList

set_option maxHeartbeats 400000 in
theorem caUs_short (g : Nat) (x : Value) (w : World) (hc : w.cell? ⟨g, 0, none⟩ = some x) (hz : w.frozen? ⟨g, 0, none⟩ = false) :
    CallsD Try.prog 74 #[.pointer (some ⟨g, 0, none⟩)] (.panicking [{ v := .iface 145 (.agg #[]), recovered := false }]) w fun e u' w' =>
      e = .returned (.tuple #[]) ∧ u' = .panicking [{ v := .iface 145 (.agg #[]), recovered := true }] ∧ w' = w.setCell ⟨g, 0, none⟩ (.int .u16 10) := by
  refine callsD_of_wpS Try.func74 rfl fun c₀ cs hu => ?_
  apply wpS_seq
  apply wpS_region
  simp [wpOpsS, go_sem, recoverD, hu, Try.ntmps74, Exit.thenS]
  refine wpS_of_wp ?_
  have ht := ta_short
  go_wp2
  simp [bodyPostS, results, Try.results74, go_sem]
set_option maxHeartbeats 400000 in
theorem caUs_form (g : Nat) (x : Value) (w : World) (hc : w.cell? ⟨g, 0, none⟩ = some x) (hz : w.frozen? ⟨g, 0, none⟩ = false) :
    CallsD Try.prog 74 #[.pointer (some ⟨g, 0, none⟩)] (.panicking [{ v := .iface 148 (.agg #[]), recovered := false }]) w fun e u' w' =>
      e = .returned (.tuple #[]) ∧ u' = .panicking [{ v := .iface 148 (.agg #[]), recovered := true }] ∧ w' = w.setCell ⟨g, 0, none⟩ (.int .u16 11) := by
  refine callsD_of_wpS Try.func74 rfl fun c₀ cs hu => ?_
  apply wpS_seq
  apply wpS_region
  simp [wpOpsS, go_sem, recoverD, hu, Try.ntmps74, Exit.thenS]
  refine wpS_of_wp ?_
  have ht := ta_form
  go_wp2
  simp [bodyPostS, results, Try.results74, go_sem]
set_option maxHeartbeats 400000 in
theorem caUs_idle (g : Nat) (w : World) : CallsD Try.prog 74 #[.pointer (some ⟨g, 0, none⟩)] .returning w fun e u' w' => e = .returned (.tuple #[]) ∧ u' = .returning ∧ w' = w := by
  refine callsD_of_wpS Try.func74 rfl fun c₀ cs hu => ?_
  apply wpS_seq
  apply wpS_region
  simp [wpOpsS, go_sem, recoverD, hu, Try.ntmps74, Exit.thenS]
  refine wpS_of_wp ?_
  go_wp2
  cases c₀
  simp_all [bodyPostS, results, Try.results74, go_sem]
theorem caUs_pan (g : Nat) (x : Value) (e : Int) (w : World) (hc : w.cell? ⟨g, 0, none⟩ = some x) (hz : w.frozen? ⟨g, 0, none⟩ = false) : CallsD Try.prog 74 #[.pointer (some ⟨g, 0, none⟩)] (.panicking [pan e]) w fun en u' w' => en = .returned (.tuple #[]) ∧ u' = .panicking [panR e] ∧ w' = w.setCell ⟨g, 0, none⟩ (.int .u16 (errOf e)) := by
  by_cases h : e = 10
  · have h1 : pan e = { v := .iface 145 (.agg #[]), recovered := false } := by unfold pan; rw [if_pos h]
    have h2 : panR e = { v := .iface 145 (.agg #[]), recovered := true } := by unfold panR; rw [h1]
    rw [h1, h2, show errOf e = 10 by unfold errOf; rw [if_pos h]]
    exact caUs_short g x w hc hz
  · have h1 : pan e = { v := .iface 148 (.agg #[]), recovered := false } := by unfold pan; rw [if_neg h]
    have h2 : panR e = { v := .iface 148 (.agg #[]), recovered := true } := by unfold panR; rw [h1]
    rw [h1, h2, show errOf e = 11 by unfold errOf; rw [if_neg h]]
    exact caUs_form g x w hc hz
theorem enters_rxUs : Enters 37 := enters_of Try.func37 (by kernel_rfl) rfl
theorem enters_ryUs : Enters 9 := enters_of Try.func9 (by kernel_rfl) rfl
set_option maxHeartbeats 8000000 in
theorem rxUs_any (a0 : Option Addr) (b : List (BitVec 8)) (c0 : Nat) (x : List MUs) (err : Int) (H : rdUs b = (x, err)) (w : World) (hb : Sl (.slice a0 b.length c0) b w) : Calls Try.prog 37 #[.slice a0 b.length c0, .func (.func 38) #[] #[]] w fun r w' => ∃ v', r = .returned v' ∧ ((∃ a' c', v' = .tuple #[.slice a' x.length c', .int .u16 err] ∧ Fro w.heap.size (SlR 3 usAt x a' c') w') ∧ Below w.heap.size w w') := by
  rcases HM : ussM b (0, 0) with ⟨⟨q, e⟩, y⟩
  have hok : ok3 e := by have h := ussM_ok (b := b) (s := (0, 0)) (.inl rfl); rw [HM] at h; exact h
  have HX3 : Hid (60000 < b.length → x = [] ∧ err = 3) := Lib.hid fun h => by
    have hz : ussM ([] : List (BitVec 8)) (0, 3) = ussM ([] : List (BitVec 8)) (0, 3) := rfl
    have hs : (ussM ([] : List (BitVec 8)) (0, 3)).1 = (0, 3) := rows_stay _ (show (3 : Int) ≠ 0 by decide)
    simp only [rdUs, beginM, if_pos h] at H
    rw [hs] at H
    simp only [endM, if_neg (fun h : (3 : Int) = 0 ∧ (0 : Nat) < ([] : List (BitVec 8)).length => absurd h.1 (by decide)), if_neg (show ¬ (3 : Int) = 0 by decide), Prod.mk.injEq] at H
    exact ⟨H.1.symm, H.2.symm⟩
  have HX : Hid (¬ 60000 < b.length → if endM b.length q e = 0 then x = y ∧ err = 0 else x = [] ∧ err = endM b.length q e) := Lib.hid fun h => by
    simp only [rdUs, beginM, if_neg h, HM] at H
    by_cases h2 : endM b.length q e = 0
    · rw [if_pos h2] at H ⊢; simp only [Prod.mk.injEq] at H; exact ⟨H.1.symm, H.2.symm⟩
    · rw [if_neg h2] at H ⊢; simp only [Prod.mk.injEq] at H; exact ⟨H.1.symm, H.2.symm⟩
  have HH := Lib.hid HM
  have HS := Lib.hid hb
  clear H HM hb
  have E := Lib.hid (Ev.start (w := w) (F := fun _ => True) fun _ _ => trivial)
  generalize hlen : b.length = m at *
  have HLN := Lib.hid hlen
  clear hlen
  go_enter_defers Try.func37, Try.ntmps37
  go_upto_region 0 with fail; refine wp_region_lit ?_
  refine wpList_val (run_asg (v := .slice none 0 0) rfl rfl) rfl ?_; (try simp only [Act.put, List.setIfInBounds_toArray, List.set_cons_zero, List.set_cons_succ])
  refine wpList_val (run_alc1 (v := .int .u16 0) rfl (by kernel_rfl) rfl) rfl ?_; (try simp only [Act.put, List.setIfInBounds_toArray, List.set_cons_zero, List.set_cons_succ])
  replace E := Lib.hid (E.out.new ([.int .u16 0]) 28)
  generalize hw0 : w.alloc (.cells ([.int .u16 0] : List Value).toArray 28) = a2 at E ⊢
  clear hw0
  obtain ⟨g2, hg0⟩ : ∃ k, k = w.heap.size := ⟨_, rfl⟩
  rw [← hg0] at E ⊢
  clear hg0
  refine wpList_end ?_
  go_upto_region 1 with fail; refine wp_region_lit ?_
  refine wpList_val (run_mv (v := .slice a0 m c0) rfl rfl) rfl ?_; (try simp only [Act.put, List.setIfInBounds_toArray, List.set_cons_zero, List.set_cons_succ])
  refine wpList_val (run_len rfl Try.underlying22 rfl) rfl ?_; (try simp only [Act.put, List.setIfInBounds_toArray, List.set_cons_zero, List.set_cons_succ])
  by_cases hlong : 60000 < m
  · refine wpList_val (run_gtrb (c := true) rfl rfl rfl (decide_eq_true (by omega))) rfl ?_; (try simp only [Act.put, List.setIfInBounds_toArray, List.set_cons_zero, List.set_cons_succ])
    refine wpList_end ?_
    go_upto_region 2 with fail; refine wp_region_lit ?_
    refine wpList_val (run_mv (v := .slice none 0 0) rfl rfl) rfl ?_; (try simp only [Act.put, List.setIfInBounds_toArray, List.set_cons_zero, List.set_cons_succ])
    refine wpList_val (run_asg (v := .slice none 0 0) rfl rfl) rfl ?_; (try simp only [Act.put, List.setIfInBounds_toArray, List.set_cons_zero, List.set_cons_succ])
    refine wpList_skip (run_stc (v := .int .u16 3) rfl (by kernel_rfl) rfl rfl rfl rfl ((E.out.get (i := 0) rfl).c 0 _ rfl) ((E.out.get (i := 0) rfl).f 0)) rfl rfl ?_
    replace E := Lib.hid (E.out.set 0 rfl (j := 0) (by show 0 < 1; omega) (.int .u16 3))
    replace E := Lib.hid (show Ev _ [(g2, [.int .u16 3])] _ _ _ _ from E.out)
    generalize a2.setCell ⟨g2, 0, none⟩ (.int .u16 3) = a4 at *
    refine wpList_end ?_
    go_wp2_with fail
    obtain ⟨rfl, rfl⟩ := HX3.out hlong
    exact ⟨_, results_tmpcell Try.results37 rfl rfl Try.underlying28 rfl ((E.out.get (i := 0) rfl).c 0 _ rfl), _, rfl, ⟨none, 0, rfl, fun V _ => slR_nil _ _ _⟩, E.out.bl⟩
  · refine wpList_val (run_gtrb (c := false) rfl rfl rfl (decide_eq_false (by omega))) rfl ?_; (try simp only [Act.put, List.setIfInBounds_toArray, List.set_cons_zero, List.set_cons_succ])
    refine wpList_end ?_
    have hx := HX.out hlong
    clear HX3 HX
    go_upto_region 3 with fail; refine wp_region_lit ?_
    refine wpList_val (run_mkf (v := .pointer (some ⟨g2, 0, none⟩)) rfl rfl) rfl ?_; (try simp only [Act.put, List.setIfInBounds_toArray, List.set_cons_zero, List.set_cons_succ])
    refine wpList_defer (d := { target := .fn (.func 74) #[.pointer (some ⟨g2, 0, none⟩)], args := #[] }) (run_defer rfl rfl) rfl ?_; (try simp only [Act.put])
    refine wpList_end ?_
    go_upto_region 4 with fail; refine wp_region_lit ?_
    refine wpList_val (run_mv (v := .slice a0 m c0) rfl rfl) rfl ?_; (try simp only [Act.put, List.setIfInBounds_toArray, List.set_cons_zero, List.set_cons_succ])
    refine wpList_val (run_bldP (cells := #[.slice a0 m c0]) (ps := [(0, .slice a0 m c0)]) rfl rfl (by kernel_rfl)) rfl ?_; (try simp only [Act.put, List.setIfInBounds_toArray, List.set_cons_zero, List.set_cons_succ])
    refine wpList_val (run_alc (vs := [.slice none 0 0]) rfl (by kernel_rfl)) rfl ?_; (try simp only [Act.put, List.setIfInBounds_toArray, List.set_cons_zero, List.set_cons_succ])
    replace E := Lib.hid (E.out.new ([.slice none 0 0]) 147)
    generalize a2.alloc (.cells ([.slice none 0 0] : List Value).toArray 147) = a5 at *
    generalize a2.heap.size = g3 at *
    refine wpList_skip (run_stM (vs := [.slice a0 m c0]) rfl (szR (n := 1) rfl (by kernel_rfl)) rfl rfl (One.all (One.cons rfl One.nil)) ((E.out.get (i := 0) rfl).thereM (by show 0 + 1 ≤ 1; omega))) rfl rfl ?_
    replace E := Lib.hid (E.out.put 0 rfl (m := [.slice a0 m c0]) rfl)
    replace E := Lib.hid (show Ev _ [(g3, [.slice a0 m c0]), (g2, [.int .u16 0])] _ _ _ _ from E.out)
    generalize a5.setCells g3 0 [.slice a0 m c0] = a6 at *
    refine wpList_end ?_
    have HR : Hid (RdS a6.heap.size g3 b 0 a6) := Lib.hid (by have hA := E.out.get (i := 0) rfl; have hg := (E.out.mv.all (g3, [.slice a0 m c0]) (List.mem_cons_self ..)).1; have hS := HS.out; have hq := HLN.out; subst hq; exact rdS_new hA E.out.bl hg hS)
    clear HS
    go_upto_region 5 with fail; refine wp_region_lit ?_
    refine wpList_val (run_mv (v := .func (.func 38) #[] #[]) rfl rfl) rfl ?_; (try simp only [Act.put, List.setIfInBounds_toArray, List.set_cons_zero, List.set_cons_succ])
    refine wpList_callP (run_callv1 enters_russ rfl rfl rfl) rfl (russ_any _ g3 b 0 q e y _ HH.out HR.out) (fun v a7 hs hk hr hT => ?_) (fun a7 hs hk => ?pana)
    case pana =>
      go_wp2_with fail
      replace hs : e ≠ 0 := hs
      replace E := Lib.hid (E.out.callIn hk (H0 := fun _ => True) fun _ _ => trivial)
      have hen : endM m q e = e := by unfold endM; rw [if_neg (fun h => hs h.1)]
      rw [hen, if_neg hs] at hx
      obtain ⟨rfl, rfl⟩ := hx
      have her := errOf_ok hok hs
      refine leaves_cons (f := 74) (args := #[.pointer (some ⟨g2, 0, none⟩)]) (by simp) (by simp [go_sem]) ?_
      refine (caUs_pan g2 _ err _ ((E.out.get (i := 0) rfl).c 0 _ rfl) ((E.out.get (i := 0) rfl).f 0)).mono ?_
      rintro en u1 w1 ⟨rfl, rfl, rfl⟩
      replace E := Lib.hid (E.out.set 0 rfl (j := 0) (by show 0 < 1; omega) (.int .u16 (errOf err)))
      rw [her] at E
      rw [her]
      replace E := Lib.hid (show Ev _ [(g2, [.int .u16 err])] _ _ _ _ from E.out)
      exact ⟨_, results_tmpcell Try.results37 rfl rfl Try.underlying28 rfl ((E.out.get (i := 0) rfl).c 0 _ rfl), _, rfl, ⟨none, 0, rfl, fun V _ => slR_nil _ _ _⟩, E.out.bl⟩
    (try simp only [Act.put, List.setIfInBounds_toArray, List.set_cons_zero, List.set_cons_succ])
    replace hs : e = 0 := hs
    subst hs
    obtain ⟨ax, cx, rfl, fX⟩ := hT
    replace E := Lib.hid (E.out.callIn hk (H0 := SlR 3 usAt y ax cx) fX)
    have HR2 := Lib.hid hr
    clear hk hr HR fX
    refine wpList_val (run_asg (v := .slice ax y.length cx) rfl rfl) rfl ?_; (try simp only [Act.put, List.setIfInBounds_toArray, List.set_cons_zero, List.set_cons_succ])
    refine wpList_end ?_
    obtain ⟨hq, -, -, al, cl, hA, -⟩ := HR2.out
    have hdl : (b.drop q).length = m - q := by rw [List.length_drop, HLN.out]
    have HA := Lib.hid hA
    clear hA HR2
    generalize (b.drop q).length = r at *
    go_upto_region 6 with fail; refine wp_region_lit ?_
    refine wpList_val (run_fad (s := 0) (k := 0) rfl Try.underlying147 rfl (by kernel_rfl) rfl rfl) rfl ?_; (try simp only [Act.put, List.setIfInBounds_toArray, List.set_cons_zero, List.set_cons_succ])
    refine wpList_val (run_ldc (v := .slice al r cl) rfl Try.underlying22 rfl rfl (HA.out.c 0 _ rfl)) rfl ?_; (try simp only [Act.put, List.setIfInBounds_toArray, List.set_cons_zero, List.set_cons_succ])
    refine wpList_val (run_len rfl Try.underlying22 rfl) rfl ?_; (try simp only [Act.put, List.setIfInBounds_toArray, List.set_cons_zero, List.set_cons_succ])
    by_cases hleft : q < m
    · refine wpList_val (run_gtrb (c := true) rfl rfl rfl (decide_eq_true (by omega))) rfl ?_; (try simp only [Act.put, List.setIfInBounds_toArray, List.set_cons_zero, List.set_cons_succ])
      refine wpList_end ?_
      have hen : endM m q 0 = 11 := by unfold endM; rw [if_pos ⟨rfl, hleft⟩]
      rw [hen, if_neg nz11] at hx
      obtain ⟨rfl, rfl⟩ := hx
      go_upto_region 7 with fail; refine wp_region_lit ?_
      refine wpList_val (run_bld (cells := #[]) rfl (by kernel_rfl)) rfl ?_; (try simp only [Act.put, List.setIfInBounds_toArray, List.set_cons_zero, List.set_cons_succ])
      refine wpList_val (run_mki (v := .agg #[]) rfl (by kernel_rfl) rfl) rfl ?_; (try simp only [Act.put, List.setIfInBounds_toArray, List.set_cons_zero, List.set_cons_succ])
      refine wpList_panic rfl rfl rfl ?_
      go_wp2_with fail
      refine leaves_cons (f := 74) (args := #[.pointer (some ⟨g2, 0, none⟩)]) (by simp) (by simp [go_sem]) ?_
      refine (caUs_form g2 _ _ ((E.out.get (i := 0) rfl).c 0 _ rfl) ((E.out.get (i := 0) rfl).f 0)).mono ?_
      rintro en u1 w1 ⟨rfl, rfl, rfl⟩
      replace E := Lib.hid (E.out.set 0 rfl (j := 0) (by show 0 < 1; omega) (.int .u16 (11)))
      replace E := Lib.hid (show Ev _ [(g2, [.int .u16 11])] _ _ _ _ from E.out)
      exact ⟨_, results_tmpcell Try.results37 rfl rfl Try.underlying28 rfl ((E.out.get (i := 0) rfl).c 0 _ rfl), _, rfl, ⟨none, 0, rfl, fun V _ => slR_nil _ _ _⟩, E.out.bl⟩
    · refine wpList_val (run_gtrb (c := false) rfl rfl rfl (decide_eq_false (by omega))) rfl ?_; (try simp only [Act.put, List.setIfInBounds_toArray, List.set_cons_zero, List.set_cons_succ])
      refine wpList_end ?_
      have hen : endM m q 0 = 0 := by unfold endM; rw [if_neg (fun h => hleft h.2)]
      rw [hen, if_pos rfl] at hx
      obtain ⟨rfl, rfl⟩ := hx
      go_upto_region 8 with fail; refine wp_region_lit ?_
      refine wpList_val (run_mv (v := .slice ax x.length cx) rfl rfl) rfl ?_; (try simp only [Act.put, List.setIfInBounds_toArray, List.set_cons_zero, List.set_cons_succ])
      refine wpList_val (run_asg (v := .slice ax x.length cx) rfl rfl) rfl ?_; (try simp only [Act.put, List.setIfInBounds_toArray, List.set_cons_zero, List.set_cons_succ])
      refine wpList_skip (run_stc (v := .int .u16 0) rfl (by kernel_rfl) rfl rfl rfl rfl ((E.out.get (i := 0) rfl).c 0 _ rfl) ((E.out.get (i := 0) rfl).f 0)) rfl rfl ?_
      replace E := Lib.hid (E.out.set 0 rfl (j := 0) (by show 0 < 1; omega) (.int .u16 0))
      replace E := Lib.hid (show Ev _ [(g2, [.int .u16 0])] _ _ _ _ from E.out)
      generalize a7.setCell ⟨g2, 0, none⟩ (.int .u16 0) = b2 at *
      refine wpList_end ?_
      go_wp2_with fail
      refine leaves_cons (f := 74) (args := #[.pointer (some ⟨g2, 0, none⟩)]) (by simp) (by simp [go_sem]) ?_
      refine (caUs_idle g2 _).mono ?_
      rintro en u1 w1 ⟨rfl, rfl, rfl⟩
      exact ⟨_, results_tmpcell Try.results37 rfl rfl Try.underlying28 rfl ((E.out.get (i := 0) rfl).c 0 _ rfl), _, rfl, ⟨_, _, rfl, fun V hV => (E.out.tell V hV).1⟩, E.out.bl⟩
set_option maxHeartbeats 8000000 in
theorem ryUs_any (a0 : Option Addr) (b : List (BitVec 8)) (c0 : Nat) (x : List MUs) (err : Int) (H : rdUs b = (x, err)) (w : World) (hb : Sl (.slice a0 b.length c0) b w) : Calls Try.prog 9 #[.slice a0 b.length c0] w fun r w' => ∃ v', r = .returned v' ∧ ((∃ a' c', v' = .tuple #[.slice a' x.length c', .int .u16 err] ∧ Fro w.heap.size (SlR 3 usAt x a' c') w') ∧ Below w.heap.size w w') := by
  have HC := Lib.hid (rxUs_any a0 b c0 x err H w hb)
  clear H hb
  generalize b.length = m at *
  have E := Lib.hid (Ev.start (w := w) (F := fun _ => True) fun _ _ => trivial)
  clear E
  go_enter Try.func9, Try.ntmps9
  go_upto_region 0 with fail; refine wp_region_lit ?_
  refine wpList_val (run_asg (v := .slice none 0 0) rfl rfl) rfl ?_; (try simp only [Act.put, List.setIfInBounds_toArray, List.set_cons_zero, List.set_cons_succ])
  refine wpList_val (run_asg (v := .int .u16 0) rfl rfl) rfl ?_; (try simp only [Act.put, List.setIfInBounds_toArray, List.set_cons_zero, List.set_cons_succ])
  refine wpList_end ?_
  go_upto_region 1 with fail; refine wp_region_lit ?_
  refine wpList_val (run_mv (v := .slice a0 m c0) rfl rfl) rfl ?_; (try simp only [Act.put, List.setIfInBounds_toArray, List.set_cons_zero, List.set_cons_succ])
  refine wpList_callR (run_call2 enters_rxUs rfl rfl rfl rfl) rfl HC.out (fun v a2 hR => ?_); (try simp only [Act.put, List.setIfInBounds_toArray, List.set_cons_zero, List.set_cons_succ])
  obtain ⟨⟨ax, cx, rfl, fX⟩, hb⟩ := hR
  have HF := Lib.hid fX
  have HB := Lib.hid hb
  clear fX hb HC
  generalize hxl : x.length = xl at *
  have HXL := Lib.hid hxl
  clear hxl
  refine wpList_val (run_xtrR (v := .slice ax xl cx) rfl rfl rfl) rfl ?_; (try simp only [Act.put, List.setIfInBounds_toArray, List.set_cons_zero, List.set_cons_succ])
  refine wpList_val (run_xtrR (v := .int .u16 err) rfl rfl rfl) rfl ?_; (try simp only [Act.put, List.setIfInBounds_toArray, List.set_cons_zero, List.set_cons_succ])
  refine wpList_val (run_asg (v := .slice ax xl cx) rfl rfl) rfl ?_; (try simp only [Act.put, List.setIfInBounds_toArray, List.set_cons_zero, List.set_cons_succ])
  refine wpList_val (run_asg (v := .int .u16 err) rfl rfl) rfl ?_; (try simp only [Act.put, List.setIfInBounds_toArray, List.set_cons_zero, List.set_cons_succ])
  refine wpList_end ?_
  go_wp2_with fail
  exact bodyPost_ret (results_tmp2 Try.results9 _ _ _) rfl ⟨_, rfl, ⟨_, _, by rw [HXL.out]; rfl, HF.out⟩, HB.out⟩
end Go.Proofs.Ytgioojahadlmhaa
namespace Go.Proofs.Ytgioojahadlmhaa
open Go.RowKit
set_option maxRecDepth 20000
attribute [local irreducible] wpList

theorem enters_rlst : Enters 52 := enters_of Try.func52 (by kernel_rfl) rfl
set_option maxHeartbeats 8000000 in
theorem rlst_any (B p : Nat) (b : List (BitVec 8)) (i i' : Nat) (e' : Int) (x : MLs) (u : World) (H : lsM b (i, 0) = ((i', e'), x)) (R : RdS B p b i u) : Calls Try.prog 52 #[.pointer (some ⟨p, 0, none⟩)] u (RPost B p b u (i', e') fun v u' => ∃ X : List Value, v = .agg X.toArray ∧ X.length = 99 ∧ One X ∧ Fro u.heap.size (lsAt x X) u') := by
  rcases H1 : nM b 1099511627776 (i, 0) with ⟨⟨i1, e1⟩, x1⟩
  rcases H2 : nM b 1099511627776 (i1, e1) with ⟨⟨i2, e2⟩, x2⟩
  have S2 : Hid (e1 ≠ 0 → e2 = e1) := Lib.hid fun h => by have q := nM_stay (most := 1099511627776) (b := b) (i := i1) h; rw [H2] at q; exact congrArg Prod.snd q
  rcases H3 : kM 32 b (i2, e2) with ⟨⟨i3, e3⟩, x3⟩
  have S3 : Hid (e2 ≠ 0 → e3 = e2) := Lib.hid fun h => by have q := kM_stay (n := 32) (b := b) (i := i2) h; rw [H3] at q; exact congrArg Prod.snd q
  rcases H4 : enM b (i3, e3) with ⟨⟨i4, e4⟩, x4⟩
  have S4 : Hid (e3 ≠ 0 → e4 = e3) := Lib.hid fun h => by have q := enM_stay (b := b) (i := i3) h; rw [H4] at q; exact congrArg Prod.snd q
  rcases H5 : kM 64 b (i4, e4) with ⟨⟨i5, e5⟩, x5⟩
  have S5 : Hid (e4 ≠ 0 → e5 = e4) := Lib.hid fun h => by have q := kM_stay (n := 64) (b := b) (i := i4) h; rw [H5] at q; exact congrArg Prod.snd q
  simp only [lsM, H1, H2, H3, H4, H5, Prod.mk.injEq] at H
  obtain ⟨⟨rfl, rfl⟩, rfl⟩ := H
  have E := Lib.hid (Rm.start R)
  clear R
  go_enter Try.func52, Try.ntmps52
  go_upto_region 0 with fail; refine wp_region_lit ?_
  refine wpList_val (run_alc (vs := lsR ((.int .i64 0)) ((.int .i64 0)) (z8 32) ((.slice none 0 0)) (z8 64)) rfl (by kernel_rfl)) rfl ?_; (try simp only [Act.put, List.setIfInBounds_toArray, List.set_cons_zero, List.set_cons_succ])
  replace E := Lib.hid (E.out.new (lsR ((.int .i64 0)) ((.int .i64 0)) (z8 32) ((.slice none 0 0)) (z8 64)) 40)
  generalize u.alloc (.cells (lsR ((.int .i64 0)) ((.int .i64 0)) (z8 32) ((.slice none 0 0)) (z8 64)).toArray 40) = a1 at *
  obtain ⟨g2, hg0⟩ : ∃ k, k = u.heap.size := ⟨_, rfl⟩
  rw [← hg0] at E ⊢
  clear hg0
  refine wpList_end ?_
  go_upto_region 1 with fail; refine wp_region_lit ?_
  refine wpList_val (run_mv (v := .pointer (some ⟨p, 0, none⟩)) rfl rfl) rfl ?_; (try simp only [Act.put, List.setIfInBounds_toArray, List.set_cons_zero, List.set_cons_succ])
  refine wpList_callP (run_call1 enters_rnum rfl rfl rfl) rfl (rnum_any B p b i i1 e1 x1 _ H1 E.out.rd) (fun v1 a3 hs hk hr hT => ?_) (fun a3 hs hk => ?pana3)
  case pana3 =>
    go_wp2_with fail
    replace hs : e1 ≠ 0 := hs
    have t2 := S2.out
    have t3 := S3.out
    have t4 := S4.out
    have t5 := S5.out
    have q : e5 = e1 := by omega
    exact ⟨rfl, E.out.panic hk, .inr ⟨by rw [q]; exact hs, by simp only [q]⟩⟩
  (try simp only [Act.put, List.setIfInBounds_toArray, List.set_cons_zero, List.set_cons_succ])
  replace hs : e1 = 0 := hs
  subst hs
  subst hT
  replace E := Lib.hid (E.out.call hk hr (H0 := fun _ => True) (fun _ _ => trivial))
  clear hk hr
  refine wpList_val (run_mv (v := .pointer (some ⟨p, 0, none⟩)) rfl rfl) rfl ?_; (try simp only [Act.put, List.setIfInBounds_toArray, List.set_cons_zero, List.set_cons_succ])
  refine wpList_callP (run_call1 enters_rnum rfl rfl rfl) rfl (rnum_any B p b i1 i2 e2 x2 _ H2 E.out.rd) (fun v2 a4 hs hk hr hT => ?_) (fun a4 hs hk => ?pana4)
  case pana4 =>
    go_wp2_with fail
    replace hs : e2 ≠ 0 := hs
    have t3 := S3.out
    have t4 := S4.out
    have t5 := S5.out
    have q : e5 = e2 := by omega
    exact ⟨rfl, E.out.panic hk, .inr ⟨by rw [q]; exact hs, by simp only [q]⟩⟩
  (try simp only [Act.put, List.setIfInBounds_toArray, List.set_cons_zero, List.set_cons_succ])
  replace hs : e2 = 0 := hs
  subst hs
  subst hT
  replace E := Lib.hid (E.out.call hk hr (H0 := fun _ => True) (fun _ _ => trivial))
  clear hk hr
  refine wpList_val (run_mv (v := .pointer (some ⟨p, 0, none⟩)) rfl rfl) rfl ?_; (try simp only [Act.put, List.setIfInBounds_toArray, List.set_cons_zero, List.set_cons_succ])
  refine wpList_callP (run_call1 enters_rkey rfl rfl rfl) rfl (rkey_any B p b i2 i3 e3 x3 _ H3 E.out.rd) (fun v3 a5 hs hk hr hT => ?_) (fun a5 hs hk => ?pana5)
  case pana5 =>
    go_wp2_with fail
    replace hs : e3 ≠ 0 := hs
    have t4 := S4.out
    have t5 := S5.out
    have q : e5 = e3 := by omega
    exact ⟨rfl, E.out.panic hk, .inr ⟨by rw [q]; exact hs, by simp only [q]⟩⟩
  (try simp only [Act.put, List.setIfInBounds_toArray, List.set_cons_zero, List.set_cons_succ])
  replace hs : e3 = 0 := hs
  subst hs
  obtain ⟨rfl, l3⟩ := hT
  replace E := Lib.hid (E.out.call hk hr (H0 := fun _ => True) (fun _ _ => trivial))
  clear hk hr
  refine wpList_val (run_mv (v := .pointer (some ⟨p, 0, none⟩)) rfl rfl) rfl ?_; (try simp only [Act.put, List.setIfInBounds_toArray, List.set_cons_zero, List.set_cons_succ])
  refine wpList_callP (run_call2 enters_ralE rfl rfl rfl rfl) rfl (ralE_any B p b i3 i4 e4 x4 _ H4 E.out.rd) (fun v4 a6 hs hk hr hT => ?_) (fun a6 hs hk => ?pana6)
  case pana6 =>
    go_wp2_with fail
    replace hs : e4 ≠ 0 := hs
    have t5 := S5.out
    have q : e5 = e4 := by omega
    exact ⟨rfl, E.out.panic hk, .inr ⟨by rw [q]; exact hs, by simp only [q]⟩⟩
  (try simp only [Act.put, List.setIfInBounds_toArray, List.set_cons_zero, List.set_cons_succ])
  replace hs : e4 = 0 := hs
  subst hs
  obtain ⟨c4, d4, rfl, f4⟩ := hT
  replace E := Lib.hid (E.out.call hk hr (H0 := SlR 33 pkAt x4 c4 d4) (f4))
  clear hk hr
  refine wpList_val (run_mv (v := .pointer (some ⟨p, 0, none⟩)) rfl rfl) rfl ?_; (try simp only [Act.put, List.setIfInBounds_toArray, List.set_cons_zero, List.set_cons_succ])
  refine wpList_callP (run_call1 enters_rsig rfl rfl rfl) rfl (rsig_any B p b i4 i5 e5 x5 _ H5 E.out.rd) (fun v5 a7 hs hk hr hT => ?_) (fun a7 hs hk => ?pana7)
  case pana7 =>
    go_wp2_with fail
    exact ⟨rfl, E.out.panic hk, .inr ⟨hs, rfl⟩⟩
  (try simp only [Act.put, List.setIfInBounds_toArray, List.set_cons_zero, List.set_cons_succ])
  replace hs : e5 = 0 := hs
  subst hs
  obtain ⟨rfl, l5⟩ := hT
  replace E := Lib.hid (E.out.call hk hr (H0 := fun _ => True) (fun _ _ => trivial))
  clear hk hr
  refine wpList_val (run_bldP (cells := (lsR (.int .i64 x1) (.int .i64 x2) (x3.map b8) (.slice c4 x4.length d4) (x5.map b8)).toArray) (ps := [(0, .int .i64 x1), (1, .int .i64 x2), (2, .agg (x3.map b8).toArray), (3, .slice c4 x4.length d4), (4, .agg (x5.map b8).toArray)]) rfl rfl (lsR_all rfl rfl (by rw [List.length_map, l3]) rfl (by rw [List.length_map, l5]))) rfl ?_; (try simp only [Act.put, List.setIfInBounds_toArray, List.set_cons_zero, List.set_cons_succ])
  refine wpList_skip (run_stM (vs := lsR (.int .i64 x1) (.int .i64 x2) (x3.map b8) (.slice c4 x4.length d4) (x5.map b8)) rfl (szR (lsR_len (by rw [List.length_map, l3]) (by rw [List.length_map, l5])) (by kernel_rfl)) rfl rfl (One.all (lsR_one rfl rfl (One.b8 _) rfl (One.b8 _))) ((E.out.get (i := 0) rfl).thereM (by have q1 : (lsR (.int .i64 x1) (.int .i64 x2) (x3.map b8) (.slice c4 x4.length d4) (x5.map b8)).length = 99 := (lsR_len (by rw [List.length_map, l3]) (by rw [List.length_map, l5])); have q2 : (lsR ((.int .i64 0)) ((.int .i64 0)) (z8 32) ((.slice none 0 0)) (z8 64)).length = 99 := (lsR_len (z8_lenR 32) (z8_lenR 64)); omega))) rfl rfl ?_
  replace E := Lib.hid (E.out.put 0 rfl (m := lsR (.int .i64 x1) (.int .i64 x2) (x3.map b8) (.slice c4 x4.length d4) (x5.map b8)) ((show (lsR (.int .i64 x1) (.int .i64 x2) (x3.map b8) (.slice c4 x4.length d4) (x5.map b8)).length = 99 from (lsR_len (by rw [List.length_map, l3]) (by rw [List.length_map, l5]))).trans (show (lsR ((.int .i64 0)) ((.int .i64 0)) (z8 32) ((.slice none 0 0)) (z8 64)).length = 99 from (lsR_len (z8_lenR 32) (z8_lenR 64))).symm))
  generalize a7.setCells g2 0 (lsR (.int .i64 x1) (.int .i64 x2) (x3.map b8) (.slice c4 x4.length d4) (x5.map b8)) = a8 at *
  replace E := Lib.hid (show Rm _ _ _ _ _ [(g2, lsR (.int .i64 x1) (.int .i64 x2) (x3.map b8) (.slice c4 x4.length d4) (x5.map b8))] _ a8 from E.out)
  refine wpList_end ?_
  go_wp2_with fail
  exact bodyPost_ret (v := .agg (lsR (.int .i64 x1) (.int .i64 x2) (x3.map b8) (.slice c4 x4.length d4) (x5.map b8)).toArray) (results_rowB Try.results52 rfl Try.underlying40 rfl (szR (lsR_len (by rw [List.length_map, l3]) (by rw [List.length_map, l5])) (by kernel_rfl)) (E.out.get (i := 0) rfl).range) rfl ⟨E.out.kp, .inl ⟨(by first | rfl | exact hs), E.out.rd, _, rfl, _, rfl, (lsR_len (by rw [List.length_map, l3]) (by rw [List.length_map, l5])), (lsR_one rfl rfl (One.b8 _) rfl (One.b8 _)), fun V hV => ⟨c4, d4, rfl, (E.out.tell V hV).2.1⟩⟩⟩
theorem enters_renv : Enters 115 := enters_of Try.func115 (by kernel_rfl) rfl
set_option maxHeartbeats 8000000 in
theorem renv_any (B p : Nat) (b : List (BitVec 8)) (i i' : Nat) (e' : Int) (x : MEv) (u : World) (H : evM b (i, 0) = ((i', e'), x)) (R : RdS B p b i u) : Calls Try.prog 115 #[.pointer (some ⟨p, 0, none⟩)] u (RPost B p b u (i', e') fun v u' => ∃ X : List Value, v = .agg X.toArray ∧ X.length = 72 ∧ One X ∧ Fro u.heap.size (evAt x X) u') := by
  rcases H1 : nM b 1099511627776 (i, 0) with ⟨⟨i1, e1⟩, x1⟩
  rcases H2 : nM b 1099511627776 (i1, e1) with ⟨⟨i2, e2⟩, x2⟩
  have S2 : Hid (e1 ≠ 0 → e2 = e1) := Lib.hid fun h => by have q := nM_stay (most := 1099511627776) (b := b) (i := i1) h; rw [H2] at q; exact congrArg Prod.snd q
  rcases H3 : trM b (i2, e2) with ⟨⟨i3, e3⟩, x3⟩
  have S3 : Hid (e2 ≠ 0 → e3 = e2) := Lib.hid fun h => by have q := trM_stay (b := b) (i := i2) h; rw [H3] at q; exact congrArg Prod.snd q
  rcases H4 : kM 32 b (i3, e3) with ⟨⟨i4, e4⟩, x4⟩
  have S4 : Hid (e3 ≠ 0 → e4 = e3) := Lib.hid fun h => by have q := kM_stay (n := 32) (b := b) (i := i3) h; rw [H4] at q; exact congrArg Prod.snd q
  rcases H5 : nM b 1099511627776 (i4, e4) with ⟨⟨i5, e5⟩, x5⟩
  have S5 : Hid (e4 ≠ 0 → e5 = e4) := Lib.hid fun h => by have q := nM_stay (most := 1099511627776) (b := b) (i := i4) h; rw [H5] at q; exact congrArg Prod.snd q
  rcases H6 : nM b 1099511627776 (i5, e5) with ⟨⟨i6, e6⟩, x6⟩
  have S6 : Hid (e5 ≠ 0 → e6 = e5) := Lib.hid fun h => by have q := nM_stay (most := 1099511627776) (b := b) (i := i5) h; rw [H6] at q; exact congrArg Prod.snd q
  rcases H7 : hdM b (i6, e6) with ⟨⟨i7, e7⟩, x7⟩
  have S7 : Hid (e6 ≠ 0 → e7 = e6) := Lib.hid fun h => by have q := hdM_stay (b := b) (i := i6) h; rw [H7] at q; exact congrArg Prod.snd q
  rcases H8 : byM b (i7, e7) with ⟨⟨i8, e8⟩, x8⟩
  have S8 : Hid (e7 ≠ 0 → e8 = e7) := Lib.hid fun h => by have q := byM_stay (b := b) (i := i7) h; rw [H8] at q; exact congrArg Prod.snd q
  simp only [evM, H1, H2, H3, H4, H5, H6, H7, H8, Prod.mk.injEq] at H
  obtain ⟨⟨rfl, rfl⟩, rfl⟩ := H
  have E := Lib.hid (Rm.start R)
  clear R
  go_enter Try.func115, Try.ntmps115
  go_upto_region 0 with fail; refine wp_region_lit ?_
  refine wpList_val (run_alc (vs := evR ((.int .i64 0)) ((.int .i64 0)) ((.bool false)) (z8 32) ((.int .i64 0)) ((.int .i64 0)) (hdR (z8 32) ((.int .i64 0)) ((.int .i64 0))) ((.slice none 0 0))) rfl (by kernel_rfl)) rfl ?_; (try simp only [Act.put, List.setIfInBounds_toArray, List.set_cons_zero, List.set_cons_succ])
  replace E := Lib.hid (E.out.new (evR ((.int .i64 0)) ((.int .i64 0)) ((.bool false)) (z8 32) ((.int .i64 0)) ((.int .i64 0)) (hdR (z8 32) ((.int .i64 0)) ((.int .i64 0))) ((.slice none 0 0))) 64)
  generalize u.alloc (.cells (evR ((.int .i64 0)) ((.int .i64 0)) ((.bool false)) (z8 32) ((.int .i64 0)) ((.int .i64 0)) (hdR (z8 32) ((.int .i64 0)) ((.int .i64 0))) ((.slice none 0 0))).toArray 64) = a1 at *
  obtain ⟨g2, hg0⟩ : ∃ k, k = u.heap.size := ⟨_, rfl⟩
  rw [← hg0] at E ⊢
  clear hg0
  refine wpList_end ?_
  go_upto_region 1 with fail; refine wp_region_lit ?_
  refine wpList_val (run_mv (v := .pointer (some ⟨p, 0, none⟩)) rfl rfl) rfl ?_; (try simp only [Act.put, List.setIfInBounds_toArray, List.set_cons_zero, List.set_cons_succ])
  refine wpList_callP (run_call1 enters_rnum rfl rfl rfl) rfl (rnum_any B p b i i1 e1 x1 _ H1 E.out.rd) (fun v1 a3 hs hk hr hT => ?_) (fun a3 hs hk => ?pana3)
  case pana3 =>
    go_wp2_with fail
    replace hs : e1 ≠ 0 := hs
    have t2 := S2.out
    have t3 := S3.out
    have t4 := S4.out
    have t5 := S5.out
    have t6 := S6.out
    have t7 := S7.out
    have t8 := S8.out
    have q : e8 = e1 := by omega
    exact ⟨rfl, E.out.panic hk, .inr ⟨by rw [q]; exact hs, by simp only [q]⟩⟩
  (try simp only [Act.put, List.setIfInBounds_toArray, List.set_cons_zero, List.set_cons_succ])
  replace hs : e1 = 0 := hs
  subst hs
  subst hT
  replace E := Lib.hid (E.out.call hk hr (H0 := fun _ => True) (fun _ _ => trivial))
  clear hk hr
  refine wpList_val (run_mv (v := .pointer (some ⟨p, 0, none⟩)) rfl rfl) rfl ?_; (try simp only [Act.put, List.setIfInBounds_toArray, List.set_cons_zero, List.set_cons_succ])
  refine wpList_callP (run_call1 enters_rnum rfl rfl rfl) rfl (rnum_any B p b i1 i2 e2 x2 _ H2 E.out.rd) (fun v2 a4 hs hk hr hT => ?_) (fun a4 hs hk => ?pana4)
  case pana4 =>
    go_wp2_with fail
    replace hs : e2 ≠ 0 := hs
    have t3 := S3.out
    have t4 := S4.out
    have t5 := S5.out
    have t6 := S6.out
    have t7 := S7.out
    have t8 := S8.out
    have q : e8 = e2 := by omega
    exact ⟨rfl, E.out.panic hk, .inr ⟨by rw [q]; exact hs, by simp only [q]⟩⟩
  (try simp only [Act.put, List.setIfInBounds_toArray, List.set_cons_zero, List.set_cons_succ])
  replace hs : e2 = 0 := hs
  subst hs
  subst hT
  replace E := Lib.hid (E.out.call hk hr (H0 := fun _ => True) (fun _ _ => trivial))
  clear hk hr
  refine wpList_val (run_mv (v := .pointer (some ⟨p, 0, none⟩)) rfl rfl) rfl ?_; (try simp only [Act.put, List.setIfInBounds_toArray, List.set_cons_zero, List.set_cons_succ])
  refine wpList_callP (run_call1 enters_rtru rfl rfl rfl) rfl (rtru_any B p b i2 i3 e3 x3 _ H3 E.out.rd) (fun v3 a5 hs hk hr hT => ?_) (fun a5 hs hk => ?pana5)
  case pana5 =>
    go_wp2_with fail
    replace hs : e3 ≠ 0 := hs
    have t4 := S4.out
    have t5 := S5.out
    have t6 := S6.out
    have t7 := S7.out
    have t8 := S8.out
    have q : e8 = e3 := by omega
    exact ⟨rfl, E.out.panic hk, .inr ⟨by rw [q]; exact hs, by simp only [q]⟩⟩
  (try simp only [Act.put, List.setIfInBounds_toArray, List.set_cons_zero, List.set_cons_succ])
  replace hs : e3 = 0 := hs
  subst hs
  subst hT
  replace E := Lib.hid (E.out.call hk hr (H0 := fun _ => True) (fun _ _ => trivial))
  clear hk hr
  refine wpList_val (run_mv (v := .pointer (some ⟨p, 0, none⟩)) rfl rfl) rfl ?_; (try simp only [Act.put, List.setIfInBounds_toArray, List.set_cons_zero, List.set_cons_succ])
  refine wpList_callP (run_call1 enters_rkey rfl rfl rfl) rfl (rkey_any B p b i3 i4 e4 x4 _ H4 E.out.rd) (fun v4 a6 hs hk hr hT => ?_) (fun a6 hs hk => ?pana6)
  case pana6 =>
    go_wp2_with fail
    replace hs : e4 ≠ 0 := hs
    have t5 := S5.out
    have t6 := S6.out
    have t7 := S7.out
    have t8 := S8.out
    have q : e8 = e4 := by omega
    exact ⟨rfl, E.out.panic hk, .inr ⟨by rw [q]; exact hs, by simp only [q]⟩⟩
  (try simp only [Act.put, List.setIfInBounds_toArray, List.set_cons_zero, List.set_cons_succ])
  replace hs : e4 = 0 := hs
  subst hs
  obtain ⟨rfl, l4⟩ := hT
  replace E := Lib.hid (E.out.call hk hr (H0 := fun _ => True) (fun _ _ => trivial))
  clear hk hr
  refine wpList_val (run_mv (v := .pointer (some ⟨p, 0, none⟩)) rfl rfl) rfl ?_; (try simp only [Act.put, List.setIfInBounds_toArray, List.set_cons_zero, List.set_cons_succ])
  refine wpList_callP (run_call1 enters_rnum rfl rfl rfl) rfl (rnum_any B p b i4 i5 e5 x5 _ H5 E.out.rd) (fun v5 a7 hs hk hr hT => ?_) (fun a7 hs hk => ?pana7)
  case pana7 =>
    go_wp2_with fail
    replace hs : e5 ≠ 0 := hs
    have t6 := S6.out
    have t7 := S7.out
    have t8 := S8.out
    have q : e8 = e5 := by omega
    exact ⟨rfl, E.out.panic hk, .inr ⟨by rw [q]; exact hs, by simp only [q]⟩⟩
  (try simp only [Act.put, List.setIfInBounds_toArray, List.set_cons_zero, List.set_cons_succ])
  replace hs : e5 = 0 := hs
  subst hs
  subst hT
  replace E := Lib.hid (E.out.call hk hr (H0 := fun _ => True) (fun _ _ => trivial))
  clear hk hr
  refine wpList_val (run_mv (v := .pointer (some ⟨p, 0, none⟩)) rfl rfl) rfl ?_; (try simp only [Act.put, List.setIfInBounds_toArray, List.set_cons_zero, List.set_cons_succ])
  refine wpList_callP (run_call1 enters_rnum rfl rfl rfl) rfl (rnum_any B p b i5 i6 e6 x6 _ H6 E.out.rd) (fun v6 a8 hs hk hr hT => ?_) (fun a8 hs hk => ?pana8)
  case pana8 =>
    go_wp2_with fail
    replace hs : e6 ≠ 0 := hs
    have t7 := S7.out
    have t8 := S8.out
    have q : e8 = e6 := by omega
    exact ⟨rfl, E.out.panic hk, .inr ⟨by rw [q]; exact hs, by simp only [q]⟩⟩
  (try simp only [Act.put, List.setIfInBounds_toArray, List.set_cons_zero, List.set_cons_succ])
  replace hs : e6 = 0 := hs
  subst hs
  subst hT
  have n6 := nM_num (b := b) (most := 1099511627776) (s := (i5, 0)) (by omega)
  rw [H6] at n6
  simp only at n6
  replace E := Lib.hid (E.out.call hk hr (H0 := fun _ => True) (fun _ _ => trivial))
  clear hk hr
  refine wpList_val (run_sub rfl rfl rfl (by omega) (by omega)) rfl ?_; (try simp only [Act.put, List.setIfInBounds_toArray, List.set_cons_zero, List.set_cons_succ])
  refine wpList_val (run_mv (v := .pointer (some ⟨p, 0, none⟩)) rfl rfl) rfl ?_; (try simp only [Act.put, List.setIfInBounds_toArray, List.set_cons_zero, List.set_cons_succ])
  refine wpList_callP (run_call1 enters_rhdr rfl rfl rfl) rfl (rhdr_any B p b i6 i7 e7 x7 _ H7 E.out.rd) (fun v7 a9 hs hk hr hT => ?_) (fun a9 hs hk => ?pana9)
  case pana9 =>
    go_wp2_with fail
    replace hs : e7 ≠ 0 := hs
    have t8 := S8.out
    have q : e8 = e7 := by omega
    exact ⟨rfl, E.out.panic hk, .inr ⟨by rw [q]; exact hs, by simp only [q]⟩⟩
  (try simp only [Act.put, List.setIfInBounds_toArray, List.set_cons_zero, List.set_cons_succ])
  replace hs : e7 = 0 := hs
  subst hs
  obtain ⟨rfl, l7⟩ := hT
  replace E := Lib.hid (E.out.call hk hr (H0 := fun _ => True) (fun _ _ => trivial))
  clear hk hr
  refine wpList_val (run_mv (v := .pointer (some ⟨p, 0, none⟩)) rfl rfl) rfl ?_; (try simp only [Act.put, List.setIfInBounds_toArray, List.set_cons_zero, List.set_cons_succ])
  refine wpList_callP (run_call1 enters_rbyt rfl rfl rfl) rfl (rbyt_any B p b i7 i8 e8 x8 _ H8 E.out.rd) (fun v8 a10 hs hk hr hT => ?_) (fun a10 hs hk => ?pana10)
  case pana10 =>
    go_wp2_with fail
    exact ⟨rfl, E.out.panic hk, .inr ⟨hs, rfl⟩⟩
  (try simp only [Act.put, List.setIfInBounds_toArray, List.set_cons_zero, List.set_cons_succ])
  replace hs : e8 = 0 := hs
  subst hs
  obtain ⟨c8, d8, rfl, f8⟩ := hT
  replace E := Lib.hid (E.out.call hk hr (H0 := Sl (.slice c8 x8.length d8) x8) (f8))
  clear hk hr
  refine wpList_val (run_bldP (cells := (evR (.int .i64 x1) (.int .i64 x2) (.bool x3) (x4.map b8) (.int .i64 x5) (.int .i64 (x6 - 1)) (hdC x7) (.slice c8 x8.length d8)).toArray) (ps := [(0, .int .i64 x1), (1, .int .i64 x2), (2, .bool x3), (3, .agg (x4.map b8).toArray), (4, .int .i64 x5), (5, .int .i64 (x6 - 1)), (6, .agg (hdC x7).toArray), (7, .slice c8 x8.length d8)]) rfl rfl (evR_all rfl rfl rfl (by rw [List.length_map, l4]) rfl rfl (hdC_len l7) rfl)) rfl ?_; (try simp only [Act.put, List.setIfInBounds_toArray, List.set_cons_zero, List.set_cons_succ])
  refine wpList_skip (run_stM (vs := evR (.int .i64 x1) (.int .i64 x2) (.bool x3) (x4.map b8) (.int .i64 x5) (.int .i64 (x6 - 1)) (hdC x7) (.slice c8 x8.length d8)) rfl (szR (evR_len (by rw [List.length_map, l4]) (hdC_len l7)) (by kernel_rfl)) rfl rfl (One.all (evR_one rfl rfl rfl (One.b8 _) rfl rfl hdC_one rfl)) ((E.out.get (i := 0) rfl).thereM (by have q1 : (evR (.int .i64 x1) (.int .i64 x2) (.bool x3) (x4.map b8) (.int .i64 x5) (.int .i64 (x6 - 1)) (hdC x7) (.slice c8 x8.length d8)).length = 72 := (evR_len (by rw [List.length_map, l4]) (hdC_len l7)); have q2 : (evR ((.int .i64 0)) ((.int .i64 0)) ((.bool false)) (z8 32) ((.int .i64 0)) ((.int .i64 0)) (hdR (z8 32) ((.int .i64 0)) ((.int .i64 0))) ((.slice none 0 0))).length = 72 := (evR_len (z8_lenR 32) (hdR_len (z8_lenR 32))); omega))) rfl rfl ?_
  replace E := Lib.hid (E.out.put 0 rfl (m := evR (.int .i64 x1) (.int .i64 x2) (.bool x3) (x4.map b8) (.int .i64 x5) (.int .i64 (x6 - 1)) (hdC x7) (.slice c8 x8.length d8)) ((show (evR (.int .i64 x1) (.int .i64 x2) (.bool x3) (x4.map b8) (.int .i64 x5) (.int .i64 (x6 - 1)) (hdC x7) (.slice c8 x8.length d8)).length = 72 from (evR_len (by rw [List.length_map, l4]) (hdC_len l7))).trans (show (evR ((.int .i64 0)) ((.int .i64 0)) ((.bool false)) (z8 32) ((.int .i64 0)) ((.int .i64 0)) (hdR (z8 32) ((.int .i64 0)) ((.int .i64 0))) ((.slice none 0 0))).length = 72 from (evR_len (z8_lenR 32) (hdR_len (z8_lenR 32)))).symm))
  generalize a10.setCells g2 0 (evR (.int .i64 x1) (.int .i64 x2) (.bool x3) (x4.map b8) (.int .i64 x5) (.int .i64 (x6 - 1)) (hdC x7) (.slice c8 x8.length d8)) = a11 at *
  replace E := Lib.hid (show Rm _ _ _ _ _ [(g2, evR (.int .i64 x1) (.int .i64 x2) (.bool x3) (x4.map b8) (.int .i64 x5) (.int .i64 (x6 - 1)) (hdC x7) (.slice c8 x8.length d8))] _ a11 from E.out)
  refine wpList_end ?_
  go_wp2_with fail
  exact bodyPost_ret (v := .agg (evR (.int .i64 x1) (.int .i64 x2) (.bool x3) (x4.map b8) (.int .i64 x5) (.int .i64 (x6 - 1)) (hdC x7) (.slice c8 x8.length d8)).toArray) (results_rowB Try.results115 rfl Try.underlying64 rfl (szR (evR_len (by rw [List.length_map, l4]) (hdC_len l7)) (by kernel_rfl)) (E.out.get (i := 0) rfl).range) rfl ⟨E.out.kp, .inl ⟨(by first | rfl | exact hs), E.out.rd, _, rfl, _, rfl, (evR_len (by rw [List.length_map, l4]) (hdC_len l7)), (evR_one rfl rfl rfl (One.b8 _) rfl rfl hdC_one rfl), fun V hV => ⟨c8, d8, by rw [evC_row], (E.out.tell V hV).1⟩⟩⟩
theorem enters_ralV : Enters 116 := enters_of Try.func116 (by kernel_rfl) rfl
set_option maxHeartbeats 8000000 in
theorem ralV_any (B p : Nat) (b : List (BitVec 8)) (i i' : Nat) (e' : Int) (x : List MEv) (u : World) (H : evsM b (i, 0) = ((i', e'), x)) (R : RdS B p b i u) : Calls Try.prog 116 #[.pointer (some ⟨p, 0, none⟩), .func (.func 115) #[] #[]] u (RPost B p b u (i', e') fun v u' => ∃ a c, v = .slice a x.length c ∧ Fro u.heap.size (SlR 72 evAt x a c) u') := by
  rcases HN : nM b 60000 (i, 0) with ⟨⟨i0, e0⟩, N⟩
  have hn0 := nM_num (b := b) (most := 60000) (s := (i, 0)) (by omega)
  rw [HN] at hn0
  obtain ⟨n, hn⟩ : ∃ n : Nat, N = (n : Int) := ⟨N.toNat, by omega⟩
  subst hn
  have hnn : n ≤ 60000 := by have := hn0.2; simp only at this; omega
  clear hn0
  simp only [evsM, HN, Int.toNat_natCast] at H
  have S1 : Hid (e0 ≠ 0 → e' = e0) := Lib.hid fun h => by rw [rowsM_err _ _ (by exact h)] at H; exact (congrArg (fun z => z.1.2) H).symm
  have HH := Lib.hid H
  have HR := Lib.hid R
  clear H R
  go_enter Try.func116, Try.ntmps116
  go_upto_region 0 with fail; refine wp_region_lit ?_
  refine wpList_val (run_asg (v := .slice none 0 0) rfl rfl) rfl ?_; (try simp only [Act.put, List.setIfInBounds_toArray, List.set_cons_zero, List.set_cons_succ])
  refine wpList_end ?_
  go_upto_region 1 with fail; refine wp_region_lit ?_
  refine wpList_val (run_asg (v := .slice none 0 0) rfl rfl) rfl ?_; (try simp only [Act.put, List.setIfInBounds_toArray, List.set_cons_zero, List.set_cons_succ])
  refine wpList_end ?_
  have E := Lib.hid ((Rg.start HR.out 64 72).know (H0 := LR evAt [] []) fun V _ => LR.nil V)
  go_upto_region 2 with fail; refine wp_region_lit ?_
  refine wpList_val (run_mv (v := .pointer (some ⟨p, 0, none⟩)) rfl rfl) rfl ?_; (try simp only [Act.put, List.setIfInBounds_toArray, List.set_cons_zero, List.set_cons_succ])
  refine wpList_callP (run_call1 enters_rcnt rfl rfl rfl) rfl (rcnt_any B p b i i0 e0 _ _ HN E.out.rd) (fun v a1 hs hk hr hT => ?_) (fun a1 hs hk => ?pana1)
  case pana1 =>
    go_wp2_with fail
    have q := S1.out hs
    exact ⟨rfl, E.out.kp.trans hk, .inr ⟨by rw [q]; exact hs, by simp only [q]⟩⟩
  (try simp only [Act.put, List.setIfInBounds_toArray, List.set_cons_zero, List.set_cons_succ])
  subst hT
  replace hs : e0 = 0 := hs
  subst hs
  replace E := Lib.hid ((E.out.call hk hr (H0 := fun _ => True) fun _ _ => trivial).know (H0 := LR evAt [] []) fun V h => h.2)
  clear hk hr S1 HR
  refine wpList_val (run_mv (v := .int .i64 0) rfl rfl) rfl ?_; (try simp only [Act.put, List.setIfInBounds_toArray, List.set_cons_zero, List.set_cons_succ])
  refine wpList_end ?_
  go_wp2_with fail
  go_loopw [5, 8] (fun s5 s8 a => ∃ (k q : Nat) (l : List MEv) (css : List (List Value)), s8 = .int .i64 (k : Int) ∧ k ≤ n ∧ k = l.length ∧ (∀ y ∈ css, y.length = 72) ∧ (rowsM (evM b) n (i0, 0) = ((rowsM (evM b) (n - k) (q, 0)).1, l ++ (rowsM (evM b) (n - k) (q, 0)).2)) ∧ Rg u B p b q 64 72 s5 k css.flatten (LR evAt l css) a) (fun _ s8 _ => ((n : Int) - intOf s8).toNat)
  case atStart => exact ⟨0, i0, [], [], rfl, by omega, rfl, (fun _ h => by cases h), by simp, E.out⟩
  case round =>
    obtain ⟨k, q, l, css, rfl, hkn, hkl, hq, hrow, hJ⟩ := hrel
    replace E := Lib.hid hJ
    have HQ := Lib.hid hq
    have HRW := Lib.hid hrow
    clear hJ hq hrow
    by_cases hkn2 : k = n
    · subst hkn2
      have HX : Hid (((i', e'), x) = ((q, (0 : Int)), l)) := Lib.hid (by rw [← HH.out, HRW.out, Nat.sub_self, rowsM_zero, List.append_nil])
      simp only [Prod.mk.injEq] at HX
      obtain ⟨⟨rfl, rfl⟩, rfl⟩ := HX.out
      go_upto_region 3 with fail; refine wp_region_lit ?_
      refine wpList_val (run_lssb (c := false) rfl rfl rfl (decide_eq_false (by omega))) rfl ?_; (try simp only [Act.put, List.setIfInBounds_toArray, List.set_cons_zero, List.set_cons_succ])
      refine wpList_end ?_
      go_upto_region 6 with fail; refine wp_region_lit ?_
      refine wpList_val (run_mv (v := u5) rfl rfl) rfl ?_; (try simp only [Act.put, List.setIfInBounds_toArray, List.set_cons_zero, List.set_cons_succ])
      refine wpList_val (run_asg (v := u5) rfl rfl) rfl ?_; (try simp only [Act.put, List.setIfInBounds_toArray, List.set_cons_zero, List.set_cons_succ])
      refine wpList_end ?_
      have HF : Hid (Fro u.heap.size (fun V => ∃ a' c', u5 = .slice a' x.length c' ∧ SlR 72 evAt x a' c' V) wr) := Lib.hid fun V hV => slR_own (E.out.tell V hV).1 hkl (E.out.tell V hV).2.1 HQ.out (E.out.tell V hV).2.2
      obtain ⟨a', c', hv6, hS0⟩ := HF.out.now
      subst hv6
      have HF2 : Hid (Fro u.heap.size (SlR 72 evAt x a' c') wr) := Lib.hid fun V hV => by
        obtain ⟨a2, c2, h1, h2⟩ := HF.out V hV
        simp only [Value.slice.injEq] at h1
        obtain ⟨rfl, _, rfl⟩ := h1
        exact h2
      go_wp2_with fail
      exact bodyPost_ret (results_tmp Try.results116 _ _ _) rfl ⟨E.out.kp, .inl ⟨rfl, E.out.rd, _, rfl, _, _, rfl, HF2.out⟩⟩
    · obtain ⟨m, hm⟩ : ∃ m, n - k = m + 1 := ⟨n - k - 1, by omega⟩
      have hr2 := HRW.out
      rw [hm, rowsM_step _ _ rfl] at hr2
      rcases HG : evM b (q, 0) with ⟨⟨q1, e1⟩, y⟩
      rw [HG] at hr2
      have S2 : Hid (e1 ≠ 0 → e' = e1) := Lib.hid fun h => by have h9 := HH.out; rw [hr2, rowsM_err _ _ (by exact h)] at h9; exact (congrArg (fun z => z.1.2) h9).symm
      replace HRW := Lib.hid hr2
      clear hr2
      go_upto_region 3 with fail; refine wp_region_lit ?_
      refine wpList_val (run_lssb (c := true) rfl rfl rfl (decide_eq_true (by omega))) rfl ?_; (try simp only [Act.put, List.setIfInBounds_toArray, List.set_cons_zero, List.set_cons_succ])
      refine wpList_end ?_
      go_upto_region 4 with fail; refine wp_region_lit ?_
      refine wpList_val (run_mv (v := u5) rfl rfl) rfl ?_; (try simp only [Act.put, List.setIfInBounds_toArray, List.set_cons_zero, List.set_cons_succ])
      refine wpList_val (run_mv (v := .func (.func 115) #[] #[]) rfl rfl) rfl ?_; (try simp only [Act.put, List.setIfInBounds_toArray, List.set_cons_zero, List.set_cons_succ])
      refine wpList_val (run_mv (v := .pointer (some ⟨p, 0, none⟩)) rfl rfl) rfl ?_; (try simp only [Act.put, List.setIfInBounds_toArray, List.set_cons_zero, List.set_cons_succ])
      refine wpList_callP (run_callv1 enters_renv rfl rfl rfl) rfl (renv_any B p b q q1 e1 y _ HG E.out.rd) (fun v3 a3 hs hk hr hT => ?_) (fun a3 hs hk => ?pana3)
      case pana3 =>
        go_wp2_with fail
        have q := S2.out hs
        exact ⟨rfl, E.out.kp.trans hk, .inr ⟨by rw [q]; exact hs, by simp only [q]⟩⟩
      (try simp only [Act.put, List.setIfInBounds_toArray, List.set_cons_zero, List.set_cons_succ])
      replace hs : e1 = 0 := hs
      subst hs
      obtain ⟨X, rfl, lX, oX, fX⟩ := hT
      replace E := Lib.hid (E.out.call hk hr (H0 := evAt y X) fX)
      clear hk hr S2
      refine wpList_val (run_bsl1 (m := X) (z := 72) (zv := .agg ([.int .i64 0, .int .i64 0] ++ [.bool false] ++ List.replicate 32 (.int .u8 0) ++ [.int .i64 0, .int .i64 0] ++ List.replicate 32 (.int .u8 0) ++ [.int .i64 0, .int .i64 0] ++ [.slice none 0 0] : List Value).toArray) rfl Try.underlying73 (by kernel_rfl) rfl lX (by omega) (by omega)) rfl ?_; (try simp only [Act.put, List.setIfInBounds_toArray, List.set_cons_zero, List.set_cons_succ])
      have A2 := Lib.hid (Arr.new a3 X 64)
      replace E := Lib.hid (E.out.below ((Below.refl a3.heap.size a3).alloc (Nat.le_refl _) (.cells X.toArray 64)))
      generalize a3.alloc (.cells X.toArray 64) = b1 at *
      generalize a3.heap.size = g0 at *
      refine wpList_growR (t := 73) (bw := 144) (zv := .agg ([.int .i64 0, .int .i64 0] ++ [.bool false] ++ List.replicate 32 (.int .u8 0) ++ [.int .i64 0, .int .i64 0] ++ List.replicate 32 (.int .u8 0) ++ [.int .i64 0, .int .i64 0] ++ [.slice none 0 0] : List Value).toArray) (z := 72) rfl rfl Try.underlying73 (by kernel_rfl) rfl (by omega) rfl rfl A2.out.range lX oX (by omega) (by omega) E.out (fun v7 b2 hG => ?_); (try simp only [Act.put, List.setIfInBounds_toArray, List.set_cons_zero, List.set_cons_succ])
      replace E := Lib.hid (hG.know (H0 := LR evAt (l ++ [y]) (css ++ [X])) fun V h => h.2.snoc h.1)
      clear hG A2
      refine wpList_val (run_asg (v := v7) rfl rfl) rfl ?_; (try simp only [Act.put, List.setIfInBounds_toArray, List.set_cons_zero, List.set_cons_succ])
      refine wpList_end ?_
      go_upto_region 5 with fail; refine wp_region_lit ?_
      refine wpList_val (run_addN (a := k) (b := 1) rfl rfl rfl (by omega)) rfl ?_; (try simp only [Act.put, List.setIfInBounds_toArray, List.set_cons_zero, List.set_cons_succ])
      refine wpList_val (run_mv (v := .int .i64 ((k + 1 : Nat) : Int)) rfl rfl) rfl ?_; (try simp only [Act.put, List.setIfInBounds_toArray, List.set_cons_zero, List.set_cons_succ])
      refine wpList_end ?_
      go_wp2_with fail
      exact ⟨⟨k + 1, q1, l ++ [y], css ++ [X], rfl, by omega, by rw [List.length_append, ← hkl]; rfl, (fun z hz => (List.mem_append.1 hz).elim (HQ.out z) fun h => by rw [List.mem_singleton.1 h]; exact lX), by rw [HRW.out, show n - (k + 1) = m by omega, List.append_assoc]; rfl, by rw [List.flatten_append, show [X].flatten = X by simp]; exact E.out⟩, by simp [intOf]; omega⟩
end Go.Proofs.Ytgioojahadlmhaa
namespace Go.Proofs.Ytgioojahadlmhaa
open Go.RowKit
set_option maxRecDepth 20000
attribute [local irreducible] wpList

set_option maxHeartbeats 400000 in
theorem caLs_short (g : Nat) (x : Value) (w : World) (hc : w.cell? ⟨g, 0, none⟩ = some x) (hz : w.frozen? ⟨g, 0, none⟩ = false) :
    CallsD Try.prog 102 #[.pointer (some ⟨g, 0, none⟩)] (.panicking [{ v := .iface 145 (.agg #[]), recovered := false }]) w fun e u' w' =>
      e = .returned (.tuple #[]) ∧ u' = .panicking [{ v := .iface 145 (.agg #[]), recovered := true }] ∧ w' = w.setCell ⟨g, 0, none⟩ (.int .u16 10) := by
  refine callsD_of_wpS Try.func102 rfl fun c₀ cs hu => ?_
  apply wpS_seq
  apply wpS_region
  simp [wpOpsS, go_sem, recoverD, hu, Try.ntmps102, Exit.thenS]
  refine wpS_of_wp ?_
  have ht := ta_short
  go_wp2
  simp [bodyPostS, results, Try.results102, go_sem]
set_option maxHeartbeats 400000 in
theorem caLs_form (g : Nat) (x : Value) (w : World) (hc : w.cell? ⟨g, 0, none⟩ = some x) (hz : w.frozen? ⟨g, 0, none⟩ = false) :
    CallsD Try.prog 102 #[.pointer (some ⟨g, 0, none⟩)] (.panicking [{ v := .iface 148 (.agg #[]), recovered := false }]) w fun e u' w' =>
      e = .returned (.tuple #[]) ∧ u' = .panicking [{ v := .iface 148 (.agg #[]), recovered := true }] ∧ w' = w.setCell ⟨g, 0, none⟩ (.int .u16 11) := by
  refine callsD_of_wpS Try.func102 rfl fun c₀ cs hu => ?_
  apply wpS_seq
  apply wpS_region
  simp [wpOpsS, go_sem, recoverD, hu, Try.ntmps102, Exit.thenS]
  refine wpS_of_wp ?_
  have ht := ta_form
  go_wp2
  simp [bodyPostS, results, Try.results102, go_sem]
set_option maxHeartbeats 400000 in
theorem caLs_idle (g : Nat) (w : World) : CallsD Try.prog 102 #[.pointer (some ⟨g, 0, none⟩)] .returning w fun e u' w' => e = .returned (.tuple #[]) ∧ u' = .returning ∧ w' = w := by
  refine callsD_of_wpS Try.func102 rfl fun c₀ cs hu => ?_
  apply wpS_seq
  apply wpS_region
  simp [wpOpsS, go_sem, recoverD, hu, Try.ntmps102, Exit.thenS]
  refine wpS_of_wp ?_
  go_wp2
  cases c₀
  simp_all [bodyPostS, results, Try.results102, go_sem]
theorem caLs_pan (g : Nat) (x : Value) (e : Int) (w : World) (hc : w.cell? ⟨g, 0, none⟩ = some x) (hz : w.frozen? ⟨g, 0, none⟩ = false) : CallsD Try.prog 102 #[.pointer (some ⟨g, 0, none⟩)] (.panicking [pan e]) w fun en u' w' => en = .returned (.tuple #[]) ∧ u' = .panicking [panR e] ∧ w' = w.setCell ⟨g, 0, none⟩ (.int .u16 (errOf e)) := by
  by_cases h : e = 10
  · have h1 : pan e = { v := .iface 145 (.agg #[]), recovered := false } := by unfold pan; rw [if_pos h]
    have h2 : panR e = { v := .iface 145 (.agg #[]), recovered := true } := by unfold panR; rw [h1]
    rw [h1, h2, show errOf e = 10 by unfold errOf; rw [if_pos h]]
    exact caLs_short g x w hc hz
  · have h1 : pan e = { v := .iface 148 (.agg #[]), recovered := false } := by unfold pan; rw [if_neg h]
    have h2 : panR e = { v := .iface 148 (.agg #[]), recovered := true } := by unfold panR; rw [h1]
    rw [h1, h2, show errOf e = 11 by unfold errOf; rw [if_neg h]]
    exact caLs_form g x w hc hz
theorem enters_rxLs : Enters 51 := enters_of Try.func51 (by kernel_rfl) rfl
theorem enters_ryLs : Enters 17 := enters_of Try.func17 (by kernel_rfl) rfl
set_option maxHeartbeats 8000000 in
theorem rxLs_any (a0 : Option Addr) (b : List (BitVec 8)) (c0 : Nat) (x : MLs) (err : Int) (H : rdLs b = (x, err)) (w : World) (hb : Sl (.slice a0 b.length c0) b w) : Calls Try.prog 51 #[.slice a0 b.length c0, .func (.func 52) #[] #[]] w fun r w' => ∃ v', r = .returned v' ∧ ((∃ X : List Value, v' = .tuple #[.agg X.toArray, .int .u16 err] ∧ X.length = 99 ∧ One X ∧ Fro w.heap.size (lsAt x X) w') ∧ Below w.heap.size w w') := by
  rcases HM : lsM b (0, 0) with ⟨⟨q, e⟩, y⟩
  have hok : ok3 e := by have h := lsM_ok (b := b) (s := (0, 0)) (.inl rfl); rw [HM] at h; exact h
  have HX3 : Hid (60000 < b.length → x = zLs ∧ err = 3) := Lib.hid fun h => by
    have hz : lsM ([] : List (BitVec 8)) (0, 3) = lsM ([] : List (BitVec 8)) (0, 3) := rfl
    have hs : (lsM ([] : List (BitVec 8)) (0, 3)).1 = (0, 3) := lsM_stay (show (3 : Int) ≠ 0 by decide)
    simp only [rdLs, rdLsA, beginM, if_pos h] at H
    rw [hs] at H
    simp only [endM, if_neg (fun h : (3 : Int) = 0 ∧ (0 : Nat) < ([] : List (BitVec 8)).length => absurd h.1 (by decide)), if_neg (show ¬ (3 : Int) = 0 by decide), Prod.mk.injEq] at H
    exact ⟨H.1.symm, H.2.symm⟩
  have HX : Hid (¬ 60000 < b.length → if endM b.length q e = 0 then x = y ∧ err = 0 else x = zLs ∧ err = endM b.length q e) := Lib.hid fun h => by
    simp only [rdLs, rdLsA, beginM, if_neg h, HM] at H
    by_cases h2 : endM b.length q e = 0
    · rw [if_pos h2] at H ⊢; simp only [Prod.mk.injEq] at H; exact ⟨H.1.symm, H.2.symm⟩
    · rw [if_neg h2] at H ⊢; simp only [Prod.mk.injEq] at H; exact ⟨H.1.symm, H.2.symm⟩
  have HH := Lib.hid HM
  have HS := Lib.hid hb
  clear H HM hb
  have E := Lib.hid (Ev.start (w := w) (F := fun _ => True) fun _ _ => trivial)
  generalize hlen : b.length = m at *
  have HLN := Lib.hid hlen
  clear hlen
  go_enter_defers Try.func51, Try.ntmps51
  go_upto_region 0 with fail; refine wp_region_lit ?_
  refine wpList_val (run_alc (vs := (lsR ((.int .i64 0)) ((.int .i64 0)) (z8 32) ((.slice none 0 0)) (z8 64))) rfl (by kernel_rfl)) rfl ?_; (try simp only [Act.put, List.setIfInBounds_toArray, List.set_cons_zero, List.set_cons_succ])
  replace E := Lib.hid (E.out.new ((lsR ((.int .i64 0)) ((.int .i64 0)) (z8 32) ((.slice none 0 0)) (z8 64))) 40)
  generalize hw0 : w.alloc (.cells ((lsR ((.int .i64 0)) ((.int .i64 0)) (z8 32) ((.slice none 0 0)) (z8 64)) : List Value).toArray 40) = a1 at E ⊢
  clear hw0
  obtain ⟨g1, hg0⟩ : ∃ k, k = w.heap.size := ⟨_, rfl⟩
  rw [← hg0] at E ⊢
  clear hg0
  refine wpList_val (run_alc1 (v := .int .u16 0) rfl (by kernel_rfl) rfl) rfl ?_; (try simp only [Act.put, List.setIfInBounds_toArray, List.set_cons_zero, List.set_cons_succ])
  replace E := Lib.hid (E.out.new ([.int .u16 0]) 28)
  generalize a1.alloc (.cells ([.int .u16 0] : List Value).toArray 28) = a2 at *
  generalize a1.heap.size = g2 at *
  refine wpList_end ?_
  go_upto_region 1 with fail; refine wp_region_lit ?_
  refine wpList_val (run_mv (v := .slice a0 m c0) rfl rfl) rfl ?_; (try simp only [Act.put, List.setIfInBounds_toArray, List.set_cons_zero, List.set_cons_succ])
  refine wpList_val (run_len rfl Try.underlying22 rfl) rfl ?_; (try simp only [Act.put, List.setIfInBounds_toArray, List.set_cons_zero, List.set_cons_succ])
  by_cases hlong : 60000 < m
  · refine wpList_val (run_gtrb (c := true) rfl rfl rfl (decide_eq_true (by omega))) rfl ?_; (try simp only [Act.put, List.setIfInBounds_toArray, List.set_cons_zero, List.set_cons_succ])
    refine wpList_end ?_
    go_upto_region 2 with fail; refine wp_region_lit ?_
    refine wpList_val (run_ldM (vs := (lsR ((.int .i64 0)) ((.int .i64 0)) (z8 32) ((.slice none 0 0)) (z8 64))) rfl Try.underlying40 rfl (szR (lsR_len (z8_lenR 32) (z8_lenR 64)) (by kernel_rfl)) rfl (E.out.get (i := 1) rfl).range) rfl ?_; (try simp only [Act.put, List.setIfInBounds_toArray, List.set_cons_zero, List.set_cons_succ])
    refine wpList_skip (run_stM (vs := (lsR ((.int .i64 0)) ((.int .i64 0)) (z8 32) ((.slice none 0 0)) (z8 64))) rfl (szR (lsR_len (z8_lenR 32) (z8_lenR 64)) (by kernel_rfl)) rfl rfl (One.all (lsR_one rfl rfl (One.b8 _) rfl (One.b8 _))) ((E.out.get (i := 1) rfl).thereM (by have q1 : ((lsR ((.int .i64 0)) ((.int .i64 0)) (z8 32) ((.slice none 0 0)) (z8 64)) : List Value).length = 99 := (lsR_len (z8_lenR 32) (z8_lenR 64)); omega))) rfl rfl ?_
    replace E := Lib.hid (E.out.put 1 rfl (m := (lsR ((.int .i64 0)) ((.int .i64 0)) (z8 32) ((.slice none 0 0)) (z8 64))) rfl)
    generalize a2.setCells g1 0 ((lsR ((.int .i64 0)) ((.int .i64 0)) (z8 32) ((.slice none 0 0)) (z8 64))) = a3 at *
    refine wpList_skip (run_stc (v := .int .u16 3) rfl (by kernel_rfl) rfl rfl rfl rfl ((E.out.get (i := 0) rfl).c 0 _ rfl) ((E.out.get (i := 0) rfl).f 0)) rfl rfl ?_
    replace E := Lib.hid (E.out.set 0 rfl (j := 0) (by show 0 < 1; omega) (.int .u16 3))
    replace E := Lib.hid (show Ev _ [(g2, [.int .u16 3]), (g1, (lsR ((.int .i64 0)) ((.int .i64 0)) (z8 32) ((.slice none 0 0)) (z8 64)))] _ _ _ _ from E.out)
    generalize a3.setCell ⟨g2, 0, none⟩ (.int .u16 3) = a4 at *
    refine wpList_end ?_
    go_wp2_with fail
    obtain ⟨rfl, rfl⟩ := HX3.out hlong
    exact ⟨_, results_cells Try.results51 rfl rfl Try.underlying40 rfl Try.underlying28 rfl (szR (lsR_len (z8_lenR 32) (z8_lenR 64)) (by kernel_rfl)) (E.out.get (i := 1) rfl).range ((E.out.get (i := 0) rfl).c 0 _ rfl), _, rfl, ⟨_, rfl, (lsR_len (z8_lenR 32) (z8_lenR 64)), (lsR_one rfl rfl (One.b8 _) rfl (One.b8 _)), fun V _ => lsAt_zero V⟩, E.out.bl⟩
  · refine wpList_val (run_gtrb (c := false) rfl rfl rfl (decide_eq_false (by omega))) rfl ?_; (try simp only [Act.put, List.setIfInBounds_toArray, List.set_cons_zero, List.set_cons_succ])
    refine wpList_end ?_
    have hx := HX.out hlong
    clear HX3 HX
    go_upto_region 3 with fail; refine wp_region_lit ?_
    refine wpList_val (run_mkf (v := .pointer (some ⟨g2, 0, none⟩)) rfl rfl) rfl ?_; (try simp only [Act.put, List.setIfInBounds_toArray, List.set_cons_zero, List.set_cons_succ])
    refine wpList_defer (d := { target := .fn (.func 102) #[.pointer (some ⟨g2, 0, none⟩)], args := #[] }) (run_defer rfl rfl) rfl ?_; (try simp only [Act.put])
    refine wpList_end ?_
    go_upto_region 4 with fail; refine wp_region_lit ?_
    refine wpList_val (run_mv (v := .slice a0 m c0) rfl rfl) rfl ?_; (try simp only [Act.put, List.setIfInBounds_toArray, List.set_cons_zero, List.set_cons_succ])
    refine wpList_val (run_bldP (cells := #[.slice a0 m c0]) (ps := [(0, .slice a0 m c0)]) rfl rfl (by kernel_rfl)) rfl ?_; (try simp only [Act.put, List.setIfInBounds_toArray, List.set_cons_zero, List.set_cons_succ])
    refine wpList_val (run_alc (vs := [.slice none 0 0]) rfl (by kernel_rfl)) rfl ?_; (try simp only [Act.put, List.setIfInBounds_toArray, List.set_cons_zero, List.set_cons_succ])
    replace E := Lib.hid (E.out.new ([.slice none 0 0]) 147)
    generalize a2.alloc (.cells ([.slice none 0 0] : List Value).toArray 147) = a5 at *
    generalize a2.heap.size = g3 at *
    refine wpList_skip (run_stM (vs := [.slice a0 m c0]) rfl (szR (n := 1) rfl (by kernel_rfl)) rfl rfl (One.all (One.cons rfl One.nil)) ((E.out.get (i := 0) rfl).thereM (by show 0 + 1 ≤ 1; omega))) rfl rfl ?_
    replace E := Lib.hid (E.out.put 0 rfl (m := [.slice a0 m c0]) rfl)
    replace E := Lib.hid (show Ev _ [(g3, [.slice a0 m c0]), (g2, [.int .u16 0]), (g1, (lsR ((.int .i64 0)) ((.int .i64 0)) (z8 32) ((.slice none 0 0)) (z8 64)))] _ _ _ _ from E.out)
    generalize a5.setCells g3 0 [.slice a0 m c0] = a6 at *
    refine wpList_end ?_
    have HR : Hid (RdS a6.heap.size g3 b 0 a6) := Lib.hid (by have hA := E.out.get (i := 0) rfl; have hg := (E.out.mv.all (g3, [.slice a0 m c0]) (List.mem_cons_self ..)).1; have hS := HS.out; have hq := HLN.out; subst hq; exact rdS_new hA E.out.bl hg hS)
    clear HS
    go_upto_region 5 with fail; refine wp_region_lit ?_
    refine wpList_val (run_mv (v := .func (.func 52) #[] #[]) rfl rfl) rfl ?_; (try simp only [Act.put, List.setIfInBounds_toArray, List.set_cons_zero, List.set_cons_succ])
    refine wpList_callP (run_callv1 enters_rlst rfl rfl rfl) rfl (rlst_any _ g3 b 0 q e y _ HH.out HR.out) (fun v a7 hs hk hr hT => ?_) (fun a7 hs hk => ?pana)
    case pana =>
      go_wp2_with fail
      replace hs : e ≠ 0 := hs
      replace E := Lib.hid (E.out.callIn hk (H0 := fun _ => True) fun _ _ => trivial)
      have hen : endM m q e = e := by unfold endM; rw [if_neg (fun h => hs h.1)]
      rw [hen, if_neg hs] at hx
      obtain ⟨rfl, rfl⟩ := hx
      have her := errOf_ok hok hs
      refine leaves_cons (f := 102) (args := #[.pointer (some ⟨g2, 0, none⟩)]) (by simp) (by simp [go_sem]) ?_
      refine (caLs_pan g2 _ err _ ((E.out.get (i := 0) rfl).c 0 _ rfl) ((E.out.get (i := 0) rfl).f 0)).mono ?_
      rintro en u1 w1 ⟨rfl, rfl, rfl⟩
      replace E := Lib.hid (E.out.set 0 rfl (j := 0) (by show 0 < 1; omega) (.int .u16 (errOf err)))
      rw [her] at E
      rw [her]
      replace E := Lib.hid (show Ev _ [(g2, [.int .u16 err]), (g1, (lsR ((.int .i64 0)) ((.int .i64 0)) (z8 32) ((.slice none 0 0)) (z8 64)))] _ _ _ _ from E.out)
      exact ⟨_, results_cells Try.results51 rfl rfl Try.underlying40 rfl Try.underlying28 rfl (szR (lsR_len (z8_lenR 32) (z8_lenR 64)) (by kernel_rfl)) (E.out.get (i := 1) rfl).range ((E.out.get (i := 0) rfl).c 0 _ rfl), _, rfl, ⟨_, rfl, (lsR_len (z8_lenR 32) (z8_lenR 64)), (lsR_one rfl rfl (One.b8 _) rfl (One.b8 _)), fun V _ => lsAt_zero V⟩, E.out.bl⟩
    (try simp only [Act.put, List.setIfInBounds_toArray, List.set_cons_zero, List.set_cons_succ])
    replace hs : e = 0 := hs
    subst hs
    obtain ⟨X, rfl, lX, oX, fX⟩ := hT
    replace E := Lib.hid (E.out.callIn hk (H0 := lsAt y X) fX)
    have hB7 := hr.Bu
    have HR2 := Lib.hid hr
    clear hk hr HR fX
    refine wpList_val (run_alc (vs := (lsR ((.int .i64 0)) ((.int .i64 0)) (z8 32) ((.slice none 0 0)) (z8 64))) rfl (by kernel_rfl)) rfl ?_; (try simp only [Act.put, List.setIfInBounds_toArray, List.set_cons_zero, List.set_cons_succ])
    replace HR2 := Lib.hid (HR2.out.below ((Below.refl _ _).alloc (Nat.le_refl _) (.cells ((lsR ((.int .i64 0)) ((.int .i64 0)) (z8 32) ((.slice none 0 0)) (z8 64)) : List Value).toArray 40)))
    replace E := Lib.hid (E.out.new ((lsR ((.int .i64 0)) ((.int .i64 0)) (z8 32) ((.slice none 0 0)) (z8 64))) 40)
    generalize a7.alloc (.cells ((lsR ((.int .i64 0)) ((.int .i64 0)) (z8 32) ((.slice none 0 0)) (z8 64)) : List Value).toArray 40) = a8 at *
    have hG4 : a6.heap.size ≤ a7.heap.size := hB7
    generalize a7.heap.size = g4 at *
    refine wpList_skip (run_stM (vs := X) rfl (szR lX (by kernel_rfl)) rfl rfl (One.all oX) ((E.out.get (i := 0) rfl).thereM (by have q1 : ((lsR ((.int .i64 0)) ((.int .i64 0)) (z8 32) ((.slice none 0 0)) (z8 64)) : List Value).length = 99 := (lsR_len (z8_lenR 32) (z8_lenR 64)); omega))) rfl rfl ?_
    replace HR2 := Lib.hid (HR2.out.step (below_setCells hG4 X 0 (Below.refl _ a8)))
    replace E := Lib.hid (E.out.put 0 rfl (m := X) (lX.trans (show ((lsR ((.int .i64 0)) ((.int .i64 0)) (z8 32) ((.slice none 0 0)) (z8 64)) : List Value).length = 99 from (lsR_len (z8_lenR 32) (z8_lenR 64))).symm))
    replace E := Lib.hid (show Ev _ [(g4, X), (g2, [.int .u16 0]), (g1, (lsR ((.int .i64 0)) ((.int .i64 0)) (z8 32) ((.slice none 0 0)) (z8 64)))] _ _ _ _ from E.out)
    generalize a8.setCells g4 0 X = a9 at *
    refine wpList_end ?_
    obtain ⟨hq, -, -, al, cl, hA, -⟩ := HR2.out
    have hdl : (b.drop q).length = m - q := by rw [List.length_drop, HLN.out]
    have HA := Lib.hid hA
    clear hA HR2
    generalize (b.drop q).length = r at *
    go_upto_region 6 with fail; refine wp_region_lit ?_
    refine wpList_val (run_fad (s := 0) (k := 0) rfl Try.underlying147 rfl (by kernel_rfl) rfl rfl) rfl ?_; (try simp only [Act.put, List.setIfInBounds_toArray, List.set_cons_zero, List.set_cons_succ])
    refine wpList_val (run_ldc (v := .slice al r cl) rfl Try.underlying22 rfl rfl (HA.out.c 0 _ rfl)) rfl ?_; (try simp only [Act.put, List.setIfInBounds_toArray, List.set_cons_zero, List.set_cons_succ])
    refine wpList_val (run_len rfl Try.underlying22 rfl) rfl ?_; (try simp only [Act.put, List.setIfInBounds_toArray, List.set_cons_zero, List.set_cons_succ])
    by_cases hleft : q < m
    · refine wpList_val (run_gtrb (c := true) rfl rfl rfl (decide_eq_true (by omega))) rfl ?_; (try simp only [Act.put, List.setIfInBounds_toArray, List.set_cons_zero, List.set_cons_succ])
      refine wpList_end ?_
      have hen : endM m q 0 = 11 := by unfold endM; rw [if_pos ⟨rfl, hleft⟩]
      rw [hen, if_neg nz11] at hx
      obtain ⟨rfl, rfl⟩ := hx
      go_upto_region 7 with fail; refine wp_region_lit ?_
      refine wpList_val (run_bld (cells := #[]) rfl (by kernel_rfl)) rfl ?_; (try simp only [Act.put, List.setIfInBounds_toArray, List.set_cons_zero, List.set_cons_succ])
      refine wpList_val (run_mki (v := .agg #[]) rfl (by kernel_rfl) rfl) rfl ?_; (try simp only [Act.put, List.setIfInBounds_toArray, List.set_cons_zero, List.set_cons_succ])
      refine wpList_panic rfl rfl rfl ?_
      go_wp2_with fail
      refine leaves_cons (f := 102) (args := #[.pointer (some ⟨g2, 0, none⟩)]) (by simp) (by simp [go_sem]) ?_
      refine (caLs_form g2 _ _ ((E.out.get (i := 1) rfl).c 0 _ rfl) ((E.out.get (i := 1) rfl).f 0)).mono ?_
      rintro en u1 w1 ⟨rfl, rfl, rfl⟩
      replace E := Lib.hid (E.out.set 1 rfl (j := 0) (by show 0 < 1; omega) (.int .u16 (11)))
      replace E := Lib.hid (show Ev _ [(g4, X), (g2, [.int .u16 11]), (g1, (lsR ((.int .i64 0)) ((.int .i64 0)) (z8 32) ((.slice none 0 0)) (z8 64)))] _ _ _ _ from E.out)
      exact ⟨_, results_cells Try.results51 rfl rfl Try.underlying40 rfl Try.underlying28 rfl (szR (lsR_len (z8_lenR 32) (z8_lenR 64)) (by kernel_rfl)) (E.out.get (i := 2) rfl).range ((E.out.get (i := 1) rfl).c 0 _ rfl), _, rfl, ⟨_, rfl, (lsR_len (z8_lenR 32) (z8_lenR 64)), (lsR_one rfl rfl (One.b8 _) rfl (One.b8 _)), fun V _ => lsAt_zero V⟩, E.out.bl⟩
    · refine wpList_val (run_gtrb (c := false) rfl rfl rfl (decide_eq_false (by omega))) rfl ?_; (try simp only [Act.put, List.setIfInBounds_toArray, List.set_cons_zero, List.set_cons_succ])
      refine wpList_end ?_
      have hen : endM m q 0 = 0 := by unfold endM; rw [if_neg (fun h => hleft h.2)]
      rw [hen, if_pos rfl] at hx
      obtain ⟨rfl, rfl⟩ := hx
      go_upto_region 8 with fail; refine wp_region_lit ?_
      refine wpList_val (run_ldM (vs := X) rfl Try.underlying40 rfl (szR lX (by kernel_rfl)) rfl (E.out.get (i := 0) rfl).range) rfl ?_; (try simp only [Act.put, List.setIfInBounds_toArray, List.set_cons_zero, List.set_cons_succ])
      refine wpList_skip (run_stM (vs := X) rfl (szR lX (by kernel_rfl)) rfl rfl (One.all oX) ((E.out.get (i := 2) rfl).thereM (by have q1 : ((lsR ((.int .i64 0)) ((.int .i64 0)) (z8 32) ((.slice none 0 0)) (z8 64)) : List Value).length = 99 := (lsR_len (z8_lenR 32) (z8_lenR 64)); omega))) rfl rfl ?_
      replace E := Lib.hid (E.out.put 2 rfl (m := X) (lX.trans (show ((lsR ((.int .i64 0)) ((.int .i64 0)) (z8 32) ((.slice none 0 0)) (z8 64)) : List Value).length = 99 from (lsR_len (z8_lenR 32) (z8_lenR 64))).symm))
      generalize a9.setCells g1 0 X = b1 at *
      refine wpList_skip (run_stc (v := .int .u16 0) rfl (by kernel_rfl) rfl rfl rfl rfl ((E.out.get (i := 1) rfl).c 0 _ rfl) ((E.out.get (i := 1) rfl).f 0)) rfl rfl ?_
      replace E := Lib.hid (E.out.set 1 rfl (j := 0) (by show 0 < 1; omega) (.int .u16 0))
      replace E := Lib.hid (show Ev _ [(g4, X), (g2, [.int .u16 0]), (g1, X)] _ _ _ _ from E.out)
      generalize b1.setCell ⟨g2, 0, none⟩ (.int .u16 0) = b2 at *
      refine wpList_end ?_
      go_wp2_with fail
      refine leaves_cons (f := 102) (args := #[.pointer (some ⟨g2, 0, none⟩)]) (by simp) (by simp [go_sem]) ?_
      refine (caLs_idle g2 _).mono ?_
      rintro en u1 w1 ⟨rfl, rfl, rfl⟩
      exact ⟨_, results_cells Try.results51 rfl rfl Try.underlying40 rfl Try.underlying28 rfl (szR lX (by kernel_rfl)) (E.out.get (i := 2) rfl).range ((E.out.get (i := 1) rfl).c 0 _ rfl), _, rfl, ⟨_, rfl, lX, oX, fun V hV => (E.out.tell V hV).1⟩, E.out.bl⟩
set_option maxHeartbeats 8000000 in
theorem ryLs_any (a0 : Option Addr) (b : List (BitVec 8)) (c0 : Nat) (x : MLs) (err : Int) (H : rdLs b = (x, err)) (w : World) (hb : Sl (.slice a0 b.length c0) b w) : Calls Try.prog 17 #[.slice a0 b.length c0] w fun r w' => ∃ v', r = .returned v' ∧ ((∃ X : List Value, v' = .tuple #[.agg X.toArray, .int .u16 err] ∧ X.length = 99 ∧ One X ∧ Fro w.heap.size (lsAt x X) w') ∧ Below w.heap.size w w') := by
  have HC : Hid (∀ u : World, Below w.heap.size w u → Calls Try.prog 51 #[.slice a0 b.length c0, .func (.func 52) #[] #[]] u fun r w' => ∃ v', r = .returned v' ∧ ((∃ X : List Value, v' = .tuple #[.agg X.toArray, .int .u16 err] ∧ X.length = 99 ∧ One X ∧ Fro u.heap.size (lsAt x X) w') ∧ Below u.heap.size u w')) := Lib.hid fun u hu => rxLs_any a0 b c0 x err H u (hb.below hu)
  clear H hb
  generalize b.length = m at *
  have E := Lib.hid (Ev.start (w := w) (F := fun _ => True) fun _ _ => trivial)
  go_enter Try.func17, Try.ntmps17
  go_upto_region 0 with fail; refine wp_region_lit ?_
  refine wpList_val (run_alc (vs := (lsR ((.int .i64 0)) ((.int .i64 0)) (z8 32) ((.slice none 0 0)) (z8 64))) rfl (by kernel_rfl)) rfl ?_; (try simp only [Act.put, List.setIfInBounds_toArray, List.set_cons_zero, List.set_cons_succ])
  replace E := Lib.hid (E.out.new ((lsR ((.int .i64 0)) ((.int .i64 0)) (z8 32) ((.slice none 0 0)) (z8 64))) 40)
  generalize hw0 : w.alloc (.cells ((lsR ((.int .i64 0)) ((.int .i64 0)) (z8 32) ((.slice none 0 0)) (z8 64)) : List Value).toArray 40) = a1 at E ⊢
  clear hw0
  obtain ⟨g1, hg0⟩ : ∃ k, k = w.heap.size := ⟨_, rfl⟩
  rw [← hg0] at E ⊢
  clear hg0
  refine wpList_val (run_asg (v := .int .u16 0) rfl rfl) rfl ?_; (try simp only [Act.put, List.setIfInBounds_toArray, List.set_cons_zero, List.set_cons_succ])
  refine wpList_end ?_
  go_upto_region 1 with fail; refine wp_region_lit ?_
  refine wpList_val (run_mv (v := .slice a0 m c0) rfl rfl) rfl ?_; (try simp only [Act.put, List.setIfInBounds_toArray, List.set_cons_zero, List.set_cons_succ])
  refine wpList_callR (run_call2 enters_rxLs rfl rfl rfl rfl) rfl (HC.out _ E.out.bl) (fun v a2 hR => ?_); (try simp only [Act.put, List.setIfInBounds_toArray, List.set_cons_zero, List.set_cons_succ])
  obtain ⟨⟨X, rfl, lX, oX, fX⟩, hb⟩ := hR
  replace E := Lib.hid (E.out.call hb fX)
  clear hb fX HC
  refine wpList_val (run_xtrR (v := .agg X.toArray) rfl rfl rfl) rfl ?_; (try simp only [Act.put, List.setIfInBounds_toArray, List.set_cons_zero, List.set_cons_succ])
  refine wpList_val (run_xtrR (v := .int .u16 err) rfl rfl rfl) rfl ?_; (try simp only [Act.put, List.setIfInBounds_toArray, List.set_cons_zero, List.set_cons_succ])
  refine wpList_skip (run_stM (vs := X) rfl (szR lX (by kernel_rfl)) rfl rfl (One.all oX) ((E.out.get (i := 0) rfl).thereM (by have q1 : ((lsR ((.int .i64 0)) ((.int .i64 0)) (z8 32) ((.slice none 0 0)) (z8 64)) : List Value).length = 99 := (lsR_len (z8_lenR 32) (z8_lenR 64)); omega))) rfl rfl ?_
  replace E := Lib.hid (E.out.put 0 rfl (m := X) (lX.trans (show ((lsR ((.int .i64 0)) ((.int .i64 0)) (z8 32) ((.slice none 0 0)) (z8 64)) : List Value).length = 99 from (lsR_len (z8_lenR 32) (z8_lenR 64))).symm))
  replace E := Lib.hid (show Ev _ [(g1, X)] _ _ _ _ from E.out)
  generalize a2.setCells g1 0 X = a3 at *
  refine wpList_val (run_asg (v := .int .u16 err) rfl rfl) rfl ?_; (try simp only [Act.put, List.setIfInBounds_toArray, List.set_cons_zero, List.set_cons_succ])
  refine wpList_end ?_
  go_wp2_with fail
  exact bodyPost_ret (v := .tuple #[.agg X.toArray, .int .u16 err]) (results_rowT Try.results17 rfl Try.underlying40 rfl (szR lX (by kernel_rfl)) (E.out.get (i := 0) rfl).range) rfl ⟨_, rfl, ⟨_, rfl, lX, oX, fun V hV => (E.out.tell V hV).1⟩, E.out.bl⟩
end Go.Proofs.Ytgioojahadlmhaa
namespace Go.Proofs.Ytgioojahadlmhaa
open Go.RowKit
set_option maxRecDepth 20000
attribute [local irreducible] wpList

theorem kn1 : alB usB [⟨[97], 300, true⟩] = [1, 1, 97, 172, 2, 1] := by decide +kernel
theorem kn2 : rdUs [1, 1, 97, 172, 2, 1] = ([⟨[97], 300, true⟩], 0) := by rfl
theorem kn3 : rdLs [] = (zLs, 10) := by rfl
theorem kn4 : strOf [97] = ⟨#[97]⟩ := by rfl
theorem kn5 : strOf [1, 1, 97, 172, 2, 1] = ⟨#[1, 1, 97, 172, 2, 1]⟩ := by rfl
theorem slR_sole {α : Type} {z g : Nat} {At : α → List Value → World → Prop} {x : α} {cs : List Value} {u : World} (hA : Arr g cs u) (hz : cs.length = z) (hR : Fro 0 (At x cs) u) : Fro 0 (SlR z At [x] (some ⟨g, 0, none⟩) 1) u := fun V hV =>
  ⟨Nat.le_refl _, [cs], rfl, (fun y hy => by rw [List.mem_singleton.1 hy]; exact hz), (fun i m c h1 h2 => by
    cases i with
    | zero => simp only [List.getElem?_cons_zero, Option.some.injEq] at h1 h2; subst h1 h2; exact hR V hV
    | succ i => simp at h1), fun _ => ⟨g, 0, rfl, Nat.lt_of_lt_of_le hA.lt hV.size, by simpa using (hA.same hV.size (hV.block g (Nat.zero_le _) hA.lt (by simp))).range⟩⟩
/-- One thing is there. -/
theorem slR_at {α : Type} {z : Nat} {At : α → List Value → World → Prop} {l : List α} {a : Option Addr} {c : Nat} {u : World} (h : SlR z At l a c u) {i : Nat} (hi : i < l.length) : ∃ g f cs, a = some ⟨g, f, none⟩ ∧ g < u.heap.size ∧ cs.length = z ∧ u.rangeAt g (f + i * z) cs ∧ At l[i] cs u := by
  obtain ⟨h1, css, h2, h3, h4, h5⟩ := h
  obtain ⟨g, f, h6, h7, h8⟩ := h5 (by intro e; rw [e] at hi; exact absurd hi (Nat.not_lt_zero _))
  have hi2 : i < css.length := by omega
  refine ⟨g, f, css[i], h6, h7, h3 _ (List.getElem_mem hi2), ?_, h4 i _ _ (List.getElem?_eq_getElem hi) (List.getElem?_eq_getElem hi2)⟩
  have key : ∀ (css : List (List Value)) (i : Nat), (∀ x ∈ css, x.length = z) → ∀ hi : i < css.length, (css.flatten.drop (i * z)).take z = css[i] := by
    intro css
    induction css with
    | nil => intro i _ hi; simp at hi
    | cons c css ih =>
      intro i hz hi
      have hc := hz c (List.mem_cons_self ..)
      cases i with
      | zero => simp [← hc]
      | succ i =>
        have := ih i (fun x hx => hz x (List.mem_cons_of_mem _ hx)) (by simpa using hi)
        rw [List.flatten_cons, show (i + 1) * z = c.length + i * z by rw [Nat.add_mul, hc]; omega, List.drop_append, List.drop_of_length_le (by omega), List.nil_append]
        simpa using this
  rw [← key css i h3 hi2]
  exact rangeAt_take (rangeAt_drop h8)
theorem enters_kn10 : Enters 10 := enters_of Try.func10 (by kernel_rfl) rfl
set_option maxHeartbeats 8000000 in
theorem known10_any (w : World) : Calls Try.prog 10 #[] w fun e w' => e = .returned (.bool true) ∧ Below w.heap.size w w' := by
  have E := Lib.hid (Ev.start (w := w) (F := fun _ => True) fun _ _ => trivial)
  obtain ⟨us, hus⟩ : ∃ us : List MUs, us = [⟨[97], 300, true⟩] := ⟨_, rfl⟩
  obtain ⟨B, hB⟩ : ∃ B : List (BitVec 8), B = [1, 1, 97, 172, 2, 1] := ⟨_, rfl⟩
  have hul : us.length = 1 := by rw [hus]; rfl
  have K1 : Hid (alB usB us = B) := Lib.hid (by rw [hus, hB]; exact kn1)
  have K2 : Hid (rdUs B = (us, 0)) := Lib.hid (by rw [hus, hB]; exact kn2)
  have KB : Hid (strOf B = ⟨#[1, 1, 97, 172, 2, 1]⟩) := Lib.hid (by rw [hB]; exact kn5)
  have HU := Lib.hid hus
  have hBl : B.length ≤ 100000000000 := by rw [hB]; decide
  clear hB hus
  go_enter Try.func10, Try.ntmps10
  go_upto_region 0 with fail; refine wp_region_lit ?_
  refine wpList_val (run_asg (v := .bool false) rfl rfl) rfl ?_; (try simp only [Act.put, List.setIfInBounds_toArray, List.set_cons_zero])
  refine wpList_end ?_
  go_upto_region 1 with fail; refine wp_region_lit ?_
  refine wpList_val (run_bldP (cells := (usR (.string ⟨#[97]⟩) (.int .i64 300) (.bool true)).toArray) (ps := [(0, .string ⟨#[97]⟩), (1, .int .i64 300), (2, .bool true)]) rfl rfl (usR_all rfl rfl rfl)) rfl ?_; (try simp only [Act.put, List.setIfInBounds_toArray, List.set_cons_zero, List.set_cons_succ])
  refine wpList_val (run_bsl1 (m := usR (.string ⟨#[97]⟩) (.int .i64 300) (.bool true)) (z := 3) (zv := .agg ([.string ⟨#[]⟩, .int .i64 0, .bool false] : List Value).toArray) rfl Try.underlying26 (by kernel_rfl) rfl usR_len (by omega) (by omega)) rfl ?_; (try simp only [Act.put, List.setIfInBounds_toArray, List.set_cons_zero, List.set_cons_succ])
  have HA := Lib.hid (Arr.new w (usR (.string ⟨#[97]⟩) (.int .i64 300) (.bool true)) 25)
  replace E := Lib.hid (E.out.new (usR (.string ⟨#[97]⟩) (.int .i64 300) (.bool true)) 25)
  generalize w.alloc (.cells (usR (.string ⟨#[97]⟩) (.int .i64 300) (.bool true)).toArray 25) = a1 at *
  obtain ⟨g1, hg1⟩ : ∃ k, k = w.heap.size := ⟨_, rfl⟩
  rw [← hg1] at E HA ⊢
  clear hg1
  have HS : Hid (Fro 0 (SlR 3 usAt us (some ⟨g1, 0, none⟩) 1) a1) := Lib.hid (by rw [HU.out]; exact slR_sole HA.out usR_len fun _ _ => rfl)
  have HC : Hid (Calls Try.prog 8 #[.slice (some ⟨g1, 0, none⟩) 1 1] a1 fun e w' => ∃ v', e = .returned v' ∧ S5 a1 v' B w') := Lib.hid (by
    have h := xUss_any a1 us (some ⟨g1, 0, none⟩) 1 (by omega) HS.out (by rw [K1.out]; exact hBl)
    rw [K1.out, hul] at h
    exact h)
  refine wpList_callR (run_call1 enters_xUss rfl rfl rfl) rfl HC.out (fun v2 a2 hR => ?_); (try simp only [Act.put, List.setIfInBounds_toArray, List.set_cons_zero, List.set_cons_succ])
  have hs9 := hR.sl
  obtain ⟨ax, cx, rfl, -, -⟩ := id hs9
  replace E := Lib.hid (E.out.call hR.bl (fro_sl hR.O))
  clear hR hs9 HS HC HA
  refine wpList_val (run_asg (v := .slice ax B.length cx) rfl rfl) rfl ?_; (try simp only [Act.put, List.setIfInBounds_toArray, List.set_cons_zero, List.set_cons_succ])
  refine wpList_end ?_
  go_upto_region 2 with fail; refine wp_region_lit ?_
  refine wpList_val (run_mv (v := .slice ax B.length cx) rfl rfl) rfl ?_; (try simp only [Act.put, List.setIfInBounds_toArray, List.set_cons_zero, List.set_cons_succ])
  refine wpList_callR (run_call1 enters_ryUs rfl rfl rfl) rfl (ryUs_any ax B cx us 0 K2.out _ E.out.h.1) (fun v3 a3 hR => ?_); (try simp only [Act.put, List.setIfInBounds_toArray, List.set_cons_zero, List.set_cons_succ])
  obtain ⟨⟨ay, cy, rfl, fy⟩, hb⟩ := hR
  rw [hul]
  replace E := Lib.hid (E.out.call hb fy)
  clear hb fy
  refine wpList_val (run_mv (v := .tuple #[.slice ay 1 cy, .int .u16 0]) rfl rfl) rfl ?_; (try simp only [Act.put, List.setIfInBounds_toArray, List.set_cons_zero, List.set_cons_succ])
  refine wpList_val (run_xtrR (v := .slice ay 1 cy) rfl rfl rfl) rfl ?_; (try simp only [Act.put, List.setIfInBounds_toArray, List.set_cons_zero, List.set_cons_succ])
  refine wpList_val (run_xtrR (v := .int .u16 0) rfl rfl rfl) rfl ?_; (try simp only [Act.put, List.setIfInBounds_toArray, List.set_cons_zero, List.set_cons_succ])
  refine wpList_val (run_asg (v := .slice ay 1 cy) rfl rfl) rfl ?_; (try simp only [Act.put, List.setIfInBounds_toArray, List.set_cons_zero, List.set_cons_succ])
  refine wpList_val (run_asg (v := .int .u16 0) rfl rfl) rfl ?_; (try simp only [Act.put, List.setIfInBounds_toArray, List.set_cons_zero, List.set_cons_succ])
  refine wpList_end ?_
  go_upto_region 3 with fail; refine wp_region_lit ?_
  refine wpList_callR (run_call1 enters_ryLs rfl rfl rfl) rfl (ryLs_any none [] 0 zLs 10 kn3 _ (sl_nilR _)) (fun v4 a4 hR => ?_); (try simp only [Act.put, List.setIfInBounds_toArray, List.set_cons_zero, List.set_cons_succ])
  obtain ⟨⟨X, rfl, lX, oX, fX⟩, hb⟩ := hR
  replace E := Lib.hid (E.out.call hb fX)
  clear hb fX
  refine wpList_val (run_mv (v := .tuple #[.agg X.toArray, .int .u16 10]) rfl rfl) rfl ?_; (try simp only [Act.put, List.setIfInBounds_toArray, List.set_cons_zero, List.set_cons_succ])
  refine wpList_val (run_xtrR (v := .agg X.toArray) rfl rfl rfl) rfl ?_; (try simp only [Act.put, List.setIfInBounds_toArray, List.set_cons_zero, List.set_cons_succ])
  refine wpList_val (run_xtrR (v := .int .u16 10) rfl rfl rfl) rfl ?_; (try simp only [Act.put, List.setIfInBounds_toArray, List.set_cons_zero, List.set_cons_succ])
  refine wpList_val (run_alc (vs := lsR ((.int .i64 0)) ((.int .i64 0)) (z8 32) ((.slice none 0 0)) (z8 64)) rfl (by kernel_rfl)) rfl ?_; (try simp only [Act.put, List.setIfInBounds_toArray, List.set_cons_zero, List.set_cons_succ])
  replace E := Lib.hid (E.out.new (lsR ((.int .i64 0)) ((.int .i64 0)) (z8 32) ((.slice none 0 0)) (z8 64)) 40)
  generalize a4.alloc (.cells (lsR ((.int .i64 0)) ((.int .i64 0)) (z8 32) ((.slice none 0 0)) (z8 64)).toArray 40) = a5 at *
  generalize a4.heap.size = g5 at *
  refine wpList_skip (run_stM (vs := X) rfl (szR lX (by kernel_rfl)) rfl rfl (One.all oX) ((E.out.get (i := 0) rfl).thereM (by have q1 : (lsR ((.int .i64 0)) ((.int .i64 0)) (z8 32) ((.slice none 0 0)) (z8 64) : List Value).length = 99 := (lsR_len (z8_lenR 32) (z8_lenR 64)); omega))) rfl rfl ?_
  replace E := Lib.hid (E.out.put 0 rfl (m := X) (lX.trans (show (lsR ((.int .i64 0)) ((.int .i64 0)) (z8 32) ((.slice none 0 0)) (z8 64) : List Value).length = 99 from (lsR_len (z8_lenR 32) (z8_lenR 64))).symm))
  generalize a5.setCells g5 0 X = a6 at *
  refine wpList_val (run_asg (v := .int .u16 10) rfl rfl) rfl ?_; (try simp only [Act.put, List.setIfInBounds_toArray, List.set_cons_zero, List.set_cons_succ])
  refine wpList_end ?_
  have hY := E.out.h.2.1
  obtain ⟨g, f, cs, rfl, -, hcl, hcr, hct⟩ := slR_at hY (i := 0) (by omega)
  have hcs : cs = usR (.string ⟨#[97]⟩) (.int .i64 300) (.bool true) := by
    have h := hct
    have e : us[0]'(by omega) = ⟨[97], 300, true⟩ := by simp only [HU.out, List.getElem_cons_zero]
    rw [e] at h
    exact h
  subst hcs
  have HCR : Hid (a6.rangeAt g (f + 0 * 3) (usR (.string ⟨#[97]⟩) (.int .i64 300) (.bool true))) := Lib.hid hcr
  have HSl := Lib.hid E.out.h.2.2.1
  have HBl := Lib.hid E.out.bl
  clear hcr hct hY hcl
  go_upto_region 4 with fail; refine wp_region_lit ?_
  refine wpList_val (run_mv (v := .slice ax B.length cx) rfl rfl) rfl ?_; (try simp only [Act.put, List.setIfInBounds_toArray, List.set_cons_zero, List.set_cons_succ])
  refine wpList_val (run_str rfl rfl HSl.out) rfl ?_; (try simp only [Act.put, List.setIfInBounds_toArray, List.set_cons_zero, List.set_cons_succ])
  rw [KB.out]
  refine wpList_val (run_eqstr rfl rfl rfl) rfl ?_; (try simp only [Act.put, List.setIfInBounds_toArray, List.set_cons_zero, List.set_cons_succ])
  refine wpList_val (run_mv (v := .bool true) rfl rfl) rfl ?_; (try simp only [Act.put, List.setIfInBounds_toArray, List.set_cons_zero, List.set_cons_succ])
  refine wpList_valG (run_mv (v := .int .u16 0) rfl rfl) rfl ?_; (try simp only [Act.put, List.setIfInBounds_toArray, List.set_cons_zero, List.set_cons_succ])
  refine wpList_valG (run_eqlb (c := true) rfl rfl rfl rfl) rfl ?_; (try simp only [Act.put, List.setIfInBounds_toArray, List.set_cons_zero, List.set_cons_succ])
  refine wpList_val (run_pick (b := true) (v := .bool true) rfl rfl rfl) rfl ?_; (try simp only [Act.put, List.setIfInBounds_toArray, List.set_cons_zero, List.set_cons_succ])
  refine wpList_val (run_mv (v := .bool true) rfl rfl) rfl ?_; (try simp only [Act.put, List.setIfInBounds_toArray, List.set_cons_zero, List.set_cons_succ])
  refine wpList_valG (run_mv (v := .slice (some _) 1 cy) rfl rfl) rfl ?_; (try simp only [Act.put, List.setIfInBounds_toArray, List.set_cons_zero, List.set_cons_succ])
  refine wpList_valG (run_len rfl Try.underlying26 rfl) rfl ?_; (try simp only [Act.put, List.setIfInBounds_toArray, List.set_cons_zero, List.set_cons_succ])
  refine wpList_valG (run_eqlb (c := true) rfl rfl rfl rfl) rfl ?_; (try simp only [Act.put, List.setIfInBounds_toArray, List.set_cons_zero, List.set_cons_succ])
  refine wpList_val (run_pick (b := true) (v := .bool true) rfl rfl rfl) rfl ?_; (try simp only [Act.put, List.setIfInBounds_toArray, List.set_cons_zero, List.set_cons_succ])
  refine wpList_val (run_mv (v := .bool true) rfl rfl) rfl ?_; (try simp only [Act.put, List.setIfInBounds_toArray, List.set_cons_zero, List.set_cons_succ])
  refine wpList_valG (run_mv (v := .slice (some ⟨g, f, none⟩) 1 cy) rfl rfl) rfl ?_; (try simp only [Act.put, List.setIfInBounds_toArray, List.set_cons_zero, List.set_cons_succ])
  refine wpList_valG (run_ixZ (z := 3) (i := 0) rfl Try.underlying26 (by kernel_rfl) rfl rfl (by omega)) rfl ?_; (try simp only [Act.put, List.setIfInBounds_toArray, List.set_cons_zero, List.set_cons_succ])
  refine wpList_valG (run_ldM (vs := usR (.string ⟨#[97]⟩) (.int .i64 300) (.bool true)) rfl Try.underlying25 rfl (szR usR_len (by kernel_rfl)) rfl HCR.out) rfl ?_; (try simp only [Act.put, List.setIfInBounds_toArray, List.set_cons_zero, List.set_cons_succ])
  refine wpList_valG (run_bldP (cells := (usR (.string ⟨#[97]⟩) (.int .i64 300) (.bool true)).toArray) (ps := [(0, .string ⟨#[97]⟩), (1, .int .i64 300), (2, .bool true)]) rfl rfl (usR_all rfl rfl rfl)) rfl ?_; (try simp only [Act.put, List.setIfInBounds_toArray, List.set_cons_zero, List.set_cons_succ])
  refine wpList_valG (run_eqlA (r := true) rfl (by kernel_rfl) rfl rfl ((eqUs_in a6).trans (by simp))) rfl ?_; (try simp only [Act.put, List.setIfInBounds_toArray, List.set_cons_zero, List.set_cons_succ])
  refine wpList_val (run_pick (b := true) (v := .bool true) rfl rfl rfl) rfl ?_; (try simp only [Act.put, List.setIfInBounds_toArray, List.set_cons_zero, List.set_cons_succ])
  refine wpList_val (run_mv (v := .bool true) rfl rfl) rfl ?_; (try simp only [Act.put, List.setIfInBounds_toArray, List.set_cons_zero, List.set_cons_succ])
  refine wpList_valG (run_mv (v := .int .u16 10) rfl rfl) rfl ?_; (try simp only [Act.put, List.setIfInBounds_toArray, List.set_cons_zero, List.set_cons_succ])
  refine wpList_valG (run_eqlb (c := true) rfl rfl rfl rfl) rfl ?_; (try simp only [Act.put, List.setIfInBounds_toArray, List.set_cons_zero, List.set_cons_succ])
  refine wpList_val (run_pick (b := true) (v := .bool true) rfl rfl rfl) rfl ?_; (try simp only [Act.put, List.setIfInBounds_toArray, List.set_cons_zero, List.set_cons_succ])
  refine wpList_val (run_asg (v := .bool true) rfl rfl) rfl ?_; (try simp only [Act.put, List.setIfInBounds_toArray, List.set_cons_zero])
  refine wpList_end ?_
  go_wp2_with fail
  go_ret
  exact ⟨rfl, HBl.out⟩
end Go.Proofs.Ytgioojahadlmhaa
