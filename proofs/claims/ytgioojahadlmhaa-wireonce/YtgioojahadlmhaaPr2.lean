import Derived.Test.YtgioojahadlmhaaLy
import Derived.Test.YtgioojahadlmhaaPrB
namespace Go.Proofs.Ytgioojahadlmhaa
open Go.RowKit
set_option maxRecDepth 20000
attribute [local irreducible] wpList
theorem run_s2aR {w : World} {ρ : Operand → Value} {o : Oper} {t e : TypeId} {x : Operand} {n len c : Nat} {a : Option Addr} (ho : o.op = .sliceToArrayPointer t x) (ht : Try.prog.underlying t = some (.array n e)) (hx : ρ x = .slice a len c) (hn : n ≤ len) : (execOp ρ o).run Try.prog w = .ok (.value (.pointer a)) w := by
  unfold execOp
  simp only [ho, hx, Sem.run_bind, run_arrayAt (P := Try.prog) (w := w) t e n a len c ht hn]
  simp [go_sem]
theorem enters_rnup : Enters 113 := qan Try.func113 (by kernel_rfl) rfl
set_option maxHeartbeats 8000000 in
theorem rnup_any (B p : Nat) (b : List (BitVec 8)) (i i' : Nat) (e' : Int) (x most : Int) (hm : most ≤ 1099511627776) (u : World) (H : nM b most (i, 0) = ((i', e'), x)) (R : RdS B p b i u) : Calls Try.prog 113 #[.pointer (some ⟨p, 0, none⟩), .int .i64 most] u (RPost B p b u (i', e') fun v _ => v = .int .i64 x) := by
  rcases HN : nM b 1099511627776 (i, 0) with ⟨⟨i0, e0⟩, N⟩
  have HU := nM_upto hm HN
  rw [H] at HU
  have HH := Lib.hid HU
  have HR := Lib.hid R
  clear H HU R
  go_enter Try.func113, Try.ntmps113
  go_upto_region 0 with fail; refine wp_region_lit ?_
  refine qaa (qak (v := .int .i64 0) rfl rfl) rfl ?_; (try simp only [Act.put, lyy])
  refine qab ?_
  go_upto_region 1 with fail; refine wp_region_lit ?_
  refine qaa (qad (v := .pointer (some ⟨p, 0, none⟩)) rfl rfl) rfl ?_; (try simp only [Act.put, lyy])
  refine qah (qam qbe rfl rfl rfl) rfl (qb1 B p b i i0 e0 N _ HN HR.out) (fun v a1 hs hk hr hT => ?_) (fun a1 hs hk => ?pana1)
  case pana1 =>
    go_wp2_with fail
    have q := HH.out
    rw [if_neg (fun h => hs h.1)] at q
    simp only [Prod.mk.injEq] at q
    obtain ⟨⟨rfl, rfl⟩, rfl⟩ := q
    exact ⟨rfl, hk, .inr ⟨hs, rfl⟩⟩
  (try simp only [Act.put, lyy])
  subst hT
  replace hs : e0 = 0 := hs
  subst hs
  replace HR := Lib.hid hr
  have HK := Lib.hid hk
  clear hr hk
  refine qaa (qak (v := .int .i64 N) rfl rfl) rfl ?_; (try simp only [Act.put, lyy])
  refine qab ?_
  by_cases hlt : most < N
  · have q := HH.out
    rw [if_pos ⟨rfl, hlt⟩] at q
    simp only [Prod.mk.injEq] at q
    obtain ⟨⟨rfl, rfl⟩, rfl⟩ := q
    go_upto_region 2 with fail; refine wp_region_lit ?_
    refine qaa (qad (v := .int .i64 N) rfl rfl) rfl ?_; (try simp only [Act.put, lyy])
    refine qaa (qad (v := .int .i64 most) rfl rfl) rfl ?_; (try simp only [Act.put, lyy])
    refine qaa (qbc (c := true) rfl rfl rfl (decide_eq_true hlt)) rfl ?_; (try simp only [Act.put, lyy])
    refine qab ?_
    go_upto_region 3 with fail; refine wp_region_lit ?_
    refine qaa (run_bld (cells := #[]) rfl (by kernel_rfl)) rfl ?_; (try simp only [Act.put, lyy])
    refine qaa (run_mki (v := .agg #[]) rfl (by kernel_rfl) rfl) rfl ?_; (try simp only [Act.put, lyy])
    refine qbt rfl rfl rfl ?_
    go_wp2_with fail
    exact ⟨rfl, HK.out, .inr ⟨nz11, rfl⟩⟩
  · have q := HH.out
    rw [if_neg (fun h => hlt h.2)] at q
    simp only [Prod.mk.injEq] at q
    go_upto_region 2 with fail; refine wp_region_lit ?_
    refine qaa (qad (v := .int .i64 N) rfl rfl) rfl ?_; (try simp only [Act.put, lyy])
    refine qaa (qad (v := .int .i64 most) rfl rfl) rfl ?_; (try simp only [Act.put, lyy])
    refine qaa (qbc (c := false) rfl rfl rfl (decide_eq_false hlt)) rfl ?_; (try simp only [Act.put, lyy])
    refine qab ?_
    obtain ⟨⟨rfl, rfl⟩, rfl⟩ := q
    go_upto_region 4 with fail; refine wp_region_lit ?_
    refine qaa (qad (v := .int .i64 x) rfl rfl) rfl ?_; (try simp only [Act.put, lyy])
    refine qaa (qak (v := .int .i64 x) rfl rfl) rfl ?_; (try simp only [Act.put, lyy])
    refine qab ?_
    go_wp2_with fail
    exact bodyPost_ret (results_tmp Try.results113 _ _ _) rfl ⟨HK.out, .inl ⟨rfl, HR.out, _, rfl, rfl⟩⟩
theorem enters_rsml : Enters 89 := qan Try.func89 (by kernel_rfl) rfl
set_option maxHeartbeats 8000000 in
theorem rsml_any (B p : Nat) (b : List (BitVec 8)) (i i' : Nat) (e' : Int) (x : Int) (u : World) (H : nM b 255 (i, 0) = ((i', e'), x)) (R : RdS B p b i u) : Calls Try.prog 89 #[.pointer (some ⟨p, 0, none⟩)] u (RPost B p b u (i', e') fun v _ => v = .int .i64 x) := by
  have HR := Lib.hid R
  clear R
  go_enter Try.func89, Try.ntmps89
  go_upto_region 0 with fail; refine wp_region_lit ?_
  refine qaa (qak (v := .int .i64 0) rfl rfl) rfl ?_; (try simp only [Act.put, lyy])
  refine qab ?_
  go_upto_region 1 with fail; refine wp_region_lit ?_
  refine qaa (qad (v := .pointer (some ⟨p, 0, none⟩)) rfl rfl) rfl ?_; (try simp only [Act.put, lyy])
  refine qah (qaf enters_rnup rfl rfl rfl rfl) rfl (rnup_any B p b i i' e' x 255 (by omega) _ H HR.out) (fun v a1 hs hk hr hT => ?_) (fun a1 hs hk => ?pana1)
  case pana1 =>
    go_wp2_with fail
    exact ⟨rfl, hk, .inr ⟨hs, rfl⟩⟩
  (try simp only [Act.put, lyy])
  subst hT
  have HK := Lib.hid hk
  replace HR := Lib.hid hr
  clear hk hr
  refine qaa (qak (v := .int .i64 x) rfl rfl) rfl ?_; (try simp only [Act.put, lyy])
  refine qab ?_
  go_wp2_with fail
  exact bodyPost_ret (results_tmp Try.results89 _ _ _) rfl ⟨HK.out, .inl ⟨(by first | exact hs | rfl), HR.out, _, rfl, rfl⟩⟩
theorem enters_rcnt : Enters 111 := qan Try.func111 (by kernel_rfl) rfl
set_option maxHeartbeats 8000000 in
theorem rcnt_any (B p : Nat) (b : List (BitVec 8)) (i i' : Nat) (e' : Int) (x : Int) (u : World) (H : nM b 60000 (i, 0) = ((i', e'), x)) (R : RdS B p b i u) : Calls Try.prog 111 #[.pointer (some ⟨p, 0, none⟩)] u (RPost B p b u (i', e') fun v _ => v = .int .i64 x) := by
  have HR := Lib.hid R
  clear R
  go_enter Try.func111, Try.ntmps111
  go_upto_region 0 with fail; refine wp_region_lit ?_
  refine qaa (qak (v := .int .i64 0) rfl rfl) rfl ?_; (try simp only [Act.put, lyy])
  refine qab ?_
  go_upto_region 1 with fail; refine wp_region_lit ?_
  refine qaa (qad (v := .pointer (some ⟨p, 0, none⟩)) rfl rfl) rfl ?_; (try simp only [Act.put, lyy])
  refine qah (qaf enters_rnup rfl rfl rfl rfl) rfl (rnup_any B p b i i' e' x 60000 (by omega) _ H HR.out) (fun v a1 hs hk hr hT => ?_) (fun a1 hs hk => ?pana1)
  case pana1 =>
    go_wp2_with fail
    exact ⟨rfl, hk, .inr ⟨hs, rfl⟩⟩
  (try simp only [Act.put, lyy])
  subst hT
  have HK := Lib.hid hk
  replace HR := Lib.hid hr
  clear hk hr
  refine qaa (qak (v := .int .i64 x) rfl rfl) rfl ?_; (try simp only [Act.put, lyy])
  refine qab ?_
  go_wp2_with fail
  exact bodyPost_ret (results_tmp Try.results111 _ _ _) rfl ⟨HK.out, .inl ⟨(by first | exact hs | rfl), HR.out, _, rfl, rfl⟩⟩
theorem enters_rtru : Enters 112 := qan Try.func112 (by kernel_rfl) rfl
set_option maxHeartbeats 8000000 in
theorem rtru_any (B p : Nat) (b : List (BitVec 8)) (i i' : Nat) (e' : Int) (x : Bool) (u : World) (H : trM b (i, 0) = ((i', e'), x)) (R : RdS B p b i u) : Calls Try.prog 112 #[.pointer (some ⟨p, 0, none⟩)] u (RPost B p b u (i', e') fun v _ => v = .bool x) := by
  have HR := Lib.hid R
  have hle := R.le
  have hT0 := tk_nx (n := 1) hle
  simp only [trM] at H
  have hT1 := congrArg Prod.fst hT0
  have hT2 := congrArg Prod.snd hT0
  simp only at hT1 hT2
  rw [hT1, hT2] at H
  have HH := Lib.hid H
  clear H R hT1 hT2 hT0
  go_enter Try.func112, Try.ntmps112
  go_upto_region 0 with fail; refine wp_region_lit ?_
  refine qaa (qak (v := .bool false) rfl rfl) rfl ?_; (try simp only [Act.put, lyy])
  refine qab ?_
  go_upto_region 1 with fail; refine wp_region_lit ?_
  refine qaa (qad (v := .pointer (some ⟨p, 0, none⟩)) rfl rfl) rfl ?_; (try simp only [Act.put, lyy])
  refine qah (qaf qcc rfl rfl rfl rfl) rfl (rnext_any B p b i 1 _ HR.out) (fun v a1 hs hk hr hT => ?_) (fun a1 hs hk => ?pana1)
  case pana1 =>
    go_wp2_with fail
    have q := HH.out
    rw [if_neg hs] at q
    simp only [Prod.mk.injEq] at q
    obtain ⟨⟨q1, q2⟩, -⟩ := q
    exact ⟨rfl, hk, .inr ⟨by rw [← q2]; exact hs, by rw [← q2]⟩⟩
  (try simp only [Act.put, lyy])
  have hlt : i < b.length := by
    rcases Nat.lt_or_ge i b.length with h | h
    · exact h
    · rw [rnext_short hle (by omega)] at hs; exact absurd hs nz10
  rw [rnext_ok (by omega)] at hr
  have q := HH.out
  rw [if_pos hs] at q
  obtain ⟨av, cv, rfl, hS⟩ := hT
  rw [take_one b hlt] at hS
  obtain ⟨g, f, cc, hve, hgl, hrange⟩ := hS.adr (by simp)
  simp only [Value.slice.injEq] at hve
  obtain ⟨rfl, -, rfl⟩ := hve
  have HC : Hid (a1.cell? ⟨g, f + 0 * 1, none⟩ = some (b8 (b.getD i 0))) := Lib.hid (hrange 0 _ rfl)
  clear hS hrange HH hs
  have HK := Lib.hid hk
  replace HR := Lib.hid hr
  clear hk hr
  generalize b.getD i 0 = X at *
  refine qaa (run_ixs (i := 0) rfl Try.underlying22 (by kernel_rfl) rfl rfl (by omega)) rfl ?_; (try simp only [Act.put, lyy])
  refine qaa (qaz (v := b8 X) rfl Try.underlying5 rfl rfl HC.out) rfl ?_; (try simp only [Act.put, lyy])
  refine qaa (qak (v := b8 X) rfl rfl) rfl ?_; (try simp only [Act.put, lyy])
  refine qab ?_
  by_cases h1 : 1 < X.toNat
  · rw [if_pos h1] at q
    simp only [Prod.mk.injEq] at q
    obtain ⟨⟨rfl, rfl⟩, rfl⟩ := q
    go_upto_region 2 with fail; refine wp_region_lit ?_
    refine qaa (qad (v := b8 X) rfl rfl) rfl ?_; (try simp only [Act.put, lyy])
    refine qaa (qbc (a := (X.toNat : Int)) (b := 1) (c := true) rfl rfl rfl (decide_eq_true (by omega))) rfl ?_; (try simp only [Act.put, lyy])
    refine qab ?_
    go_upto_region 3 with fail; refine wp_region_lit ?_
    refine qaa (run_bld (cells := #[]) rfl (by kernel_rfl)) rfl ?_; (try simp only [Act.put, lyy])
    refine qaa (run_mki (v := .agg #[]) rfl (by kernel_rfl) rfl) rfl ?_; (try simp only [Act.put, lyy])
    refine qbt rfl rfl rfl ?_
    go_wp2_with fail
    exact ⟨rfl, HK.out, .inr ⟨nz11, rfl⟩⟩
  · rw [if_neg h1] at q
    simp only [Prod.mk.injEq] at q
    obtain ⟨⟨rfl, rfl⟩, hy⟩ := q
    go_upto_region 2 with fail; refine wp_region_lit ?_
    refine qaa (qad (v := b8 X) rfl rfl) rfl ?_; (try simp only [Act.put, lyy])
    refine qaa (qbc (a := (X.toNat : Int)) (b := 1) (c := false) rfl rfl rfl (decide_eq_false (by omega))) rfl ?_; (try simp only [Act.put, lyy])
    refine qab ?_
    go_upto_region 4 with fail; refine wp_region_lit ?_
    refine qaa (qad (v := b8 X) rfl rfl) rfl ?_; (try simp only [Act.put, lyy])
    refine qaa (qcd (a := (X.toNat : Int)) (b := 1) (c := x) rfl rfl rfl (by rw [← hy]; by_cases h : X.toNat = 1 <;> simp [h] <;> omega)) rfl ?_; (try simp only [Act.put, lyy])
    refine qaa (qak (v := .bool x) rfl rfl) rfl ?_; (try simp only [Act.put, lyy])
    refine qab ?_
    go_wp2_with fail
    exact bodyPost_ret (results_tmp Try.results112 _ _ _) rfl ⟨HK.out, .inl ⟨rfl, HR.out, _, rfl, rfl⟩⟩
theorem enters_rkey : Enters 92 := qan Try.func92 (by kernel_rfl) rfl
set_option maxHeartbeats 8000000 in
theorem rkey_any (B p : Nat) (b : List (BitVec 8)) (i i' : Nat) (e' : Int) (x : List (BitVec 8)) (u : World) (H : kM 32 b (i, 0) = ((i', e'), x)) (R : RdS B p b i u) : Calls Try.prog 92 #[.pointer (some ⟨p, 0, none⟩)] u (RPost B p b u (i', e') fun v _ => v = .agg (x.map b8).toArray ∧ x.length = 32) := by
  have hle := R.le
  have hT0 := tk_nx (n := 32) hle
  have hlen : x.length = 32 := by have q := kM_len (n := 32) (b := b) (s := (i, 0)) hle; rw [H] at q; exact q
  have HX : Hid ((nxM b 32 i).2 = 0 → x = (b.drop i).take 32) := Lib.hid (by intro h; have hT2 : tkE b.length i 0 32 = (nxM b 32 i).2 := congrArg Prod.snd hT0; simp only [kM, gkX, Prod.mk.injEq] at H; rw [hT2, if_pos h] at H; exact H.2.symm)
  have HS : Hid (nxM b 32 i = (i', e')) := Lib.hid (by rw [← hT0]; simp only [kM, Prod.mk.injEq] at H; rw [H.1.1, H.1.2])
  have E := Lib.hid (Rm.start R)
  clear H hT0 R
  go_enter Try.func92, Try.ntmps92
  go_upto_region 0 with fail; refine wp_region_lit ?_
  refine qaa (qa5 (vs := z8 32) rfl (by kernel_rfl)) rfl ?_; (try simp only [Act.put, lyy])
  replace E := Lib.hid (E.out.new (z8 32) 35)
  generalize u.alloc (.cells (z8 32).toArray 35) = a1 at *
  obtain ⟨g1, hg1⟩ : ∃ g1, g1 = u.heap.size := ⟨_, rfl⟩
  rw [← hg1] at E ⊢
  clear hg1
  refine qab ?_
  go_upto_region 1 with fail; refine wp_region_lit ?_
  refine qaa (qad (v := .pointer (some ⟨p, 0, none⟩)) rfl rfl) rfl ?_; (try simp only [Act.put, lyy])
  refine qah (qaf qcc rfl rfl rfl rfl) rfl (rnext_any B p b i 32 _ E.out.rd) (fun v a2 hs hk hr hT => ?_) (fun a2 hs hk => ?pana2)
  case pana2 =>
    go_wp2_with fail
    rw [HS.out] at hs ⊢
    exact ⟨rfl, E.out.panic hk, .inr ⟨hs, rfl⟩⟩
  (try simp only [Act.put, lyy])
  have hx := HX.out hs
  obtain ⟨av, cv, rfl, hS⟩ := hT
  rw [← hx] at hS
  rw [HS.out] at hr hs
  replace E := Lib.hid (E.out.call hk hr (H0 := fun _ => True) fun _ _ => trivial)
  clear hk hr hx
  obtain ⟨g, f, cc, hve, hgl, hrange⟩ := hS.adr (by omega)
  rw [hlen] at hve
  simp only [Value.slice.injEq] at hve
  obtain ⟨rfl, -, rfl⟩ := hve
  have HC := Lib.hid hrange
  clear hS hrange
  refine qaa (run_s2aR rfl Try.underlying35 rfl (by omega)) rfl ?_; (try simp only [Act.put, lyy])
  refine qaa (qa4 (vs := x.map b8) rfl Try.underlying35 rfl (szR (by rw [List.length_map, hlen]) (by kernel_rfl)) rfl HC.out) rfl ?_; (try simp only [Act.put, lyy])
  refine qal (qa1 (vs := x.map b8) rfl (szR (by rw [List.length_map, hlen]) (by kernel_rfl)) rfl rfl (One.all (One.b8 _)) ((E.out.get (i := 0) rfl).thereM (by have q1 : (x.map b8).length = 32 := (by rw [List.length_map, hlen]); have q2 := qae 32; omega))) rfl rfl ?_
  replace E := Lib.hid (E.out.put 0 rfl (m := x.map b8) (by rw [qae, List.length_map, hlen]))
  replace E := Lib.hid (show Rm _ _ _ _ _ [(g1, x.map b8)] _ _ from E.out)
  generalize a2.setCells g1 0 (x.map b8) = a3 at *
  refine qab ?_
  go_wp2_with fail
  exact bodyPost_ret (v := .agg (x.map b8).toArray) (qbg Try.results92 rfl Try.underlying35 rfl (szR (by rw [List.length_map, hlen]) (by kernel_rfl)) (E.out.get (i := 0) rfl).range) rfl ⟨E.out.kp, .inl ⟨(by first | exact hs | rfl), E.out.rd, _, rfl, (by first | exact ⟨rfl, hlen⟩ | rfl | simp [hlen])⟩⟩
theorem enters_rsig : Enters 94 := qan Try.func94 (by kernel_rfl) rfl
set_option maxHeartbeats 8000000 in
theorem rsig_any (B p : Nat) (b : List (BitVec 8)) (i i' : Nat) (e' : Int) (x : List (BitVec 8)) (u : World) (H : kM 64 b (i, 0) = ((i', e'), x)) (R : RdS B p b i u) : Calls Try.prog 94 #[.pointer (some ⟨p, 0, none⟩)] u (RPost B p b u (i', e') fun v _ => v = .agg (x.map b8).toArray ∧ x.length = 64) := by
  have hle := R.le
  have hT0 := tk_nx (n := 64) hle
  have hlen : x.length = 64 := by have q := kM_len (n := 64) (b := b) (s := (i, 0)) hle; rw [H] at q; exact q
  have HX : Hid ((nxM b 64 i).2 = 0 → x = (b.drop i).take 64) := Lib.hid (by intro h; have hT2 : tkE b.length i 0 64 = (nxM b 64 i).2 := congrArg Prod.snd hT0; simp only [kM, gkX, Prod.mk.injEq] at H; rw [hT2, if_pos h] at H; exact H.2.symm)
  have HS : Hid (nxM b 64 i = (i', e')) := Lib.hid (by rw [← hT0]; simp only [kM, Prod.mk.injEq] at H; rw [H.1.1, H.1.2])
  have E := Lib.hid (Rm.start R)
  clear H hT0 R
  go_enter Try.func94, Try.ntmps94
  go_upto_region 0 with fail; refine wp_region_lit ?_
  refine qaa (qa5 (vs := z8 64) rfl (by kernel_rfl)) rfl ?_; (try simp only [Act.put, lyy])
  replace E := Lib.hid (E.out.new (z8 64) 38)
  generalize u.alloc (.cells (z8 64).toArray 38) = a1 at *
  obtain ⟨g1, hg1⟩ : ∃ g1, g1 = u.heap.size := ⟨_, rfl⟩
  rw [← hg1] at E ⊢
  clear hg1
  refine qab ?_
  go_upto_region 1 with fail; refine wp_region_lit ?_
  refine qaa (qad (v := .pointer (some ⟨p, 0, none⟩)) rfl rfl) rfl ?_; (try simp only [Act.put, lyy])
  refine qah (qaf qcc rfl rfl rfl rfl) rfl (rnext_any B p b i 64 _ E.out.rd) (fun v a2 hs hk hr hT => ?_) (fun a2 hs hk => ?pana2)
  case pana2 =>
    go_wp2_with fail
    rw [HS.out] at hs ⊢
    exact ⟨rfl, E.out.panic hk, .inr ⟨hs, rfl⟩⟩
  (try simp only [Act.put, lyy])
  have hx := HX.out hs
  obtain ⟨av, cv, rfl, hS⟩ := hT
  rw [← hx] at hS
  rw [HS.out] at hr hs
  replace E := Lib.hid (E.out.call hk hr (H0 := fun _ => True) fun _ _ => trivial)
  clear hk hr hx
  obtain ⟨g, f, cc, hve, hgl, hrange⟩ := hS.adr (by omega)
  rw [hlen] at hve
  simp only [Value.slice.injEq] at hve
  obtain ⟨rfl, -, rfl⟩ := hve
  have HC := Lib.hid hrange
  clear hS hrange
  refine qaa (run_s2aR rfl Try.underlying38 rfl (by omega)) rfl ?_; (try simp only [Act.put, lyy])
  refine qaa (qa4 (vs := x.map b8) rfl Try.underlying38 rfl (szR (by rw [List.length_map, hlen]) (by kernel_rfl)) rfl HC.out) rfl ?_; (try simp only [Act.put, lyy])
  refine qal (qa1 (vs := x.map b8) rfl (szR (by rw [List.length_map, hlen]) (by kernel_rfl)) rfl rfl (One.all (One.b8 _)) ((E.out.get (i := 0) rfl).thereM (by have q1 : (x.map b8).length = 64 := (by rw [List.length_map, hlen]); have q2 := qae 64; omega))) rfl rfl ?_
  replace E := Lib.hid (E.out.put 0 rfl (m := x.map b8) (by rw [qae, List.length_map, hlen]))
  replace E := Lib.hid (show Rm _ _ _ _ _ [(g1, x.map b8)] _ _ from E.out)
  generalize a2.setCells g1 0 (x.map b8) = a3 at *
  refine qab ?_
  go_wp2_with fail
  exact bodyPost_ret (v := .agg (x.map b8).toArray) (qbg Try.results94 rfl Try.underlying38 rfl (szR (by rw [List.length_map, hlen]) (by kernel_rfl)) (E.out.get (i := 0) rfl).range) rfl ⟨E.out.kp, .inl ⟨(by first | exact hs | rfl), E.out.rd, _, rfl, (by first | exact ⟨rfl, hlen⟩ | rfl | simp [hlen])⟩⟩
theorem enters_rtxt : Enters 91 := qan Try.func91 (by kernel_rfl) rfl
set_option maxHeartbeats 8000000 in
theorem rtxt_any (B p : Nat) (b : List (BitVec 8)) (i i' : Nat) (e' : Int) (x : List (BitVec 8)) (u : World) (H : byM b (i, 0) = ((i', e'), x)) (R : RdS B p b i u) : Calls Try.prog 91 #[.pointer (some ⟨p, 0, none⟩)] u (RPost B p b u (i', e') fun v _ => v = .string (strOf x)) := by
  rcases HN : nM b 60000 (i, 0) with ⟨⟨i0, e0⟩, N⟩
  have hn0 := nM_num (b := b) (most := 60000) (s := (i, 0)) (by omega)
  rw [HN] at hn0
  obtain ⟨n, hn⟩ : ∃ n : Nat, N = (n : Int) := ⟨N.toNat, by omega⟩
  subst hn
  have hnn : n ≤ 60000 := by have := hn0.2; simp only at this; omega
  clear hn0
  simp only [byM, HN, Int.toNat_natCast, Prod.mk.injEq] at H
  obtain ⟨⟨h1, h2⟩, h3⟩ := H
  have S1 : Hid (e0 ≠ 0 → i' = i0 ∧ e' = e0) := Lib.hid (by intro h; have q1 : tkE b.length i0 e0 n = e0 := (by unfold tkE; rw [if_neg (fun h2 => h h2.1)]); rw [q1] at h2; refine ⟨?_, h2.symm⟩; rw [← h1]; unfold tkI; rw [q1, if_neg h])
  have S2 : Hid (e0 = 0 → i0 ≤ b.length → nxM b n i0 = (i', e') ∧ (e' = 0 → x = (b.drop i0).take n)) := Lib.hid (by intro h hle; subst h; have q := tk_nx (n := n) hle; rw [h1, h2] at q; refine ⟨q.symm, fun h => ?_⟩; rw [h2, if_pos h] at h3; exact h3.symm)
  clear h1 h2 h3
  have HR := Lib.hid R
  clear R
  go_enter Try.func91, Try.ntmps91
  go_upto_region 0 with fail; refine wp_region_lit ?_
  refine qaa (qak (v := .string { data := #[] }) rfl rfl) rfl ?_; (try simp only [Act.put, lyy])
  refine qab ?_
  go_upto_region 1 with fail; refine wp_region_lit ?_
  refine qaa (qad (v := .pointer (some ⟨p, 0, none⟩)) rfl rfl) rfl ?_; (try simp only [Act.put, lyy])
  refine qaa (qad (v := .pointer (some ⟨p, 0, none⟩)) rfl rfl) rfl ?_; (try simp only [Act.put, lyy])
  refine qah (qam enters_rcnt rfl rfl rfl) rfl (rcnt_any B p b i i0 e0 _ _ HN HR.out) (fun v a1 hs hk hr hT => ?_) (fun a1 hs hk => ?pana1)
  case pana1 =>
    go_wp2_with fail
    obtain ⟨-, rfl⟩ := S1.out hs
    exact ⟨rfl, hk, .inr ⟨hs, rfl⟩⟩
  (try simp only [Act.put, lyy])
  subst hT
  obtain ⟨hS1, hS2⟩ := S2.out hs hr.le
  replace HR := Lib.hid hr
  have HK := Lib.hid hk
  clear hk hr hs S1 S2
  refine qah (qaf qcc rfl rfl rfl rfl) rfl (rnext_any B p b i0 n _ HR.out) (fun v a2 hs hk hr hT => ?_) (fun a2 hs hk => ?pana2)
  case pana2 =>
    go_wp2_with fail
    rw [hS1] at hs
    (try rw [hS1])
    exact ⟨rfl, HK.out.trans hk, .inr ⟨hs, rfl⟩⟩
  (try simp only [Act.put, lyy])
  obtain ⟨av, cv, rfl, hSl⟩ := hT
  rw [hS1] at hs hr
  have hx := hS2 hs
  rw [← hx] at hSl
  replace HK := Lib.hid (HK.out.trans hk)
  replace HR := Lib.hid hr
  have HSl := Lib.hid hSl
  clear hk hr hSl hx hS1 hS2
  refine qaa (qbk rfl rfl HSl.out) rfl ?_; (try simp only [Act.put, lyy])
  refine qaa (qak (v := .string (strOf x)) rfl rfl) rfl ?_; (try simp only [Act.put, lyy])
  refine qab ?_
  go_wp2_with fail
  exact bodyPost_ret (results_tmp Try.results91 _ _ _) rfl ⟨HK.out, .inl ⟨(by first | exact hs | rfl), HR.out, _, rfl, rfl⟩⟩
theorem enters_rbyt : Enters 118 := qan Try.func118 (by kernel_rfl) rfl
set_option maxHeartbeats 8000000 in
theorem rbyt_any (B p : Nat) (b : List (BitVec 8)) (i i' : Nat) (e' : Int) (x : List (BitVec 8)) (u : World) (H : byM b (i, 0) = ((i', e'), x)) (R : RdS B p b i u) : Calls Try.prog 118 #[.pointer (some ⟨p, 0, none⟩)] u (RPost B p b u (i', e') fun v u' => ∃ a c, v = .slice a x.length c ∧ Fro u.heap.size (Sl (.slice a x.length c) x) u') := by
  rcases HN : nM b 60000 (i, 0) with ⟨⟨i0, e0⟩, N⟩
  have hn0 := nM_num (b := b) (most := 60000) (s := (i, 0)) (by omega)
  rw [HN] at hn0
  obtain ⟨n, hn⟩ : ∃ n : Nat, N = (n : Int) := ⟨N.toNat, by omega⟩
  subst hn
  have hnn : n ≤ 60000 := by have := hn0.2; simp only at this; omega
  clear hn0
  simp only [byM, HN, Int.toNat_natCast, Prod.mk.injEq] at H
  obtain ⟨⟨h1, h2⟩, h3⟩ := H
  have S1 : Hid (e0 ≠ 0 → i' = i0 ∧ e' = e0) := Lib.hid (by intro h; have q1 : tkE b.length i0 e0 n = e0 := (by unfold tkE; rw [if_neg (fun h2 => h h2.1)]); rw [q1] at h2; refine ⟨?_, h2.symm⟩; rw [← h1]; unfold tkI; rw [q1, if_neg h])
  have S2 : Hid (e0 = 0 → i0 ≤ b.length → nxM b n i0 = (i', e') ∧ (e' = 0 → x = (b.drop i0).take n)) := Lib.hid (by intro h hle; subst h; have q := tk_nx (n := n) hle; rw [h1, h2] at q; refine ⟨q.symm, fun h => ?_⟩; rw [h2, if_pos h] at h3; exact h3.symm)
  clear h1 h2 h3
  have HR := Lib.hid R
  have HR0 := Lib.hid R.Bu
  clear R
  go_enter Try.func118, Try.ntmps118
  go_upto_region 0 with fail; refine wp_region_lit ?_
  refine qaa (qak (v := .slice none 0 0) rfl rfl) rfl ?_; (try simp only [Act.put, lyy])
  refine qab ?_
  go_upto_region 1 with fail; refine wp_region_lit ?_
  refine qaa (qad (v := .pointer (some ⟨p, 0, none⟩)) rfl rfl) rfl ?_; (try simp only [Act.put, lyy])
  refine qaa (qad (v := .pointer (some ⟨p, 0, none⟩)) rfl rfl) rfl ?_; (try simp only [Act.put, lyy])
  refine qah (qam enters_rcnt rfl rfl rfl) rfl (rcnt_any B p b i i0 e0 _ _ HN HR.out) (fun v a1 hs hk hr hT => ?_) (fun a1 hs hk => ?pana1)
  case pana1 =>
    go_wp2_with fail
    obtain ⟨-, rfl⟩ := S1.out hs
    exact ⟨rfl, hk, .inr ⟨hs, rfl⟩⟩
  (try simp only [Act.put, lyy])
  subst hT
  obtain ⟨hS1, hS2⟩ := S2.out hs hr.le
  replace HR := Lib.hid hr
  have HK := Lib.hid hk
  clear hk hr hs S1 S2
  refine qah (qaf qcc rfl rfl rfl rfl) rfl (rnext_any B p b i0 n _ HR.out) (fun v a2 hs hk hr hT => ?_) (fun a2 hs hk => ?pana2)
  case pana2 =>
    go_wp2_with fail
    rw [hS1] at hs
    (try rw [hS1])
    exact ⟨rfl, HK.out.trans hk, .inr ⟨hs, rfl⟩⟩
  (try simp only [Act.put, lyy])
  obtain ⟨av, cv, rfl, hSl⟩ := hT
  rw [hS1] at hs hr
  have hx := hS2 hs
  rw [← hx] at hSl
  replace HK := Lib.hid (HK.out.trans hk)
  replace HR := Lib.hid hr
  have HSl := Lib.hid hSl
  clear hk hr hSl hx hS1 hS2
  have hxl : x.length ≤ 60000 := by obtain ⟨_, _, hq, _⟩ := HSl.out; simp only [Value.slice.injEq] at hq; omega
  refine wpList_appG (l := []) (base := u.heap.size) rfl rfl rfl (World.ownsRow_nil _ _ _ _) rfl HSl.out (by omega) HK.out.size (fun v3 a3 ho hb => ?_); (try simp only [Act.put, lyy])
  rw [List.nil_append] at ho
  have HO : Hid (a3.ownsRow u.heap.size 5 1 v3 x.length (x.map b8)) := Lib.hid (by have h := ho; rwa [Nat.zero_add] at h)
  replace HK := Lib.hid (HK.out.fresh hb (Nat.le_refl _))
  replace HR := Lib.hid (HR.out.step (hb.mono HR0.out))
  clear ho hb HSl
  obtain ⟨a4, c4, rfl, -, -⟩ := Sl.own HO.out
  refine qaa (qak (v := .slice a4 x.length c4) rfl rfl) rfl ?_; (try simp only [Act.put, lyy])
  refine qab ?_
  go_wp2_with fail
  exact bodyPost_ret (results_tmp Try.results118 _ _ _) rfl ⟨HK.out, .inl ⟨(by first | exact hs | rfl), HR.out, _, rfl, _, _, rfl, fro_sl HO.out⟩⟩
end Go.Proofs.Ytgioojahadlmhaa
