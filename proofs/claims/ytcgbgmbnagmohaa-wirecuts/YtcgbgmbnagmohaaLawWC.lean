import Derived.Test.YtcgbgmbnagmohaaLy
import Derived.Test.YtcgbgmbnagmohaaPu4
import Derived.Test.YtcgbgmbnagmohaaPrQ
import Derived.Test.YtcgbgmbnagmohaaPrL
namespace Go.Proofs.Ytcgbgmbnagmohaa
open Go.RowKit
set_option maxRecDepth 20000
attribute [local irreducible] wpList
theorem run_cv16_c {w : World} {ρ : Operand → Value} {o : Oper} {x : Operand} {n : Int} (ho : o.op = .convert 23 3 x) (hx : ρ x = .int .u16 n) (h0 : 0 ≤ n) (h1 : n < 65536) : (execOp ρ o).run Try.prog w = .ok (.value (.int .i64 n)) w := by
  rw [run_cv ho Try.underlying23 Try.underlying3 hx, i64_fit (by omega) (by omega)]
set_option maxHeartbeats 16000000 in
theorem wireCuts_any (v0 : Value) (c : List (BitVec 8)) (a : Nat) (x : BitVec 8) (w : World) (hc : Sl v0 c w) (_ : c.length ≤ 140737488351232) (ha : a < 65536) : Calls Try.prog 3 #[v0, .int .u16 (a : Int), b8 x] w fun e w' => e = .returned (.bool true) ∧ Below w.heap.size w w' := by
  obtain ⟨ao, cc, rfl, -, -⟩ := id hc
  have HC := Lib.hid hc
  clear hc
  have E := Lib.hid (Ev.start (w := w) (F := fun _ => True) fun _ _ => trivial)
  by_cases hl1 : 200 < c.length
  · generalize c.length = nc at *
    go_enter Try.func3, Try.ntmps3
    go_upto_region 0 with fail; refine wp_region_lit ?_
    refine qaa (qai (v := .bool false) rfl rfl) rfl ?_; (try simp only [Act.put, lyy])
    refine qab ?_
    go_upto_region 1 with fail; refine wp_region_lit ?_
    refine qaa (qad (v := .slice ao nc cc) rfl rfl) rfl ?_; (try simp only [Act.put, lyy])
    refine qaa (qba rfl Try.underlying22 rfl) rfl ?_; (try simp only [Act.put, lyy])
    refine qaa (qbd (c := true) rfl rfl rfl (decide_eq_true (by omega))) rfl ?_; (try simp only [Act.put, lyy])
    refine qab ?_
    go_upto_region 2 with fail; refine wp_region_lit ?_
    refine qat (run_call0 enters_kn10 rfl rfl) rfl (known10_any _) (fun a1 hb => ?_); (try simp only [Act.put, lyy])
    replace E := Lib.hid (E.out.below hb)
    clear hb
    refine qaa (qai (v := .bool true) rfl rfl) rfl ?_; (try simp only [Act.put, lyy])
    refine qab ?_
    go_wp2_with fail
    go_ret
    exact ⟨rfl, E.out.bl⟩
  have CRq : Hid (∀ u, Since w u → Calls Try.prog 7 #[.slice ao c.length cc] u fun r w' => ∃ v', r = .returned v' ∧ ((∃ X : List Value, v' = .agg X.toArray ∧ X.length = 237 ∧ One X ∧ Fro 0 (rqAt (chRq c) X) w') ∧ Below u.heap.size u w')) := Lib.hid fun u hu => chRq_any ao c cc u (HC.out.below hu)
  have CAc : Hid (∀ u, Since w u → Calls Try.prog 9 #[.slice ao c.length cc] u fun r w' => ∃ v', r = .returned v' ∧ ((∃ X : List Value, v' = .agg X.toArray ∧ X.length = 105 ∧ One X ∧ Fro 0 (acAt (chAc c) X) w') ∧ Below u.heap.size u w')) := Lib.hid fun u hu => chAc_any ao c cc u (HC.out.below hu)
  have q1 := chRq_can c (by omega)
  have q2 := chAc_can c (by omega)
  have l1 := chRq_small c (by omega)
  have l2 := chAc_small c (by omega)
  have WRq : Hid (∀ (u : World) (X : List Value), Fro 0 (rqAt (chRq c) X) u → Calls Try.prog 6 #[.agg X.toArray] u fun e w' => ∃ v', e = .returned v' ∧ S5 u v' (rqB (chRq c)) w') := Lib.hid fun u X h => xReq_any u (chRq c) X q1.ok q1.one h (by omega)
  have WAc : Hid (∀ (u : World) (X : List Value), Fro 0 (acAt (chAc c) X) u → Calls Try.prog 8 #[.agg X.toArray] u fun e w' => ∃ v', e = .returned v' ∧ S5 u v' (acB (chAc c)) w') := Lib.hid fun u X h => xAcc_any u (chAc c) X (chAc_ok c (by omega)) (chAc_one c (by omega)) h (by omega)
  have p1 := rqB_pos (chRq c)
  have p2 := acB_pos q2
  have K1 : Hid (∀ k, k < (rqB (chRq c)).length → (rdRq ((rqB (chRq c)).take k)).2 = 10) := Lib.hid fun k hk => rdRq_cut q1 (by omega) hk
  have K2 : Hid (∀ k, k < (acB (chAc c)).length → (rdAc ((acB (chAc c)).take k)).2 = 10) := Lib.hid fun k hk => rdAc_cut q2 (by omega) hk
  have K3 : Hid ((rdRq (rqB (chRq c) ++ [x])).2 = 11) := Lib.hid (rdRq_more q1 (by omega) x)
  have K4 : Hid ((rdAc (acB (chAc c) ++ [x])).2 = 11) := Lib.hid (rdAc_more q2 (by omega) x)
  clear HC q1 q2
  generalize rqB (chRq c) = L1 at *
  generalize acB (chAc c) = L2 at *
  generalize chRq c = rq at *
  generalize chAc c = ac at *
  generalize c.length = nc at *
  obtain ⟨n1, hn1⟩ : ∃ n, n = L1.length := ⟨_, rfl⟩
  obtain ⟨n2, hn2⟩ : ∃ n, n = L2.length := ⟨_, rfl⟩
  have N1 := Lib.hid hn1
  have N2 := Lib.hid hn2
  rw [← hn1] at l1 p1 K1
  rw [← hn2] at l2 p2 K2
  clear hn1 hn2
  have M1 : Hid ((L1.take (a % n1)).length = (a % n1)) := Lib.hid (by have h1 := N1.out; have h2 := Nat.mod_lt a p1; simp only [List.length_take]; omega)
  have C1 : Hid (∀ (u : World) (g : Option Addr) (cp : Nat), Sl (.slice g (a % n1) cp) (L1.take (a % n1)) u → Calls Try.prog 10 #[.slice g (a % n1) cp] u fun r w' => ∃ v', r = .returned v' ∧ ((∃ X : List Value, v' = .tuple #[.agg X.toArray, .int .u16 10] ∧ X.length = 237 ∧ One X) ∧ Below u.heap.size u w')) := Lib.hid fun u g cp h => by
    obtain ⟨⟨r, e⟩, H⟩ : ∃ r, r = rdRq (L1.take (a % n1)) := ⟨_, rfl⟩
    obtain rfl : e = 10 := by have q := K1.out _ (Nat.mod_lt a p1); rw [← H] at q; exact q
    have q := ryRq_any g (L1.take (a % n1)) cp r 10 H.symm u (by rw [M1.out]; exact h)
    rw [M1.out] at q
    exact q.mono fun e w' ⟨v', h1, ⟨X, h2, h3, h4, _⟩, h5⟩ => ⟨v', h1, ⟨X, h2, h3, h4⟩, h5⟩
  have M2 : Hid ((L2.take (a % n2)).length = (a % n2)) := Lib.hid (by have h1 := N2.out; have h2 := Nat.mod_lt a p2; simp only [List.length_take]; omega)
  have C2 : Hid (∀ (u : World) (g : Option Addr) (cp : Nat), Sl (.slice g (a % n2) cp) (L2.take (a % n2)) u → Calls Try.prog 11 #[.slice g (a % n2) cp] u fun r w' => ∃ v', r = .returned v' ∧ ((∃ X : List Value, v' = .tuple #[.agg X.toArray, .int .u16 10] ∧ X.length = 105 ∧ One X) ∧ Below u.heap.size u w')) := Lib.hid fun u g cp h => by
    obtain ⟨⟨r, e⟩, H⟩ : ∃ r, r = rdAc (L2.take (a % n2)) := ⟨_, rfl⟩
    obtain rfl : e = 10 := by have q := K2.out _ (Nat.mod_lt a p2); rw [← H] at q; exact q
    have q := ryAc_any g (L2.take (a % n2)) cp r 10 H.symm u (by rw [M2.out]; exact h)
    rw [M2.out] at q
    exact q.mono fun e w' ⟨v', h1, ⟨X, h2, h3, h4, _⟩, h5⟩ => ⟨v', h1, ⟨X, h2, h3, h4⟩, h5⟩
  have M3 : Hid ((L1 ++ [x]).length = (n1 + 1)) := Lib.hid (by have h1 := N1.out; simp only [List.length_append]; show L1.length + 1 = n1 + 1; omega)
  have C3 : Hid (∀ (u : World) (g : Option Addr) (cp : Nat), Sl (.slice g (n1 + 1) cp) (L1 ++ [x]) u → Calls Try.prog 10 #[.slice g (n1 + 1) cp] u fun r w' => ∃ v', r = .returned v' ∧ ((∃ X : List Value, v' = .tuple #[.agg X.toArray, .int .u16 11] ∧ X.length = 237 ∧ One X) ∧ Below u.heap.size u w')) := Lib.hid fun u g cp h => by
    obtain ⟨⟨r, e⟩, H⟩ : ∃ r, r = rdRq (L1 ++ [x]) := ⟨_, rfl⟩
    obtain rfl : e = 11 := by have q := K3.out; rw [← H] at q; exact q
    have q := ryRq_any g (L1 ++ [x]) cp r 11 H.symm u (by rw [M3.out]; exact h)
    rw [M3.out] at q
    exact q.mono fun e w' ⟨v', h1, ⟨X, h2, h3, h4, _⟩, h5⟩ => ⟨v', h1, ⟨X, h2, h3, h4⟩, h5⟩
  have M4 : Hid ((L2 ++ [x]).length = (n2 + 1)) := Lib.hid (by have h1 := N2.out; simp only [List.length_append]; show L2.length + 1 = n2 + 1; omega)
  have C4 : Hid (∀ (u : World) (g : Option Addr) (cp : Nat), Sl (.slice g (n2 + 1) cp) (L2 ++ [x]) u → Calls Try.prog 11 #[.slice g (n2 + 1) cp] u fun r w' => ∃ v', r = .returned v' ∧ ((∃ X : List Value, v' = .tuple #[.agg X.toArray, .int .u16 11] ∧ X.length = 105 ∧ One X) ∧ Below u.heap.size u w')) := Lib.hid fun u g cp h => by
    obtain ⟨⟨r, e⟩, H⟩ : ∃ r, r = rdAc (L2 ++ [x]) := ⟨_, rfl⟩
    obtain rfl : e = 11 := by have q := K4.out; rw [← H] at q; exact q
    have q := ryAc_any g (L2 ++ [x]) cp r 11 H.symm u (by rw [M4.out]; exact h)
    rw [M4.out] at q
    exact q.mono fun e w' ⟨v', h1, ⟨X, h2, h3, h4, _⟩, h5⟩ => ⟨v', h1, ⟨X, h2, h3, h4⟩, h5⟩
  have C5 : Hid (∀ (u : World) (g : Option Addr) (N : Nat), 60000 < N → Sl (.slice g N N) (List.replicate N 0) u → Calls Try.prog 12 #[.slice g N N] u fun r w' => ∃ v', r = .returned v' ∧ ((∃ X : List Value, v' = .tuple #[.agg X.toArray, .int .u16 3] ∧ X.length = 99 ∧ One X) ∧ Below u.heap.size u w')) := Lib.hid fun u g N hN h => by
    obtain ⟨Z, hZ⟩ : ∃ Z : List (BitVec 8), Z = List.replicate N 0 := ⟨_, rfl⟩
    have hzl : Z.length = N := by rw [hZ, List.length_replicate]
    rw [← hZ] at h
    clear hZ
    obtain ⟨⟨r, e⟩, H⟩ : ∃ r, r = rdLs Z := ⟨_, rfl⟩
    obtain rfl : e = 3 := by have q := rdLs_long (b := Z) (by omega); rw [← H] at q; exact q
    have q := ryLs_any g Z N r 3 H.symm u (by rw [hzl]; exact h)
    rw [hzl] at q
    exact q.mono fun e w' ⟨v', h1, ⟨X, h2, h3, h4, _⟩, h5⟩ => ⟨v', h1, ⟨X, h2, h3, h4⟩, h5⟩
  clear K1 K2 K3 K4 M3 M4
  go_enter Try.func3, Try.ntmps3
  go_upto_region 0 with fail; refine wp_region_lit ?_
  refine qaa (qai (v := .bool false) rfl rfl) rfl ?_; (try simp only [Act.put, lyy])
  refine qab ?_
  go_upto_region 1 with fail; refine wp_region_lit ?_
  refine qaa (qad (v := .slice ao nc cc) rfl rfl) rfl ?_; (try simp only [Act.put, lyy])
  refine qaa (qba rfl Try.underlying22 rfl) rfl ?_; (try simp only [Act.put, lyy])
  refine qaa (qbd (c := false) rfl rfl rfl (decide_eq_false (by omega))) rfl ?_; (try simp only [Act.put, lyy])
  refine qab ?_
  go_upto_region 3 with fail; refine wp_region_lit ?_
  refine qaa (qad (v := .slice ao nc cc) rfl rfl) rfl ?_; (try simp only [Act.put, lyy])
  refine qaf (qal enters_cr10 rfl rfl rfl) rfl (CRq.out _ E.out.bl) (fun v2 a1 hR => ?_); (try simp only [Act.put, lyy])
  obtain ⟨⟨X, rfl, lX, oX, fX⟩, hb7⟩ := hR
  replace E := Lib.hid (E.out.below hb7)
  have HX := Lib.hid fX
  clear fX hb7
  refine qaf (qal enters_xReq rfl rfl rfl) rfl (WRq.out _ X HX.out) (fun v4 a3 hR => ?_); (try simp only [Act.put, lyy])
  obtain ⟨xa, xc, hv9⟩ := own_slice hR.O
  subst hv9
  replace E := Lib.hid (Gw.ofcall E.out hR.bl hR.O)
  clear hR HX
  rw [← N1.out] at E ⊢
  refine qaa (qai (v := .slice xa n1 xc) rfl rfl) rfl ?_; (try simp only [Act.put, lyy])
  refine qab ?_
  go_upto_region 4 with fail; refine wp_region_lit ?_
  refine qaa (qad (v := .slice ao nc cc) rfl rfl) rfl ?_; (try simp only [Act.put, lyy])
  refine qaf (qal enters_ca10 rfl rfl rfl) rfl (CAc.out _ E.out.bl) (fun v6 a5 hR => ?_); (try simp only [Act.put, lyy])
  obtain ⟨⟨Y, rfl, lY, oY, fY⟩, hb7⟩ := hR
  replace E := Lib.hid (E.out.below hb7)
  have HY := Lib.hid fY
  clear fY hb7
  refine qaf (qal enters_xAcc rfl rfl rfl) rfl (WAc.out _ Y HY.out) (fun v8 a7 hR => ?_); (try simp only [Act.put, lyy])
  obtain ⟨xb, xd, hv9⟩ := own_slice hR.O
  subst hv9
  replace E := Lib.hid (Hw.ofcall E.out hR.bl hR.O)
  clear hR HY
  rw [← N2.out] at E ⊢
  refine qaa (qai (v := .slice xb n2 xd) rfl rfl) rfl ?_; (try simp only [Act.put, lyy])
  refine qab ?_
  go_upto_region 5 with fail; refine wp_region_lit ?_
  refine qaa (qad (v := .slice xa n1 xc) rfl rfl) rfl ?_; (try simp only [Act.put, lyy])
  refine qaa (qba rfl Try.underlying22 rfl) rfl ?_; (try simp only [Act.put, lyy])
  refine qaa (qbx (c := false) rfl rfl rfl (beq_eq_false_iff_ne.2 (by omega))) rfl ?_; (try simp only [Act.put, lyy])
  refine qaa (qad (v := .bool false) rfl rfl) rfl ?_; (try simp only [Act.put, lyy])
  refine qau (qad (v := .slice xb n2 xd) rfl rfl) rfl ?_; (try simp only [Act.put, lyy])
  refine qau (qba rfl Try.underlying22 rfl) rfl ?_; (try simp only [Act.put, lyy])
  refine qau (qbx (c := false) rfl rfl rfl (beq_eq_false_iff_ne.2 (by omega))) rfl ?_; (try simp only [Act.put, lyy])
  refine qaa (qb2 (b := false) (v := .bool false) rfl rfl rfl) rfl ?_; (try simp only [Act.put, lyy])
  refine qab ?_
  have HS1 : Hid (Sl (.slice xa (a % n1) xc) (L1.take (a % n1)) a7) := Lib.hid (by
    have h0 : Sl (.slice xa n1 xc) L1 a7 := Sl.own (by have h := E.out.row; rw [N1.out] at h ⊢; exact h)
    rw [N1.out] at h0
    have h := Sl.takeC (n := a % n1) h0 (by have := N1.out; have := Nat.mod_lt a p1; omega)
    rwa [M1.out] at h)
  have hk1 : a % n1 ≤ xc := by obtain ⟨_, _, h1, h2, _⟩ := HS1.out; simp only [Value.slice.injEq] at h1; have := M1.out; omega
  go_upto_region 7 with fail; refine wp_region_lit ?_
  refine qaa (qad (v := .slice xa n1 xc) rfl rfl) rfl ?_; (try simp only [Act.put, lyy])
  refine qaa (qad (v := .int .u16 (a : Int)) rfl rfl) rfl ?_; (try simp only [Act.put, lyy])
  refine qaa (run_cv16_c rfl rfl (by omega) (by omega)) rfl ?_; (try simp only [Act.put, lyy])
  refine qaa (qad (v := .slice xa n1 xc) rfl rfl) rfl ?_; (try simp only [Act.put, lyy])
  refine qaa (qba rfl Try.underlying22 rfl) rfl ?_; (try simp only [Act.put, lyy])
  refine qaa (qbw (a := a) (b := n1) rfl rfl rfl (by omega)) rfl ?_; (try simp only [Act.put, lyy])
  refine qaa (run_slo rfl Try.underlying22 (by kernel_rfl) rfl rfl hk1) rfl ?_; (try simp only [Act.put, lyy])
  refine qaf (qal enters_ryRq rfl rfl rfl) rfl (C1.out _ _ _ HS1.out) (fun v10 a9 hR => ?_); (try simp only [Act.put, lyy])
  obtain ⟨⟨Z1, rfl, lZ1, oZ1⟩, hb7⟩ := hR
  replace E := Lib.hid (E.out.below hb7)
  clear hb7
  refine qaa (qad (v := .tuple #[.agg (Z1).toArray, .int .u16 10]) rfl rfl) rfl ?_; (try simp only [Act.put, lyy])
  refine qaa (qbl (v := .agg (Z1).toArray) rfl rfl rfl) rfl ?_; (try simp only [Act.put, lyy])
  refine qaa (qbl (v := .int .u16 10) rfl rfl rfl) rfl ?_; (try simp only [Act.put, lyy])
  refine qaa (qay (vs := rqR ((.int .u8 0)) ((.int .i64 0)) ((.int .i64 0)) ((.string ⟨#[]⟩)) ((.string ⟨#[]⟩)) ((.string ⟨#[]⟩)) (lsR ((.int .i64 0)) ((.int .i64 0)) (z8 32) ((.slice none 0 0)) (z8 64)) (z8 32) (pkR ((.int .i64 0)) (z8 32)) (z8 64) ((.slice none 0 0)) ((.int .i64 0)) ((.slice none 0 0))) rfl (by kernel_rfl)) rfl ?_; (try simp only [Act.put, lyy])
  replace E := Lib.hid (E.out.new (rqR ((.int .u8 0)) ((.int .i64 0)) ((.int .i64 0)) ((.string ⟨#[]⟩)) ((.string ⟨#[]⟩)) ((.string ⟨#[]⟩)) (lsR ((.int .i64 0)) ((.int .i64 0)) (z8 32) ((.slice none 0 0)) (z8 64)) (z8 32) (pkR ((.int .i64 0)) (z8 32)) (z8 64) ((.slice none 0 0)) ((.int .i64 0)) ((.slice none 0 0))) 38)
  generalize a9.alloc (.cells (rqR ((.int .u8 0)) ((.int .i64 0)) ((.int .i64 0)) ((.string ⟨#[]⟩)) ((.string ⟨#[]⟩)) ((.string ⟨#[]⟩)) (lsR ((.int .i64 0)) ((.int .i64 0)) (z8 32) ((.slice none 0 0)) (z8 64)) (z8 32) (pkR ((.int .i64 0)) (z8 32)) (z8 64) ((.slice none 0 0)) ((.int .i64 0)) ((.slice none 0 0))).toArray 38) = a11 at *
  generalize a9.heap.size = g12 at *
  refine qah (qax (vs := Z1) rfl (szR lZ1 (by kernel_rfl)) rfl rfl (One.all oZ1) ((E.out.get (i := 0) rfl).thereM (by have q1 : (Z1).length = 237 := lZ1; have q2 : (rqR ((.int .u8 0)) ((.int .i64 0)) ((.int .i64 0)) ((.string ⟨#[]⟩)) ((.string ⟨#[]⟩)) ((.string ⟨#[]⟩)) (lsR ((.int .i64 0)) ((.int .i64 0)) (z8 32) ((.slice none 0 0)) (z8 64)) (z8 32) (pkR ((.int .i64 0)) (z8 32)) (z8 64) ((.slice none 0 0)) ((.int .i64 0)) ((.slice none 0 0))).length = 237 := (qas (qan (qac 32) (qac 64)) (qac 32) (qao (qac 32)) (qac 64)); omega))) rfl rfl ?_
  replace E := Lib.hid (E.out.put 0 rfl (m := Z1) ((show (Z1).length = 237 from lZ1).trans (show (rqR ((.int .u8 0)) ((.int .i64 0)) ((.int .i64 0)) ((.string ⟨#[]⟩)) ((.string ⟨#[]⟩)) ((.string ⟨#[]⟩)) (lsR ((.int .i64 0)) ((.int .i64 0)) (z8 32) ((.slice none 0 0)) (z8 64)) (z8 32) (pkR ((.int .i64 0)) (z8 32)) (z8 64) ((.slice none 0 0)) ((.int .i64 0)) ((.slice none 0 0))).length = 237 from (qas (qan (qac 32) (qac 64)) (qac 32) (qao (qac 32)) (qac 64))).symm))
  generalize a11.setCells g12 0 (Z1) = a13 at *
  replace E := Lib.hid (show Hw _ [(g12, Z1)] _ _ _ _ _ _ _ _ _ _ _ _ a13 from E.out)
  refine qaa (qai (v := .int .u16 10) rfl rfl) rfl ?_; (try simp only [Act.put, lyy])
  refine qab ?_
  clear HS1 hk1
  have HS2 : Hid (Sl (.slice xb (a % n2) xd) (L2.take (a % n2)) a13) := Lib.hid (by
    have h0 : Sl (.slice xb n2 xd) L2 a13 := Sl.own (by have h := E.out.row2; rw [N2.out] at h ⊢; exact h)
    rw [N2.out] at h0
    have h := Sl.takeC (n := a % n2) h0 (by have := N2.out; have := Nat.mod_lt a p2; omega)
    rwa [M2.out] at h)
  have hk2 : a % n2 ≤ xd := by obtain ⟨_, _, h1, h2, _⟩ := HS2.out; simp only [Value.slice.injEq] at h1; have := M2.out; omega
  go_upto_region 8 with fail; refine wp_region_lit ?_
  refine qaa (qad (v := .slice xb n2 xd) rfl rfl) rfl ?_; (try simp only [Act.put, lyy])
  refine qaa (qad (v := .int .u16 (a : Int)) rfl rfl) rfl ?_; (try simp only [Act.put, lyy])
  refine qaa (run_cv16_c rfl rfl (by omega) (by omega)) rfl ?_; (try simp only [Act.put, lyy])
  refine qaa (qad (v := .slice xb n2 xd) rfl rfl) rfl ?_; (try simp only [Act.put, lyy])
  refine qaa (qba rfl Try.underlying22 rfl) rfl ?_; (try simp only [Act.put, lyy])
  refine qaa (qbw (a := a) (b := n2) rfl rfl rfl (by omega)) rfl ?_; (try simp only [Act.put, lyy])
  refine qaa (run_slo rfl Try.underlying22 (by kernel_rfl) rfl rfl hk2) rfl ?_; (try simp only [Act.put, lyy])
  refine qaf (qal enters_ryAc rfl rfl rfl) rfl (C2.out _ _ _ HS2.out) (fun v15 a14 hR => ?_); (try simp only [Act.put, lyy])
  obtain ⟨⟨Z2, rfl, lZ2, oZ2⟩, hb7⟩ := hR
  replace E := Lib.hid (E.out.below hb7)
  clear hb7
  refine qaa (qad (v := .tuple #[.agg (Z2).toArray, .int .u16 10]) rfl rfl) rfl ?_; (try simp only [Act.put, lyy])
  refine qaa (qbl (v := .agg (Z2).toArray) rfl rfl rfl) rfl ?_; (try simp only [Act.put, lyy])
  refine qaa (qbl (v := .int .u16 10) rfl rfl rfl) rfl ?_; (try simp only [Act.put, lyy])
  refine qaa (qay (vs := acR ((.int .i64 0)) ((.string ⟨#[]⟩)) ((.int .i64 0)) ((.int .i64 0)) (lsR ((.int .i64 0)) ((.int .i64 0)) (z8 32) ((.slice none 0 0)) (z8 64)) ((.slice none 0 0)) ((.slice none 0 0))) rfl (by kernel_rfl)) rfl ?_; (try simp only [Act.put, lyy])
  replace E := Lib.hid (E.out.new (acR ((.int .i64 0)) ((.string ⟨#[]⟩)) ((.int .i64 0)) ((.int .i64 0)) (lsR ((.int .i64 0)) ((.int .i64 0)) (z8 32) ((.slice none 0 0)) (z8 64)) ((.slice none 0 0)) ((.slice none 0 0))) 44)
  generalize a14.alloc (.cells (acR ((.int .i64 0)) ((.string ⟨#[]⟩)) ((.int .i64 0)) ((.int .i64 0)) (lsR ((.int .i64 0)) ((.int .i64 0)) (z8 32) ((.slice none 0 0)) (z8 64)) ((.slice none 0 0)) ((.slice none 0 0))).toArray 44) = a16 at *
  generalize a14.heap.size = g17 at *
  refine qah (qax (vs := Z2) rfl (szR lZ2 (by kernel_rfl)) rfl rfl (One.all oZ2) ((E.out.get (i := 0) rfl).thereM (by have q1 : (Z2).length = 105 := lZ2; have q2 : (acR ((.int .i64 0)) ((.string ⟨#[]⟩)) ((.int .i64 0)) ((.int .i64 0)) (lsR ((.int .i64 0)) ((.int .i64 0)) (z8 32) ((.slice none 0 0)) (z8 64)) ((.slice none 0 0)) ((.slice none 0 0))).length = 105 := (qa8 (qan (qac 32) (qac 64))); omega))) rfl rfl ?_
  replace E := Lib.hid (E.out.put 0 rfl (m := Z2) ((show (Z2).length = 105 from lZ2).trans (show (acR ((.int .i64 0)) ((.string ⟨#[]⟩)) ((.int .i64 0)) ((.int .i64 0)) (lsR ((.int .i64 0)) ((.int .i64 0)) (z8 32) ((.slice none 0 0)) (z8 64)) ((.slice none 0 0)) ((.slice none 0 0))).length = 105 from (qa8 (qan (qac 32) (qac 64)))).symm))
  generalize a16.setCells g17 0 (Z2) = a18 at *
  replace E := Lib.hid (show Hw _ [(g17, Z2), (g12, Z1)] _ _ _ _ _ _ _ _ _ _ _ _ a18 from E.out)
  refine qaa (qai (v := .int .u16 10) rfl rfl) rfl ?_; (try simp only [Act.put, lyy])
  refine qab ?_
  clear HS2 hk2
  go_upto_region 9 with fail; refine wp_region_lit ?_
  refine qaa (qad (v := .slice xa n1 xc) rfl rfl) rfl ?_; (try simp only [Act.put, lyy])
  refine qaa (qad (v := b8 x) rfl rfl) rfl ?_; (try simp only [Act.put, lyy])
  refine qaa (run_bsl (cells := #[b8 x]) (z := .int .u8 0) rfl Try.underlying22 (by kernel_rfl) (by omega) (by omega) (by kernel_rfl)) rfl ?_; (try simp only [Act.put, lyy])
  have A2 : Hid (Arr a18.heap.size [b8 x] (a18.alloc (.cells #[b8 x] 5))) := Lib.hid (Arr.new a18 [b8 x] 5)
  replace E := Lib.hid (E.out.below ((Below.refl a18.heap.size a18).alloc (Nat.le_refl _) (.cells #[b8 x] 5)))
  generalize a18.alloc (.cells #[b8 x] 5) = o1 at *
  generalize a18.heap.size = go1 at *
  refine wpList_some rfl (run_growH (t := 22) (bw := 1) (zv := .int .u8 0) (z := 1) (m := [b8 x]) rfl Try.underlying22 (by kernel_rfl) rfl (by omega) rfl rfl A2.out.range rfl (One.cons rfl One.nil) (by omega) (by omega) E.out) (fun v7 y1 hG => ?_); (try simp only [Act.put, lyy])
  obtain ⟨s1, d1, hv9⟩ := own_slice hG.row
  subst hv9
  rw [show L1.map b8 ++ [b8 x] = (L1 ++ [x]).map b8 by simp] at hG
  replace E := Lib.hid hG
  clear hG A2
  refine qaa (qai (v := .slice s1 (n1 + 1) d1) rfl rfl) rfl ?_; (try simp only [Act.put, lyy])
  refine qab ?_
  go_upto_region 10 with fail; refine wp_region_lit ?_
  refine qaa (qad (v := .slice xb n2 xd) rfl rfl) rfl ?_; (try simp only [Act.put, lyy])
  refine qaa (qad (v := b8 x) rfl rfl) rfl ?_; (try simp only [Act.put, lyy])
  refine qaa (run_bsl (cells := #[b8 x]) (z := .int .u8 0) rfl Try.underlying22 (by kernel_rfl) (by omega) (by omega) (by kernel_rfl)) rfl ?_; (try simp only [Act.put, lyy])
  have A2 : Hid (Arr y1.heap.size [b8 x] (y1.alloc (.cells #[b8 x] 5))) := Lib.hid (Arr.new y1 [b8 x] 5)
  replace E := Lib.hid (E.out.below ((Below.refl y1.heap.size y1).alloc (Nat.le_refl _) (.cells #[b8 x] 5)))
  generalize y1.alloc (.cells #[b8 x] 5) = o2 at *
  generalize y1.heap.size = go2 at *
  refine wpList_some rfl (run_growH (t := 22) (bw := 1) (zv := .int .u8 0) (z := 1) (m := [b8 x]) rfl Try.underlying22 (by kernel_rfl) rfl (by omega) rfl rfl A2.out.range rfl (One.cons rfl One.nil) (by omega) (by omega) E.out.swap) (fun v7 y2 hG => ?_); (try simp only [Act.put, lyy])
  obtain ⟨s2, d2, hv9⟩ := own_slice hG.row
  subst hv9
  rw [show L2.map b8 ++ [b8 x] = (L2 ++ [x]).map b8 by simp] at hG
  replace E := Lib.hid hG.swap
  clear hG A2
  refine qaa (qai (v := .slice s2 (n2 + 1) d2) rfl rfl) rfl ?_; (try simp only [Act.put, lyy])
  refine qab ?_
  go_upto_region 11 with fail; refine wp_region_lit ?_
  refine qaa (qad (v := .slice s1 (n1 + 1) d1) rfl rfl) rfl ?_; (try simp only [Act.put, lyy])
  refine qaf (qal enters_ryRq rfl rfl rfl) rfl (C3.out _ _ _ (by have h := E.out.row; rw [show n1 + 1 = (L1 ++ [x]).length by rw [List.length_append, N1.out]; rfl] at h ⊢; exact Sl.own h)) (fun v30 a29 hR => ?_); (try simp only [Act.put, lyy])
  obtain ⟨⟨Z3, rfl, lZ3, oZ3⟩, hb7⟩ := hR
  replace E := Lib.hid (E.out.below hb7)
  clear hb7
  refine qaa (qad (v := .tuple #[.agg (Z3).toArray, .int .u16 11]) rfl rfl) rfl ?_; (try simp only [Act.put, lyy])
  refine qaa (qbl (v := .agg (Z3).toArray) rfl rfl rfl) rfl ?_; (try simp only [Act.put, lyy])
  refine qaa (qbl (v := .int .u16 11) rfl rfl rfl) rfl ?_; (try simp only [Act.put, lyy])
  refine qaa (qay (vs := rqR ((.int .u8 0)) ((.int .i64 0)) ((.int .i64 0)) ((.string ⟨#[]⟩)) ((.string ⟨#[]⟩)) ((.string ⟨#[]⟩)) (lsR ((.int .i64 0)) ((.int .i64 0)) (z8 32) ((.slice none 0 0)) (z8 64)) (z8 32) (pkR ((.int .i64 0)) (z8 32)) (z8 64) ((.slice none 0 0)) ((.int .i64 0)) ((.slice none 0 0))) rfl (by kernel_rfl)) rfl ?_; (try simp only [Act.put, lyy])
  replace E := Lib.hid (E.out.new (rqR ((.int .u8 0)) ((.int .i64 0)) ((.int .i64 0)) ((.string ⟨#[]⟩)) ((.string ⟨#[]⟩)) ((.string ⟨#[]⟩)) (lsR ((.int .i64 0)) ((.int .i64 0)) (z8 32) ((.slice none 0 0)) (z8 64)) (z8 32) (pkR ((.int .i64 0)) (z8 32)) (z8 64) ((.slice none 0 0)) ((.int .i64 0)) ((.slice none 0 0))) 38)
  generalize a29.alloc (.cells (rqR ((.int .u8 0)) ((.int .i64 0)) ((.int .i64 0)) ((.string ⟨#[]⟩)) ((.string ⟨#[]⟩)) ((.string ⟨#[]⟩)) (lsR ((.int .i64 0)) ((.int .i64 0)) (z8 32) ((.slice none 0 0)) (z8 64)) (z8 32) (pkR ((.int .i64 0)) (z8 32)) (z8 64) ((.slice none 0 0)) ((.int .i64 0)) ((.slice none 0 0))).toArray 38) = a31 at *
  generalize a29.heap.size = g32 at *
  refine qah (qax (vs := Z3) rfl (szR lZ3 (by kernel_rfl)) rfl rfl (One.all oZ3) ((E.out.get (i := 0) rfl).thereM (by have q1 : (Z3).length = 237 := lZ3; have q2 : (rqR ((.int .u8 0)) ((.int .i64 0)) ((.int .i64 0)) ((.string ⟨#[]⟩)) ((.string ⟨#[]⟩)) ((.string ⟨#[]⟩)) (lsR ((.int .i64 0)) ((.int .i64 0)) (z8 32) ((.slice none 0 0)) (z8 64)) (z8 32) (pkR ((.int .i64 0)) (z8 32)) (z8 64) ((.slice none 0 0)) ((.int .i64 0)) ((.slice none 0 0))).length = 237 := (qas (qan (qac 32) (qac 64)) (qac 32) (qao (qac 32)) (qac 64)); omega))) rfl rfl ?_
  replace E := Lib.hid (E.out.put 0 rfl (m := Z3) ((show (Z3).length = 237 from lZ3).trans (show (rqR ((.int .u8 0)) ((.int .i64 0)) ((.int .i64 0)) ((.string ⟨#[]⟩)) ((.string ⟨#[]⟩)) ((.string ⟨#[]⟩)) (lsR ((.int .i64 0)) ((.int .i64 0)) (z8 32) ((.slice none 0 0)) (z8 64)) (z8 32) (pkR ((.int .i64 0)) (z8 32)) (z8 64) ((.slice none 0 0)) ((.int .i64 0)) ((.slice none 0 0))).length = 237 from (qas (qan (qac 32) (qac 64)) (qac 32) (qao (qac 32)) (qac 64))).symm))
  generalize a31.setCells g32 0 (Z3) = a33 at *
  replace E := Lib.hid (show Hw _ [(g32, Z3), (g17, Z2), (g12, Z1)] _ _ _ _ _ _ _ _ _ _ _ _ a33 from E.out)
  refine qaa (qai (v := .int .u16 11) rfl rfl) rfl ?_; (try simp only [Act.put, lyy])
  refine qab ?_
  go_upto_region 12 with fail; refine wp_region_lit ?_
  refine qaa (qad (v := .slice s2 (n2 + 1) d2) rfl rfl) rfl ?_; (try simp only [Act.put, lyy])
  refine qaf (qal enters_ryAc rfl rfl rfl) rfl (C4.out _ _ _ (by have h := E.out.row2; rw [show n2 + 1 = (L2 ++ [x]).length by rw [List.length_append, N2.out]; rfl] at h ⊢; exact Sl.own h)) (fun v35 a34 hR => ?_); (try simp only [Act.put, lyy])
  obtain ⟨⟨Z4, rfl, lZ4, oZ4⟩, hb7⟩ := hR
  replace E := Lib.hid (E.out.below hb7)
  clear hb7
  refine qaa (qad (v := .tuple #[.agg (Z4).toArray, .int .u16 11]) rfl rfl) rfl ?_; (try simp only [Act.put, lyy])
  refine qaa (qbl (v := .agg (Z4).toArray) rfl rfl rfl) rfl ?_; (try simp only [Act.put, lyy])
  refine qaa (qbl (v := .int .u16 11) rfl rfl rfl) rfl ?_; (try simp only [Act.put, lyy])
  refine qaa (qay (vs := acR ((.int .i64 0)) ((.string ⟨#[]⟩)) ((.int .i64 0)) ((.int .i64 0)) (lsR ((.int .i64 0)) ((.int .i64 0)) (z8 32) ((.slice none 0 0)) (z8 64)) ((.slice none 0 0)) ((.slice none 0 0))) rfl (by kernel_rfl)) rfl ?_; (try simp only [Act.put, lyy])
  replace E := Lib.hid (E.out.new (acR ((.int .i64 0)) ((.string ⟨#[]⟩)) ((.int .i64 0)) ((.int .i64 0)) (lsR ((.int .i64 0)) ((.int .i64 0)) (z8 32) ((.slice none 0 0)) (z8 64)) ((.slice none 0 0)) ((.slice none 0 0))) 44)
  generalize a34.alloc (.cells (acR ((.int .i64 0)) ((.string ⟨#[]⟩)) ((.int .i64 0)) ((.int .i64 0)) (lsR ((.int .i64 0)) ((.int .i64 0)) (z8 32) ((.slice none 0 0)) (z8 64)) ((.slice none 0 0)) ((.slice none 0 0))).toArray 44) = a36 at *
  generalize a34.heap.size = g37 at *
  refine qah (qax (vs := Z4) rfl (szR lZ4 (by kernel_rfl)) rfl rfl (One.all oZ4) ((E.out.get (i := 0) rfl).thereM (by have q1 : (Z4).length = 105 := lZ4; have q2 : (acR ((.int .i64 0)) ((.string ⟨#[]⟩)) ((.int .i64 0)) ((.int .i64 0)) (lsR ((.int .i64 0)) ((.int .i64 0)) (z8 32) ((.slice none 0 0)) (z8 64)) ((.slice none 0 0)) ((.slice none 0 0))).length = 105 := (qa8 (qan (qac 32) (qac 64))); omega))) rfl rfl ?_
  replace E := Lib.hid (E.out.put 0 rfl (m := Z4) ((show (Z4).length = 105 from lZ4).trans (show (acR ((.int .i64 0)) ((.string ⟨#[]⟩)) ((.int .i64 0)) ((.int .i64 0)) (lsR ((.int .i64 0)) ((.int .i64 0)) (z8 32) ((.slice none 0 0)) (z8 64)) ((.slice none 0 0)) ((.slice none 0 0))).length = 105 from (qa8 (qan (qac 32) (qac 64)))).symm))
  generalize a36.setCells g37 0 (Z4) = a38 at *
  replace E := Lib.hid (show Hw _ [(g37, Z4), (g32, Z3), (g17, Z2), (g12, Z1)] _ _ _ _ _ _ _ _ _ _ _ _ a38 from E.out)
  refine qaa (qai (v := .int .u16 11) rfl rfl) rfl ?_; (try simp only [Act.put, lyy])
  refine qab ?_
  obtain ⟨N9, hN9⟩ : ∃ N : Nat, N = 60001 := ⟨_, rfl⟩
  have HN9 := Lib.hid hN9
  have hN8 : 60000 < N9 ∧ N9 ≤ 16777216 := by omega
  clear hN9
  go_upto_region 13 with fail; refine wp_region_lit ?_
  refine qaa (run_mk8 (n := N9) rfl (by rw [HN9.out]; rfl) (by rw [HN9.out]; rfl) (by omega)) rfl ?_; (try simp only [Act.put, lyy])
  have HZ := Lib.hid (sl_zero (Arr.new a38 (z8 N9) 5))
  replace E := Lib.hid (E.out.below ((Below.refl a38.heap.size a38).alloc (Nat.le_refl _) (.cells (z8 N9).toArray 5)))
  generalize a38.alloc (.cells (z8 N9).toArray 5) = bz at *
  generalize a38.heap.size = gz at *
  refine qaf (qal enters_ryLs rfl rfl rfl) rfl (C5.out _ _ _ hN8.1 HZ.out) (fun v40 a39 hR => ?_); (try simp only [Act.put, lyy])
  obtain ⟨⟨Z5, rfl, lZ5, oZ5⟩, hb7⟩ := hR
  replace E := Lib.hid (E.out.below hb7)
  clear hb7 HZ
  refine qaa (qad (v := .tuple #[.agg (Z5).toArray, .int .u16 3]) rfl rfl) rfl ?_; (try simp only [Act.put, lyy])
  refine qaa (qbl (v := .agg (Z5).toArray) rfl rfl rfl) rfl ?_; (try simp only [Act.put, lyy])
  refine qaa (qbl (v := .int .u16 3) rfl rfl rfl) rfl ?_; (try simp only [Act.put, lyy])
  refine qaa (qay (vs := lsR ((.int .i64 0)) ((.int .i64 0)) (z8 32) ((.slice none 0 0)) (z8 64)) rfl (by kernel_rfl)) rfl ?_; (try simp only [Act.put, lyy])
  replace E := Lib.hid (E.out.new (lsR ((.int .i64 0)) ((.int .i64 0)) (z8 32) ((.slice none 0 0)) (z8 64)) 32)
  generalize a39.alloc (.cells (lsR ((.int .i64 0)) ((.int .i64 0)) (z8 32) ((.slice none 0 0)) (z8 64)).toArray 32) = a41 at *
  generalize a39.heap.size = g42 at *
  refine qah (qax (vs := Z5) rfl (szR lZ5 (by kernel_rfl)) rfl rfl (One.all oZ5) ((E.out.get (i := 0) rfl).thereM (by have q1 : (Z5).length = 99 := lZ5; have q2 : (lsR ((.int .i64 0)) ((.int .i64 0)) (z8 32) ((.slice none 0 0)) (z8 64)).length = 99 := (qan (qac 32) (qac 64)); omega))) rfl rfl ?_
  replace E := Lib.hid (E.out.put 0 rfl (m := Z5) ((show (Z5).length = 99 from lZ5).trans (show (lsR ((.int .i64 0)) ((.int .i64 0)) (z8 32) ((.slice none 0 0)) (z8 64)).length = 99 from (qan (qac 32) (qac 64))).symm))
  generalize a41.setCells g42 0 (Z5) = a43 at *
  replace E := Lib.hid (show Hw _ [(g42, Z5), (g37, Z4), (g32, Z3), (g17, Z2), (g12, Z1)] _ _ _ _ _ _ _ _ _ _ _ _ a43 from E.out)
  refine qaa (qai (v := .int .u16 3) rfl rfl) rfl ?_; (try simp only [Act.put, lyy])
  refine qab ?_
  go_upto_region 14 with fail; refine wp_region_lit ?_
  refine qat (run_call0 enters_kn10 rfl rfl) rfl (known10_any _) (fun a44 hb => ?_); (try simp only [Act.put, lyy])
  replace E := Lib.hid (E.out.below hb)
  clear hb
  refine qaa (qad (v := .bool true) rfl rfl) rfl ?_; (try simp only [Act.put, lyy])
  refine qau (qad (v := .int .u16 10) rfl rfl) rfl ?_; (try simp only [Act.put, lyy])
  refine qau (qbx (c := true) rfl rfl rfl rfl) rfl ?_; (try simp only [Act.put, lyy])
  refine qaa (qb2 (b := true) (v := .bool true) rfl rfl rfl) rfl ?_; (try simp only [Act.put, lyy])
  refine qaa (qad (v := .bool true) rfl rfl) rfl ?_; (try simp only [Act.put, lyy])
  refine qau (qad (v := .int .u16 10) rfl rfl) rfl ?_; (try simp only [Act.put, lyy])
  refine qau (qbx (c := true) rfl rfl rfl rfl) rfl ?_; (try simp only [Act.put, lyy])
  refine qaa (qb2 (b := true) (v := .bool true) rfl rfl rfl) rfl ?_; (try simp only [Act.put, lyy])
  refine qaa (qad (v := .bool true) rfl rfl) rfl ?_; (try simp only [Act.put, lyy])
  refine qau (qad (v := .int .u16 11) rfl rfl) rfl ?_; (try simp only [Act.put, lyy])
  refine qau (qbx (c := true) rfl rfl rfl rfl) rfl ?_; (try simp only [Act.put, lyy])
  refine qaa (qb2 (b := true) (v := .bool true) rfl rfl rfl) rfl ?_; (try simp only [Act.put, lyy])
  refine qaa (qad (v := .bool true) rfl rfl) rfl ?_; (try simp only [Act.put, lyy])
  refine qau (qad (v := .int .u16 11) rfl rfl) rfl ?_; (try simp only [Act.put, lyy])
  refine qau (qbx (c := true) rfl rfl rfl rfl) rfl ?_; (try simp only [Act.put, lyy])
  refine qaa (qb2 (b := true) (v := .bool true) rfl rfl rfl) rfl ?_; (try simp only [Act.put, lyy])
  refine qaa (qad (v := .bool true) rfl rfl) rfl ?_; (try simp only [Act.put, lyy])
  refine qau (qad (v := .int .u16 3) rfl rfl) rfl ?_; (try simp only [Act.put, lyy])
  refine qau (qbx (c := true) rfl rfl rfl rfl) rfl ?_; (try simp only [Act.put, lyy])
  refine qaa (qb2 (b := true) (v := .bool true) rfl rfl rfl) rfl ?_; (try simp only [Act.put, lyy])
  refine qaa (qai (v := .bool true) rfl rfl) rfl ?_; (try simp only [Act.put, lyy])
  refine qab ?_
  go_wp2_with fail
  go_ret
  exact ⟨rfl, E.out.bl⟩
end Go.Proofs.Ytcgbgmbnagmohaa
