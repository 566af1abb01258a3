import Derived.Test.YtgioojahadlmhaaLy
import Derived.Test.YtgioojahadlmhaaLo1
import Derived.Test.YtgioojahadlmhaaPrU
import Derived.Test.YtgioojahadlmhaaPrL
import Derived.Test.YtgioojahadlmhaaPrQ
namespace Go.Proofs.Ytgioojahadlmhaa
open Go.RowKit
set_option maxRecDepth 20000
attribute [local irreducible] wpList
theorem run_cv16_w {w : World} {ρ : Operand → Value} {o : Oper} {x : Operand} {n : Int} (ho : o.op = .convert 27 3 x) (hx : ρ x = .int .u16 n) (h0 : 0 ≤ n) (h1 : n < 65536) : (execOp ρ o).run Try.prog w = .ok (.value (.int .i64 n)) w := by
  rw [run_cv ho Try.underlying27 Try.underlying3 hx, i64_fit (by omega) (by omega)]
theorem qbs {w : World} {ρ : Operand → Value} {o : Oper} {x y : Operand} {t t' : TypeId} {l m : List (BitVec 8)} (ho : o.op = .binOp .eql t x y t') (hx : ρ x = .string (strOf l)) (hy : ρ y = .string (strOf m)) (h : l = m) : (execOp ρ o).run Try.prog w = .ok (.value (.bool true)) w := by
  have q := run_eqStr (w := w) ho hx hy
  rwa [decide_eq_true h] at q
theorem Ev.fro0 {w u : World} {L : List (Nat × List Value)} {K : List Nat} {F H Q : World → Prop} (e : Ev w L K F H u) (h : ∀ V, H V → Q V) : Fro 0 Q u := fun V hV => h V (e.tell V (hV.mono (Nat.zero_le _) fun _ h => h))
set_option maxHeartbeats 16000000 in
theorem wireOnce_any (v0 : Value) (b : List (BitVec 8)) (v1 : Value) (c : List (BitVec 8)) (a : Nat) (x : BitVec 8) (w : World) (hb : Sl v0 b w) (_ : b.length ≤ 140737488351232) (hc : Sl v1 c w) (_ : c.length ≤ 140737488351232) (ha : a < 65536) : Calls Try.prog 7 #[v0, v1, .int .u16 (a : Int), b8 x] w fun e w' => e = .returned (.bool true) ∧ Below w.heap.size w w' := by
  obtain ⟨ab, cb, rfl, -, -⟩ := id hb
  obtain ⟨ao, cc, rfl, -, -⟩ := id hc
  have HB := Lib.hid hb
  have HC := Lib.hid hc
  clear hb hc
  have E := Lib.hid (Ev.start (w := w) (F := fun _ => True) fun _ _ => trivial)
  have CRq : Hid (∀ u, Below w.heap.size w u → Calls Try.prog 12 #[.slice ao c.length cc] u fun r w' => ∃ v', r = .returned v' ∧ ((∃ X : List Value, v' = .agg X.toArray ∧ X.length = 237 ∧ One X ∧ Fro 0 (rqAt (chRq c) X) w') ∧ Below u.heap.size u w')) := Lib.hid fun u hu => chRq_any ao c cc u (HC.out.below hu)
  have HCN : Hid (c.length ≤ 60000 → (chRq c).Can) := Lib.hid fun h => chRq_can c h
  clear HC
  generalize chRq c = rq at *
  generalize c.length = nc at *
  obtain ⟨nb, hnb⟩ : ∃ n, n = b.length := ⟨_, rfl⟩
  rw [← hnb] at HB ⊢
  have HNB := Lib.hid hnb
  clear hnb
  by_cases hl1 : 300 < nb
  · go_enter Try.func7, Try.ntmps7
    go_upto_region 0 with fail; refine wp_region_lit ?_
    refine qaa (qak (v := .bool false) rfl rfl) rfl ?_; (try simp only [Act.put, lyy])
    refine qab ?_
    go_upto_region 1 with fail; refine wp_region_lit ?_
    refine qaa (qad (v := .slice ab nb cb) rfl rfl) rfl ?_; (try simp only [Act.put, lyy])
    refine qaa (qbh rfl Try.underlying22 rfl) rfl ?_; (try simp only [Act.put, lyy])
    refine qaa (qbc (c := true) rfl rfl rfl (decide_eq_true (by omega))) rfl ?_; (try simp only [Act.put, lyy])
    refine qaa (qad (v := .bool true) rfl rfl) rfl ?_; (try simp only [Act.put, lyy])
    refine qb5 rfl ?_; (try simp only [Act.put, lyy])
    refine qb5 rfl ?_; (try simp only [Act.put, lyy])
    refine qb5 rfl ?_; (try simp only [Act.put, lyy])
    refine qaa (qaq (b := true) (v := .bool true) rfl rfl rfl) rfl ?_; (try simp only [Act.put, lyy])
    refine qab ?_
    go_upto_region 2 with fail; refine wp_region_lit ?_
    refine qav (qcg qbz rfl rfl) rfl (qby _) (fun a1 hb => ?_); (try simp only [Act.put, lyy])
    replace E := Lib.hid (E.out.below hb)
    clear hb
    refine qaa (qak (v := .bool true) rfl rfl) rfl ?_; (try simp only [Act.put, lyy])
    refine qab ?_
    go_wp2_with fail
    go_ret
    exact ⟨rfl, E.out.bl⟩
  by_cases hl2 : 300 < nc
  · go_enter Try.func7, Try.ntmps7
    go_upto_region 0 with fail; refine wp_region_lit ?_
    refine qaa (qak (v := .bool false) rfl rfl) rfl ?_; (try simp only [Act.put, lyy])
    refine qab ?_
    go_upto_region 1 with fail; refine wp_region_lit ?_
    refine qaa (qad (v := .slice ab nb cb) rfl rfl) rfl ?_; (try simp only [Act.put, lyy])
    refine qaa (qbh rfl Try.underlying22 rfl) rfl ?_; (try simp only [Act.put, lyy])
    refine qaa (qbc (c := false) rfl rfl rfl (decide_eq_false (by omega))) rfl ?_; (try simp only [Act.put, lyy])
    refine qaa (qad (v := .bool false) rfl rfl) rfl ?_; (try simp only [Act.put, lyy])
    refine qax (qad (v := .slice ao nc cc) rfl rfl) rfl ?_; (try simp only [Act.put, lyy])
    refine qax (qbh rfl Try.underlying22 rfl) rfl ?_; (try simp only [Act.put, lyy])
    refine qax (qbc (c := true) rfl rfl rfl (decide_eq_true (by omega))) rfl ?_; (try simp only [Act.put, lyy])
    refine qaa (qaq (b := false) (v := .bool true) rfl rfl rfl) rfl ?_; (try simp only [Act.put, lyy])
    refine qab ?_
    go_upto_region 2 with fail; refine wp_region_lit ?_
    refine qav (qcg qbz rfl rfl) rfl (qby _) (fun a1 hb => ?_); (try simp only [Act.put, lyy])
    replace E := Lib.hid (E.out.below hb)
    clear hb
    refine qaa (qak (v := .bool true) rfl rfl) rfl ?_; (try simp only [Act.put, lyy])
    refine qab ?_
    go_wp2_with fail
    go_ret
    exact ⟨rfl, E.out.bl⟩
  have HCA := Lib.hid (HCN.out (by omega))
  go_enter Try.func7, Try.ntmps7
  go_upto_region 0 with fail; refine wp_region_lit ?_
  refine qaa (qak (v := .bool false) rfl rfl) rfl ?_; (try simp only [Act.put, lyy])
  refine qab ?_
  go_upto_region 1 with fail; refine wp_region_lit ?_
  refine qaa (qad (v := .slice ab nb cb) rfl rfl) rfl ?_; (try simp only [Act.put, lyy])
  refine qaa (qbh rfl Try.underlying22 rfl) rfl ?_; (try simp only [Act.put, lyy])
  refine qaa (qbc (c := false) rfl rfl rfl (decide_eq_false (by omega))) rfl ?_; (try simp only [Act.put, lyy])
  refine qaa (qad (v := .bool false) rfl rfl) rfl ?_; (try simp only [Act.put, lyy])
  refine qax (qad (v := .slice ao nc cc) rfl rfl) rfl ?_; (try simp only [Act.put, lyy])
  refine qax (qbh rfl Try.underlying22 rfl) rfl ?_; (try simp only [Act.put, lyy])
  refine qax (qbc (c := false) rfl rfl rfl (decide_eq_false (by omega))) rfl ?_; (try simp only [Act.put, lyy])
  refine qaa (qaq (b := false) (v := .bool false) rfl rfl rfl) rfl ?_; (try simp only [Act.put, lyy])
  refine qab ?_
  go_upto_region 3 with fail; refine wp_region_lit ?_
  refine qaa (qad (v := .slice ao nc cc) rfl rfl) rfl ?_; (try simp only [Act.put, lyy])
  refine qag (qam enters_cr10 rfl rfl rfl) rfl (CRq.out _ E.out.bl) (fun v2 a1 hR => ?_); (try simp only [Act.put, lyy])
  obtain ⟨⟨X, rfl, lX, oX, fX⟩, hb7⟩ := hR
  replace E := Lib.hid (E.out.below hb7)
  have HX := Lib.hid fX
  clear fX hb7
  refine qag (qam enters_xReq rfl rfl rfl) rfl (xReq_any _ rq X HCA.out.ok HCA.out.one HX.out (rqB_len HCA.out)) (fun v4 a3 hR => ?_); (try simp only [Act.put, lyy])
  have hb7 := hR.bl
  have hgw := E.out.bl.size
  replace E := Lib.hid (E.out.below hb7)
  obtain ⟨g, cap, rfl, hg, hW⟩ := own_set hR.O (rqB_pos rq)
  have hn0 := rqB_pos rq
  have HW := Lib.hid hW
  clear hR hb7 hW HX
  generalize rqB rq = L at *
  obtain ⟨n, hn⟩ : ∃ n, n = L.length := ⟨_, rfl⟩
  have HN := Lib.hid hn
  have hnn : 0 < n := by omega
  replace hg := Nat.le_trans hgw hg
  rw [← hn]
  clear hn hn0 hgw
  refine qaa (qak (v := .slice (some ⟨g, 0, none⟩) n cap) rfl rfl) rfl ?_; (try simp only [Act.put, lyy])
  refine qab ?_
  go_upto_region 4 with fail; refine wp_region_lit ?_
  refine qaa (qad (v := .slice (some ⟨g, 0, none⟩) n cap) rfl rfl) rfl ?_; (try simp only [Act.put, lyy])
  refine qaa (qbh rfl Try.underlying22 rfl) rfl ?_; (try simp only [Act.put, lyy])
  refine qaa (qcd (c := false) rfl rfl rfl (beq_eq_false_iff_ne.2 (by omega))) rfl ?_; (try simp only [Act.put, lyy])
  refine qab ?_
  go_upto_region 6 with fail; refine wp_region_lit ?_
  refine qaa (qad (v := .slice (some ⟨g, 0, none⟩) n cap) rfl rfl) rfl ?_; (try simp only [Act.put, lyy])
  refine qaa (qad (v := .int .u16 (a : Int)) rfl rfl) rfl ?_; (try simp only [Act.put, lyy])
  refine qaa (run_cv16_w rfl rfl (by omega) (by omega)) rfl ?_; (try simp only [Act.put, lyy])
  refine qaa (qad (v := .slice (some ⟨g, 0, none⟩) n cap) rfl rfl) rfl ?_; (try simp only [Act.put, lyy])
  refine qaa (qbh rfl Try.underlying22 rfl) rfl ?_; (try simp only [Act.put, lyy])
  refine qaa (qb6 (a := a) (b := n) rfl rfl rfl (by omega)) rfl ?_; (try simp only [Act.put, lyy])
  refine qaa (qad (v := b8 x) rfl rfl) rfl ?_; (try simp only [Act.put, lyy])
  refine qaa (run_ixs rfl Try.underlying22 (by kernel_rfl) rfl rfl (Nat.mod_lt _ (by omega))) rfl ?_; (try simp only [Act.put, lyy])
  obtain ⟨⟨y, hy⟩, hfz, hsl⟩ := HW.out (a % n) (by have := HN.out; have := Nat.mod_lt a hnn; omega)
  rw [← Nat.zero_add (a % n)] at hy hfz
  refine qal (qb2 (v := b8 x) rfl (by kernel_rfl) rfl rfl rfl rfl hy hfz) rfl rfl ?_
  have HSX : Hid (Sl (.slice (some ⟨g, 0, none⟩) n cap) (L.set (a % n) x) (a3.setCell ⟨g, 0 + a % n, none⟩ (b8 x))) := Lib.hid (by rw [Nat.zero_add]; have q := hsl x; rwa [← HN.out] at q)
  have HWB := Lib.hid (E.out.bl.setCell hg (b8 x) : Below w.heap.size w (a3.setCell ⟨g, 0 + a % n, none⟩ (b8 x)))
  skip
  have HM : Hid ((L.set (a % n) x).length = n) := Lib.hid (by rw [List.length_set]; exact HN.out.symm)
  generalize L.set (a % n) x = M at *
  clear HW HN hsl hy hfz E CRq HCN HCA
  generalize a3.setCell ⟨g, 0 + a % n, none⟩ (b8 x) = b0 at *
  have E := Lib.hid (Ev.start (w := b0) (F := fun _ => True) fun _ _ => trivial)
  replace HB := Lib.hid (HB.out.below HWB.out)
  obtain ⟨⟨r1, e1⟩, H1⟩ : ∃ r, r = rdRq M := ⟨_, rfl⟩
  obtain ⟨⟨r2, e2⟩, H2⟩ : ∃ r, r = rdLs b := ⟨_, rfl⟩
  obtain ⟨⟨r3, e3⟩, H3⟩ : ∃ r, r = rdUs b := ⟨_, rfl⟩
  have C1 : Hid (∀ u, Below b0.heap.size b0 u → Calls Try.prog 15 #[.slice (some ⟨g, 0, none⟩) n cap] u fun r w' => ∃ v', r = .returned v' ∧ ((∃ X : List Value, v' = .tuple #[.agg X.toArray, .int .u16 e1] ∧ X.length = 237 ∧ One X ∧ Fro u.heap.size (rqAt r1 X) w') ∧ Below u.heap.size u w')) := Lib.hid fun u hu => by have q := ryRq_any (some ⟨g, 0, none⟩) M cap r1 e1 H1.symm u (by rw [HM.out]; exact HSX.out.below hu); rwa [HM.out] at q
  have C2 : Hid (∀ u, Below b0.heap.size b0 u → Calls Try.prog 17 #[.slice ab nb cb] u fun r w' => ∃ v', r = .returned v' ∧ ((∃ X : List Value, v' = .tuple #[.agg X.toArray, .int .u16 e2] ∧ X.length = 99 ∧ One X ∧ Fro u.heap.size (lsAt r2 X) w') ∧ Below u.heap.size u w')) := Lib.hid fun u hu => by have q := ryLs_any ab b cb r2 e2 H2.symm u (by have q := HB.out.below hu; rwa [HNB.out] at q); rwa [← HNB.out] at q
  have C3 : Hid (∀ u, Below b0.heap.size b0 u → Calls Try.prog 9 #[.slice ab nb cb] u fun r w' => ∃ v', r = .returned v' ∧ ((∃ a' c', v' = .tuple #[.slice a' r3.length c', .int .u16 e3] ∧ Fro u.heap.size (SlR 3 usAt r3 a' c') w') ∧ Below u.heap.size u w')) := Lib.hid fun u hu => by have q := ryUs_any ab b cb r3 e3 H3.symm u (by have q := HB.out.below hu; rwa [HNB.out] at q); rwa [← HNB.out] at q
  have K1 : Hid (e1 = 0 → M.length ≤ 60000 ∧ M = rqB r1 ∧ r1.Can) := Lib.hid fun h => rdRq_once (by rw [← H1, h])
  have K2 : Hid (e2 = 0 → b.length ≤ 60000 ∧ b = lsB r2 ∧ r2.Can) := Lib.hid fun h => rdLs_once (by rw [← H2, h])
  have K3 : Hid (e3 = 0 → b.length ≤ 60000 ∧ b = alB usB r3 ∧ r3.length ≤ 60000 ∧ ∀ m ∈ r3, m.name.length ≤ 60000 ∧ 0 ≤ m.acc ∧ m.acc ≤ 1099511627776) := Lib.hid fun h => rdUs_once (by rw [← H3, h])
  clear H1 H2 H3
  go_upto_region 7 with fail; refine wp_region_lit ?_
  refine qaa (qad (v := .slice (some ⟨g, 0, none⟩) n cap) rfl rfl) rfl ?_; (try simp only [Act.put, lyy])
  refine qag (qam enters_ryRq rfl rfl rfl) rfl (C1.out _ E.out.bl) (fun v6 a5 hR => ?_); (try simp only [Act.put, lyy])
  obtain ⟨⟨X1, rfl, l1, o1, fX⟩, hb7⟩ := hR
  replace E := Lib.hid (E.out.call hb7 fX)
  clear fX hb7
  refine qaa (qad (v := .tuple #[.agg (X1).toArray, .int .u16 e1]) rfl rfl) rfl ?_; (try simp only [Act.put, lyy])
  refine qaa (qb0 (v := .agg (X1).toArray) rfl rfl rfl) rfl ?_; (try simp only [Act.put, lyy])
  refine qaa (qb0 (v := .int .u16 e1) rfl rfl rfl) rfl ?_; (try simp only [Act.put, lyy])
  refine qaa (qa5 (vs := rqR ((.int .u8 0)) ((.int .i64 0)) ((.int .i64 0)) ((.string ⟨#[]⟩)) ((.string ⟨#[]⟩)) ((.string ⟨#[]⟩)) (lsR ((.int .i64 0)) ((.int .i64 0)) (z8 32) ((.slice none 0 0)) (z8 64)) (z8 32) (pkR ((.int .i64 0)) (z8 32)) (z8 64) ((.slice none 0 0)) ((.int .i64 0)) ((.slice none 0 0))) rfl (by kernel_rfl)) rfl ?_; (try simp only [Act.put, lyy])
  replace E := Lib.hid (E.out.new (rqR ((.int .u8 0)) ((.int .i64 0)) ((.int .i64 0)) ((.string ⟨#[]⟩)) ((.string ⟨#[]⟩)) ((.string ⟨#[]⟩)) (lsR ((.int .i64 0)) ((.int .i64 0)) (z8 32) ((.slice none 0 0)) (z8 64)) (z8 32) (pkR ((.int .i64 0)) (z8 32)) (z8 64) ((.slice none 0 0)) ((.int .i64 0)) ((.slice none 0 0))) 46)
  generalize a5.alloc (.cells (rqR ((.int .u8 0)) ((.int .i64 0)) ((.int .i64 0)) ((.string ⟨#[]⟩)) ((.string ⟨#[]⟩)) ((.string ⟨#[]⟩)) (lsR ((.int .i64 0)) ((.int .i64 0)) (z8 32) ((.slice none 0 0)) (z8 64)) (z8 32) (pkR ((.int .i64 0)) (z8 32)) (z8 64) ((.slice none 0 0)) ((.int .i64 0)) ((.slice none 0 0))).toArray 46) = a7 at *
  generalize a5.heap.size = g8 at *
  refine qal (qa1 (vs := X1) rfl (szR l1 (by kernel_rfl)) rfl rfl (One.all o1) ((E.out.get (i := 0) rfl).thereM (by have q1 : (X1).length = 237 := l1; have q2 : (rqR ((.int .u8 0)) ((.int .i64 0)) ((.int .i64 0)) ((.string ⟨#[]⟩)) ((.string ⟨#[]⟩)) ((.string ⟨#[]⟩)) (lsR ((.int .i64 0)) ((.int .i64 0)) (z8 32) ((.slice none 0 0)) (z8 64)) (z8 32) (pkR ((.int .i64 0)) (z8 32)) (z8 64) ((.slice none 0 0)) ((.int .i64 0)) ((.slice none 0 0))).length = 237 := (qau (qas (qae 32) (qae 64)) (qae 32) (qao (qae 32)) (qae 64)); omega))) rfl rfl ?_
  replace E := Lib.hid (E.out.put 0 rfl (m := X1) ((show (X1).length = 237 from l1).trans (show (rqR ((.int .u8 0)) ((.int .i64 0)) ((.int .i64 0)) ((.string ⟨#[]⟩)) ((.string ⟨#[]⟩)) ((.string ⟨#[]⟩)) (lsR ((.int .i64 0)) ((.int .i64 0)) (z8 32) ((.slice none 0 0)) (z8 64)) (z8 32) (pkR ((.int .i64 0)) (z8 32)) (z8 64) ((.slice none 0 0)) ((.int .i64 0)) ((.slice none 0 0))).length = 237 from (qau (qas (qae 32) (qae 64)) (qae 32) (qao (qae 32)) (qae 64))).symm))
  generalize a7.setCells g8 0 (X1) = a9 at *
  replace E := Lib.hid (show Ev _ [(g8, X1)] _ _ _ a9 from E.out)
  refine qaa (qak (v := .int .u16 e1) rfl rfl) rfl ?_; (try simp only [Act.put, lyy])
  refine qab ?_
  go_upto_region 8 with fail; refine wp_region_lit ?_
  refine qaa (qad (v := .slice ab nb cb) rfl rfl) rfl ?_; (try simp only [Act.put, lyy])
  refine qag (qam enters_ryLs rfl rfl rfl) rfl (C2.out _ E.out.bl) (fun v11 a10 hR => ?_); (try simp only [Act.put, lyy])
  obtain ⟨⟨X2, rfl, l2, o2, fX⟩, hb7⟩ := hR
  replace E := Lib.hid (E.out.call hb7 fX)
  clear fX hb7
  refine qaa (qad (v := .tuple #[.agg (X2).toArray, .int .u16 e2]) rfl rfl) rfl ?_; (try simp only [Act.put, lyy])
  refine qaa (qb0 (v := .agg (X2).toArray) rfl rfl rfl) rfl ?_; (try simp only [Act.put, lyy])
  refine qaa (qb0 (v := .int .u16 e2) rfl rfl rfl) rfl ?_; (try simp only [Act.put, lyy])
  refine qaa (qa5 (vs := lsR ((.int .i64 0)) ((.int .i64 0)) (z8 32) ((.slice none 0 0)) (z8 64)) rfl (by kernel_rfl)) rfl ?_; (try simp only [Act.put, lyy])
  replace E := Lib.hid (E.out.new (lsR ((.int .i64 0)) ((.int .i64 0)) (z8 32) ((.slice none 0 0)) (z8 64)) 40)
  generalize a10.alloc (.cells (lsR ((.int .i64 0)) ((.int .i64 0)) (z8 32) ((.slice none 0 0)) (z8 64)).toArray 40) = a12 at *
  generalize a10.heap.size = g13 at *
  refine qal (qa1 (vs := X2) rfl (szR l2 (by kernel_rfl)) rfl rfl (One.all o2) ((E.out.get (i := 0) rfl).thereM (by have q1 : (X2).length = 99 := l2; have q2 : (lsR ((.int .i64 0)) ((.int .i64 0)) (z8 32) ((.slice none 0 0)) (z8 64)).length = 99 := (qas (qae 32) (qae 64)); omega))) rfl rfl ?_
  replace E := Lib.hid (E.out.put 0 rfl (m := X2) ((show (X2).length = 99 from l2).trans (show (lsR ((.int .i64 0)) ((.int .i64 0)) (z8 32) ((.slice none 0 0)) (z8 64)).length = 99 from (qas (qae 32) (qae 64))).symm))
  generalize a12.setCells g13 0 (X2) = a14 at *
  replace E := Lib.hid (show Ev _ [(g13, X2), (g8, X1)] _ _ _ a14 from E.out)
  refine qaa (qak (v := .int .u16 e2) rfl rfl) rfl ?_; (try simp only [Act.put, lyy])
  refine qab ?_
  go_upto_region 9 with fail; refine wp_region_lit ?_
  refine qaa (qad (v := .slice ab nb cb) rfl rfl) rfl ?_; (try simp only [Act.put, lyy])
  refine qag (qam enters_ryUs rfl rfl rfl) rfl (C3.out _ E.out.bl) (fun v16 a15 hR => ?_); (try simp only [Act.put, lyy])
  obtain ⟨⟨a3, c3, rfl, fX⟩, hb7⟩ := hR
  replace E := Lib.hid (E.out.call hb7 fX)
  clear fX hb7
  refine qaa (qad (v := .tuple #[.slice a3 r3.length c3, .int .u16 e3]) rfl rfl) rfl ?_; (try simp only [Act.put, lyy])
  refine qaa (qb0 (v := .slice a3 r3.length c3) rfl rfl rfl) rfl ?_; (try simp only [Act.put, lyy])
  refine qaa (qb0 (v := .int .u16 e3) rfl rfl rfl) rfl ?_; (try simp only [Act.put, lyy])
  refine qaa (qak (v := .slice a3 r3.length c3) rfl rfl) rfl ?_; (try simp only [Act.put, lyy])
  refine qaa (qak (v := .int .u16 e3) rfl rfl) rfl ?_; (try simp only [Act.put, lyy])
  refine qab ?_
  by_cases z1 : e1 = 0
  · have Q1 := Lib.hid (K1.out z1)
    by_cases z2 : e2 = 0
    · have Q2 := Lib.hid (K2.out z2)
      by_cases z3 : e3 = 0
      · have Q3 := Lib.hid (K3.out z3)
        go_upto_region 10 with fail
        refine wp_region_noPanic ?_; refine qa9 (S := fun _ V => Below a15.heap.size a15 V) (by kernel_rfl) ((Below.refl _ _).drew) (fun hS => ?_)
        replace E := Lib.hid (E.out.below hS)
        generalize a15.drew = a17 at *
        refine qaw (S' := fun _ V => Below a17.heap.size a17 V) (fun _ V h => hS.trans (h.mono hS.size)) _ _ _ _ ?_
        replace hS := Below.refl a17.heap.size a17
        refine qap 0 (by kernel_rfl) rfl rfl rfl (qcg qbz rfl rfl) ((qa6 (qby _))) (fun v w h => hS.trans ((h.2).mono hS.size)) (fun v18 a19 hR => ?_); (try simp only [Act.put, lyy])
        obtain ⟨rfl, hb9⟩ := hR
        replace hS := hS.trans (hb9.mono hS.size)
        replace E := Lib.hid (E.out.below hb9)
        clear hb9
        refine qaw (S' := fun _ V => Below a19.heap.size a19 V) (fun _ V h => hS.trans (h.mono hS.size)) _ _ _ _ ?_
        replace hS := Below.refl a19.heap.size a19
        refine qac 1 rfl rfl (by kernel_rfl) (by kernel_rfl) (by kernel_rfl) (fun _ _ _ h => h) rfl (fun V hV => qad (v := .bool true) rfl rfl) hS ?_; (try simp only [Act.put, lyy])
        refine qac 2 rfl rfl (by kernel_rfl) (by kernel_rfl) (by kernel_rfl) (fun _ _ _ h => h) rfl (fun V hV => qad (v := .int .u16 e1) rfl rfl) hS ?_; (try simp only [Act.put, lyy])
        refine qac 3 rfl rfl (by kernel_rfl) (by kernel_rfl) (by kernel_rfl) (fun _ _ _ h => h) rfl (fun V hV => qbi (c := false) rfl rfl rfl (by simp [z1])) hS ?_; (try simp only [Act.put, lyy])
        refine qac 4 rfl rfl (by kernel_rfl) (by kernel_rfl) (by kernel_rfl) (fun _ _ _ h => h) rfl (fun V hV => qad (v := .bool false) rfl rfl) hS ?_; (try simp only [Act.put, lyy])
        refine qac 5 rfl rfl (by kernel_rfl) (by kernel_rfl) (by kernel_rfl) (fun _ _ _ h => h) rfl (fun V hV => qa4 (vs := X1) rfl Try.underlying46 rfl (szR l1 (by kernel_rfl)) rfl ((E.out.below hV).get (i := 1) rfl).range) hS ?_; (try simp only [Act.put, lyy])
        refine qac 8 rfl rfl (by kernel_rfl) (by kernel_rfl) (by kernel_rfl) (fun _ _ _ h => h) rfl (fun V hV => qad (v := .slice (some ⟨g, 0, none⟩) n cap) rfl rfl) hS ?_; (try simp only [Act.put, lyy])
        refine qac 9 rfl rfl (by kernel_rfl) (by kernel_rfl) (by kernel_rfl) (fun _ _ _ h => h) rfl (fun V hV => qbk rfl rfl (HSX.out.below (E.out.below hV).bl)) hS ?_; (try simp only [Act.put, lyy])
        refine qap 6 (by kernel_rfl) rfl rfl rfl (qam enters_xReq rfl rfl rfl) ((xReq_any _ r1 X1 Q1.out.2.2.ok Q1.out.2.2.one (E.out.fro0 fun V h => h.2.2.1) (rqB_len Q1.out.2.2))) (fun v w h => hS.trans ((h.bl).mono hS.size)) (fun v20 a21 hR => ?_); (try simp only [Act.put, lyy])
        have hb9 := hR.bl
        have hs9 := hR.sl
        obtain ⟨xv20, cv20, rfl, -, -⟩ := id hs9
        replace hS := hS.trans (hb9.mono hS.size)
        replace E := Lib.hid (E.out.below hb9)
        have HSL := Lib.hid hs9
        clear hR hs9 hb9
        refine qaw (S' := fun _ V => Below a21.heap.size a21 V) (fun _ V h => hS.trans (h.mono hS.size)) _ _ _ _ ?_
        replace hS := Below.refl a21.heap.size a21
        refine qac 7 rfl rfl (by kernel_rfl) (by kernel_rfl) (by kernel_rfl) (fun _ _ _ h => h) rfl (fun V hV => qbk rfl rfl (HSL.out.below hV)) hS ?_; (try simp only [Act.put, lyy])
        refine qac 10 rfl rfl (by kernel_rfl) (by kernel_rfl) (by kernel_rfl) (fun _ _ _ h => h) rfl (fun V hV => qbs rfl rfl rfl Q1.out.2.1.symm) hS ?_; (try simp only [Act.put, lyy])
        refine qac 11 rfl rfl (by kernel_rfl) (by kernel_rfl) (by kernel_rfl) (fun _ _ _ h => h) rfl (fun V hV => qaq (b := false) (v := .bool true) rfl rfl rfl) hS ?_; (try simp only [Act.put, lyy])
        refine qac 12 rfl rfl (by kernel_rfl) (by kernel_rfl) (by kernel_rfl) (fun _ _ _ h => h) rfl (fun V hV => qaq (b := true) (v := .bool true) rfl rfl rfl) hS ?_; (try simp only [Act.put, lyy])
        refine qac 13 rfl rfl (by kernel_rfl) (by kernel_rfl) (by kernel_rfl) (fun _ _ _ h => h) rfl (fun V hV => qad (v := .bool true) rfl rfl) hS ?_; (try simp only [Act.put, lyy])
        refine qac 14 rfl rfl (by kernel_rfl) (by kernel_rfl) (by kernel_rfl) (fun _ _ _ h => h) rfl (fun V hV => qad (v := .int .u16 e2) rfl rfl) hS ?_; (try simp only [Act.put, lyy])
        refine qac 15 rfl rfl (by kernel_rfl) (by kernel_rfl) (by kernel_rfl) (fun _ _ _ h => h) rfl (fun V hV => qbi (c := false) rfl rfl rfl (by simp [z2])) hS ?_; (try simp only [Act.put, lyy])
        refine qac 16 rfl rfl (by kernel_rfl) (by kernel_rfl) (by kernel_rfl) (fun _ _ _ h => h) rfl (fun V hV => qad (v := .bool false) rfl rfl) hS ?_; (try simp only [Act.put, lyy])
        refine qac 17 rfl rfl (by kernel_rfl) (by kernel_rfl) (by kernel_rfl) (fun _ _ _ h => h) rfl (fun V hV => qa4 (vs := X2) rfl Try.underlying40 rfl (szR l2 (by kernel_rfl)) rfl ((E.out.below hV).get (i := 0) rfl).range) hS ?_; (try simp only [Act.put, lyy])
        refine qac 20 rfl rfl (by kernel_rfl) (by kernel_rfl) (by kernel_rfl) (fun _ _ _ h => h) rfl (fun V hV => qad (v := .slice ab nb cb) rfl rfl) hS ?_; (try simp only [Act.put, lyy])
        refine qac 21 rfl rfl (by kernel_rfl) (by kernel_rfl) (by kernel_rfl) (fun _ _ _ h => h) rfl (fun V hV => qbk rfl rfl (HB.out.below (E.out.below hV).bl)) hS ?_; (try simp only [Act.put, lyy])
        refine qap 18 (by kernel_rfl) rfl rfl rfl (qam enters_xLst rfl rfl rfl) ((xLst_any _ r2 X2 Q2.out.2.2.ok (E.out.fro0 fun V h => h.2.1) (by have h := Q2.out; rw [← h.2.1]; omega))) (fun v w h => hS.trans ((h.bl).mono hS.size)) (fun v22 a23 hR => ?_); (try simp only [Act.put, lyy])
        have hb9 := hR.bl
        have hs9 := hR.sl
        obtain ⟨xv22, cv22, rfl, -, -⟩ := id hs9
        replace hS := hS.trans (hb9.mono hS.size)
        replace E := Lib.hid (E.out.below hb9)
        have HSL := Lib.hid hs9
        clear hR hs9 hb9
        refine qaw (S' := fun _ V => Below a23.heap.size a23 V) (fun _ V h => hS.trans (h.mono hS.size)) _ _ _ _ ?_
        replace hS := Below.refl a23.heap.size a23
        refine qac 19 rfl rfl (by kernel_rfl) (by kernel_rfl) (by kernel_rfl) (fun _ _ _ h => h) rfl (fun V hV => qbk rfl rfl (HSL.out.below hV)) hS ?_; (try simp only [Act.put, lyy])
        refine qac 22 rfl rfl (by kernel_rfl) (by kernel_rfl) (by kernel_rfl) (fun _ _ _ h => h) rfl (fun V hV => qbs rfl rfl rfl Q2.out.2.1.symm) hS ?_; (try simp only [Act.put, lyy])
        refine qac 23 rfl rfl (by kernel_rfl) (by kernel_rfl) (by kernel_rfl) (fun _ _ _ h => h) rfl (fun V hV => qaq (b := false) (v := .bool true) rfl rfl rfl) hS ?_; (try simp only [Act.put, lyy])
        refine qac 24 rfl rfl (by kernel_rfl) (by kernel_rfl) (by kernel_rfl) (fun _ _ _ h => h) rfl (fun V hV => qaq (b := true) (v := .bool true) rfl rfl rfl) hS ?_; (try simp only [Act.put, lyy])
        refine qac 25 rfl rfl (by kernel_rfl) (by kernel_rfl) (by kernel_rfl) (fun _ _ _ h => h) rfl (fun V hV => qad (v := .bool true) rfl rfl) hS ?_; (try simp only [Act.put, lyy])
        refine qac 26 rfl rfl (by kernel_rfl) (by kernel_rfl) (by kernel_rfl) (fun _ _ _ h => h) rfl (fun V hV => qad (v := .int .u16 e3) rfl rfl) hS ?_; (try simp only [Act.put, lyy])
        refine qac 27 rfl rfl (by kernel_rfl) (by kernel_rfl) (by kernel_rfl) (fun _ _ _ h => h) rfl (fun V hV => qbi (c := false) rfl rfl rfl (by simp [z3])) hS ?_; (try simp only [Act.put, lyy])
        refine qac 28 rfl rfl (by kernel_rfl) (by kernel_rfl) (by kernel_rfl) (fun _ _ _ h => h) rfl (fun V hV => qad (v := .bool false) rfl rfl) hS ?_; (try simp only [Act.put, lyy])
        refine qac 29 rfl rfl (by kernel_rfl) (by kernel_rfl) (by kernel_rfl) (fun _ _ _ h => h) rfl (fun V hV => qad (v := .slice a3 r3.length c3) rfl rfl) hS ?_; (try simp only [Act.put, lyy])
        refine qac 32 rfl rfl (by kernel_rfl) (by kernel_rfl) (by kernel_rfl) (fun _ _ _ h => h) rfl (fun V hV => qad (v := .slice ab nb cb) rfl rfl) hS ?_; (try simp only [Act.put, lyy])
        refine qac 33 rfl rfl (by kernel_rfl) (by kernel_rfl) (by kernel_rfl) (fun _ _ _ h => h) rfl (fun V hV => qbk rfl rfl (HB.out.below (E.out.below hV).bl)) hS ?_; (try simp only [Act.put, lyy])
        refine qap 30 (by kernel_rfl) rfl rfl rfl (qam enters_xUss rfl rfl rfl) ((xUss_any _ r3 a3 c3 (by have h := Q3.out.2.2.1; omega) (E.out.fro0 fun V h => h.1) (by have h := Q3.out; rw [← h.2.1]; omega))) (fun v w h => hS.trans ((h.bl).mono hS.size)) (fun v24 a25 hR => ?_); (try simp only [Act.put, lyy])
        have hb9 := hR.bl
        have hs9 := hR.sl
        obtain ⟨xv24, cv24, rfl, -, -⟩ := id hs9
        replace hS := hS.trans (hb9.mono hS.size)
        replace E := Lib.hid (E.out.below hb9)
        have HSL := Lib.hid hs9
        clear hR hs9 hb9
        refine qaw (S' := fun _ V => Below a25.heap.size a25 V) (fun _ V h => hS.trans (h.mono hS.size)) _ _ _ _ ?_
        replace hS := Below.refl a25.heap.size a25
        refine qac 31 rfl rfl (by kernel_rfl) (by kernel_rfl) (by kernel_rfl) (fun _ _ _ h => h) rfl (fun V hV => qbk rfl rfl (HSL.out.below hV)) hS ?_; (try simp only [Act.put, lyy])
        refine qac 34 rfl rfl (by kernel_rfl) (by kernel_rfl) (by kernel_rfl) (fun _ _ _ h => h) rfl (fun V hV => qbs rfl rfl rfl Q3.out.2.1.symm) hS ?_; (try simp only [Act.put, lyy])
        refine qac 35 rfl rfl (by kernel_rfl) (by kernel_rfl) (by kernel_rfl) (fun _ _ _ h => h) rfl (fun V hV => qaq (b := false) (v := .bool true) rfl rfl rfl) hS ?_; (try simp only [Act.put, lyy])
        refine qac 36 rfl rfl (by kernel_rfl) (by kernel_rfl) (by kernel_rfl) (fun _ _ _ h => h) rfl (fun V hV => qaq (b := true) (v := .bool true) rfl rfl rfl) hS ?_; (try simp only [Act.put, lyy])
        refine qac 37 rfl rfl (by kernel_rfl) (by kernel_rfl) (by kernel_rfl) (fun _ _ _ h => h) rfl (fun V hV => qak (v := .bool true) rfl rfl) hS ?_; (try simp only [Act.put, lyy])
        refine qa7 (by kernel_rfl) ?_ _; refine NoPanic.normal ?_
        go_wp2_with fail
        go_ret
        exact ⟨rfl, HWB.out.trans (E.out.bl.mono HWB.out.size)⟩
      · skip
        go_upto_region 10 with fail
        refine wp_region_noPanic ?_; refine qa9 (S := fun _ V => Below a15.heap.size a15 V) (by kernel_rfl) ((Below.refl _ _).drew) (fun hS => ?_)
        replace E := Lib.hid (E.out.below hS)
        generalize a15.drew = a17 at *
        refine qaw (S' := fun _ V => Below a17.heap.size a17 V) (fun _ V h => hS.trans (h.mono hS.size)) _ _ _ _ ?_
        replace hS := Below.refl a17.heap.size a17
        refine qap 0 (by kernel_rfl) rfl rfl rfl (qcg qbz rfl rfl) ((qa6 (qby _))) (fun v w h => hS.trans ((h.2).mono hS.size)) (fun v18 a19 hR => ?_); (try simp only [Act.put, lyy])
        obtain ⟨rfl, hb9⟩ := hR
        replace hS := hS.trans (hb9.mono hS.size)
        replace E := Lib.hid (E.out.below hb9)
        clear hb9
        refine qaw (S' := fun _ V => Below a19.heap.size a19 V) (fun _ V h => hS.trans (h.mono hS.size)) _ _ _ _ ?_
        replace hS := Below.refl a19.heap.size a19
        refine qac 1 rfl rfl (by kernel_rfl) (by kernel_rfl) (by kernel_rfl) (fun _ _ _ h => h) rfl (fun V hV => qad (v := .bool true) rfl rfl) hS ?_; (try simp only [Act.put, lyy])
        refine qac 2 rfl rfl (by kernel_rfl) (by kernel_rfl) (by kernel_rfl) (fun _ _ _ h => h) rfl (fun V hV => qad (v := .int .u16 e1) rfl rfl) hS ?_; (try simp only [Act.put, lyy])
        refine qac 3 rfl rfl (by kernel_rfl) (by kernel_rfl) (by kernel_rfl) (fun _ _ _ h => h) rfl (fun V hV => qbi (c := false) rfl rfl rfl (by simp [z1])) hS ?_; (try simp only [Act.put, lyy])
        refine qac 4 rfl rfl (by kernel_rfl) (by kernel_rfl) (by kernel_rfl) (fun _ _ _ h => h) rfl (fun V hV => qad (v := .bool false) rfl rfl) hS ?_; (try simp only [Act.put, lyy])
        refine qac 5 rfl rfl (by kernel_rfl) (by kernel_rfl) (by kernel_rfl) (fun _ _ _ h => h) rfl (fun V hV => qa4 (vs := X1) rfl Try.underlying46 rfl (szR l1 (by kernel_rfl)) rfl ((E.out.below hV).get (i := 1) rfl).range) hS ?_; (try simp only [Act.put, lyy])
        refine qac 8 rfl rfl (by kernel_rfl) (by kernel_rfl) (by kernel_rfl) (fun _ _ _ h => h) rfl (fun V hV => qad (v := .slice (some ⟨g, 0, none⟩) n cap) rfl rfl) hS ?_; (try simp only [Act.put, lyy])
        refine qac 9 rfl rfl (by kernel_rfl) (by kernel_rfl) (by kernel_rfl) (fun _ _ _ h => h) rfl (fun V hV => qbk rfl rfl (HSX.out.below (E.out.below hV).bl)) hS ?_; (try simp only [Act.put, lyy])
        refine qap 6 (by kernel_rfl) rfl rfl rfl (qam enters_xReq rfl rfl rfl) ((xReq_any _ r1 X1 Q1.out.2.2.ok Q1.out.2.2.one (E.out.fro0 fun V h => h.2.2.1) (rqB_len Q1.out.2.2))) (fun v w h => hS.trans ((h.bl).mono hS.size)) (fun v20 a21 hR => ?_); (try simp only [Act.put, lyy])
        have hb9 := hR.bl
        have hs9 := hR.sl
        obtain ⟨xv20, cv20, rfl, -, -⟩ := id hs9
        replace hS := hS.trans (hb9.mono hS.size)
        replace E := Lib.hid (E.out.below hb9)
        have HSL := Lib.hid hs9
        clear hR hs9 hb9
        refine qaw (S' := fun _ V => Below a21.heap.size a21 V) (fun _ V h => hS.trans (h.mono hS.size)) _ _ _ _ ?_
        replace hS := Below.refl a21.heap.size a21
        refine qac 7 rfl rfl (by kernel_rfl) (by kernel_rfl) (by kernel_rfl) (fun _ _ _ h => h) rfl (fun V hV => qbk rfl rfl (HSL.out.below hV)) hS ?_; (try simp only [Act.put, lyy])
        refine qac 10 rfl rfl (by kernel_rfl) (by kernel_rfl) (by kernel_rfl) (fun _ _ _ h => h) rfl (fun V hV => qbs rfl rfl rfl Q1.out.2.1.symm) hS ?_; (try simp only [Act.put, lyy])
        refine qac 11 rfl rfl (by kernel_rfl) (by kernel_rfl) (by kernel_rfl) (fun _ _ _ h => h) rfl (fun V hV => qaq (b := false) (v := .bool true) rfl rfl rfl) hS ?_; (try simp only [Act.put, lyy])
        refine qac 12 rfl rfl (by kernel_rfl) (by kernel_rfl) (by kernel_rfl) (fun _ _ _ h => h) rfl (fun V hV => qaq (b := true) (v := .bool true) rfl rfl rfl) hS ?_; (try simp only [Act.put, lyy])
        refine qac 13 rfl rfl (by kernel_rfl) (by kernel_rfl) (by kernel_rfl) (fun _ _ _ h => h) rfl (fun V hV => qad (v := .bool true) rfl rfl) hS ?_; (try simp only [Act.put, lyy])
        refine qac 14 rfl rfl (by kernel_rfl) (by kernel_rfl) (by kernel_rfl) (fun _ _ _ h => h) rfl (fun V hV => qad (v := .int .u16 e2) rfl rfl) hS ?_; (try simp only [Act.put, lyy])
        refine qac 15 rfl rfl (by kernel_rfl) (by kernel_rfl) (by kernel_rfl) (fun _ _ _ h => h) rfl (fun V hV => qbi (c := false) rfl rfl rfl (by simp [z2])) hS ?_; (try simp only [Act.put, lyy])
        refine qac 16 rfl rfl (by kernel_rfl) (by kernel_rfl) (by kernel_rfl) (fun _ _ _ h => h) rfl (fun V hV => qad (v := .bool false) rfl rfl) hS ?_; (try simp only [Act.put, lyy])
        refine qac 17 rfl rfl (by kernel_rfl) (by kernel_rfl) (by kernel_rfl) (fun _ _ _ h => h) rfl (fun V hV => qa4 (vs := X2) rfl Try.underlying40 rfl (szR l2 (by kernel_rfl)) rfl ((E.out.below hV).get (i := 0) rfl).range) hS ?_; (try simp only [Act.put, lyy])
        refine qac 20 rfl rfl (by kernel_rfl) (by kernel_rfl) (by kernel_rfl) (fun _ _ _ h => h) rfl (fun V hV => qad (v := .slice ab nb cb) rfl rfl) hS ?_; (try simp only [Act.put, lyy])
        refine qac 21 rfl rfl (by kernel_rfl) (by kernel_rfl) (by kernel_rfl) (fun _ _ _ h => h) rfl (fun V hV => qbk rfl rfl (HB.out.below (E.out.below hV).bl)) hS ?_; (try simp only [Act.put, lyy])
        refine qap 18 (by kernel_rfl) rfl rfl rfl (qam enters_xLst rfl rfl rfl) ((xLst_any _ r2 X2 Q2.out.2.2.ok (E.out.fro0 fun V h => h.2.1) (by have h := Q2.out; rw [← h.2.1]; omega))) (fun v w h => hS.trans ((h.bl).mono hS.size)) (fun v22 a23 hR => ?_); (try simp only [Act.put, lyy])
        have hb9 := hR.bl
        have hs9 := hR.sl
        obtain ⟨xv22, cv22, rfl, -, -⟩ := id hs9
        replace hS := hS.trans (hb9.mono hS.size)
        replace E := Lib.hid (E.out.below hb9)
        have HSL := Lib.hid hs9
        clear hR hs9 hb9
        refine qaw (S' := fun _ V => Below a23.heap.size a23 V) (fun _ V h => hS.trans (h.mono hS.size)) _ _ _ _ ?_
        replace hS := Below.refl a23.heap.size a23
        refine qac 19 rfl rfl (by kernel_rfl) (by kernel_rfl) (by kernel_rfl) (fun _ _ _ h => h) rfl (fun V hV => qbk rfl rfl (HSL.out.below hV)) hS ?_; (try simp only [Act.put, lyy])
        refine qac 22 rfl rfl (by kernel_rfl) (by kernel_rfl) (by kernel_rfl) (fun _ _ _ h => h) rfl (fun V hV => qbs rfl rfl rfl Q2.out.2.1.symm) hS ?_; (try simp only [Act.put, lyy])
        refine qac 23 rfl rfl (by kernel_rfl) (by kernel_rfl) (by kernel_rfl) (fun _ _ _ h => h) rfl (fun V hV => qaq (b := false) (v := .bool true) rfl rfl rfl) hS ?_; (try simp only [Act.put, lyy])
        refine qac 24 rfl rfl (by kernel_rfl) (by kernel_rfl) (by kernel_rfl) (fun _ _ _ h => h) rfl (fun V hV => qaq (b := true) (v := .bool true) rfl rfl rfl) hS ?_; (try simp only [Act.put, lyy])
        refine qac 25 rfl rfl (by kernel_rfl) (by kernel_rfl) (by kernel_rfl) (fun _ _ _ h => h) rfl (fun V hV => qad (v := .bool true) rfl rfl) hS ?_; (try simp only [Act.put, lyy])
        refine qac 26 rfl rfl (by kernel_rfl) (by kernel_rfl) (by kernel_rfl) (fun _ _ _ h => h) rfl (fun V hV => qad (v := .int .u16 e3) rfl rfl) hS ?_; (try simp only [Act.put, lyy])
        refine qac 27 rfl rfl (by kernel_rfl) (by kernel_rfl) (by kernel_rfl) (fun _ _ _ h => h) rfl (fun V hV => qbi (c := true) rfl rfl rfl (by simp [z3])) hS ?_; (try simp only [Act.put, lyy])
        refine qac 28 rfl rfl (by kernel_rfl) (by kernel_rfl) (by kernel_rfl) (fun _ _ _ h => h) rfl (fun V hV => qad (v := .bool true) rfl rfl) hS ?_; (try simp only [Act.put, lyy])
        refine qai 29 rfl rfl (by kernel_rfl) (by kernel_rfl) (by kernel_rfl) (fun _ _ _ h => h) rfl hS ?_; (try simp only [Act.put, lyy])
        refine qai 30 rfl rfl (by kernel_rfl) (by kernel_rfl) (by kernel_rfl) (fun _ _ _ h => h) rfl hS ?_; (try simp only [Act.put, lyy])
        refine qai 31 rfl rfl (by kernel_rfl) (by kernel_rfl) (by kernel_rfl) (fun _ _ _ h => h) rfl hS ?_; (try simp only [Act.put, lyy])
        refine qai 32 rfl rfl (by kernel_rfl) (by kernel_rfl) (by kernel_rfl) (fun _ _ _ h => h) rfl hS ?_; (try simp only [Act.put, lyy])
        refine qai 33 rfl rfl (by kernel_rfl) (by kernel_rfl) (by kernel_rfl) (fun _ _ _ h => h) rfl hS ?_; (try simp only [Act.put, lyy])
        refine qai 34 rfl rfl (by kernel_rfl) (by kernel_rfl) (by kernel_rfl) (fun _ _ _ h => h) rfl hS ?_; (try simp only [Act.put, lyy])
        refine qac 35 rfl rfl (by kernel_rfl) (by kernel_rfl) (by kernel_rfl) (fun _ _ _ h => h) rfl (fun V hV => qaq (b := true) (v := .bool true) rfl rfl rfl) hS ?_; (try simp only [Act.put, lyy])
        refine qac 36 rfl rfl (by kernel_rfl) (by kernel_rfl) (by kernel_rfl) (fun _ _ _ h => h) rfl (fun V hV => qaq (b := true) (v := .bool true) rfl rfl rfl) hS ?_; (try simp only [Act.put, lyy])
        refine qac 37 rfl rfl (by kernel_rfl) (by kernel_rfl) (by kernel_rfl) (fun _ _ _ h => h) rfl (fun V hV => qak (v := .bool true) rfl rfl) hS ?_; (try simp only [Act.put, lyy])
        refine qa7 (by kernel_rfl) ?_ _; refine NoPanic.normal ?_
        go_wp2_with fail
        go_ret
        exact ⟨rfl, HWB.out.trans (E.out.bl.mono HWB.out.size)⟩
    · skip
      by_cases z3 : e3 = 0
      · have Q3 := Lib.hid (K3.out z3)
        go_upto_region 10 with fail
        refine wp_region_noPanic ?_; refine qa9 (S := fun _ V => Below a15.heap.size a15 V) (by kernel_rfl) ((Below.refl _ _).drew) (fun hS => ?_)
        replace E := Lib.hid (E.out.below hS)
        generalize a15.drew = a17 at *
        refine qaw (S' := fun _ V => Below a17.heap.size a17 V) (fun _ V h => hS.trans (h.mono hS.size)) _ _ _ _ ?_
        replace hS := Below.refl a17.heap.size a17
        refine qap 0 (by kernel_rfl) rfl rfl rfl (qcg qbz rfl rfl) ((qa6 (qby _))) (fun v w h => hS.trans ((h.2).mono hS.size)) (fun v18 a19 hR => ?_); (try simp only [Act.put, lyy])
        obtain ⟨rfl, hb9⟩ := hR
        replace hS := hS.trans (hb9.mono hS.size)
        replace E := Lib.hid (E.out.below hb9)
        clear hb9
        refine qaw (S' := fun _ V => Below a19.heap.size a19 V) (fun _ V h => hS.trans (h.mono hS.size)) _ _ _ _ ?_
        replace hS := Below.refl a19.heap.size a19
        refine qac 1 rfl rfl (by kernel_rfl) (by kernel_rfl) (by kernel_rfl) (fun _ _ _ h => h) rfl (fun V hV => qad (v := .bool true) rfl rfl) hS ?_; (try simp only [Act.put, lyy])
        refine qac 2 rfl rfl (by kernel_rfl) (by kernel_rfl) (by kernel_rfl) (fun _ _ _ h => h) rfl (fun V hV => qad (v := .int .u16 e1) rfl rfl) hS ?_; (try simp only [Act.put, lyy])
        refine qac 3 rfl rfl (by kernel_rfl) (by kernel_rfl) (by kernel_rfl) (fun _ _ _ h => h) rfl (fun V hV => qbi (c := false) rfl rfl rfl (by simp [z1])) hS ?_; (try simp only [Act.put, lyy])
        refine qac 4 rfl rfl (by kernel_rfl) (by kernel_rfl) (by kernel_rfl) (fun _ _ _ h => h) rfl (fun V hV => qad (v := .bool false) rfl rfl) hS ?_; (try simp only [Act.put, lyy])
        refine qac 5 rfl rfl (by kernel_rfl) (by kernel_rfl) (by kernel_rfl) (fun _ _ _ h => h) rfl (fun V hV => qa4 (vs := X1) rfl Try.underlying46 rfl (szR l1 (by kernel_rfl)) rfl ((E.out.below hV).get (i := 1) rfl).range) hS ?_; (try simp only [Act.put, lyy])
        refine qac 8 rfl rfl (by kernel_rfl) (by kernel_rfl) (by kernel_rfl) (fun _ _ _ h => h) rfl (fun V hV => qad (v := .slice (some ⟨g, 0, none⟩) n cap) rfl rfl) hS ?_; (try simp only [Act.put, lyy])
        refine qac 9 rfl rfl (by kernel_rfl) (by kernel_rfl) (by kernel_rfl) (fun _ _ _ h => h) rfl (fun V hV => qbk rfl rfl (HSX.out.below (E.out.below hV).bl)) hS ?_; (try simp only [Act.put, lyy])
        refine qap 6 (by kernel_rfl) rfl rfl rfl (qam enters_xReq rfl rfl rfl) ((xReq_any _ r1 X1 Q1.out.2.2.ok Q1.out.2.2.one (E.out.fro0 fun V h => h.2.2.1) (rqB_len Q1.out.2.2))) (fun v w h => hS.trans ((h.bl).mono hS.size)) (fun v20 a21 hR => ?_); (try simp only [Act.put, lyy])
        have hb9 := hR.bl
        have hs9 := hR.sl
        obtain ⟨xv20, cv20, rfl, -, -⟩ := id hs9
        replace hS := hS.trans (hb9.mono hS.size)
        replace E := Lib.hid (E.out.below hb9)
        have HSL := Lib.hid hs9
        clear hR hs9 hb9
        refine qaw (S' := fun _ V => Below a21.heap.size a21 V) (fun _ V h => hS.trans (h.mono hS.size)) _ _ _ _ ?_
        replace hS := Below.refl a21.heap.size a21
        refine qac 7 rfl rfl (by kernel_rfl) (by kernel_rfl) (by kernel_rfl) (fun _ _ _ h => h) rfl (fun V hV => qbk rfl rfl (HSL.out.below hV)) hS ?_; (try simp only [Act.put, lyy])
        refine qac 10 rfl rfl (by kernel_rfl) (by kernel_rfl) (by kernel_rfl) (fun _ _ _ h => h) rfl (fun V hV => qbs rfl rfl rfl Q1.out.2.1.symm) hS ?_; (try simp only [Act.put, lyy])
        refine qac 11 rfl rfl (by kernel_rfl) (by kernel_rfl) (by kernel_rfl) (fun _ _ _ h => h) rfl (fun V hV => qaq (b := false) (v := .bool true) rfl rfl rfl) hS ?_; (try simp only [Act.put, lyy])
        refine qac 12 rfl rfl (by kernel_rfl) (by kernel_rfl) (by kernel_rfl) (fun _ _ _ h => h) rfl (fun V hV => qaq (b := true) (v := .bool true) rfl rfl rfl) hS ?_; (try simp only [Act.put, lyy])
        refine qac 13 rfl rfl (by kernel_rfl) (by kernel_rfl) (by kernel_rfl) (fun _ _ _ h => h) rfl (fun V hV => qad (v := .bool true) rfl rfl) hS ?_; (try simp only [Act.put, lyy])
        refine qac 14 rfl rfl (by kernel_rfl) (by kernel_rfl) (by kernel_rfl) (fun _ _ _ h => h) rfl (fun V hV => qad (v := .int .u16 e2) rfl rfl) hS ?_; (try simp only [Act.put, lyy])
        refine qac 15 rfl rfl (by kernel_rfl) (by kernel_rfl) (by kernel_rfl) (fun _ _ _ h => h) rfl (fun V hV => qbi (c := true) rfl rfl rfl (by simp [z2])) hS ?_; (try simp only [Act.put, lyy])
        refine qac 16 rfl rfl (by kernel_rfl) (by kernel_rfl) (by kernel_rfl) (fun _ _ _ h => h) rfl (fun V hV => qad (v := .bool true) rfl rfl) hS ?_; (try simp only [Act.put, lyy])
        refine qai 17 rfl rfl (by kernel_rfl) (by kernel_rfl) (by kernel_rfl) (fun _ _ _ h => h) rfl hS ?_; (try simp only [Act.put, lyy])
        refine qai 18 rfl rfl (by kernel_rfl) (by kernel_rfl) (by kernel_rfl) (fun _ _ _ h => h) rfl hS ?_; (try simp only [Act.put, lyy])
        refine qai 19 rfl rfl (by kernel_rfl) (by kernel_rfl) (by kernel_rfl) (fun _ _ _ h => h) rfl hS ?_; (try simp only [Act.put, lyy])
        refine qai 20 rfl rfl (by kernel_rfl) (by kernel_rfl) (by kernel_rfl) (fun _ _ _ h => h) rfl hS ?_; (try simp only [Act.put, lyy])
        refine qai 21 rfl rfl (by kernel_rfl) (by kernel_rfl) (by kernel_rfl) (fun _ _ _ h => h) rfl hS ?_; (try simp only [Act.put, lyy])
        refine qai 22 rfl rfl (by kernel_rfl) (by kernel_rfl) (by kernel_rfl) (fun _ _ _ h => h) rfl hS ?_; (try simp only [Act.put, lyy])
        refine qac 23 rfl rfl (by kernel_rfl) (by kernel_rfl) (by kernel_rfl) (fun _ _ _ h => h) rfl (fun V hV => qaq (b := true) (v := .bool true) rfl rfl rfl) hS ?_; (try simp only [Act.put, lyy])
        refine qac 24 rfl rfl (by kernel_rfl) (by kernel_rfl) (by kernel_rfl) (fun _ _ _ h => h) rfl (fun V hV => qaq (b := true) (v := .bool true) rfl rfl rfl) hS ?_; (try simp only [Act.put, lyy])
        refine qac 25 rfl rfl (by kernel_rfl) (by kernel_rfl) (by kernel_rfl) (fun _ _ _ h => h) rfl (fun V hV => qad (v := .bool true) rfl rfl) hS ?_; (try simp only [Act.put, lyy])
        refine qac 26 rfl rfl (by kernel_rfl) (by kernel_rfl) (by kernel_rfl) (fun _ _ _ h => h) rfl (fun V hV => qad (v := .int .u16 e3) rfl rfl) hS ?_; (try simp only [Act.put, lyy])
        refine qac 27 rfl rfl (by kernel_rfl) (by kernel_rfl) (by kernel_rfl) (fun _ _ _ h => h) rfl (fun V hV => qbi (c := false) rfl rfl rfl (by simp [z3])) hS ?_; (try simp only [Act.put, lyy])
        refine qac 28 rfl rfl (by kernel_rfl) (by kernel_rfl) (by kernel_rfl) (fun _ _ _ h => h) rfl (fun V hV => qad (v := .bool false) rfl rfl) hS ?_; (try simp only [Act.put, lyy])
        refine qac 29 rfl rfl (by kernel_rfl) (by kernel_rfl) (by kernel_rfl) (fun _ _ _ h => h) rfl (fun V hV => qad (v := .slice a3 r3.length c3) rfl rfl) hS ?_; (try simp only [Act.put, lyy])
        refine qac 32 rfl rfl (by kernel_rfl) (by kernel_rfl) (by kernel_rfl) (fun _ _ _ h => h) rfl (fun V hV => qad (v := .slice ab nb cb) rfl rfl) hS ?_; (try simp only [Act.put, lyy])
        refine qac 33 rfl rfl (by kernel_rfl) (by kernel_rfl) (by kernel_rfl) (fun _ _ _ h => h) rfl (fun V hV => qbk rfl rfl (HB.out.below (E.out.below hV).bl)) hS ?_; (try simp only [Act.put, lyy])
        refine qap 30 (by kernel_rfl) rfl rfl rfl (qam enters_xUss rfl rfl rfl) ((xUss_any _ r3 a3 c3 (by have h := Q3.out.2.2.1; omega) (E.out.fro0 fun V h => h.1) (by have h := Q3.out; rw [← h.2.1]; omega))) (fun v w h => hS.trans ((h.bl).mono hS.size)) (fun v22 a23 hR => ?_); (try simp only [Act.put, lyy])
        have hb9 := hR.bl
        have hs9 := hR.sl
        obtain ⟨xv22, cv22, rfl, -, -⟩ := id hs9
        replace hS := hS.trans (hb9.mono hS.size)
        replace E := Lib.hid (E.out.below hb9)
        have HSL := Lib.hid hs9
        clear hR hs9 hb9
        refine qaw (S' := fun _ V => Below a23.heap.size a23 V) (fun _ V h => hS.trans (h.mono hS.size)) _ _ _ _ ?_
        replace hS := Below.refl a23.heap.size a23
        refine qac 31 rfl rfl (by kernel_rfl) (by kernel_rfl) (by kernel_rfl) (fun _ _ _ h => h) rfl (fun V hV => qbk rfl rfl (HSL.out.below hV)) hS ?_; (try simp only [Act.put, lyy])
        refine qac 34 rfl rfl (by kernel_rfl) (by kernel_rfl) (by kernel_rfl) (fun _ _ _ h => h) rfl (fun V hV => qbs rfl rfl rfl Q3.out.2.1.symm) hS ?_; (try simp only [Act.put, lyy])
        refine qac 35 rfl rfl (by kernel_rfl) (by kernel_rfl) (by kernel_rfl) (fun _ _ _ h => h) rfl (fun V hV => qaq (b := false) (v := .bool true) rfl rfl rfl) hS ?_; (try simp only [Act.put, lyy])
        refine qac 36 rfl rfl (by kernel_rfl) (by kernel_rfl) (by kernel_rfl) (fun _ _ _ h => h) rfl (fun V hV => qaq (b := true) (v := .bool true) rfl rfl rfl) hS ?_; (try simp only [Act.put, lyy])
        refine qac 37 rfl rfl (by kernel_rfl) (by kernel_rfl) (by kernel_rfl) (fun _ _ _ h => h) rfl (fun V hV => qak (v := .bool true) rfl rfl) hS ?_; (try simp only [Act.put, lyy])
        refine qa7 (by kernel_rfl) ?_ _; refine NoPanic.normal ?_
        go_wp2_with fail
        go_ret
        exact ⟨rfl, HWB.out.trans (E.out.bl.mono HWB.out.size)⟩
      · skip
        go_upto_region 10 with fail
        refine wp_region_noPanic ?_; refine qa9 (S := fun _ V => Below a15.heap.size a15 V) (by kernel_rfl) ((Below.refl _ _).drew) (fun hS => ?_)
        replace E := Lib.hid (E.out.below hS)
        generalize a15.drew = a17 at *
        refine qaw (S' := fun _ V => Below a17.heap.size a17 V) (fun _ V h => hS.trans (h.mono hS.size)) _ _ _ _ ?_
        replace hS := Below.refl a17.heap.size a17
        refine qap 0 (by kernel_rfl) rfl rfl rfl (qcg qbz rfl rfl) ((qa6 (qby _))) (fun v w h => hS.trans ((h.2).mono hS.size)) (fun v18 a19 hR => ?_); (try simp only [Act.put, lyy])
        obtain ⟨rfl, hb9⟩ := hR
        replace hS := hS.trans (hb9.mono hS.size)
        replace E := Lib.hid (E.out.below hb9)
        clear hb9
        refine qaw (S' := fun _ V => Below a19.heap.size a19 V) (fun _ V h => hS.trans (h.mono hS.size)) _ _ _ _ ?_
        replace hS := Below.refl a19.heap.size a19
        refine qac 1 rfl rfl (by kernel_rfl) (by kernel_rfl) (by kernel_rfl) (fun _ _ _ h => h) rfl (fun V hV => qad (v := .bool true) rfl rfl) hS ?_; (try simp only [Act.put, lyy])
        refine qac 2 rfl rfl (by kernel_rfl) (by kernel_rfl) (by kernel_rfl) (fun _ _ _ h => h) rfl (fun V hV => qad (v := .int .u16 e1) rfl rfl) hS ?_; (try simp only [Act.put, lyy])
        refine qac 3 rfl rfl (by kernel_rfl) (by kernel_rfl) (by kernel_rfl) (fun _ _ _ h => h) rfl (fun V hV => qbi (c := false) rfl rfl rfl (by simp [z1])) hS ?_; (try simp only [Act.put, lyy])
        refine qac 4 rfl rfl (by kernel_rfl) (by kernel_rfl) (by kernel_rfl) (fun _ _ _ h => h) rfl (fun V hV => qad (v := .bool false) rfl rfl) hS ?_; (try simp only [Act.put, lyy])
        refine qac 5 rfl rfl (by kernel_rfl) (by kernel_rfl) (by kernel_rfl) (fun _ _ _ h => h) rfl (fun V hV => qa4 (vs := X1) rfl Try.underlying46 rfl (szR l1 (by kernel_rfl)) rfl ((E.out.below hV).get (i := 1) rfl).range) hS ?_; (try simp only [Act.put, lyy])
        refine qac 8 rfl rfl (by kernel_rfl) (by kernel_rfl) (by kernel_rfl) (fun _ _ _ h => h) rfl (fun V hV => qad (v := .slice (some ⟨g, 0, none⟩) n cap) rfl rfl) hS ?_; (try simp only [Act.put, lyy])
        refine qac 9 rfl rfl (by kernel_rfl) (by kernel_rfl) (by kernel_rfl) (fun _ _ _ h => h) rfl (fun V hV => qbk rfl rfl (HSX.out.below (E.out.below hV).bl)) hS ?_; (try simp only [Act.put, lyy])
        refine qap 6 (by kernel_rfl) rfl rfl rfl (qam enters_xReq rfl rfl rfl) ((xReq_any _ r1 X1 Q1.out.2.2.ok Q1.out.2.2.one (E.out.fro0 fun V h => h.2.2.1) (rqB_len Q1.out.2.2))) (fun v w h => hS.trans ((h.bl).mono hS.size)) (fun v20 a21 hR => ?_); (try simp only [Act.put, lyy])
        have hb9 := hR.bl
        have hs9 := hR.sl
        obtain ⟨xv20, cv20, rfl, -, -⟩ := id hs9
        replace hS := hS.trans (hb9.mono hS.size)
        replace E := Lib.hid (E.out.below hb9)
        have HSL := Lib.hid hs9
        clear hR hs9 hb9
        refine qaw (S' := fun _ V => Below a21.heap.size a21 V) (fun _ V h => hS.trans (h.mono hS.size)) _ _ _ _ ?_
        replace hS := Below.refl a21.heap.size a21
        refine qac 7 rfl rfl (by kernel_rfl) (by kernel_rfl) (by kernel_rfl) (fun _ _ _ h => h) rfl (fun V hV => qbk rfl rfl (HSL.out.below hV)) hS ?_; (try simp only [Act.put, lyy])
        refine qac 10 rfl rfl (by kernel_rfl) (by kernel_rfl) (by kernel_rfl) (fun _ _ _ h => h) rfl (fun V hV => qbs rfl rfl rfl Q1.out.2.1.symm) hS ?_; (try simp only [Act.put, lyy])
        refine qac 11 rfl rfl (by kernel_rfl) (by kernel_rfl) (by kernel_rfl) (fun _ _ _ h => h) rfl (fun V hV => qaq (b := false) (v := .bool true) rfl rfl rfl) hS ?_; (try simp only [Act.put, lyy])
        refine qac 12 rfl rfl (by kernel_rfl) (by kernel_rfl) (by kernel_rfl) (fun _ _ _ h => h) rfl (fun V hV => qaq (b := true) (v := .bool true) rfl rfl rfl) hS ?_; (try simp only [Act.put, lyy])
        refine qac 13 rfl rfl (by kernel_rfl) (by kernel_rfl) (by kernel_rfl) (fun _ _ _ h => h) rfl (fun V hV => qad (v := .bool true) rfl rfl) hS ?_; (try simp only [Act.put, lyy])
        refine qac 14 rfl rfl (by kernel_rfl) (by kernel_rfl) (by kernel_rfl) (fun _ _ _ h => h) rfl (fun V hV => qad (v := .int .u16 e2) rfl rfl) hS ?_; (try simp only [Act.put, lyy])
        refine qac 15 rfl rfl (by kernel_rfl) (by kernel_rfl) (by kernel_rfl) (fun _ _ _ h => h) rfl (fun V hV => qbi (c := true) rfl rfl rfl (by simp [z2])) hS ?_; (try simp only [Act.put, lyy])
        refine qac 16 rfl rfl (by kernel_rfl) (by kernel_rfl) (by kernel_rfl) (fun _ _ _ h => h) rfl (fun V hV => qad (v := .bool true) rfl rfl) hS ?_; (try simp only [Act.put, lyy])
        refine qai 17 rfl rfl (by kernel_rfl) (by kernel_rfl) (by kernel_rfl) (fun _ _ _ h => h) rfl hS ?_; (try simp only [Act.put, lyy])
        refine qai 18 rfl rfl (by kernel_rfl) (by kernel_rfl) (by kernel_rfl) (fun _ _ _ h => h) rfl hS ?_; (try simp only [Act.put, lyy])
        refine qai 19 rfl rfl (by kernel_rfl) (by kernel_rfl) (by kernel_rfl) (fun _ _ _ h => h) rfl hS ?_; (try simp only [Act.put, lyy])
        refine qai 20 rfl rfl (by kernel_rfl) (by kernel_rfl) (by kernel_rfl) (fun _ _ _ h => h) rfl hS ?_; (try simp only [Act.put, lyy])
        refine qai 21 rfl rfl (by kernel_rfl) (by kernel_rfl) (by kernel_rfl) (fun _ _ _ h => h) rfl hS ?_; (try simp only [Act.put, lyy])
        refine qai 22 rfl rfl (by kernel_rfl) (by kernel_rfl) (by kernel_rfl) (fun _ _ _ h => h) rfl hS ?_; (try simp only [Act.put, lyy])
        refine qac 23 rfl rfl (by kernel_rfl) (by kernel_rfl) (by kernel_rfl) (fun _ _ _ h => h) rfl (fun V hV => qaq (b := true) (v := .bool true) rfl rfl rfl) hS ?_; (try simp only [Act.put, lyy])
        refine qac 24 rfl rfl (by kernel_rfl) (by kernel_rfl) (by kernel_rfl) (fun _ _ _ h => h) rfl (fun V hV => qaq (b := true) (v := .bool true) rfl rfl rfl) hS ?_; (try simp only [Act.put, lyy])
        refine qac 25 rfl rfl (by kernel_rfl) (by kernel_rfl) (by kernel_rfl) (fun _ _ _ h => h) rfl (fun V hV => qad (v := .bool true) rfl rfl) hS ?_; (try simp only [Act.put, lyy])
        refine qac 26 rfl rfl (by kernel_rfl) (by kernel_rfl) (by kernel_rfl) (fun _ _ _ h => h) rfl (fun V hV => qad (v := .int .u16 e3) rfl rfl) hS ?_; (try simp only [Act.put, lyy])
        refine qac 27 rfl rfl (by kernel_rfl) (by kernel_rfl) (by kernel_rfl) (fun _ _ _ h => h) rfl (fun V hV => qbi (c := true) rfl rfl rfl (by simp [z3])) hS ?_; (try simp only [Act.put, lyy])
        refine qac 28 rfl rfl (by kernel_rfl) (by kernel_rfl) (by kernel_rfl) (fun _ _ _ h => h) rfl (fun V hV => qad (v := .bool true) rfl rfl) hS ?_; (try simp only [Act.put, lyy])
        refine qai 29 rfl rfl (by kernel_rfl) (by kernel_rfl) (by kernel_rfl) (fun _ _ _ h => h) rfl hS ?_; (try simp only [Act.put, lyy])
        refine qai 30 rfl rfl (by kernel_rfl) (by kernel_rfl) (by kernel_rfl) (fun _ _ _ h => h) rfl hS ?_; (try simp only [Act.put, lyy])
        refine qai 31 rfl rfl (by kernel_rfl) (by kernel_rfl) (by kernel_rfl) (fun _ _ _ h => h) rfl hS ?_; (try simp only [Act.put, lyy])
        refine qai 32 rfl rfl (by kernel_rfl) (by kernel_rfl) (by kernel_rfl) (fun _ _ _ h => h) rfl hS ?_; (try simp only [Act.put, lyy])
        refine qai 33 rfl rfl (by kernel_rfl) (by kernel_rfl) (by kernel_rfl) (fun _ _ _ h => h) rfl hS ?_; (try simp only [Act.put, lyy])
        refine qai 34 rfl rfl (by kernel_rfl) (by kernel_rfl) (by kernel_rfl) (fun _ _ _ h => h) rfl hS ?_; (try simp only [Act.put, lyy])
        refine qac 35 rfl rfl (by kernel_rfl) (by kernel_rfl) (by kernel_rfl) (fun _ _ _ h => h) rfl (fun V hV => qaq (b := true) (v := .bool true) rfl rfl rfl) hS ?_; (try simp only [Act.put, lyy])
        refine qac 36 rfl rfl (by kernel_rfl) (by kernel_rfl) (by kernel_rfl) (fun _ _ _ h => h) rfl (fun V hV => qaq (b := true) (v := .bool true) rfl rfl rfl) hS ?_; (try simp only [Act.put, lyy])
        refine qac 37 rfl rfl (by kernel_rfl) (by kernel_rfl) (by kernel_rfl) (fun _ _ _ h => h) rfl (fun V hV => qak (v := .bool true) rfl rfl) hS ?_; (try simp only [Act.put, lyy])
        refine qa7 (by kernel_rfl) ?_ _; refine NoPanic.normal ?_
        go_wp2_with fail
        go_ret
        exact ⟨rfl, HWB.out.trans (E.out.bl.mono HWB.out.size)⟩
  · skip
    by_cases z2 : e2 = 0
    · have Q2 := Lib.hid (K2.out z2)
      by_cases z3 : e3 = 0
      · have Q3 := Lib.hid (K3.out z3)
        go_upto_region 10 with fail
        refine wp_region_noPanic ?_; refine qa9 (S := fun _ V => Below a15.heap.size a15 V) (by kernel_rfl) ((Below.refl _ _).drew) (fun hS => ?_)
        replace E := Lib.hid (E.out.below hS)
        generalize a15.drew = a17 at *
        refine qaw (S' := fun _ V => Below a17.heap.size a17 V) (fun _ V h => hS.trans (h.mono hS.size)) _ _ _ _ ?_
        replace hS := Below.refl a17.heap.size a17
        refine qap 0 (by kernel_rfl) rfl rfl rfl (qcg qbz rfl rfl) ((qa6 (qby _))) (fun v w h => hS.trans ((h.2).mono hS.size)) (fun v18 a19 hR => ?_); (try simp only [Act.put, lyy])
        obtain ⟨rfl, hb9⟩ := hR
        replace hS := hS.trans (hb9.mono hS.size)
        replace E := Lib.hid (E.out.below hb9)
        clear hb9
        refine qaw (S' := fun _ V => Below a19.heap.size a19 V) (fun _ V h => hS.trans (h.mono hS.size)) _ _ _ _ ?_
        replace hS := Below.refl a19.heap.size a19
        refine qac 1 rfl rfl (by kernel_rfl) (by kernel_rfl) (by kernel_rfl) (fun _ _ _ h => h) rfl (fun V hV => qad (v := .bool true) rfl rfl) hS ?_; (try simp only [Act.put, lyy])
        refine qac 2 rfl rfl (by kernel_rfl) (by kernel_rfl) (by kernel_rfl) (fun _ _ _ h => h) rfl (fun V hV => qad (v := .int .u16 e1) rfl rfl) hS ?_; (try simp only [Act.put, lyy])
        refine qac 3 rfl rfl (by kernel_rfl) (by kernel_rfl) (by kernel_rfl) (fun _ _ _ h => h) rfl (fun V hV => qbi (c := true) rfl rfl rfl (by simp [z1])) hS ?_; (try simp only [Act.put, lyy])
        refine qac 4 rfl rfl (by kernel_rfl) (by kernel_rfl) (by kernel_rfl) (fun _ _ _ h => h) rfl (fun V hV => qad (v := .bool true) rfl rfl) hS ?_; (try simp only [Act.put, lyy])
        refine qai 5 rfl rfl (by kernel_rfl) (by kernel_rfl) (by kernel_rfl) (fun _ _ _ h => h) rfl hS ?_; (try simp only [Act.put, lyy])
        refine qai 6 rfl rfl (by kernel_rfl) (by kernel_rfl) (by kernel_rfl) (fun _ _ _ h => h) rfl hS ?_; (try simp only [Act.put, lyy])
        refine qai 7 rfl rfl (by kernel_rfl) (by kernel_rfl) (by kernel_rfl) (fun _ _ _ h => h) rfl hS ?_; (try simp only [Act.put, lyy])
        refine qai 8 rfl rfl (by kernel_rfl) (by kernel_rfl) (by kernel_rfl) (fun _ _ _ h => h) rfl hS ?_; (try simp only [Act.put, lyy])
        refine qai 9 rfl rfl (by kernel_rfl) (by kernel_rfl) (by kernel_rfl) (fun _ _ _ h => h) rfl hS ?_; (try simp only [Act.put, lyy])
        refine qai 10 rfl rfl (by kernel_rfl) (by kernel_rfl) (by kernel_rfl) (fun _ _ _ h => h) rfl hS ?_; (try simp only [Act.put, lyy])
        refine qac 11 rfl rfl (by kernel_rfl) (by kernel_rfl) (by kernel_rfl) (fun _ _ _ h => h) rfl (fun V hV => qaq (b := true) (v := .bool true) rfl rfl rfl) hS ?_; (try simp only [Act.put, lyy])
        refine qac 12 rfl rfl (by kernel_rfl) (by kernel_rfl) (by kernel_rfl) (fun _ _ _ h => h) rfl (fun V hV => qaq (b := true) (v := .bool true) rfl rfl rfl) hS ?_; (try simp only [Act.put, lyy])
        refine qac 13 rfl rfl (by kernel_rfl) (by kernel_rfl) (by kernel_rfl) (fun _ _ _ h => h) rfl (fun V hV => qad (v := .bool true) rfl rfl) hS ?_; (try simp only [Act.put, lyy])
        refine qac 14 rfl rfl (by kernel_rfl) (by kernel_rfl) (by kernel_rfl) (fun _ _ _ h => h) rfl (fun V hV => qad (v := .int .u16 e2) rfl rfl) hS ?_; (try simp only [Act.put, lyy])
        refine qac 15 rfl rfl (by kernel_rfl) (by kernel_rfl) (by kernel_rfl) (fun _ _ _ h => h) rfl (fun V hV => qbi (c := false) rfl rfl rfl (by simp [z2])) hS ?_; (try simp only [Act.put, lyy])
        refine qac 16 rfl rfl (by kernel_rfl) (by kernel_rfl) (by kernel_rfl) (fun _ _ _ h => h) rfl (fun V hV => qad (v := .bool false) rfl rfl) hS ?_; (try simp only [Act.put, lyy])
        refine qac 17 rfl rfl (by kernel_rfl) (by kernel_rfl) (by kernel_rfl) (fun _ _ _ h => h) rfl (fun V hV => qa4 (vs := X2) rfl Try.underlying40 rfl (szR l2 (by kernel_rfl)) rfl ((E.out.below hV).get (i := 0) rfl).range) hS ?_; (try simp only [Act.put, lyy])
        refine qac 20 rfl rfl (by kernel_rfl) (by kernel_rfl) (by kernel_rfl) (fun _ _ _ h => h) rfl (fun V hV => qad (v := .slice ab nb cb) rfl rfl) hS ?_; (try simp only [Act.put, lyy])
        refine qac 21 rfl rfl (by kernel_rfl) (by kernel_rfl) (by kernel_rfl) (fun _ _ _ h => h) rfl (fun V hV => qbk rfl rfl (HB.out.below (E.out.below hV).bl)) hS ?_; (try simp only [Act.put, lyy])
        refine qap 18 (by kernel_rfl) rfl rfl rfl (qam enters_xLst rfl rfl rfl) ((xLst_any _ r2 X2 Q2.out.2.2.ok (E.out.fro0 fun V h => h.2.1) (by have h := Q2.out; rw [← h.2.1]; omega))) (fun v w h => hS.trans ((h.bl).mono hS.size)) (fun v20 a21 hR => ?_); (try simp only [Act.put, lyy])
        have hb9 := hR.bl
        have hs9 := hR.sl
        obtain ⟨xv20, cv20, rfl, -, -⟩ := id hs9
        replace hS := hS.trans (hb9.mono hS.size)
        replace E := Lib.hid (E.out.below hb9)
        have HSL := Lib.hid hs9
        clear hR hs9 hb9
        refine qaw (S' := fun _ V => Below a21.heap.size a21 V) (fun _ V h => hS.trans (h.mono hS.size)) _ _ _ _ ?_
        replace hS := Below.refl a21.heap.size a21
        refine qac 19 rfl rfl (by kernel_rfl) (by kernel_rfl) (by kernel_rfl) (fun _ _ _ h => h) rfl (fun V hV => qbk rfl rfl (HSL.out.below hV)) hS ?_; (try simp only [Act.put, lyy])
        refine qac 22 rfl rfl (by kernel_rfl) (by kernel_rfl) (by kernel_rfl) (fun _ _ _ h => h) rfl (fun V hV => qbs rfl rfl rfl Q2.out.2.1.symm) hS ?_; (try simp only [Act.put, lyy])
        refine qac 23 rfl rfl (by kernel_rfl) (by kernel_rfl) (by kernel_rfl) (fun _ _ _ h => h) rfl (fun V hV => qaq (b := false) (v := .bool true) rfl rfl rfl) hS ?_; (try simp only [Act.put, lyy])
        refine qac 24 rfl rfl (by kernel_rfl) (by kernel_rfl) (by kernel_rfl) (fun _ _ _ h => h) rfl (fun V hV => qaq (b := true) (v := .bool true) rfl rfl rfl) hS ?_; (try simp only [Act.put, lyy])
        refine qac 25 rfl rfl (by kernel_rfl) (by kernel_rfl) (by kernel_rfl) (fun _ _ _ h => h) rfl (fun V hV => qad (v := .bool true) rfl rfl) hS ?_; (try simp only [Act.put, lyy])
        refine qac 26 rfl rfl (by kernel_rfl) (by kernel_rfl) (by kernel_rfl) (fun _ _ _ h => h) rfl (fun V hV => qad (v := .int .u16 e3) rfl rfl) hS ?_; (try simp only [Act.put, lyy])
        refine qac 27 rfl rfl (by kernel_rfl) (by kernel_rfl) (by kernel_rfl) (fun _ _ _ h => h) rfl (fun V hV => qbi (c := false) rfl rfl rfl (by simp [z3])) hS ?_; (try simp only [Act.put, lyy])
        refine qac 28 rfl rfl (by kernel_rfl) (by kernel_rfl) (by kernel_rfl) (fun _ _ _ h => h) rfl (fun V hV => qad (v := .bool false) rfl rfl) hS ?_; (try simp only [Act.put, lyy])
        refine qac 29 rfl rfl (by kernel_rfl) (by kernel_rfl) (by kernel_rfl) (fun _ _ _ h => h) rfl (fun V hV => qad (v := .slice a3 r3.length c3) rfl rfl) hS ?_; (try simp only [Act.put, lyy])
        refine qac 32 rfl rfl (by kernel_rfl) (by kernel_rfl) (by kernel_rfl) (fun _ _ _ h => h) rfl (fun V hV => qad (v := .slice ab nb cb) rfl rfl) hS ?_; (try simp only [Act.put, lyy])
        refine qac 33 rfl rfl (by kernel_rfl) (by kernel_rfl) (by kernel_rfl) (fun _ _ _ h => h) rfl (fun V hV => qbk rfl rfl (HB.out.below (E.out.below hV).bl)) hS ?_; (try simp only [Act.put, lyy])
        refine qap 30 (by kernel_rfl) rfl rfl rfl (qam enters_xUss rfl rfl rfl) ((xUss_any _ r3 a3 c3 (by have h := Q3.out.2.2.1; omega) (E.out.fro0 fun V h => h.1) (by have h := Q3.out; rw [← h.2.1]; omega))) (fun v w h => hS.trans ((h.bl).mono hS.size)) (fun v22 a23 hR => ?_); (try simp only [Act.put, lyy])
        have hb9 := hR.bl
        have hs9 := hR.sl
        obtain ⟨xv22, cv22, rfl, -, -⟩ := id hs9
        replace hS := hS.trans (hb9.mono hS.size)
        replace E := Lib.hid (E.out.below hb9)
        have HSL := Lib.hid hs9
        clear hR hs9 hb9
        refine qaw (S' := fun _ V => Below a23.heap.size a23 V) (fun _ V h => hS.trans (h.mono hS.size)) _ _ _ _ ?_
        replace hS := Below.refl a23.heap.size a23
        refine qac 31 rfl rfl (by kernel_rfl) (by kernel_rfl) (by kernel_rfl) (fun _ _ _ h => h) rfl (fun V hV => qbk rfl rfl (HSL.out.below hV)) hS ?_; (try simp only [Act.put, lyy])
        refine qac 34 rfl rfl (by kernel_rfl) (by kernel_rfl) (by kernel_rfl) (fun _ _ _ h => h) rfl (fun V hV => qbs rfl rfl rfl Q3.out.2.1.symm) hS ?_; (try simp only [Act.put, lyy])
        refine qac 35 rfl rfl (by kernel_rfl) (by kernel_rfl) (by kernel_rfl) (fun _ _ _ h => h) rfl (fun V hV => qaq (b := false) (v := .bool true) rfl rfl rfl) hS ?_; (try simp only [Act.put, lyy])
        refine qac 36 rfl rfl (by kernel_rfl) (by kernel_rfl) (by kernel_rfl) (fun _ _ _ h => h) rfl (fun V hV => qaq (b := true) (v := .bool true) rfl rfl rfl) hS ?_; (try simp only [Act.put, lyy])
        refine qac 37 rfl rfl (by kernel_rfl) (by kernel_rfl) (by kernel_rfl) (fun _ _ _ h => h) rfl (fun V hV => qak (v := .bool true) rfl rfl) hS ?_; (try simp only [Act.put, lyy])
        refine qa7 (by kernel_rfl) ?_ _; refine NoPanic.normal ?_
        go_wp2_with fail
        go_ret
        exact ⟨rfl, HWB.out.trans (E.out.bl.mono HWB.out.size)⟩
      · skip
        go_upto_region 10 with fail
        refine wp_region_noPanic ?_; refine qa9 (S := fun _ V => Below a15.heap.size a15 V) (by kernel_rfl) ((Below.refl _ _).drew) (fun hS => ?_)
        replace E := Lib.hid (E.out.below hS)
        generalize a15.drew = a17 at *
        refine qaw (S' := fun _ V => Below a17.heap.size a17 V) (fun _ V h => hS.trans (h.mono hS.size)) _ _ _ _ ?_
        replace hS := Below.refl a17.heap.size a17
        refine qap 0 (by kernel_rfl) rfl rfl rfl (qcg qbz rfl rfl) ((qa6 (qby _))) (fun v w h => hS.trans ((h.2).mono hS.size)) (fun v18 a19 hR => ?_); (try simp only [Act.put, lyy])
        obtain ⟨rfl, hb9⟩ := hR
        replace hS := hS.trans (hb9.mono hS.size)
        replace E := Lib.hid (E.out.below hb9)
        clear hb9
        refine qaw (S' := fun _ V => Below a19.heap.size a19 V) (fun _ V h => hS.trans (h.mono hS.size)) _ _ _ _ ?_
        replace hS := Below.refl a19.heap.size a19
        refine qac 1 rfl rfl (by kernel_rfl) (by kernel_rfl) (by kernel_rfl) (fun _ _ _ h => h) rfl (fun V hV => qad (v := .bool true) rfl rfl) hS ?_; (try simp only [Act.put, lyy])
        refine qac 2 rfl rfl (by kernel_rfl) (by kernel_rfl) (by kernel_rfl) (fun _ _ _ h => h) rfl (fun V hV => qad (v := .int .u16 e1) rfl rfl) hS ?_; (try simp only [Act.put, lyy])
        refine qac 3 rfl rfl (by kernel_rfl) (by kernel_rfl) (by kernel_rfl) (fun _ _ _ h => h) rfl (fun V hV => qbi (c := true) rfl rfl rfl (by simp [z1])) hS ?_; (try simp only [Act.put, lyy])
        refine qac 4 rfl rfl (by kernel_rfl) (by kernel_rfl) (by kernel_rfl) (fun _ _ _ h => h) rfl (fun V hV => qad (v := .bool true) rfl rfl) hS ?_; (try simp only [Act.put, lyy])
        refine qai 5 rfl rfl (by kernel_rfl) (by kernel_rfl) (by kernel_rfl) (fun _ _ _ h => h) rfl hS ?_; (try simp only [Act.put, lyy])
        refine qai 6 rfl rfl (by kernel_rfl) (by kernel_rfl) (by kernel_rfl) (fun _ _ _ h => h) rfl hS ?_; (try simp only [Act.put, lyy])
        refine qai 7 rfl rfl (by kernel_rfl) (by kernel_rfl) (by kernel_rfl) (fun _ _ _ h => h) rfl hS ?_; (try simp only [Act.put, lyy])
        refine qai 8 rfl rfl (by kernel_rfl) (by kernel_rfl) (by kernel_rfl) (fun _ _ _ h => h) rfl hS ?_; (try simp only [Act.put, lyy])
        refine qai 9 rfl rfl (by kernel_rfl) (by kernel_rfl) (by kernel_rfl) (fun _ _ _ h => h) rfl hS ?_; (try simp only [Act.put, lyy])
        refine qai 10 rfl rfl (by kernel_rfl) (by kernel_rfl) (by kernel_rfl) (fun _ _ _ h => h) rfl hS ?_; (try simp only [Act.put, lyy])
        refine qac 11 rfl rfl (by kernel_rfl) (by kernel_rfl) (by kernel_rfl) (fun _ _ _ h => h) rfl (fun V hV => qaq (b := true) (v := .bool true) rfl rfl rfl) hS ?_; (try simp only [Act.put, lyy])
        refine qac 12 rfl rfl (by kernel_rfl) (by kernel_rfl) (by kernel_rfl) (fun _ _ _ h => h) rfl (fun V hV => qaq (b := true) (v := .bool true) rfl rfl rfl) hS ?_; (try simp only [Act.put, lyy])
        refine qac 13 rfl rfl (by kernel_rfl) (by kernel_rfl) (by kernel_rfl) (fun _ _ _ h => h) rfl (fun V hV => qad (v := .bool true) rfl rfl) hS ?_; (try simp only [Act.put, lyy])
        refine qac 14 rfl rfl (by kernel_rfl) (by kernel_rfl) (by kernel_rfl) (fun _ _ _ h => h) rfl (fun V hV => qad (v := .int .u16 e2) rfl rfl) hS ?_; (try simp only [Act.put, lyy])
        refine qac 15 rfl rfl (by kernel_rfl) (by kernel_rfl) (by kernel_rfl) (fun _ _ _ h => h) rfl (fun V hV => qbi (c := false) rfl rfl rfl (by simp [z2])) hS ?_; (try simp only [Act.put, lyy])
        refine qac 16 rfl rfl (by kernel_rfl) (by kernel_rfl) (by kernel_rfl) (fun _ _ _ h => h) rfl (fun V hV => qad (v := .bool false) rfl rfl) hS ?_; (try simp only [Act.put, lyy])
        refine qac 17 rfl rfl (by kernel_rfl) (by kernel_rfl) (by kernel_rfl) (fun _ _ _ h => h) rfl (fun V hV => qa4 (vs := X2) rfl Try.underlying40 rfl (szR l2 (by kernel_rfl)) rfl ((E.out.below hV).get (i := 0) rfl).range) hS ?_; (try simp only [Act.put, lyy])
        refine qac 20 rfl rfl (by kernel_rfl) (by kernel_rfl) (by kernel_rfl) (fun _ _ _ h => h) rfl (fun V hV => qad (v := .slice ab nb cb) rfl rfl) hS ?_; (try simp only [Act.put, lyy])
        refine qac 21 rfl rfl (by kernel_rfl) (by kernel_rfl) (by kernel_rfl) (fun _ _ _ h => h) rfl (fun V hV => qbk rfl rfl (HB.out.below (E.out.below hV).bl)) hS ?_; (try simp only [Act.put, lyy])
        refine qap 18 (by kernel_rfl) rfl rfl rfl (qam enters_xLst rfl rfl rfl) ((xLst_any _ r2 X2 Q2.out.2.2.ok (E.out.fro0 fun V h => h.2.1) (by have h := Q2.out; rw [← h.2.1]; omega))) (fun v w h => hS.trans ((h.bl).mono hS.size)) (fun v20 a21 hR => ?_); (try simp only [Act.put, lyy])
        have hb9 := hR.bl
        have hs9 := hR.sl
        obtain ⟨xv20, cv20, rfl, -, -⟩ := id hs9
        replace hS := hS.trans (hb9.mono hS.size)
        replace E := Lib.hid (E.out.below hb9)
        have HSL := Lib.hid hs9
        clear hR hs9 hb9
        refine qaw (S' := fun _ V => Below a21.heap.size a21 V) (fun _ V h => hS.trans (h.mono hS.size)) _ _ _ _ ?_
        replace hS := Below.refl a21.heap.size a21
        refine qac 19 rfl rfl (by kernel_rfl) (by kernel_rfl) (by kernel_rfl) (fun _ _ _ h => h) rfl (fun V hV => qbk rfl rfl (HSL.out.below hV)) hS ?_; (try simp only [Act.put, lyy])
        refine qac 22 rfl rfl (by kernel_rfl) (by kernel_rfl) (by kernel_rfl) (fun _ _ _ h => h) rfl (fun V hV => qbs rfl rfl rfl Q2.out.2.1.symm) hS ?_; (try simp only [Act.put, lyy])
        refine qac 23 rfl rfl (by kernel_rfl) (by kernel_rfl) (by kernel_rfl) (fun _ _ _ h => h) rfl (fun V hV => qaq (b := false) (v := .bool true) rfl rfl rfl) hS ?_; (try simp only [Act.put, lyy])
        refine qac 24 rfl rfl (by kernel_rfl) (by kernel_rfl) (by kernel_rfl) (fun _ _ _ h => h) rfl (fun V hV => qaq (b := true) (v := .bool true) rfl rfl rfl) hS ?_; (try simp only [Act.put, lyy])
        refine qac 25 rfl rfl (by kernel_rfl) (by kernel_rfl) (by kernel_rfl) (fun _ _ _ h => h) rfl (fun V hV => qad (v := .bool true) rfl rfl) hS ?_; (try simp only [Act.put, lyy])
        refine qac 26 rfl rfl (by kernel_rfl) (by kernel_rfl) (by kernel_rfl) (fun _ _ _ h => h) rfl (fun V hV => qad (v := .int .u16 e3) rfl rfl) hS ?_; (try simp only [Act.put, lyy])
        refine qac 27 rfl rfl (by kernel_rfl) (by kernel_rfl) (by kernel_rfl) (fun _ _ _ h => h) rfl (fun V hV => qbi (c := true) rfl rfl rfl (by simp [z3])) hS ?_; (try simp only [Act.put, lyy])
        refine qac 28 rfl rfl (by kernel_rfl) (by kernel_rfl) (by kernel_rfl) (fun _ _ _ h => h) rfl (fun V hV => qad (v := .bool true) rfl rfl) hS ?_; (try simp only [Act.put, lyy])
        refine qai 29 rfl rfl (by kernel_rfl) (by kernel_rfl) (by kernel_rfl) (fun _ _ _ h => h) rfl hS ?_; (try simp only [Act.put, lyy])
        refine qai 30 rfl rfl (by kernel_rfl) (by kernel_rfl) (by kernel_rfl) (fun _ _ _ h => h) rfl hS ?_; (try simp only [Act.put, lyy])
        refine qai 31 rfl rfl (by kernel_rfl) (by kernel_rfl) (by kernel_rfl) (fun _ _ _ h => h) rfl hS ?_; (try simp only [Act.put, lyy])
        refine qai 32 rfl rfl (by kernel_rfl) (by kernel_rfl) (by kernel_rfl) (fun _ _ _ h => h) rfl hS ?_; (try simp only [Act.put, lyy])
        refine qai 33 rfl rfl (by kernel_rfl) (by kernel_rfl) (by kernel_rfl) (fun _ _ _ h => h) rfl hS ?_; (try simp only [Act.put, lyy])
        refine qai 34 rfl rfl (by kernel_rfl) (by kernel_rfl) (by kernel_rfl) (fun _ _ _ h => h) rfl hS ?_; (try simp only [Act.put, lyy])
        refine qac 35 rfl rfl (by kernel_rfl) (by kernel_rfl) (by kernel_rfl) (fun _ _ _ h => h) rfl (fun V hV => qaq (b := true) (v := .bool true) rfl rfl rfl) hS ?_; (try simp only [Act.put, lyy])
        refine qac 36 rfl rfl (by kernel_rfl) (by kernel_rfl) (by kernel_rfl) (fun _ _ _ h => h) rfl (fun V hV => qaq (b := true) (v := .bool true) rfl rfl rfl) hS ?_; (try simp only [Act.put, lyy])
        refine qac 37 rfl rfl (by kernel_rfl) (by kernel_rfl) (by kernel_rfl) (fun _ _ _ h => h) rfl (fun V hV => qak (v := .bool true) rfl rfl) hS ?_; (try simp only [Act.put, lyy])
        refine qa7 (by kernel_rfl) ?_ _; refine NoPanic.normal ?_
        go_wp2_with fail
        go_ret
        exact ⟨rfl, HWB.out.trans (E.out.bl.mono HWB.out.size)⟩
    · skip
      by_cases z3 : e3 = 0
      · have Q3 := Lib.hid (K3.out z3)
        go_upto_region 10 with fail
        refine wp_region_noPanic ?_; refine qa9 (S := fun _ V => Below a15.heap.size a15 V) (by kernel_rfl) ((Below.refl _ _).drew) (fun hS => ?_)
        replace E := Lib.hid (E.out.below hS)
        generalize a15.drew = a17 at *
        refine qaw (S' := fun _ V => Below a17.heap.size a17 V) (fun _ V h => hS.trans (h.mono hS.size)) _ _ _ _ ?_
        replace hS := Below.refl a17.heap.size a17
        refine qap 0 (by kernel_rfl) rfl rfl rfl (qcg qbz rfl rfl) ((qa6 (qby _))) (fun v w h => hS.trans ((h.2).mono hS.size)) (fun v18 a19 hR => ?_); (try simp only [Act.put, lyy])
        obtain ⟨rfl, hb9⟩ := hR
        replace hS := hS.trans (hb9.mono hS.size)
        replace E := Lib.hid (E.out.below hb9)
        clear hb9
        refine qaw (S' := fun _ V => Below a19.heap.size a19 V) (fun _ V h => hS.trans (h.mono hS.size)) _ _ _ _ ?_
        replace hS := Below.refl a19.heap.size a19
        refine qac 1 rfl rfl (by kernel_rfl) (by kernel_rfl) (by kernel_rfl) (fun _ _ _ h => h) rfl (fun V hV => qad (v := .bool true) rfl rfl) hS ?_; (try simp only [Act.put, lyy])
        refine qac 2 rfl rfl (by kernel_rfl) (by kernel_rfl) (by kernel_rfl) (fun _ _ _ h => h) rfl (fun V hV => qad (v := .int .u16 e1) rfl rfl) hS ?_; (try simp only [Act.put, lyy])
        refine qac 3 rfl rfl (by kernel_rfl) (by kernel_rfl) (by kernel_rfl) (fun _ _ _ h => h) rfl (fun V hV => qbi (c := true) rfl rfl rfl (by simp [z1])) hS ?_; (try simp only [Act.put, lyy])
        refine qac 4 rfl rfl (by kernel_rfl) (by kernel_rfl) (by kernel_rfl) (fun _ _ _ h => h) rfl (fun V hV => qad (v := .bool true) rfl rfl) hS ?_; (try simp only [Act.put, lyy])
        refine qai 5 rfl rfl (by kernel_rfl) (by kernel_rfl) (by kernel_rfl) (fun _ _ _ h => h) rfl hS ?_; (try simp only [Act.put, lyy])
        refine qai 6 rfl rfl (by kernel_rfl) (by kernel_rfl) (by kernel_rfl) (fun _ _ _ h => h) rfl hS ?_; (try simp only [Act.put, lyy])
        refine qai 7 rfl rfl (by kernel_rfl) (by kernel_rfl) (by kernel_rfl) (fun _ _ _ h => h) rfl hS ?_; (try simp only [Act.put, lyy])
        refine qai 8 rfl rfl (by kernel_rfl) (by kernel_rfl) (by kernel_rfl) (fun _ _ _ h => h) rfl hS ?_; (try simp only [Act.put, lyy])
        refine qai 9 rfl rfl (by kernel_rfl) (by kernel_rfl) (by kernel_rfl) (fun _ _ _ h => h) rfl hS ?_; (try simp only [Act.put, lyy])
        refine qai 10 rfl rfl (by kernel_rfl) (by kernel_rfl) (by kernel_rfl) (fun _ _ _ h => h) rfl hS ?_; (try simp only [Act.put, lyy])
        refine qac 11 rfl rfl (by kernel_rfl) (by kernel_rfl) (by kernel_rfl) (fun _ _ _ h => h) rfl (fun V hV => qaq (b := true) (v := .bool true) rfl rfl rfl) hS ?_; (try simp only [Act.put, lyy])
        refine qac 12 rfl rfl (by kernel_rfl) (by kernel_rfl) (by kernel_rfl) (fun _ _ _ h => h) rfl (fun V hV => qaq (b := true) (v := .bool true) rfl rfl rfl) hS ?_; (try simp only [Act.put, lyy])
        refine qac 13 rfl rfl (by kernel_rfl) (by kernel_rfl) (by kernel_rfl) (fun _ _ _ h => h) rfl (fun V hV => qad (v := .bool true) rfl rfl) hS ?_; (try simp only [Act.put, lyy])
        refine qac 14 rfl rfl (by kernel_rfl) (by kernel_rfl) (by kernel_rfl) (fun _ _ _ h => h) rfl (fun V hV => qad (v := .int .u16 e2) rfl rfl) hS ?_; (try simp only [Act.put, lyy])
        refine qac 15 rfl rfl (by kernel_rfl) (by kernel_rfl) (by kernel_rfl) (fun _ _ _ h => h) rfl (fun V hV => qbi (c := true) rfl rfl rfl (by simp [z2])) hS ?_; (try simp only [Act.put, lyy])
        refine qac 16 rfl rfl (by kernel_rfl) (by kernel_rfl) (by kernel_rfl) (fun _ _ _ h => h) rfl (fun V hV => qad (v := .bool true) rfl rfl) hS ?_; (try simp only [Act.put, lyy])
        refine qai 17 rfl rfl (by kernel_rfl) (by kernel_rfl) (by kernel_rfl) (fun _ _ _ h => h) rfl hS ?_; (try simp only [Act.put, lyy])
        refine qai 18 rfl rfl (by kernel_rfl) (by kernel_rfl) (by kernel_rfl) (fun _ _ _ h => h) rfl hS ?_; (try simp only [Act.put, lyy])
        refine qai 19 rfl rfl (by kernel_rfl) (by kernel_rfl) (by kernel_rfl) (fun _ _ _ h => h) rfl hS ?_; (try simp only [Act.put, lyy])
        refine qai 20 rfl rfl (by kernel_rfl) (by kernel_rfl) (by kernel_rfl) (fun _ _ _ h => h) rfl hS ?_; (try simp only [Act.put, lyy])
        refine qai 21 rfl rfl (by kernel_rfl) (by kernel_rfl) (by kernel_rfl) (fun _ _ _ h => h) rfl hS ?_; (try simp only [Act.put, lyy])
        refine qai 22 rfl rfl (by kernel_rfl) (by kernel_rfl) (by kernel_rfl) (fun _ _ _ h => h) rfl hS ?_; (try simp only [Act.put, lyy])
        refine qac 23 rfl rfl (by kernel_rfl) (by kernel_rfl) (by kernel_rfl) (fun _ _ _ h => h) rfl (fun V hV => qaq (b := true) (v := .bool true) rfl rfl rfl) hS ?_; (try simp only [Act.put, lyy])
        refine qac 24 rfl rfl (by kernel_rfl) (by kernel_rfl) (by kernel_rfl) (fun _ _ _ h => h) rfl (fun V hV => qaq (b := true) (v := .bool true) rfl rfl rfl) hS ?_; (try simp only [Act.put, lyy])
        refine qac 25 rfl rfl (by kernel_rfl) (by kernel_rfl) (by kernel_rfl) (fun _ _ _ h => h) rfl (fun V hV => qad (v := .bool true) rfl rfl) hS ?_; (try simp only [Act.put, lyy])
        refine qac 26 rfl rfl (by kernel_rfl) (by kernel_rfl) (by kernel_rfl) (fun _ _ _ h => h) rfl (fun V hV => qad (v := .int .u16 e3) rfl rfl) hS ?_; (try simp only [Act.put, lyy])
        refine qac 27 rfl rfl (by kernel_rfl) (by kernel_rfl) (by kernel_rfl) (fun _ _ _ h => h) rfl (fun V hV => qbi (c := false) rfl rfl rfl (by simp [z3])) hS ?_; (try simp only [Act.put, lyy])
        refine qac 28 rfl rfl (by kernel_rfl) (by kernel_rfl) (by kernel_rfl) (fun _ _ _ h => h) rfl (fun V hV => qad (v := .bool false) rfl rfl) hS ?_; (try simp only [Act.put, lyy])
        refine qac 29 rfl rfl (by kernel_rfl) (by kernel_rfl) (by kernel_rfl) (fun _ _ _ h => h) rfl (fun V hV => qad (v := .slice a3 r3.length c3) rfl rfl) hS ?_; (try simp only [Act.put, lyy])
        refine qac 32 rfl rfl (by kernel_rfl) (by kernel_rfl) (by kernel_rfl) (fun _ _ _ h => h) rfl (fun V hV => qad (v := .slice ab nb cb) rfl rfl) hS ?_; (try simp only [Act.put, lyy])
        refine qac 33 rfl rfl (by kernel_rfl) (by kernel_rfl) (by kernel_rfl) (fun _ _ _ h => h) rfl (fun V hV => qbk rfl rfl (HB.out.below (E.out.below hV).bl)) hS ?_; (try simp only [Act.put, lyy])
        refine qap 30 (by kernel_rfl) rfl rfl rfl (qam enters_xUss rfl rfl rfl) ((xUss_any _ r3 a3 c3 (by have h := Q3.out.2.2.1; omega) (E.out.fro0 fun V h => h.1) (by have h := Q3.out; rw [← h.2.1]; omega))) (fun v w h => hS.trans ((h.bl).mono hS.size)) (fun v20 a21 hR => ?_); (try simp only [Act.put, lyy])
        have hb9 := hR.bl
        have hs9 := hR.sl
        obtain ⟨xv20, cv20, rfl, -, -⟩ := id hs9
        replace hS := hS.trans (hb9.mono hS.size)
        replace E := Lib.hid (E.out.below hb9)
        have HSL := Lib.hid hs9
        clear hR hs9 hb9
        refine qaw (S' := fun _ V => Below a21.heap.size a21 V) (fun _ V h => hS.trans (h.mono hS.size)) _ _ _ _ ?_
        replace hS := Below.refl a21.heap.size a21
        refine qac 31 rfl rfl (by kernel_rfl) (by kernel_rfl) (by kernel_rfl) (fun _ _ _ h => h) rfl (fun V hV => qbk rfl rfl (HSL.out.below hV)) hS ?_; (try simp only [Act.put, lyy])
        refine qac 34 rfl rfl (by kernel_rfl) (by kernel_rfl) (by kernel_rfl) (fun _ _ _ h => h) rfl (fun V hV => qbs rfl rfl rfl Q3.out.2.1.symm) hS ?_; (try simp only [Act.put, lyy])
        refine qac 35 rfl rfl (by kernel_rfl) (by kernel_rfl) (by kernel_rfl) (fun _ _ _ h => h) rfl (fun V hV => qaq (b := false) (v := .bool true) rfl rfl rfl) hS ?_; (try simp only [Act.put, lyy])
        refine qac 36 rfl rfl (by kernel_rfl) (by kernel_rfl) (by kernel_rfl) (fun _ _ _ h => h) rfl (fun V hV => qaq (b := true) (v := .bool true) rfl rfl rfl) hS ?_; (try simp only [Act.put, lyy])
        refine qac 37 rfl rfl (by kernel_rfl) (by kernel_rfl) (by kernel_rfl) (fun _ _ _ h => h) rfl (fun V hV => qak (v := .bool true) rfl rfl) hS ?_; (try simp only [Act.put, lyy])
        refine qa7 (by kernel_rfl) ?_ _; refine NoPanic.normal ?_
        go_wp2_with fail
        go_ret
        exact ⟨rfl, HWB.out.trans (E.out.bl.mono HWB.out.size)⟩
      · skip
        go_upto_region 10 with fail
        refine wp_region_noPanic ?_; refine qa9 (S := fun _ V => Below a15.heap.size a15 V) (by kernel_rfl) ((Below.refl _ _).drew) (fun hS => ?_)
        replace E := Lib.hid (E.out.below hS)
        generalize a15.drew = a17 at *
        refine qaw (S' := fun _ V => Below a17.heap.size a17 V) (fun _ V h => hS.trans (h.mono hS.size)) _ _ _ _ ?_
        replace hS := Below.refl a17.heap.size a17
        refine qap 0 (by kernel_rfl) rfl rfl rfl (qcg qbz rfl rfl) ((qa6 (qby _))) (fun v w h => hS.trans ((h.2).mono hS.size)) (fun v18 a19 hR => ?_); (try simp only [Act.put, lyy])
        obtain ⟨rfl, hb9⟩ := hR
        replace hS := hS.trans (hb9.mono hS.size)
        replace E := Lib.hid (E.out.below hb9)
        clear hb9
        refine qaw (S' := fun _ V => Below a19.heap.size a19 V) (fun _ V h => hS.trans (h.mono hS.size)) _ _ _ _ ?_
        replace hS := Below.refl a19.heap.size a19
        refine qac 1 rfl rfl (by kernel_rfl) (by kernel_rfl) (by kernel_rfl) (fun _ _ _ h => h) rfl (fun V hV => qad (v := .bool true) rfl rfl) hS ?_; (try simp only [Act.put, lyy])
        refine qac 2 rfl rfl (by kernel_rfl) (by kernel_rfl) (by kernel_rfl) (fun _ _ _ h => h) rfl (fun V hV => qad (v := .int .u16 e1) rfl rfl) hS ?_; (try simp only [Act.put, lyy])
        refine qac 3 rfl rfl (by kernel_rfl) (by kernel_rfl) (by kernel_rfl) (fun _ _ _ h => h) rfl (fun V hV => qbi (c := true) rfl rfl rfl (by simp [z1])) hS ?_; (try simp only [Act.put, lyy])
        refine qac 4 rfl rfl (by kernel_rfl) (by kernel_rfl) (by kernel_rfl) (fun _ _ _ h => h) rfl (fun V hV => qad (v := .bool true) rfl rfl) hS ?_; (try simp only [Act.put, lyy])
        refine qai 5 rfl rfl (by kernel_rfl) (by kernel_rfl) (by kernel_rfl) (fun _ _ _ h => h) rfl hS ?_; (try simp only [Act.put, lyy])
        refine qai 6 rfl rfl (by kernel_rfl) (by kernel_rfl) (by kernel_rfl) (fun _ _ _ h => h) rfl hS ?_; (try simp only [Act.put, lyy])
        refine qai 7 rfl rfl (by kernel_rfl) (by kernel_rfl) (by kernel_rfl) (fun _ _ _ h => h) rfl hS ?_; (try simp only [Act.put, lyy])
        refine qai 8 rfl rfl (by kernel_rfl) (by kernel_rfl) (by kernel_rfl) (fun _ _ _ h => h) rfl hS ?_; (try simp only [Act.put, lyy])
        refine qai 9 rfl rfl (by kernel_rfl) (by kernel_rfl) (by kernel_rfl) (fun _ _ _ h => h) rfl hS ?_; (try simp only [Act.put, lyy])
        refine qai 10 rfl rfl (by kernel_rfl) (by kernel_rfl) (by kernel_rfl) (fun _ _ _ h => h) rfl hS ?_; (try simp only [Act.put, lyy])
        refine qac 11 rfl rfl (by kernel_rfl) (by kernel_rfl) (by kernel_rfl) (fun _ _ _ h => h) rfl (fun V hV => qaq (b := true) (v := .bool true) rfl rfl rfl) hS ?_; (try simp only [Act.put, lyy])
        refine qac 12 rfl rfl (by kernel_rfl) (by kernel_rfl) (by kernel_rfl) (fun _ _ _ h => h) rfl (fun V hV => qaq (b := true) (v := .bool true) rfl rfl rfl) hS ?_; (try simp only [Act.put, lyy])
        refine qac 13 rfl rfl (by kernel_rfl) (by kernel_rfl) (by kernel_rfl) (fun _ _ _ h => h) rfl (fun V hV => qad (v := .bool true) rfl rfl) hS ?_; (try simp only [Act.put, lyy])
        refine qac 14 rfl rfl (by kernel_rfl) (by kernel_rfl) (by kernel_rfl) (fun _ _ _ h => h) rfl (fun V hV => qad (v := .int .u16 e2) rfl rfl) hS ?_; (try simp only [Act.put, lyy])
        refine qac 15 rfl rfl (by kernel_rfl) (by kernel_rfl) (by kernel_rfl) (fun _ _ _ h => h) rfl (fun V hV => qbi (c := true) rfl rfl rfl (by simp [z2])) hS ?_; (try simp only [Act.put, lyy])
        refine qac 16 rfl rfl (by kernel_rfl) (by kernel_rfl) (by kernel_rfl) (fun _ _ _ h => h) rfl (fun V hV => qad (v := .bool true) rfl rfl) hS ?_; (try simp only [Act.put, lyy])
        refine qai 17 rfl rfl (by kernel_rfl) (by kernel_rfl) (by kernel_rfl) (fun _ _ _ h => h) rfl hS ?_; (try simp only [Act.put, lyy])
        refine qai 18 rfl rfl (by kernel_rfl) (by kernel_rfl) (by kernel_rfl) (fun _ _ _ h => h) rfl hS ?_; (try simp only [Act.put, lyy])
        refine qai 19 rfl rfl (by kernel_rfl) (by kernel_rfl) (by kernel_rfl) (fun _ _ _ h => h) rfl hS ?_; (try simp only [Act.put, lyy])
        refine qai 20 rfl rfl (by kernel_rfl) (by kernel_rfl) (by kernel_rfl) (fun _ _ _ h => h) rfl hS ?_; (try simp only [Act.put, lyy])
        refine qai 21 rfl rfl (by kernel_rfl) (by kernel_rfl) (by kernel_rfl) (fun _ _ _ h => h) rfl hS ?_; (try simp only [Act.put, lyy])
        refine qai 22 rfl rfl (by kernel_rfl) (by kernel_rfl) (by kernel_rfl) (fun _ _ _ h => h) rfl hS ?_; (try simp only [Act.put, lyy])
        refine qac 23 rfl rfl (by kernel_rfl) (by kernel_rfl) (by kernel_rfl) (fun _ _ _ h => h) rfl (fun V hV => qaq (b := true) (v := .bool true) rfl rfl rfl) hS ?_; (try simp only [Act.put, lyy])
        refine qac 24 rfl rfl (by kernel_rfl) (by kernel_rfl) (by kernel_rfl) (fun _ _ _ h => h) rfl (fun V hV => qaq (b := true) (v := .bool true) rfl rfl rfl) hS ?_; (try simp only [Act.put, lyy])
        refine qac 25 rfl rfl (by kernel_rfl) (by kernel_rfl) (by kernel_rfl) (fun _ _ _ h => h) rfl (fun V hV => qad (v := .bool true) rfl rfl) hS ?_; (try simp only [Act.put, lyy])
        refine qac 26 rfl rfl (by kernel_rfl) (by kernel_rfl) (by kernel_rfl) (fun _ _ _ h => h) rfl (fun V hV => qad (v := .int .u16 e3) rfl rfl) hS ?_; (try simp only [Act.put, lyy])
        refine qac 27 rfl rfl (by kernel_rfl) (by kernel_rfl) (by kernel_rfl) (fun _ _ _ h => h) rfl (fun V hV => qbi (c := true) rfl rfl rfl (by simp [z3])) hS ?_; (try simp only [Act.put, lyy])
        refine qac 28 rfl rfl (by kernel_rfl) (by kernel_rfl) (by kernel_rfl) (fun _ _ _ h => h) rfl (fun V hV => qad (v := .bool true) rfl rfl) hS ?_; (try simp only [Act.put, lyy])
        refine qai 29 rfl rfl (by kernel_rfl) (by kernel_rfl) (by kernel_rfl) (fun _ _ _ h => h) rfl hS ?_; (try simp only [Act.put, lyy])
        refine qai 30 rfl rfl (by kernel_rfl) (by kernel_rfl) (by kernel_rfl) (fun _ _ _ h => h) rfl hS ?_; (try simp only [Act.put, lyy])
        refine qai 31 rfl rfl (by kernel_rfl) (by kernel_rfl) (by kernel_rfl) (fun _ _ _ h => h) rfl hS ?_; (try simp only [Act.put, lyy])
        refine qai 32 rfl rfl (by kernel_rfl) (by kernel_rfl) (by kernel_rfl) (fun _ _ _ h => h) rfl hS ?_; (try simp only [Act.put, lyy])
        refine qai 33 rfl rfl (by kernel_rfl) (by kernel_rfl) (by kernel_rfl) (fun _ _ _ h => h) rfl hS ?_; (try simp only [Act.put, lyy])
        refine qai 34 rfl rfl (by kernel_rfl) (by kernel_rfl) (by kernel_rfl) (fun _ _ _ h => h) rfl hS ?_; (try simp only [Act.put, lyy])
        refine qac 35 rfl rfl (by kernel_rfl) (by kernel_rfl) (by kernel_rfl) (fun _ _ _ h => h) rfl (fun V hV => qaq (b := true) (v := .bool true) rfl rfl rfl) hS ?_; (try simp only [Act.put, lyy])
        refine qac 36 rfl rfl (by kernel_rfl) (by kernel_rfl) (by kernel_rfl) (fun _ _ _ h => h) rfl (fun V hV => qaq (b := true) (v := .bool true) rfl rfl rfl) hS ?_; (try simp only [Act.put, lyy])
        refine qac 37 rfl rfl (by kernel_rfl) (by kernel_rfl) (by kernel_rfl) (fun _ _ _ h => h) rfl (fun V hV => qak (v := .bool true) rfl rfl) hS ?_; (try simp only [Act.put, lyy])
        refine qa7 (by kernel_rfl) ?_ _; refine NoPanic.normal ?_
        go_wp2_with fail
        go_ret
        exact ⟨rfl, HWB.out.trans (E.out.bl.mono HWB.out.size)⟩
end Go.Proofs.Ytgioojahadlmhaa
