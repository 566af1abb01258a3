import Derived.Test.YtcgbgmbnagmohaaLy
import Derived.Test.YtcgbgmbnagmohaaPw1
namespace Go.Proofs.Ytcgbgmbnagmohaa
open Go.RowKit
set_option maxRecDepth 20000
attribute [local irreducible] wpList
theorem z8_len' (n : Nat) : (z8 n).length = n := by simp [z8]
def alF {α : Type} (enc : α → List (BitVec 8)) (ms : List α) (i : Nat) : List (BitVec 8) := viB (ms.length : Int) ++ (ms.take i).flatMap enc
def alB {α : Type} (enc : α → List (BitVec 8)) (ms : List α) : List (BitVec 8) := viB (ms.length : Int) ++ ms.flatMap enc
theorem alF_zero {α : Type} (enc : α → List (BitVec 8)) (ms : List α) : viB (ms.length : Int) = alF enc ms 0 := by simp [alF]
theorem alF_all {α : Type} (enc : α → List (BitVec 8)) (ms : List α) : alF enc ms ms.length = alB enc ms := by simp [alF, alB]
theorem alF_succ {α : Type} {enc : α → List (BitVec 8)} {ms : List α} {i : Nat} (h : i < ms.length) : alF enc ms (i + 1) = alF enc ms i ++ enc ms[i] := by
  unfold alF
  rw [List.take_succ_eq_append_getElem h, List.flatMap_append]
  simp
theorem alF_head {α : Type} (enc : α → List (BitVec 8)) (ms : List α) : (viB (ms.length : Int)).length ≤ (alB enc ms).length := by unfold alB; rw [List.length_append]; omega
theorem alF_le {α : Type} (enc : α → List (BitVec 8)) (ms : List α) {i : Nat} (h : i < ms.length) : (alF enc ms i).length + (enc ms[i]).length ≤ (alB enc ms).length := by
  have e : ms = ms.take i ++ ms[i] :: ms.drop (i + 1) := by simp
  have h2 : (ms.flatMap enc).length = ((ms.take i).flatMap enc).length + ((enc ms[i]).length + ((ms.drop (i + 1)).flatMap enc).length) := by
    conv => lhs; rw [e, List.flatMap_append, List.flatMap_cons, List.length_append, List.length_append]
  unfold alF alB
  rw [List.length_append, List.length_append, h2]
  omega
theorem at_last2 {α : Type} (y : α) (L : List α) (x : α) : (y :: L ++ [x])[L.length + 1]? = some x := by simp
theorem sl_arr {u : World} {g n : Nat} (K : List (BitVec 8)) (hK : K.length = n) (hn : 0 < n) (h : Arr g (K.map b8) u) : Sl (.slice (some ⟨g, 0, none⟩) n n) K u := by
  subst hK
  exact ⟨_, _, rfl, Nat.le_refl _, fun _ => ⟨g, 0, rfl, h.lt, h.range⟩⟩
section
variable {w u : World} {ops : Array Oper} {Q : Exit → Act → World → Prop} {o : Oper} {a : Act} {S : World → Prop} {L : List (Nat × List Value)} {v : Value} {l m : List (BitVec 8)} {F H : World → Prop}
theorem wpAnyD_growB {fuel : Nat} {listed : Array Bool} {s x : Operand} (i : Nat) {d : Tmp} (hr : Region.ready .any ops listed = [i]) (hoo : ops[i]? = some o) (hd : o.dst = some d) (hw : Region.wanted o (yielded ops a.tmps) = true) (hl : (listed.setIfInBounds i true).getD i false = true)
    (ho : o.op = .call { callee := .builtin .append, args := #[s, x], argTypes := #[22, 22] }) (hs : a.eval s = v) {vx : Value} (hx : a.eval x = vx) (hv : Sl vx m u) (hn : l.length + m.length ≤ 100000000000) (G : Gw w L 5 1 v l.length (l.map b8) F H u)
    (h : ∀ v' u', Gw w L 5 1 v' (l ++ m).length ((l ++ m).map b8) F H u' → qbu Try.prog ops Q (Till i S) fuel (listed.setIfInBounds i true) (a.put (some d) v') u') : qbu Try.prog ops Q (Till i S) (fuel + 1) listed a u := by
  simp only [← hd] at h
  obtain ⟨v', w', hrun, h1⟩ := run_growB ho hs hx hv hn G
  refine ⟨fun e => (by rw [hr] at e; cases e), fun j hj => ?_⟩
  rw [hr] at hj
  obtain rfl : j = i := by simpa using hj
  simp only [wpOp, hoo, hw, if_true]
  refine .inl ?_
  unfold Oper.wp
  rw [hrun]
  exact ⟨.inl hl, h v' w' h1⟩
end
theorem qcn : Enters 70 := qak Try.func70 (by kernel_rfl) rfl
set_option maxHeartbeats 4000000 in
theorem wkey_any (w : World) (p : Nat) (L : List (Nat × List Value)) (l : List (BitVec 8)) (K : List (BitVec 8)) (u : World) (hK : K.length = 32) (hb : l.length + K.length ≤ 100000000000) (H : Ww w p L l u) : Calls Try.prog 70 #[.pointer (some ⟨p, 0, none⟩), .agg (K.map b8).toArray] u fun e u' => ∃ v', e = .returned v' ∧ Ww w p L (l ++ K) u' := by
  have E := Lib.hid H
  have HB := Lib.hid hb
  clear hb H
  go_enter Try.func70, Try.ntmps70
  go_upto_region 0 with fail; refine wp_region_lit ?_
  refine qaa (qbv (vs := K.map b8) rfl rfl) rfl ?_; (try simp only [Act.put, lyy])
  replace E := Lib.hid (E.out.new (K.map b8) 27)
  generalize u.alloc (.cells (K.map b8).toArray 27) = a1 at *
  generalize u.heap.size = g1 at *
  refine qab ?_
  go_upto_region 1 with fail
  obtain ⟨v, G⟩ := E.out.ex
  have GG := Lib.hid G
  have EE := E
  clear G E
  refine wp_region_noPanic ?_; refine qb4 (S := Till 6 (fun V => Below a1.heap.size a1 V)) (by kernel_rfl) (.inr (Below.refl _ _).drew) (fun _ => ?_); have hS : Below a1.heap.size a1 a1.drew := (Below.refl _ _).drew
  refine wpAnyD_free 0 rfl rfl (by kernel_rfl) (by kernel_rfl) (by kernel_rfl) (by kernel_rfl) (fun _ _ _ h => h) rfl (fun V => qad (v := .pointer (some ⟨p, 0, none⟩)) rfl rfl) hS ?_; (try simp only [Act.put, lyy])
  refine qam 1 rfl rfl (by kernel_rfl) (by kernel_rfl) (by kernel_rfl) (by kernel_rfl) (by kernel_rfl) (fun _ _ _ h => h) rfl (fun V hV => qad (v := .pointer (some ⟨p, 0, none⟩)) rfl rfl) hS ?_; (try simp only [Act.put, lyy])
  refine qam 2 rfl rfl (by kernel_rfl) (by kernel_rfl) (by kernel_rfl) (by kernel_rfl) (by kernel_rfl) (fun _ _ _ h => h) rfl (fun V hV => qb5 rfl rfl) hS ?_; (try simp only [Act.put, lyy])
  refine qam 3 rfl rfl (by kernel_rfl) (by kernel_rfl) (by kernel_rfl) (by kernel_rfl) (by kernel_rfl) (fun _ _ _ h => h) rfl (fun V hV => qar (s := 0) (k := 0) rfl Try.underlying136 rfl (by kernel_rfl) rfl rfl) hS ?_; (try simp only [Act.put, lyy])
  refine qam 4 rfl rfl (by kernel_rfl) (by kernel_rfl) (by kernel_rfl) (by kernel_rfl) (by kernel_rfl) (fun _ _ _ h => h) rfl (fun V hV => qav rfl Try.underlying22 rfl rfl (((GG.out.below hV).get (i := L.length + 1) (at_last2 _ _ _)).c 0 _ rfl)) hS ?_; (try simp only [Act.put, lyy])
  refine qam 5 rfl rfl (by kernel_rfl) (by kernel_rfl) (by kernel_rfl) (by kernel_rfl) (by kernel_rfl) (fun _ _ _ h => h) rfl (fun V hV => run_slA rfl Try.underlying27 (by kernel_rfl) rfl) hS ?_; (try simp only [Act.put, lyy])
  have HS := Lib.hid (sl_arr K hK (by omega) ((EE.out.get (i := 0) rfl)))
  replace GG := Lib.hid (GG.out.below hS)
  have HS2 := Lib.hid (HS.out.below hS)
  generalize a1.drew = a2 at *
  clear HS EE
  refine wpAnyD_growB 6 (by kernel_rfl) rfl rfl rfl rfl rfl rfl rfl HS2.out HB.out GG.out (fun v5 y5 hG => ?_); (try simp only [Act.put, lyy])
  replace GG := Lib.hid hG
  clear hG HS2
  obtain ⟨xa, xn, xc, rfl⟩ := GG.out.isSlice
  refine qb0 7 (by kernel_rfl) rfl rfl rfl (qb5 rfl rfl) (.inl rfl) ?_; (try simp only [Act.put, lyy])
  refine qb0 8 (by kernel_rfl) rfl rfl rfl (qar (s := 0) (k := 0) rfl Try.underlying136 rfl (by kernel_rfl) rfl rfl) (.inl rfl) ?_; (try simp only [Act.put, lyy])
  refine qbm 9 (by kernel_rfl) rfl rfl rfl (qb1 (v := .slice xa xn xc) rfl (by kernel_rfl) rfl rfl rfl rfl ((GG.out.get (i := L.length + 1) (at_last2 _ _ _)).c 0 _ rfl) ((GG.out.get (i := L.length + 1) (at_last2 _ _ _)).f 0)) (.inl rfl) ?_
  have E2 := Lib.hid (Ww.drop (Gw.stored (L := (g1, K.map b8) :: L) GG.out))
  generalize y5.setCell ⟨p, 0, none⟩ (.slice xa xn xc) = z5 at *
  refine qbn (by kernel_rfl) ?_ _; refine NoPanic.normal ?_
  go_wp2_with fail
  exact bodyPost_end (results_none Try.results70 _ _ _) rfl ⟨⟨_, rfl⟩, E2.out⟩
theorem enters_wsig : Enters 72 := qak Try.func72 (by kernel_rfl) rfl
set_option maxHeartbeats 4000000 in
theorem wsig_any (w : World) (p : Nat) (L : List (Nat × List Value)) (l : List (BitVec 8)) (K : List (BitVec 8)) (u : World) (hK : K.length = 64) (hb : l.length + K.length ≤ 100000000000) (H : Ww w p L l u) : Calls Try.prog 72 #[.pointer (some ⟨p, 0, none⟩), .agg (K.map b8).toArray] u fun e u' => ∃ v', e = .returned v' ∧ Ww w p L (l ++ K) u' := by
  have E := Lib.hid H
  have HB := Lib.hid hb
  clear hb H
  go_enter Try.func72, Try.ntmps72
  go_upto_region 0 with fail; refine wp_region_lit ?_
  refine qaa (qbv (vs := K.map b8) rfl rfl) rfl ?_; (try simp only [Act.put, lyy])
  replace E := Lib.hid (E.out.new (K.map b8) 30)
  generalize u.alloc (.cells (K.map b8).toArray 30) = a1 at *
  generalize u.heap.size = g1 at *
  refine qab ?_
  go_upto_region 1 with fail
  obtain ⟨v, G⟩ := E.out.ex
  have GG := Lib.hid G
  have EE := E
  clear G E
  refine wp_region_noPanic ?_; refine qb4 (S := Till 6 (fun V => Below a1.heap.size a1 V)) (by kernel_rfl) (.inr (Below.refl _ _).drew) (fun _ => ?_); have hS : Below a1.heap.size a1 a1.drew := (Below.refl _ _).drew
  refine wpAnyD_free 0 rfl rfl (by kernel_rfl) (by kernel_rfl) (by kernel_rfl) (by kernel_rfl) (fun _ _ _ h => h) rfl (fun V => qad (v := .pointer (some ⟨p, 0, none⟩)) rfl rfl) hS ?_; (try simp only [Act.put, lyy])
  refine qam 1 rfl rfl (by kernel_rfl) (by kernel_rfl) (by kernel_rfl) (by kernel_rfl) (by kernel_rfl) (fun _ _ _ h => h) rfl (fun V hV => qad (v := .pointer (some ⟨p, 0, none⟩)) rfl rfl) hS ?_; (try simp only [Act.put, lyy])
  refine qam 2 rfl rfl (by kernel_rfl) (by kernel_rfl) (by kernel_rfl) (by kernel_rfl) (by kernel_rfl) (fun _ _ _ h => h) rfl (fun V hV => qb5 rfl rfl) hS ?_; (try simp only [Act.put, lyy])
  refine qam 3 rfl rfl (by kernel_rfl) (by kernel_rfl) (by kernel_rfl) (by kernel_rfl) (by kernel_rfl) (fun _ _ _ h => h) rfl (fun V hV => qar (s := 0) (k := 0) rfl Try.underlying136 rfl (by kernel_rfl) rfl rfl) hS ?_; (try simp only [Act.put, lyy])
  refine qam 4 rfl rfl (by kernel_rfl) (by kernel_rfl) (by kernel_rfl) (by kernel_rfl) (by kernel_rfl) (fun _ _ _ h => h) rfl (fun V hV => qav rfl Try.underlying22 rfl rfl (((GG.out.below hV).get (i := L.length + 1) (at_last2 _ _ _)).c 0 _ rfl)) hS ?_; (try simp only [Act.put, lyy])
  refine qam 5 rfl rfl (by kernel_rfl) (by kernel_rfl) (by kernel_rfl) (by kernel_rfl) (by kernel_rfl) (fun _ _ _ h => h) rfl (fun V hV => run_slA rfl Try.underlying30 (by kernel_rfl) rfl) hS ?_; (try simp only [Act.put, lyy])
  have HS := Lib.hid (sl_arr K hK (by omega) ((EE.out.get (i := 0) rfl)))
  replace GG := Lib.hid (GG.out.below hS)
  have HS2 := Lib.hid (HS.out.below hS)
  generalize a1.drew = a2 at *
  clear HS EE
  refine wpAnyD_growB 6 (by kernel_rfl) rfl rfl rfl rfl rfl rfl rfl HS2.out HB.out GG.out (fun v5 y5 hG => ?_); (try simp only [Act.put, lyy])
  replace GG := Lib.hid hG
  clear hG HS2
  obtain ⟨xa, xn, xc, rfl⟩ := GG.out.isSlice
  refine qb0 7 (by kernel_rfl) rfl rfl rfl (qb5 rfl rfl) (.inl rfl) ?_; (try simp only [Act.put, lyy])
  refine qb0 8 (by kernel_rfl) rfl rfl rfl (qar (s := 0) (k := 0) rfl Try.underlying136 rfl (by kernel_rfl) rfl rfl) (.inl rfl) ?_; (try simp only [Act.put, lyy])
  refine qbm 9 (by kernel_rfl) rfl rfl rfl (qb1 (v := .slice xa xn xc) rfl (by kernel_rfl) rfl rfl rfl rfl ((GG.out.get (i := L.length + 1) (at_last2 _ _ _)).c 0 _ rfl) ((GG.out.get (i := L.length + 1) (at_last2 _ _ _)).f 0)) (.inl rfl) ?_
  have E2 := Lib.hid (Ww.drop (Gw.stored (L := (g1, K.map b8) :: L) GG.out))
  generalize y5.setCell ⟨p, 0, none⟩ (.slice xa xn xc) = z5 at *
  refine qbn (by kernel_rfl) ?_ _; refine NoPanic.normal ?_
  go_wp2_with fail
  exact bodyPost_end (results_none Try.results72 _ _ _) rfl ⟨⟨_, rfl⟩, E2.out⟩
theorem enters_wpre : Enters 71 := qak Try.func71 (by kernel_rfl) rfl
set_option maxHeartbeats 4000000 in
theorem wpre_any (w : World) (p : Nat) (L : List (Nat × List Value)) (l : List (BitVec 8)) (m : MPk) (u : World) (hm : m.key.length = 32) (hb : l.length + (pkB m).length ≤ 100000000000) (H : Ww w p L l u) : Calls Try.prog 71 #[.pointer (some ⟨p, 0, none⟩), .agg (pkC m).toArray] u fun e u' => ∃ v', e = .returned v' ∧ Ww w p L (l ++ (pkB m)) u' := by
  rw [pkC_row]
  have EB : Hid (l ++ viB m.id ++ m.key = l ++ (pkB m)) := Lib.hid (by unfold pkB; simp only [List.append_assoc])
  have HB : Hid ((l ++ viB m.id ++ m.key).length ≤ 100000000000) := Lib.hid (by rw [EB.out, List.length_append]; exact hb)
  have E := Lib.hid H
  clear hb H
  go_enter Try.func71, Try.ntmps71
  go_upto_region 0 with fail; refine wp_region_lit ?_
  refine qaa (qbv (vs := pkR (.int .i64 m.id) (m.key.map b8)) rfl rfl) rfl ?_; (try simp only [Act.put, lyy])
  replace E := Lib.hid (E.out.new (pkR (.int .i64 m.id) (m.key.map b8)) 34)
  generalize u.alloc (.cells (pkR (.int .i64 m.id) (m.key.map b8)).toArray 34) = a1 at *
  generalize u.heap.size = g2 at *
  refine qab ?_
  go_upto_region 1 with fail; refine wp_region_lit ?_
  refine qaa (qad (v := .pointer (some ⟨p, 0, none⟩)) rfl rfl) rfl ?_; (try simp only [Act.put, lyy])
  refine qaa (qar (s := 0) (k := 0) rfl Try.underlying34 rfl (by kernel_rfl) rfl rfl) rfl ?_; (try simp only [Act.put, lyy])
  refine qaa (qav rfl Try.underlying3 rfl rfl ((E.out.get (i := 0) rfl).c 0 _ (pkR_ID ))) rfl ?_; (try simp only [Act.put, lyy])
  refine qaf (qae qaw rfl rfl rfl rfl) rfl (qbb w p _ _ (m.id) _ (by have h := HB.out; simp only [List.length_append] at h ⊢; omega) E.out) (fun v4 a3 hR => ?_); (try simp only [Act.put, lyy])
  replace E := Lib.hid hR
  clear hR
  refine qab ?_
  go_upto_region 2 with fail; refine wp_region_lit ?_
  refine qaa (qad (v := .pointer (some ⟨p, 0, none⟩)) rfl rfl) rfl ?_; (try simp only [Act.put, lyy])
  refine qaa (qar (s := 31) (k := 1) rfl Try.underlying34 rfl (by kernel_rfl) rfl rfl) rfl ?_; (try simp only [Act.put, lyy])
  refine qaa (qa2 (vs := m.key.map b8) rfl Try.underlying27 rfl (szR (by rw [List.length_map, hm]) (by kernel_rfl)) rfl ((E.out.get (i := 0) rfl).seg (pkR_Key (by rw [List.length_map, hm])))) rfl ?_; (try simp only [Act.put, lyy])
  refine qaf (qae qcn rfl rfl rfl rfl) rfl (wkey_any w p _ _ m.key _ hm (by have h := HB.out; simp only [List.length_append] at h ⊢; omega) E.out) (fun v6 a5 hR => ?_); (try simp only [Act.put, lyy])
  replace E := Lib.hid hR
  clear hR
  refine qab ?_
  have E2 := Lib.hid (E.out.drop.cast EB.out)
  go_wp2_with fail
  exact bodyPost_end (results_none Try.results71 _ _ _) rfl ⟨_, rfl, E2.out⟩
theorem enters_went : Enters 97 := qak Try.func97 (by kernel_rfl) rfl
set_option maxHeartbeats 4000000 in
theorem went_any (w : World) (p : Nat) (L : List (Nat × List Value)) (l : List (BitVec 8)) (m : MPk) (u : World) (hm : m.key.length = 32) (hb : l.length + (pkB m).length ≤ 100000000000) (H : Ww w p L l u) : Calls Try.prog 97 #[.pointer (some ⟨p, 0, none⟩), .agg (pkC m).toArray] u fun e u' => ∃ v', e = .returned v' ∧ Ww w p L (l ++ (pkB m)) u' := by
  rw [pkC_en]
  have EB : Hid (l ++ viB m.id ++ m.key = l ++ (pkB m)) := Lib.hid (by unfold pkB; simp only [List.append_assoc])
  have HB : Hid ((l ++ viB m.id ++ m.key).length ≤ 100000000000) := Lib.hid (by rw [EB.out, List.length_append]; exact hb)
  have E := Lib.hid H
  clear hb H
  go_enter Try.func97, Try.ntmps97
  go_upto_region 0 with fail; refine wp_region_lit ?_
  refine qaa (qbv (vs := enR (.int .i64 m.id) (m.key.map b8)) rfl rfl) rfl ?_; (try simp only [Act.put, lyy])
  replace E := Lib.hid (E.out.new (enR (.int .i64 m.id) (m.key.map b8)) 110)
  generalize u.alloc (.cells (enR (.int .i64 m.id) (m.key.map b8)).toArray 110) = a1 at *
  generalize u.heap.size = g2 at *
  refine qab ?_
  go_upto_region 1 with fail; refine wp_region_lit ?_
  refine qaa (qad (v := .pointer (some ⟨p, 0, none⟩)) rfl rfl) rfl ?_; (try simp only [Act.put, lyy])
  refine qaa (qar (s := 0) (k := 0) rfl Try.underlying110 rfl (by kernel_rfl) rfl rfl) rfl ?_; (try simp only [Act.put, lyy])
  refine qaa (qav rfl Try.underlying3 rfl rfl ((E.out.get (i := 0) rfl).c 0 _ (enR_ID ))) rfl ?_; (try simp only [Act.put, lyy])
  refine qaf (qae qaw rfl rfl rfl rfl) rfl (qbb w p _ _ (m.id) _ (by have h := HB.out; simp only [List.length_append] at h ⊢; omega) E.out) (fun v4 a3 hR => ?_); (try simp only [Act.put, lyy])
  replace E := Lib.hid hR
  clear hR
  refine qab ?_
  go_upto_region 2 with fail; refine wp_region_lit ?_
  refine qaa (qad (v := .pointer (some ⟨p, 0, none⟩)) rfl rfl) rfl ?_; (try simp only [Act.put, lyy])
  refine qaa (qar (s := 31) (k := 1) rfl Try.underlying110 rfl (by kernel_rfl) rfl rfl) rfl ?_; (try simp only [Act.put, lyy])
  refine qaa (qa2 (vs := m.key.map b8) rfl Try.underlying27 rfl (szR (by rw [List.length_map, hm]) (by kernel_rfl)) rfl ((E.out.get (i := 0) rfl).seg (enR_Key (by rw [List.length_map, hm])))) rfl ?_; (try simp only [Act.put, lyy])
  refine qaf (qae qcn rfl rfl rfl rfl) rfl (wkey_any w p _ _ m.key _ hm (by have h := HB.out; simp only [List.length_append] at h ⊢; omega) E.out) (fun v6 a5 hR => ?_); (try simp only [Act.put, lyy])
  replace E := Lib.hid hR
  clear hR
  refine qab ?_
  have E2 := Lib.hid (E.out.drop.cast EB.out)
  go_wp2_with fail
  exact bodyPost_end (results_none Try.results97 _ _ _) rfl ⟨_, rfl, E2.out⟩
theorem enters_whdr : Enters 58 := qak Try.func58 (by kernel_rfl) rfl
set_option maxHeartbeats 4000000 in
theorem whdr_any (w : World) (p : Nat) (L : List (Nat × List Value)) (l : List (BitVec 8)) (m : MHd) (u : World) (hm : m.r.length = 32) (hb : l.length + (hdB m).length ≤ 100000000000) (H : Ww w p L l u) : Calls Try.prog 58 #[.pointer (some ⟨p, 0, none⟩), .agg (hdC m).toArray] u fun e u' => ∃ v', e = .returned v' ∧ Ww w p L (l ++ (hdB m)) u' := by
  rw [hdC_row]
  have EB : Hid (l ++ m.r ++ viB m.prev ++ viB m.n = l ++ (hdB m)) := Lib.hid (by unfold hdB; simp only [List.append_assoc])
  have HB : Hid ((l ++ m.r ++ viB m.prev ++ viB m.n).length ≤ 100000000000) := Lib.hid (by rw [EB.out, List.length_append]; exact hb)
  have E := Lib.hid H
  clear hb H
  go_enter Try.func58, Try.ntmps58
  go_upto_region 0 with fail; refine wp_region_lit ?_
  refine qaa (qbv (vs := hdR (m.r.map b8) (.int .i64 m.prev) (.int .i64 m.n)) rfl rfl) rfl ?_; (try simp only [Act.put, lyy])
  replace E := Lib.hid (E.out.new (hdR (m.r.map b8) (.int .i64 m.prev) (.int .i64 m.n)) 55)
  generalize u.alloc (.cells (hdR (m.r.map b8) (.int .i64 m.prev) (.int .i64 m.n)).toArray 55) = a1 at *
  generalize u.heap.size = g2 at *
  refine qab ?_
  go_upto_region 1 with fail; refine wp_region_lit ?_
  refine qaa (qad (v := .pointer (some ⟨p, 0, none⟩)) rfl rfl) rfl ?_; (try simp only [Act.put, lyy])
  refine qaa (qar (s := 31) (k := 0) rfl Try.underlying55 rfl (by kernel_rfl) rfl rfl) rfl ?_; (try simp only [Act.put, lyy])
  refine qaa (qa2 (vs := m.r.map b8) rfl Try.underlying27 rfl (szR (by rw [List.length_map, hm]) (by kernel_rfl)) rfl ((E.out.get (i := 0) rfl).seg (hdR_Ratchet (by rw [List.length_map, hm])))) rfl ?_; (try simp only [Act.put, lyy])
  refine qaf (qae qcn rfl rfl rfl rfl) rfl (wkey_any w p _ _ m.r _ hm (by have h := HB.out; simp only [List.length_append] at h ⊢; omega) E.out) (fun v4 a3 hR => ?_); (try simp only [Act.put, lyy])
  replace E := Lib.hid hR
  clear hR
  refine qab ?_
  go_upto_region 2 with fail; refine wp_region_lit ?_
  refine qaa (qad (v := .pointer (some ⟨p, 0, none⟩)) rfl rfl) rfl ?_; (try simp only [Act.put, lyy])
  refine qaa (qar (s := 0) (k := 32) rfl Try.underlying55 rfl (by kernel_rfl) rfl rfl) rfl ?_; (try simp only [Act.put, lyy])
  refine qaa (qav rfl Try.underlying3 rfl rfl ((E.out.get (i := 0) rfl).c 32 _ (hdR_Prev (by rw [List.length_map, hm])))) rfl ?_; (try simp only [Act.put, lyy])
  refine qaf (qae qaw rfl rfl rfl rfl) rfl (qbb w p _ _ (m.prev) _ (by have h := HB.out; simp only [List.length_append] at h ⊢; omega) E.out) (fun v6 a5 hR => ?_); (try simp only [Act.put, lyy])
  replace E := Lib.hid hR
  clear hR
  refine qab ?_
  go_upto_region 3 with fail; refine wp_region_lit ?_
  refine qaa (qad (v := .pointer (some ⟨p, 0, none⟩)) rfl rfl) rfl ?_; (try simp only [Act.put, lyy])
  refine qaa (qar (s := 0) (k := 33) rfl Try.underlying55 rfl (by kernel_rfl) rfl rfl) rfl ?_; (try simp only [Act.put, lyy])
  refine qaa (qav rfl Try.underlying3 rfl rfl ((E.out.get (i := 0) rfl).c 33 _ (hdR_N (by rw [List.length_map, hm])))) rfl ?_; (try simp only [Act.put, lyy])
  refine qaf (qae qaw rfl rfl rfl rfl) rfl (qbb w p _ _ (m.n) _ (by have h := HB.out; simp only [List.length_append] at h ⊢; omega) E.out) (fun v8 a7 hR => ?_); (try simp only [Act.put, lyy])
  replace E := Lib.hid hR
  clear hR
  refine qab ?_
  have E2 := Lib.hid (E.out.drop.cast EB.out)
  go_wp2_with fail
  exact bodyPost_end (results_none Try.results58 _ _ _) rfl ⟨_, rfl, E2.out⟩
theorem enters_walE : Enters 96 := qak Try.func96 (by kernel_rfl) rfl
set_option maxHeartbeats 4000000 in
theorem walE_any (w : World) (p : Nat) (L : List (Nat × List Value)) (l : List (BitVec 8)) (ms : List MPk) (a : Option Addr) (c : Nat) (u : World) (hn : ms.length ≤ 100000000000) (hp : ∀ p ∈ ms, p.key.length = 32) (hX : Fro 0 (SlR 33 pkAt ms a c) w) (hb : l.length + (alB pkB ms).length ≤ 100000000000) (H : Ww w p L l u) : Calls Try.prog 96 #[.pointer (some ⟨p, 0, none⟩), .slice a ms.length c, .func (.func 97) #[] #[]] u fun e u' => ∃ v', e = .returned v' ∧ Ww w p L (l ++ (alB pkB ms)) u' := by
  have HE : Hid (∀ i, i < ms.length → ∃ g f cs x, a = some ⟨g, f, none⟩ ∧ alF pkB ms (i + 1) = alF pkB ms i ++ x ∧ (cs : List Value).length = 33 ∧ One cs ∧ (∀ u, Below w.heap.size w u → u.rangeAt g (f + i * 33) cs) ∧ (∀ (u : World) (L : List (Nat × List Value)) (y : List (BitVec 8)), y = l ++ alF pkB ms i → Ww w p L y u → Calls Try.prog 97 #[.pointer (some ⟨p, 0, none⟩), .agg cs.toArray] u fun e u' => ∃ v', e = .returned v' ∧ Ww w p L (y ++ x) u')) := Lib.hid fun i hi => by
    obtain ⟨g, f, cs, h1, h2, h3, h4, h5⟩ := slR_get hX hi
    have hk := hp _ (List.getElem_mem hi)
    have hle := alF_le pkB ms hi
    have e : cs = pkC ms[i] := h5.now
    have hone : One cs := by rw [e]; exact pkC_one hk
    exact ⟨g, f, cs, pkB ms[i], h1, alF_succ hi, h3, hone, fun u hu => qbj h4 h2 hu, fun u L y hy H => by rw [e]; exact went_any w p L y ms[i] u hk (by rw [hy, List.length_append]; omega) H⟩
  have E0 : Hid (viB (ms.length : Int) = alF pkB ms 0) := Lib.hid (alF_zero _ _)
  have EO : Hid (alF pkB ms ms.length = alB pkB ms) := Lib.hid (alF_all _ _)
  have HB : Hid (l.length + (viB (ms.length : Int)).length ≤ 100000000000) := Lib.hid (by have h := alF_head pkB ms; omega)
  have E := Lib.hid H
  clear hb H hX hp
  obtain ⟨Gf, hGf⟩ : ∃ Gf, Gf = alF pkB ms := ⟨_, rfl⟩
  rw [← hGf] at HE E0 EO
  clear hGf
  generalize alB pkB ms = out at *
  generalize ms.length = n at *
  go_enter Try.func96, Try.ntmps96
  go_upto_region 0 with fail; refine wp_region_lit ?_
  refine qaa (qad (v := .pointer (some ⟨p, 0, none⟩)) rfl rfl) rfl ?_; (try simp only [Act.put, lyy])
  refine qaa (qad (v := .slice a n c) rfl rfl) rfl ?_; (try simp only [Act.put, lyy])
  refine qaa (qba rfl Try.underlying28 rfl) rfl ?_; (try simp only [Act.put, lyy])
  refine qaf (qae qaw rfl rfl rfl rfl) rfl (qbb w p L l (n : Int) u HB.out E.out) (fun v1 a1 hR => ?_); (try simp only [Act.put, lyy])
  replace E := Lib.hid hR
  clear hR
  rw [E0.out] at E
  refine qab ?_
  go_upto_region 1 with fail; refine wp_region_lit ?_
  refine qaa (qad (v := .slice a n c) rfl rfl) rfl ?_; (try simp only [Act.put, lyy])
  refine qaa (qba rfl Try.underlying28 rfl) rfl ?_; (try simp only [Act.put, lyy])
  refine qaa (qad (v := .int .i64 0) rfl rfl) rfl ?_; (try simp only [Act.put, lyy])
  refine qab ?_
  go_wp2_with fail
  go_loopw [14] (fun s14 u => ∃ i : Nat, i ≤ n ∧ s14 = .int .i64 (i : Int) ∧ Ww w p L (l ++ Gf i) u) (fun s14 _ => ((n : Int) - intOf s14).toNat)
  case atStart => exact ⟨0, by omega, rfl, E.out⟩
  case round =>
    obtain ⟨i, hi, rfl, hJ⟩ := hrel
    replace E := Lib.hid hJ
    clear hJ
    by_cases hik : i = n
    · subst hik
      replace E := Lib.hid (E.out.cast (show _ = l ++ out by rw [EO.out]))
      go_upto_region 2 with fail; refine wp_region_lit ?_
      refine qaa (qa0 (c := false) rfl rfl rfl (decide_eq_false (by omega))) rfl ?_; (try simp only [Act.put, lyy])
      refine qab ?_
      go_wp2_with fail
      exact bodyPost_end (results_none Try.results96 _ _ _) rfl ⟨_, rfl, E.out⟩
    · obtain ⟨g, f, cs, x, rfl, hx, hz, hone, hr, hc⟩ := HE.out i (by omega)
      have HX := Lib.hid hx
      have HR1 := Lib.hid hr
      have HC1 := Lib.hid hc
      have HO1 := Lib.hid hone
      clear hx hr hc hone
      go_upto_region 2 with fail; refine wp_region_lit ?_
      refine qaa (qa0 (c := true) rfl rfl rfl (decide_eq_true (by omega))) rfl ?_; (try simp only [Act.put, lyy])
      refine qab ?_
      go_upto_region 3 with fail; refine wp_region_lit ?_
      refine qaa (run_ixZ (z := 33) (i := i) rfl Try.underlying28 (by kernel_rfl) rfl rfl (by omega)) rfl ?_; (try simp only [Act.put, lyy])
      refine qaa (qa2 (vs := cs) rfl Try.underlying110 rfl (szR hz (by kernel_rfl)) rfl (HR1.out _ E.out.bl)) rfl ?_; (try simp only [Act.put, lyy])
      refine qaa (qay (vs := enR ((.int .i64 0)) (z8 32)) rfl (by kernel_rfl)) rfl ?_; (try simp only [Act.put, lyy])
      replace E := Lib.hid (E.out.new (enR ((.int .i64 0)) (z8 32)) 110)
      generalize wr.alloc (.cells (enR ((.int .i64 0)) (z8 32)).toArray 110) = a1 at *
      generalize wr.heap.size = g1 at *
      refine qah (qax (vs := cs) rfl (szR hz (by kernel_rfl)) rfl rfl (One.all HO1.out) ((E.out.get (i := 0) rfl).thereM (by have q2 : (enR ((.int .i64 0)) (z8 32)).length = 33 := (enR_len (z8_len' 32)); omega))) rfl rfl ?_
      replace E := Lib.hid (E.out.put 0 rfl (m' := cs) (hz.trans (show (enR ((.int .i64 0)) (z8 32)).length = 33 from (enR_len (z8_len' 32))).symm))
      replace E := Lib.hid (show Ww w p ((g1, cs) :: L) _ _ from E.out)
      generalize a1.setCells g1 0 cs = a2 at *
      refine qab ?_
      go_upto_region 4 with fail; refine wp_region_lit ?_
      refine qaa (qad (v := .func (.func 97) #[] #[]) rfl rfl) rfl ?_; (try simp only [Act.put, lyy])
      refine qaa (qad (v := .pointer (some ⟨p, 0, none⟩)) rfl rfl) rfl ?_; (try simp only [Act.put, lyy])
      refine qaa (qa2 (vs := cs) rfl Try.underlying110 rfl (szR hz (by kernel_rfl)) rfl (E.out.get (i := 0) rfl).range) rfl ?_; (try simp only [Act.put, lyy])
      refine qaf (qcc enters_went rfl rfl rfl rfl) rfl (HC1.out _ _ _ rfl E.out) (fun v3 a3 hR => ?_); (try simp only [Act.put, lyy])
      replace E := Lib.hid (hR.drop.cast (show _ = l ++ Gf (i + 1) by rw [HX.out, List.append_assoc]))
      clear hR
      refine qab ?_
      go_upto_region 5 with fail; refine wp_region_lit ?_
      refine qaa (qaz (a := i) (b := 1) rfl rfl rfl (by omega)) rfl ?_; (try simp only [Act.put, lyy])
      refine qaa (qad (v := .int .i64 ((i + 1 : Nat) : Int)) rfl rfl) rfl ?_; (try simp only [Act.put, lyy])
      refine qab ?_
      go_wp2_with fail
      exact ⟨⟨i + 1, by omega, rfl, E.out⟩, by simp [intOf]; omega⟩
theorem enters_walP : Enters 73 := qak Try.func73 (by kernel_rfl) rfl
set_option maxHeartbeats 4000000 in
theorem walP_any (w : World) (p : Nat) (L : List (Nat × List Value)) (l : List (BitVec 8)) (ms : List MPk) (a : Option Addr) (c : Nat) (u : World) (hn : ms.length ≤ 100000000000) (hp : ∀ p ∈ ms, p.key.length = 32) (hX : Fro 0 (SlR 33 pkAt ms a c) w) (hb : l.length + (alB pkB ms).length ≤ 100000000000) (H : Ww w p L l u) : Calls Try.prog 73 #[.pointer (some ⟨p, 0, none⟩), .slice a ms.length c, .func (.func 71) #[] #[]] u fun e u' => ∃ v', e = .returned v' ∧ Ww w p L (l ++ (alB pkB ms)) u' := by
  have HE : Hid (∀ i, i < ms.length → ∃ g f cs x, a = some ⟨g, f, none⟩ ∧ alF pkB ms (i + 1) = alF pkB ms i ++ x ∧ (cs : List Value).length = 33 ∧ One cs ∧ (∀ u, Below w.heap.size w u → u.rangeAt g (f + i * 33) cs) ∧ (∀ (u : World) (L : List (Nat × List Value)) (y : List (BitVec 8)), y = l ++ alF pkB ms i → Ww w p L y u → Calls Try.prog 71 #[.pointer (some ⟨p, 0, none⟩), .agg cs.toArray] u fun e u' => ∃ v', e = .returned v' ∧ Ww w p L (y ++ x) u')) := Lib.hid fun i hi => by
    obtain ⟨g, f, cs, h1, h2, h3, h4, h5⟩ := slR_get hX hi
    have hk := hp _ (List.getElem_mem hi)
    have hle := alF_le pkB ms hi
    have e : cs = pkC ms[i] := h5.now
    have hone : One cs := by rw [e]; exact pkC_one hk
    exact ⟨g, f, cs, pkB ms[i], h1, alF_succ hi, h3, hone, fun u hu => qbj h4 h2 hu, fun u L y hy H => by rw [e]; exact wpre_any w p L y ms[i] u hk (by rw [hy, List.length_append]; omega) H⟩
  have E0 : Hid (viB (ms.length : Int) = alF pkB ms 0) := Lib.hid (alF_zero _ _)
  have EO : Hid (alF pkB ms ms.length = alB pkB ms) := Lib.hid (alF_all _ _)
  have HB : Hid (l.length + (viB (ms.length : Int)).length ≤ 100000000000) := Lib.hid (by have h := alF_head pkB ms; omega)
  have E := Lib.hid H
  clear hb H hX hp
  obtain ⟨Gf, hGf⟩ : ∃ Gf, Gf = alF pkB ms := ⟨_, rfl⟩
  rw [← hGf] at HE E0 EO
  clear hGf
  generalize alB pkB ms = out at *
  generalize ms.length = n at *
  go_enter Try.func73, Try.ntmps73
  go_upto_region 0 with fail; refine wp_region_lit ?_
  refine qaa (qad (v := .pointer (some ⟨p, 0, none⟩)) rfl rfl) rfl ?_; (try simp only [Act.put, lyy])
  refine qaa (qad (v := .slice a n c) rfl rfl) rfl ?_; (try simp only [Act.put, lyy])
  refine qaa (qba rfl Try.underlying35 rfl) rfl ?_; (try simp only [Act.put, lyy])
  refine qaf (qae qaw rfl rfl rfl rfl) rfl (qbb w p L l (n : Int) u HB.out E.out) (fun v1 a1 hR => ?_); (try simp only [Act.put, lyy])
  replace E := Lib.hid hR
  clear hR
  rw [E0.out] at E
  refine qab ?_
  go_upto_region 1 with fail; refine wp_region_lit ?_
  refine qaa (qad (v := .slice a n c) rfl rfl) rfl ?_; (try simp only [Act.put, lyy])
  refine qaa (qba rfl Try.underlying35 rfl) rfl ?_; (try simp only [Act.put, lyy])
  refine qaa (qad (v := .int .i64 0) rfl rfl) rfl ?_; (try simp only [Act.put, lyy])
  refine qab ?_
  go_wp2_with fail
  go_loopw [14] (fun s14 u => ∃ i : Nat, i ≤ n ∧ s14 = .int .i64 (i : Int) ∧ Ww w p L (l ++ Gf i) u) (fun s14 _ => ((n : Int) - intOf s14).toNat)
  case atStart => exact ⟨0, by omega, rfl, E.out⟩
  case round =>
    obtain ⟨i, hi, rfl, hJ⟩ := hrel
    replace E := Lib.hid hJ
    clear hJ
    by_cases hik : i = n
    · subst hik
      replace E := Lib.hid (E.out.cast (show _ = l ++ out by rw [EO.out]))
      go_upto_region 2 with fail; refine wp_region_lit ?_
      refine qaa (qa0 (c := false) rfl rfl rfl (decide_eq_false (by omega))) rfl ?_; (try simp only [Act.put, lyy])
      refine qab ?_
      go_wp2_with fail
      exact bodyPost_end (results_none Try.results73 _ _ _) rfl ⟨_, rfl, E.out⟩
    · obtain ⟨g, f, cs, x, rfl, hx, hz, hone, hr, hc⟩ := HE.out i (by omega)
      have HX := Lib.hid hx
      have HR1 := Lib.hid hr
      have HC1 := Lib.hid hc
      have HO1 := Lib.hid hone
      clear hx hr hc hone
      go_upto_region 2 with fail; refine wp_region_lit ?_
      refine qaa (qa0 (c := true) rfl rfl rfl (decide_eq_true (by omega))) rfl ?_; (try simp only [Act.put, lyy])
      refine qab ?_
      go_upto_region 3 with fail; refine wp_region_lit ?_
      refine qaa (run_ixZ (z := 33) (i := i) rfl Try.underlying35 (by kernel_rfl) rfl rfl (by omega)) rfl ?_; (try simp only [Act.put, lyy])
      refine qaa (qa2 (vs := cs) rfl Try.underlying34 rfl (szR hz (by kernel_rfl)) rfl (HR1.out _ E.out.bl)) rfl ?_; (try simp only [Act.put, lyy])
      refine qaa (qay (vs := pkR ((.int .i64 0)) (z8 32)) rfl (by kernel_rfl)) rfl ?_; (try simp only [Act.put, lyy])
      replace E := Lib.hid (E.out.new (pkR ((.int .i64 0)) (z8 32)) 34)
      generalize wr.alloc (.cells (pkR ((.int .i64 0)) (z8 32)).toArray 34) = a1 at *
      generalize wr.heap.size = g1 at *
      refine qah (qax (vs := cs) rfl (szR hz (by kernel_rfl)) rfl rfl (One.all HO1.out) ((E.out.get (i := 0) rfl).thereM (by have q2 : (pkR ((.int .i64 0)) (z8 32)).length = 33 := (qao (z8_len' 32)); omega))) rfl rfl ?_
      replace E := Lib.hid (E.out.put 0 rfl (m' := cs) (hz.trans (show (pkR ((.int .i64 0)) (z8 32)).length = 33 from (qao (z8_len' 32))).symm))
      replace E := Lib.hid (show Ww w p ((g1, cs) :: L) _ _ from E.out)
      generalize a1.setCells g1 0 cs = a2 at *
      refine qab ?_
      go_upto_region 4 with fail; refine wp_region_lit ?_
      refine qaa (qad (v := .func (.func 71) #[] #[]) rfl rfl) rfl ?_; (try simp only [Act.put, lyy])
      refine qaa (qad (v := .pointer (some ⟨p, 0, none⟩)) rfl rfl) rfl ?_; (try simp only [Act.put, lyy])
      refine qaa (qa2 (vs := cs) rfl Try.underlying34 rfl (szR hz (by kernel_rfl)) rfl (E.out.get (i := 0) rfl).range) rfl ?_; (try simp only [Act.put, lyy])
      refine qaf (qcc enters_wpre rfl rfl rfl rfl) rfl (HC1.out _ _ _ rfl E.out) (fun v3 a3 hR => ?_); (try simp only [Act.put, lyy])
      replace E := Lib.hid (hR.drop.cast (show _ = l ++ Gf (i + 1) by rw [HX.out, List.append_assoc]))
      clear hR
      refine qab ?_
      go_upto_region 5 with fail; refine wp_region_lit ?_
      refine qaa (qaz (a := i) (b := 1) rfl rfl rfl (by omega)) rfl ?_; (try simp only [Act.put, lyy])
      refine qaa (qad (v := .int .i64 ((i + 1 : Nat) : Int)) rfl rfl) rfl ?_; (try simp only [Act.put, lyy])
      refine qab ?_
      go_wp2_with fail
      exact ⟨⟨i + 1, by omega, rfl, E.out⟩, by simp [intOf]; omega⟩
end Go.Proofs.Ytcgbgmbnagmohaa
