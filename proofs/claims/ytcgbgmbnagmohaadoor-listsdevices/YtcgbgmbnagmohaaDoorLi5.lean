import Derived.Test.YtcgbgmbnagmohaaDoorLy
import Derived.Test.YtcgbgmbnagmohaaDoorPw2
import Derived.Test.YtcgbgmbnagmohaaDoorLi0
import Derived.Test.YtcgbgmbnagmohaaDoorStr
import Derived.Test.YtcgbgmbnagmohaaDoorSgW3
namespace Go.Proofs.YtcgbgmbnagmohaaDoor
open Go.RowKit
set_option maxRecDepth 20000
attribute [local irreducible] wpList
theorem lsB_al (m : MLs) : lsB m = viB m.acc ++ viB m.ver ++ m.ident ++ alB pkB m.devs ++ m.sig := by simp [lsB, lsF, alB, List.append_assoc]
theorem enters_wlst : Enters 44 := qaq Tryd.func44 (by kernel_rfl) rfl
set_option maxHeartbeats 4000000 in
theorem wlst_any (w : World) (p : Nat) (L : List (Nat × List Value)) (l : List (BitVec 8)) (m : MLs) (X : List Value) (u : World) (hm : m.Ok) (hX : Fro 0 (lsAt m X) w) (hb : l.length + (lsB m).length ≤ 100000000000) (H : Ww w p L l u) : Calls Tryd.prog 44 #[.pointer (some ⟨p, 0, none⟩), .agg (X).toArray] u fun e u' => ∃ v', e = .returned v' ∧ Ww w p L (l ++ (lsB m)) u' := by
 obtain ⟨a0, c0, rfl, HF⟩ := qcx hm hX
 clear hX
 obtain ⟨k1, k2, k3, k4⟩ := hm
 have HF2 := Lib.hid HF
 have K3 := Lib.hid k3
 clear HF k3
 have EB : Hid (l ++ viB m.acc ++ viB m.ver ++ m.ident ++ alB pkB m.devs ++ m.sig = l ++ (lsB m)) := Lib.hid (by rw [lsB_al]; simp only [List.append_assoc])
 have HB : Hid ((l ++ viB m.acc ++ viB m.ver ++ m.ident ++ alB pkB m.devs ++ m.sig).length ≤ 100000000000) := Lib.hid (by rw [EB.out, List.length_append]; exact hb)
 have E := Lib.hid H
 clear hb H
 go_enter Tryd.func44, Tryd.ntmps44
 go_upto_region 0 with fail; refine wp_region_lit ?_
 refine qaa (qau (vs := lsR (.int .i64 m.acc) (.int .i64 m.ver) (m.ident.map b8) (.slice a0 m.devs.length c0) (m.sig.map b8)) rfl rfl) rfl ?_; (try simp only [Act.put, lyy])
 replace E := Lib.hid (E.out.new (lsR (.int .i64 m.acc) (.int .i64 m.ver) (m.ident.map b8) (.slice a0 m.devs.length c0) (m.sig.map b8)) 29)
 generalize u.alloc (.cells (lsR (.int .i64 m.acc) (.int .i64 m.ver) (m.ident.map b8) (.slice a0 m.devs.length c0) (m.sig.map b8)).toArray 29) = a1 at *
 generalize u.heap.size = g2 at *
 refine qab ?_
 go_upto_region 1 with fail; refine wp_region_lit ?_
 refine qaa (qae (v := .pointer (some ⟨p, 0, none⟩)) rfl rfl) rfl ?_; (try simp only [Act.put, lyy])
 refine qaa (qan (s := 0) (k := 0) rfl Tryd.underlying29 rfl (by kernel_rfl) rfl rfl) rfl ?_; (try simp only [Act.put, lyy])
 refine qaa (qav rfl Tryd.underlying3 rfl rfl ((E.out.get (i := 0) rfl).c 0 _ (lsR_Account ))) rfl ?_; (try simp only [Act.put, lyy])
 refine qbj (qao enters_wnum rfl rfl rfl rfl) rfl (wnum_any w p _ _ (m.acc) _ (by have h := HB.out; simp only [List.length_append] at h ⊢; omega) E.out) (fun v4 a3 hR => ?_); (try simp only [Act.put, lyy])
 replace E := Lib.hid hR
 clear hR
 refine qab ?_
 go_upto_region 2 with fail; refine wp_region_lit ?_
 refine qaa (qae (v := .pointer (some ⟨p, 0, none⟩)) rfl rfl) rfl ?_; (try simp only [Act.put, lyy])
 refine qaa (qan (s := 0) (k := 1) rfl Tryd.underlying29 rfl (by kernel_rfl) rfl rfl) rfl ?_; (try simp only [Act.put, lyy])
 refine qaa (qav rfl Tryd.underlying3 rfl rfl ((E.out.get (i := 0) rfl).c 1 _ (lsR_Version ))) rfl ?_; (try simp only [Act.put, lyy])
 refine qbj (qao enters_wnum rfl rfl rfl rfl) rfl (wnum_any w p _ _ (m.ver) _ (by have h := HB.out; simp only [List.length_append] at h ⊢; omega) E.out) (fun v6 a5 hR => ?_); (try simp only [Act.put, lyy])
 replace E := Lib.hid hR
 clear hR
 refine qab ?_
 go_upto_region 3 with fail; refine wp_region_lit ?_
 refine qaa (qae (v := .pointer (some ⟨p, 0, none⟩)) rfl rfl) rfl ?_; (try simp only [Act.put, lyy])
 refine qaa (qan (s := 31) (k := 2) rfl Tryd.underlying29 rfl (by kernel_rfl) rfl rfl) rfl ?_; (try simp only [Act.put, lyy])
 refine qaa (qaj (vs := m.ident.map b8) rfl Tryd.underlying24 rfl (szR (by rw [List.length_map, k1]) (by kernel_rfl)) rfl ((E.out.get (i := 0) rfl).seg (lsR_Ident (by rw [List.length_map, k1])))) rfl ?_; (try simp only [Act.put, lyy])
 refine qbj (qao enters_wkey rfl rfl rfl rfl) rfl (wkey_any w p _ _ m.ident _ k1 (by have h := HB.out; simp only [List.length_append] at h ⊢; omega) E.out) (fun v8 a7 hR => ?_); (try simp only [Act.put, lyy])
 replace E := Lib.hid hR
 clear hR
 refine qab ?_
 go_upto_region 4 with fail; refine wp_region_lit ?_
 refine qaa (qae (v := .pointer (some ⟨p, 0, none⟩)) rfl rfl) rfl ?_; (try simp only [Act.put, lyy])
 refine qaa (qan (s := 0) (k := 34) rfl Tryd.underlying29 rfl (by kernel_rfl) rfl rfl) rfl ?_; (try simp only [Act.put, lyy])
 refine qaa (qav rfl Tryd.underlying25 rfl rfl ((E.out.get (i := 0) rfl).c 34 _ (qal (by rw [List.length_map, k1])))) rfl ?_; (try simp only [Act.put, lyy])
 refine qbj (qbx enters_walE rfl rfl rfl rfl rfl) rfl (walE_any w p _ _ m.devs a0 c0 _ (by omega) K3.out HF2.out (by have h := HB.out; simp only [List.length_append] at h ⊢; omega) E.out) (fun v10 a9 hR => ?_); (try simp only [Act.put, lyy])
 replace E := Lib.hid hR
 clear hR
 refine qab ?_
 go_upto_region 5 with fail; refine wp_region_lit ?_
 refine qaa (qae (v := .pointer (some ⟨p, 0, none⟩)) rfl rfl) rfl ?_; (try simp only [Act.put, lyy])
 refine qaa (qan (s := 63) (k := 35) rfl Tryd.underlying29 rfl (by kernel_rfl) rfl rfl) rfl ?_; (try simp only [Act.put, lyy])
 refine qaa (qaj (vs := m.sig.map b8) rfl Tryd.underlying27 rfl (szR (by rw [List.length_map, k2]) (by kernel_rfl)) rfl ((E.out.get (i := 0) rfl).seg (lsR_Sig (by rw [List.length_map, k1]) (by rw [List.length_map, k2])))) rfl ?_; (try simp only [Act.put, lyy])
 refine qbj (qao enters_wsig rfl rfl rfl rfl) rfl (wsig_any w p _ _ m.sig _ k2 (by have h := HB.out; simp only [List.length_append] at h ⊢; omega) E.out) (fun v12 a11 hR => ?_); (try simp only [Act.put, lyy])
 replace E := Lib.hid hR
 clear hR
 refine qab ?_
 have E2 := Lib.hid (E.out.drop.cast EB.out)
 go_wp2_with fail
 exact bodyPost_end (results_none Tryd.results44 _ _ _) rfl ⟨_, rfl, E2.out⟩
end Go.Proofs.YtcgbgmbnagmohaaDoor
namespace Go.Proofs.YtcgbgmbnagmohaaDoor
open Go.RowKit
set_option maxRecDepth 20000
attribute [local irreducible] wpList
theorem Ww.start (w : World) (t : TypeId) : Ww w w.heap.size [] [] (w.alloc (.cells ([.slice none 0 0] : List Value).toArray t)) :=
 ⟨⟨_, (Gw.start (Ev.start (w := w) (F := fun _ => True) fun _ _ => trivial) 5 1).new [.slice none 0 0] t⟩⟩
theorem enters_wrLst : Enters 43 := qaq Tryd.func43 (by kernel_rfl) rfl
theorem enters_xLst : Enters 30 := qaq Tryd.func30 (by kernel_rfl) rfl
set_option maxHeartbeats 4000000 in
theorem wrLst_any (w : World) (m : MLs) (X : List Value) (hm : m.Ok) (hX : Fro 0 (lsAt m X) w) (hb : (lsB m).length ≤ 100000000000) : Calls Tryd.prog 43 #[.agg X.toArray, .func (.func 44) #[] #[]] w fun e w' => ∃ v', e = .returned v' ∧ S5 w v' (lsB m) w' := by
 have HC : Hid (∀ (w1 : World) (p : Nat) (u : World), Below w.heap.size w w1 → Ww w1 p [] [] u → Calls Tryd.prog 44 #[.pointer (some ⟨p, 0, none⟩), .agg X.toArray] u fun e u' => ∃ v', e = .returned v' ∧ Ww w1 p [] (lsB m) u') := Lib.hid fun w1 p u hw H => (by have h := wlst_any w1 p [] [] m X u hm (hX.below hw) (by simpa using hb) H; rw [List.nil_append] at h; exact h)
 have hln : (X).length = 99 := lsAt_len hm hX.now
 clear hb hX hm
 generalize lsB m = out at *
 have HLN := Lib.hid hln
 clear hln
 go_enter Tryd.func43, Tryd.ntmps43
 go_upto_region 0 with fail; refine wp_region_lit ?_
 refine qaa (qau (vs := X) rfl rfl) rfl ?_; (try simp only [Act.put, lyy])
 have HB : Hid (Below w.heap.size w (w.alloc (.cells X.toArray 29))) := Lib.hid ((Below.refl _ _).alloc (Nat.le_refl _) _)
 have HA := Lib.hid (Arr.new w X 29)
 generalize w.alloc (.cells X.toArray 29) = w1 at *
 generalize hg0 : w.heap.size = g0 at HA ⊢
 clear hg0
 refine qaa (qaf (v := .slice none 0 0) rfl rfl) rfl ?_; (try simp only [Act.put, lyy])
 refine qab ?_
 go_upto_region 1 with fail; refine wp_region_lit ?_
 refine qaa (qat (vs := [.slice none 0 0]) rfl (by kernel_rfl)) rfl ?_; (try simp only [Act.put, lyy])
 have E := Lib.hid (Ww.start w1 104)
 generalize hw1 : w1.alloc (.cells ([.slice none 0 0] : List Value).toArray 104) = a1 at E ⊢
 clear hw1
 generalize hg1 : w1.heap.size = g1 at E ⊢
 clear hg1
 refine qab ?_
 go_upto_region 2 with fail; refine wp_region_lit ?_
 refine qaa (qae (v := .func (.func 44) #[] #[]) rfl rfl) rfl ?_; (try simp only [Act.put, lyy])
 refine qaa (qaj (vs := X) rfl Tryd.underlying29 rfl (szR HLN.out (by kernel_rfl)) rfl (HA.out.below E.out.bl).range) rfl ?_; (try simp only [Act.put, lyy])
 refine qbj (run_callv2 enters_wlst rfl rfl rfl rfl) rfl (HC.out _ _ _ HB.out E.out) (fun v1 a2 hR => ?_); (try simp only [Act.put, lyy])
 obtain ⟨v, G⟩ := hR.ex
 have GG := Lib.hid G
 clear hR G E
 obtain ⟨xa, xn, xc, rfl⟩ := GG.out.isSlice
 refine qab ?_
 go_upto_region 3 with fail; refine wp_region_lit ?_
 refine qaa (qan (s := 0) (k := 0) rfl Tryd.underlying104 rfl (by kernel_rfl) rfl rfl) rfl ?_; (try simp only [Act.put, lyy])
 refine qaa (qav (v := .slice xa xn xc) rfl Tryd.underlying22 rfl rfl ((GG.out.get (i := 0) rfl).c 0 _ rfl)) rfl ?_; (try simp only [Act.put, lyy])
 refine qaa (qaf (v := .slice xa xn xc) rfl rfl) rfl ?_; (try simp only [Act.put, lyy])
 refine qab ?_
 go_wp2_with fail
 exact bodyPost_ret (results_tmp Tryd.results43 _ _ _) rfl ⟨_, rfl, (show S5 w1 _ out _ from ⟨GG.out.bl, GG.out.row⟩).mono HB.out⟩
set_option maxHeartbeats 4000000 in
theorem xLst_any (w : World) (m : MLs) (X : List Value) (hm : m.Ok) (hX : Fro 0 (lsAt m X) w) (hb : (lsB m).length ≤ 100000000000) : Calls Tryd.prog 30 #[.agg X.toArray] w fun e w' => ∃ v', e = .returned v' ∧ S5 w v' (lsB m) w' := by
 have HC : Hid (∀ w1 : World, Below w.heap.size w w1 → Calls Tryd.prog 43 #[.agg X.toArray, .func (.func 44) #[] #[]] w1 fun e w' => ∃ v', e = .returned v' ∧ S5 w1 v' (lsB m) w') := Lib.hid fun w1 hw => wrLst_any w1 m X hm (hX.below hw) hb
 have hln : (X).length = 99 := lsAt_len hm hX.now
 clear hb hX hm
 generalize lsB m = out at *
 have HLN := Lib.hid hln
 clear hln
 go_enter Tryd.func30, Tryd.ntmps30
 go_upto_region 0 with fail; refine wp_region_lit ?_
 refine qaa (qau (vs := X) rfl rfl) rfl ?_; (try simp only [Act.put, lyy])
 have HB : Hid (Below w.heap.size w (w.alloc (.cells X.toArray 29))) := Lib.hid ((Below.refl _ _).alloc (Nat.le_refl _) _)
 have HA := Lib.hid (Arr.new w X 29)
 generalize w.alloc (.cells X.toArray 29) = w1 at *
 generalize hg0 : w.heap.size = g0 at HA ⊢
 clear hg0
 refine qaa (qaf (v := .slice none 0 0) rfl rfl) rfl ?_; (try simp only [Act.put, lyy])
 refine qab ?_
 go_upto_region 1 with fail; refine wp_region_lit ?_
 refine qaa (qaj (vs := X) rfl Tryd.underlying29 rfl (szR HLN.out (by kernel_rfl)) rfl (HA.out).range) rfl ?_; (try simp only [Act.put, lyy])
 refine qbj (qao enters_wrLst rfl rfl rfl rfl) rfl (HC.out _ HB.out) (fun v1 a2 hR => ?_); (try simp only [Act.put, lyy])
 have HR := Lib.hid hR
 clear hR
 obtain ⟨xa, xc, rfl, -, -⟩ := HR.out.sl
 refine qaa (qaf (v := .slice xa out.length xc) rfl rfl) rfl ?_; (try simp only [Act.put, lyy])
 refine qab ?_
 go_wp2_with fail
 exact bodyPost_ret (results_tmp Tryd.results30 _ _ _) rfl ⟨_, rfl, HR.out.mono HB.out⟩
end Go.Proofs.YtcgbgmbnagmohaaDoor
namespace Go.Proofs.YtcgbgmbnagmohaaDoor
open Go.RowKit
set_option maxRecDepth 20000
theorem run_leqI {w : World} {ρ : Operand → Value} {o : Oper} {x y : Operand} {t t' : TypeId} {k : IntKind} {a b : Int} {c : Bool} (ho : o.op = .binOp .leq t x y t') (hx : ρ x = .int k a) (hy : ρ y = .int k b) (h : decide (a ≤ b) = c) : (execOp ρ o).run Tryd.prog w = .ok (.value (.bool c)) w := by
 obtain ⟨dst, op, type, pos, after, guard⟩ := o
 subst ho
 subst h
 go_simp
theorem sl_takeC {ao : Option Addr} {c : List (BitVec 8)} {cc n : Nat} {V : World} (h : Sl (.slice ao c.length cc) c V) (hn : n ≤ c.length) : Sl (.slice ao (c.take n).length cc) (c.take n) V := by
 obtain ⟨ao', c', hv, h1, h2⟩ := h
 simp only [Value.slice.injEq] at hv
 obtain ⟨rfl, -, rfl⟩ := hv
 refine ⟨ao, cc, rfl, by rw [List.length_take]; omega, fun hne => ?_⟩
 obtain ⟨g, f, h3, h4, h5⟩ := h2 (fun h => hne (by rw [h]; exact List.take_nil))
 exact ⟨g, f, h3, h4, by rw [List.map_take]; exact qcc h5⟩
def txtL : List (BitVec 8) := [107, 101, 121, 119, 97, 114, 100, 32, 108, 105, 115, 116]
def conB (m : MLs) : List (BitVec 8) := txtL ++ lsF m m.devs.length
theorem lsB_len64 {m : MLs} (h : m.Ok) : (lsB m).length = (lsF m m.devs.length).length + 64 := by
 unfold lsB
 rw [List.length_append, h.sig]
theorem lsB_take {m : MLs} : (lsB m).take (lsF m m.devs.length).length = lsF m m.devs.length := by
 unfold lsB
 exact List.take_left' rfl
theorem lsF_pos {m : MLs} (h : m.Ok) (i : Nat) : 32 ≤ (lsF m i).length := by
 unfold lsF
 simp only [List.length_append]
 have := h.ident
 omega
theorem conB_len {m : MLs} : (conB m).length = 12 + (lsF m m.devs.length).length := by
 unfold conB
 rw [List.length_append]
 rfl
theorem run_appFull {w : World} {ty : TypeId} {g : Nat} {l m : List (BitVec 8)} {vx : Value} (hr : w.rangeAt g 0 (l.map b8)) (hv : Sl vx m w) (hm : 0 < m.length) (hn : l.length + m.length ≤ 100000000000) :
  ∃ v' u', (Builtin.append_ #[22, 22] ty #[.slice (some ⟨g, 0, none⟩) l.length l.length, vx]).run Tryd.prog w = .ok v' u' ∧ S5 w v' (l ++ m) u' := by
 obtain ⟨b, f, c, rfl, _, hr2⟩ := hv.adr hm
 have hi : (Tryd.prog.info? 5).map (fun i => (i.size, i.bytes, i.zero)) = some (1, 1, some (.int .u8 0)) := by kernel_rfl
 obtain ⟨inf, q1, q2⟩ := Option.map_eq_some_iff.1 hi
 obtain ⟨e1, e2, e3⟩ : inf.size = 1 ∧ inf.bytes = 1 ∧ inf.zero = some (.int .u8 0) := by simpa using q2
 have h := run_append_grow (P := Tryd.prog) w 22 ty 5 inf (.int .u8 0) Tryd.underlying22 q1 e3 ⟨g, 0, none⟩ l.length l.length (l.map b8) (by rw [e1]; simp) (fun j v hj => by rw [Addr.add_mid]; exact hr j v hj)
  ⟨b, f, none⟩ m.length c (m.map b8) (by rw [e1]; simp) (fun j v hj => by rw [Addr.add_mid]; exact hr2 j v hj) (by omega) (by omega) (by rw [e2]; exact growslice_fits (by omega) (by omega))
 refine ⟨_, _, h, ⟨(Below.refl _ _).drew.alloc (Nat.le_refl _) _, ?_, .inr ⟨w.heap.size, _, _, by rw [List.length_append], Nat.le_refl _, heap_alloc_new w.drew _, ?_, ?_, ?_, ?_⟩⟩⟩
 ·simp
 ·rw [List.length_append]; exact grownCap_ge w _ _ _
 ·exact grownCap_le_maxLen w _ _ _ (by unfold maxLen; omega)
 ·simp only [Array.size_append, List.size_toArray, size_zeroCells, List.length_map]
  have := grownCap_ge w (l.length + m.length) l.length 5
  show l.length + m.length + (grownCap w (l.length + m.length) l.length 5 - (l.length + m.length)) * 1 = grownCap w (l.length + m.length) l.length 5 * 1
  omega
 ·simp only [Array.toList_append, List.map_append]
  exact List.take_left' (by simp)
theorem wpList_appFull {w : World} {ops : Array Oper} {Q : Exit → Act → World → Prop} {rest : List Oper} {o : Oper} {a : Act} {s x : Operand} {g : Nat} {l m : List (BitVec 8)} {vx : Value} (hg : o.guard = none) (ho : o.op = .call { callee := .builtin .append, args := #[s, x], argTypes := #[22, 22] })
  (hs : a.eval s = .slice (some ⟨g, 0, none⟩) l.length l.length) (hx : a.eval x = vx) (hr : w.rangeAt g 0 (l.map b8)) (hv : Sl vx m w) (hm : 0 < m.length) (hn : l.length + m.length ≤ 100000000000)
  (h : ∀ v' u', S5 w v' (l ++ m) u' → wpList Tryd.prog ops Q rest (a.put o.dst v') u') : wpList Tryd.prog ops Q (o :: rest) a w := by
 obtain ⟨v', u', h1, h2⟩ := run_appFull (ty := o.type) hr hv hm hn
 refine qaa (v := v') (w' := u') ?_ hg (h v' u' h2)
 unfold execOp
 simp [ho, resolve, invoke, builtin, hs, hx, h1, Result.andThen]
theorem mark_range (w : World) (C : Array Value) (t : TypeId) : (w.alloc (.cells C t (C.size, C.size + 1))).rangeAt w.heap.size 0 C.toList := fun j v hj => by
 rw [Nat.zero_add]
 have h : (w.alloc (.cells C t (C.size, C.size + 1))).heap[w.heap.size]? = some (.cells C t (C.size, C.size + 1)) := heap_alloc_new w _
 rw [cell_of_row _ _ j C t _ h]
 simpa using hj
theorem run_cloneE {w : World} {ty : TypeId} {l : List MPk} {a : Option Addr} {c : Nat} (hs : SlR 33 pkAt l a c w) (hk : ∀ p ∈ l, p.key.length = 32) (hn : l.length ≤ 60000) :
  ∃ v' u' css, (Builtin.append_ #[25, 25] ty #[.slice none 0 0, .slice a l.length c]).run Tryd.prog w = .ok v' u' ∧ u'.ownsRow w.heap.size 34 33 v' l.length css.flatten ∧ css = l.map pkC ∧ Below w.heap.size w u' := by
 have hi : (Tryd.prog.info? 34).map (fun i => (i.size, i.zero.map (·.cells.size), i.bytes)) = some (33, some 33, 40) := by kernel_rfl
 obtain ⟨inf, q1, q2⟩ := Option.map_eq_some_iff.1 hi
 obtain ⟨e1, e2, e3⟩ : inf.size = 33 ∧ inf.zero.map (·.cells.size) = some 33 ∧ inf.bytes = 40 := by simpa using q2
 obtain ⟨z, e4, e5⟩ := Option.map_eq_some_iff.1 e2
 by_cases he : l = []
 ·subst he
  refine ⟨.slice none 0 0, w, [], ?_, ⟨rfl, .inl ⟨rfl, rfl⟩⟩, rfl, Below.refl _ _⟩
  have hl : ∀ b : Addr, (loadCells b 0).run Tryd.prog w = .ok #[] w := fun b => by simpa using run_loadCells_list (P := Tryd.prog) w b [] (by simp)
  cases a <;> simp [Builtin.append_, run_underlying Tryd.underlying25, sizeOf, typeInfo, q1, Builtin.lenOf, Builtin.firstCells, hl]
 ·obtain ⟨_, css, h2, h3, h4, h5⟩ := hs
  obtain ⟨g, f, rfl, hg, hr⟩ := h5 he
  have ec : css = l.map pkC := by
   apply List.ext_getElem?
   intro i
   rcases Nat.lt_or_ge i l.length with hi | hi
   ·rw [List.getElem?_map, List.getElem?_eq_getElem hi, List.getElem?_eq_getElem (by rw [h2]; exact hi)]
    exact congrArg some (h4 i _ _ (List.getElem?_eq_getElem hi) (List.getElem?_eq_getElem (by rw [h2]; exact hi)))
   ·rw [List.getElem?_eq_none (by omega), List.getElem?_eq_none (by rw [List.length_map]; exact hi)]
  obtain ⟨v', w', k1, k2, k3, _⟩ := run_append_own (P := Tryd.prog) w w.heap.size 25 ty 34 inf z 33 40 Tryd.underlying25 q1 e4 e1 e3 e5 (by omega) (.slice none 0 0) 0 [] (World.ownsRow_nil _ _ _ _) ⟨g, f, none⟩ l.length c css.flatten
   (by rw [flat_len h3, h2]) (fun j v hj => by rw [Addr.add_mid]; exact hr j v hj) (fun v hv => by
    obtain ⟨x, hx, hv⟩ := List.mem_flatten.1 hv
    rw [ec] at hx
    obtain ⟨p, hp, rfl⟩ := List.mem_map.1 hx
    exact qc2 (hk p hp) v hv) (by unfold maxLen; omega) (by omega) (Nat.le_refl _)
  refine ⟨v', w', css, k1, ?_, ec, below_grown k3 (fun k hk => by cases hk) (Nat.le_refl _)⟩
  rwa [Nat.zero_add, List.nil_append] at k2
theorem wpList_cloneE {w : World} {ops : Array Oper} {Q : Exit → Act → World → Prop} {rest : List Oper} {o : Oper} {a : Act} {s x : Operand} {l : List MPk} {ao : Option Addr} {c : Nat} (hg : o.guard = none) (ho : o.op = .call { callee := .builtin .append, args := #[s, x], argTypes := #[25, 25] })
  (hs : a.eval s = .slice none 0 0) (hx : a.eval x = .slice ao l.length c) (hr : SlR 33 pkAt l ao c w) (hk : ∀ p ∈ l, p.key.length = 32) (hn : l.length ≤ 60000)
  (h : ∀ a' c' u', Fro w.heap.size (SlR 33 pkAt l a' c') u' → Below w.heap.size w u' → wpList Tryd.prog ops Q rest (a.put o.dst (.slice a' l.length c')) u') : wpList Tryd.prog ops Q (o :: rest) a w := by
 obtain ⟨v', u', css, h1, h2, h3, h4⟩ := run_cloneE (ty := o.type) hr hk hn
 have key : Fro w.heap.size (fun V => ∃ a' c', v' = .slice a' l.length c' ∧ SlR 33 pkAt l a' c' V) u' := fun V hV =>
  slR_own (qbs h2 fun k hk => hV.block k (qa4 h2 hk).1 (qa4 h2 hk).2 (by simp)) rfl (by rw [h3, List.length_map]) (fun x hx => by rw [h3] at hx; obtain ⟨p, hp, rfl⟩ := List.mem_map.1 hx; exact qa9 (hk p hp)) fun i m cs q1 q2 => by
   rw [h3, List.getElem?_map, q1] at q2
   exact (Option.some.inj q2).symm
 obtain ⟨a', c', rfl, _⟩ := key.now
 refine qaa (v := .slice a' l.length c') (w' := u') ?_ hg (h a' c' u' (fun V hV => ?_) h4)
 ·unfold execOp
  simp [ho, resolve, invoke, builtin, hs, hx, h1, Result.andThen]
 ·obtain ⟨a2, c2, q1, q2⟩ := key V hV
  simp only [Value.slice.injEq] at q1
  obtain ⟨rfl, _, rfl⟩ := q1
  exact q2
def wiB (n : Int) : Bool := decide (1 ≤ n) && decide (n ≤ 1099511627776)
def riB : Int → List MPk → Bool
 | _, [] => true
 | h, p :: l => wiB p.id && decide (h < p.id) && riB p.id l
theorem riB_at {l : List MPk} {j : Nat} (hj : j < l.length) (h : Int) : riB h (l.drop j) = (wiB l[j].id && decide (h < l[j].id) && riB l[j].id (l.drop (j + 1))) := by
 rw [List.drop_eq_getElem_cons hj]
 rfl
theorem riB_end (l : List MPk) (h : Int) : riB h (l.drop l.length) = true := by
 rw [List.drop_length]
 rfl
def frB (m : MLs) : Bool := decide (1 ≤ m.devs.length) && decide (m.devs.length ≤ 8) && riB 0 m.devs && wiB m.acc && wiB m.ver
def rightB (m : MLs) : Bool := frB m && verB m.ident (conB m) m.sig
end Go.Proofs.YtcgbgmbnagmohaaDoor
