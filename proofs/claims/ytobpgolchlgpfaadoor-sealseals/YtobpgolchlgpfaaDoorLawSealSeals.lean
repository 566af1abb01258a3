/- The law SealSeals, walked. -/
import Derived.Test.YtobpgolchlgpfaaDoorAesRef4
import Derived.Test.YtobpgolchlgpfaaDoorKeySl
import Derived.Test.YtobpgolchlgpfaaDoorAppW
import Derived.Test.YtobpgolchlgpfaaDoorRef432
import Derived.Test.YtobpgolchlgpfaaDoorMacFill
import Derived.Test.YtobpgolchlgpfaaDoorMacExpand
import Derived.Test.YtobpgolchlgpfaaDoorMacKeys
import Derived.Test.YtobpgolchlgpfaaDoorSealDef
import Derived.Test.YtobpgolchlgpfaaDoorSealKnown
namespace Go.Proofs.YtobpgolchlgpfaaDoor
open Go.RowKit
set_option maxRecDepth 20000

theorem grown_setCell (u : World) (g j : Nat) (v : Value) : u.grownBy (u.setCell ⟨g, j, none⟩ v) (some g) :=
  ⟨rfl, rfl, rfl, by simp, fun k _ hne => by
    have : g ≠ k := fun e => hne (by rw [e])
    simp [World.setCell, Array.getElem?_modify, this]⟩
/-- Blocks of one's own, and beside them what grows. -/
structure CtI (w : World) (L : List (Nat × List (BitVec 8))) (v : Value) (l : List (BitVec 8)) (u : World) : Prop where
  M : Ms w L u
  O : u.ownsRow w.heap.size 5 1 v l.length (l.map b8)
  ne : ∀ p ∈ L, v.ownBlock ≠ some p.1
section
variable {w u u' : World} {L : List (Nat × List (BitVec 8))} {v v' : Value} {l : List (BitVec 8)}
theorem CtI.below (h : CtI w L v l u) (hb : Below u.heap.size u u') : CtI w L v l u' := ⟨h.M.below hb, own_below h.O hb, h.ne⟩
theorem CtI.add (h : CtI w L v l u) {g : Nat} {m : List (BitVec 8)} (hb : Below u.heap.size u u') (hg : u.heap.size ≤ g) (hA : Arr g (m.map b8) u') : CtI w ((g, m) :: L) v l u' :=
  ⟨h.M.add hb hg hA, own_below h.O hb, fun p hp => by
    rcases List.mem_cons.1 hp with rfl | hp
    · intro he
      have := (h.O.lt _ he).2
      have e : (g, m).1 = g := rfl
      omega
    · exact h.ne p hp⟩
theorem CtI.drop {p : Nat × List (BitVec 8)} (h : CtI w (p :: L) v l u) : CtI w L v l u := ⟨h.M.drop, h.O, fun q hq => h.ne q (List.mem_cons_of_mem _ hq)⟩
theorem CtI.set (h : CtI w L v l u) (i : Nat) {g : Nat} {m : List (BitVec 8)} (hi : L[i]? = some (g, m)) {j : Nat} (hj : j < m.length) (x : BitVec 8) : CtI w (L.set i (g, m.set j x)) v l (u.setCell ⟨g, j, none⟩ (b8 x)) := by
  have hne := h.ne _ (List.mem_of_getElem? hi)
  refine ⟨h.M.set i hi hj x, h.O.kept (grown_setCell u g j (b8 x)) (.inr hne), fun p hp => ?_⟩
  rcases List.mem_or_eq_of_mem_set hp with hp | rfl
  · exact h.ne p hp
  · exact hne
theorem CtI.grow (h : CtI w L v l u) {x : BitVec 8} (h3 : u'.ownsRow w.heap.size 5 1 v' (l.length + [x].length) ((l ++ [x]).map b8)) (hb : Below w.heap.size u u') (hst : Stand v u v' u') : CtI w L v' (l ++ [x]) u' :=
  ⟨⟨h.M.bl.trans hb, h.M.nd, fun p hp => ⟨(h.M.all p hp).1, (hst _ _ (h.M.all p hp).2 (h.ne p hp)).1⟩⟩, by rw [List.length_append]; exact h3, fun p hp => (hst _ _ (h.M.all p hp).2 (h.ne p hp)).2⟩
end
set_option maxRecDepth 20000 in
set_option maxHeartbeats 8000000 in
theorem rcounter_new (key first : List (BitVec 8)) (v : Value) (b : List (BitVec 8)) (w : World) (hK : key.length = 32) (hF : first.length = 16) (hv : Sl v b w) (hb : b.length ≤ 1000000) :
    Calls Tryd.prog 21 #[.agg (key.map b8).toArray, .agg (first.map b8).toArray, v] w fun e w' => ∃ v', e = .returned v' ∧ S5 w v' (ctr key first b) w' := by
  have hM := Lib.hid (Ms.nil w)
  have HV := Lib.hid hv
  have hsl := sched_len hK
  obtain ⟨f, hf⟩ : ∃ f : Nat → BitVec 8, f = ctrV key first b := ⟨_, rfl⟩
  have EC : Hid (ctr key first b = tab b.length f) := Lib.hid (by rw [hf]; rfl)
  have EF : Hid (∀ k i, i < 16 → b.getD (16 * k + i) 0 ^^^ (hideB (sched key) (cnt first k)).getD i 0 = f (16 * k + i)) := Lib.hid fun k i hi => by
    rw [hf, ctrV, show (16 * k + i) / 16 = k by omega, show (16 * k + i) % 16 = i by omega]; rfl
  have HC := Lib.hid (cnt_len hF)
  have HTS : Hid (∀ k, tab (k + 1) f = tab k f ++ [f k]) := Lib.hid fun k => tab_succ k f
  have HTL : Hid (∀ k, (tab k f).length = k) := Lib.hid fun k => tab_len k f
  clear hf
  obtain ⟨ao, c, rfl, -, -⟩ := hv
  generalize hn : b.length = n at *
  have HN := Lib.hid hn; clear hn
  go_enter Tryd.func21, Tryd.ntmps21
  go_upto_region 0 with fail; refine wp_region_lit ?_
  refine wpList_val (run_box rfl rfl) rfl ?_; (try simp only [Act.put, List.setIfInBounds_toArray, List.set_cons_zero, List.set_cons_succ]); replace hM := Lib.hid (hM.out.new (key) 29); generalize w.alloc (.cells ((key).map b8).toArray 29) = a1 at *; generalize w.heap.size = g1 at *
  refine wpList_val (run_box rfl rfl) rfl ?_; (try simp only [Act.put, List.setIfInBounds_toArray, List.set_cons_zero, List.set_cons_succ]); replace hM := Lib.hid (hM.out.new (first) 23); generalize a1.alloc (.cells ((first).map b8).toArray 23) = a2 at *; generalize a1.heap.size = g2 at *
  refine wpList_val (run_asg (v := .slice none 0 0) rfl rfl) rfl ?_; (try simp only [Act.put, List.setIfInBounds_toArray, List.set_cons_zero, List.set_cons_succ])
  refine wpList_end ?_
  go_upto_region 1 with fail; refine wp_region_lit ?_
  refine wpList_callR (run_call0 enters_boxes rfl rfl) rfl (boxes_any _) (fun v1 a3 hR => ?_); (try simp only [Act.put, List.setIfInBounds_toArray, List.set_cons_zero, List.set_cons_succ])
  obtain ⟨gb, cb, rfl, hcb, hgb, AB⟩ := own_arr hR.O (by rw [bxL_len]; omega)
  replace hM := Lib.hid (hM.out.add hR.bl hgb AB)
  rw [bxL_len]
  rw [bxL_len] at hcb
  clear hR AB hgb
  obtain ⟨X, hX⟩ : ∃ X, X = bxL := ⟨_, rfl⟩
  have hxl : X.length = 256 := by rw [hX, bxL_len]
  rw [← hX] at hM
  have EX : Hid (X = bxL) := Lib.hid hX
  clear hX
  refine wpList_val (run_asg (v := .slice (some _) _ _) rfl rfl) rfl ?_; (try simp only [Act.put, List.setIfInBounds_toArray, List.set_cons_zero, List.set_cons_succ])
  refine wpList_end ?_
  go_upto_region 2 with fail; refine wp_region_lit ?_
  refine wpList_val (run_mv (v := .slice (some _) _ _) rfl rfl) rfl ?_; (try simp only [Act.put, List.setIfInBounds_toArray, List.set_cons_zero, List.set_cons_succ])
  refine wpList_val (run_ldM (vs := key.map b8) rfl Tryd.underlying29 rfl (sz szKey hK) rfl (hM.out.get (i := 2) rfl).range) rfl ?_; (try simp only [Act.put, List.setIfInBounds_toArray, List.set_cons_zero, List.set_cons_succ])
  have HSB : Hid (∀ V L, Ms w ((gb, X) :: L) V → Sl (.slice (some ⟨gb, 0, none⟩) 256 cb) bxL V) := Lib.hid fun V L h => by
    rw [← EX.out]
    have := Sl.arr (h.get (i := 0) rfl) (c := cb) (by omega)
    rw [hxl] at this
    exact this
  refine wpList_callR (run_call2 enters_expanded rfl rfl rfl rfl) rfl (expanded_any _ key _ (HSB.out _ _ hM.out) hK) (fun v2 a4 hR => ?_); (try simp only [Act.put, List.setIfInBounds_toArray, List.set_cons_zero, List.set_cons_succ])
  obtain ⟨gw, cw, rfl, hcw, hgw, AW⟩ := own_arr hR.O (by omega)
  replace hM := Lib.hid (hM.out.add hR.bl hgw AW)
  rw [hsl]
  rw [hsl] at hcw
  clear hR AW hgw
  generalize sched key = W at *
  have HSW : Hid (∀ V L, Ms w ((gw, W) :: L) V → Sl (.slice (some ⟨gw, 0, none⟩) 240 cw) W V) := Lib.hid fun V L h => by
    have := Sl.arr (h.get (i := 0) rfl) (c := cw) (by omega)
    rw [hsl] at this
    exact this
  refine wpList_val (run_asg (v := .slice (some _) _ _) rfl rfl) rfl ?_; (try simp only [Act.put, List.setIfInBounds_toArray, List.set_cons_zero, List.set_cons_succ])
  refine wpList_end ?_
  go_upto_region 3 with fail; refine wp_region_lit ?_
  refine wpList_val (run_asg (v := .slice none 0 0) rfl rfl) rfl ?_; (try simp only [Act.put, List.setIfInBounds_toArray, List.set_cons_zero, List.set_cons_succ])
  refine wpList_end ?_
  have hI : Hid (CtI w [(gw, W), (gb, X), (g2, cnt first 0), (g1, key)] (.slice none 0 0) (tab 0 f) a4) := Lib.hid ⟨hM.out, World.ownsRow_nil _ _ _ _, fun _ _ h => by cases h⟩
  clear hM
  go_wp2_with fail
  go_loopw [9, 10] (fun s9 s10 u => ∃ k : Nat, 16 * k ≤ n + 16 ∧ s10 = .int .i64 ((16 * k : Nat) : Int) ∧ CtI w [(gw, W), (gb, X), (g2, cnt first k), (g1, key)] s9 (tab (min (16 * k) n) f) u) (fun _ z _ => (n + 16 - intOf z).toNat)
  case atStart => exact ⟨0, by omega, rfl, by rw [show min (16 * 0) n = 0 by omega]; exact hI.out⟩
  case round =>
    obtain ⟨k, hk, rfl, hJ⟩ := hrel
    replace hI := Lib.hid hJ
    clear hJ
    go_upto_region 5 with fail; refine wp_region_lit ?_
    refine wpList_val (run_mv (v := .int _ _) rfl rfl) rfl ?_; (try simp only [Act.put, List.setIfInBounds_toArray, List.set_cons_zero, List.set_cons_succ]); refine wpList_val (run_mv (v := .slice _ _ _) rfl rfl) rfl ?_; (try simp only [Act.put, List.setIfInBounds_toArray, List.set_cons_zero, List.set_cons_succ])
    refine wpList_val (run_len rfl Tryd.underlying30 rfl) rfl ?_; (try simp only [Act.put, List.setIfInBounds_toArray, List.set_cons_zero, List.set_cons_succ])
    by_cases hlt : n ≤ 16 * k
    · refine wpList_val (run_lssb (c := false) rfl rfl rfl (decide_eq_false (by omega))) rfl ?_; (try simp only [Act.put, List.setIfInBounds_toArray, List.set_cons_zero, List.set_cons_succ])
      refine wpList_end ?_
      rw [show min (16 * k) n = n by omega] at hI
      have hpl := HTL.out n
      generalize tab n f = r at *
      go_upto_region 17 with fail; refine wp_region_lit ?_
      refine wpList_val (run_mv (v := u9) rfl rfl) rfl ?_; (try simp only [Act.put, List.setIfInBounds_toArray, List.set_cons_zero, List.set_cons_succ])
      refine wpList_val (run_asg (v := u9) rfl rfl) rfl ?_; (try simp only [Act.put, List.setIfInBounds_toArray, List.set_cons_zero, List.set_cons_succ])
      refine wpList_end ?_
      go_wp2_with fail
      refine bodyPost_ret (results_tmp Tryd.results21 _ _ _) rfl ⟨_, rfl, ?_⟩
      rw [EC.out]
      exact ⟨hI.out.M.bl, hI.out.O⟩
    · refine wpList_val (run_lssb (c := true) rfl rfl rfl (decide_eq_true (by omega))) rfl ?_; (try simp only [Act.put, List.setIfInBounds_toArray, List.set_cons_zero, List.set_cons_succ])
      refine wpList_end ?_
      rw [show min (16 * k) n = 16 * k by omega] at hI
      have HFk := Lib.hid (EF.out k)
      generalize hkk : 16 * k = kk at *
      have hcl := HC.out k
      have HX : Hid (cnt first (k + 1) = nxt 16 (cnt first k)) := Lib.hid rfl
      obtain ⟨gc, fc, cc, e1, hrb⟩ := HV.out.rd (by rw [HN.out]; omega)
      injection e1 with e1 e2 e1'
      clear e2
      subst e1 e1'
      have HB : Hid (∀ V L, Ms w L V → ∀ i, i < n → V.cell? ⟨gc, fc + i, none⟩ = some (b8 (b.getD i 0))) := Lib.hid fun V _ hV i hi => hrb V hV.bl i (by rw [HN.out]; exact hi)
      clear hrb
      go_upto_region 7 with fail; refine wp_region_lit ?_
      refine wpList_val (run_mv (v := .slice (some _) _ _) rfl rfl) rfl ?_; (try simp only [Act.put, List.setIfInBounds_toArray, List.set_cons_zero, List.set_cons_succ]); refine wpList_val (run_mv (v := .slice (some _) _ _) rfl rfl) rfl ?_; (try simp only [Act.put, List.setIfInBounds_toArray, List.set_cons_zero, List.set_cons_succ])
      refine wpList_val (run_ldM (vs := (cnt first k).map b8) rfl Tryd.underlying23 rfl (sz sz16 hcl) rfl (hI.out.M.get (i := 2) rfl).range) rfl ?_; (try simp only [Act.put, List.setIfInBounds_toArray, List.set_cons_zero, List.set_cons_succ])
      refine wpList_callR (run_call1 enters_rof rfl rfl rfl) rfl (rof_any (cnt first k) _ hcl) (fun v3 b1 hR => ?_); (try simp only [Act.put, List.setIfInBounds_toArray, List.set_cons_zero, List.set_cons_succ])
      replace hI := Lib.hid (hI.out.below hR.bl)
      have H3 := Lib.hid hR.sl
      clear hR
      refine wpList_callR (run_call3 enters_hidden rfl rfl rfl rfl rfl) rfl (hidden_any _ _ W v3 (cnt first k) _ (HSB.out _ _ hI.out.M.drop) (HSW.out _ _ hI.out.M) hsl H3.out hcl) (fun v4 b2 hR => ?_); (try simp only [Act.put, List.setIfInBounds_toArray, List.set_cons_zero, List.set_cons_succ])
      have hml : (hideB W (cnt first k)).length = 16 := hidI_len _ _ _
      obtain ⟨gm, cm, rfl, -, hgm, AM⟩ := own_arr hR.O (by omega)
      replace hI := Lib.hid (hI.out.add hR.bl hgm AM)
      rw [hml]
      clear hR AM hgm H3
      generalize hideB W (cnt first k) = m at *
      generalize hF0 : cnt first k = fk at *
      clear hF0
      refine wpList_val (run_asg (v := .slice (some _) _ _) rfl rfl) rfl ?_; (try simp only [Act.put, List.setIfInBounds_toArray, List.set_cons_zero, List.set_cons_succ])
      refine wpList_end ?_
      go_upto_region 8 with fail
      generalize hvv : u9 = vv at *
      clear hvv
      go_wp2_with fail
      go_loopw [9, 12] (fun s9 s12 u => ∃ i : Nat, i ≤ 16 ∧ kk + i ≤ n ∧ s12 = .int .i64 (i : Int) ∧ CtI w [(gm, m), (gw, W), (gb, X), (g2, fk), (g1, key)] s9 (tab (kk + i) f) u) (fun _ z _ => (16 - intOf z).toNat)
      case atStart => exact ⟨0, by omega, by omega, rfl, hI.out⟩
      case round =>
        obtain ⟨i, hi, hin, rfl, hJ⟩ := hrel
        replace hI := Lib.hid hJ
        clear hJ
        by_cases hgo : i < 16 ∧ kk + i < n
        · obtain ⟨hi16, hin2⟩ := hgo
          have hpl := HTL.out (kk + i)
          have ET := Lib.hid (HTS.out (kk + i))
          have EJ := Lib.hid (HFk.out i hi16)
          go_upto_region 9 with fail; refine wp_region_lit ?_
          refine wpList_val (run_mv (v := .int _ _) rfl rfl) rfl ?_; (try simp only [Act.put, List.setIfInBounds_toArray, List.set_cons_zero, List.set_cons_succ])
          refine wpList_val (run_lssb (c := true) rfl rfl rfl (decide_eq_true (by omega))) rfl ?_; (try simp only [Act.put, List.setIfInBounds_toArray, List.set_cons_zero, List.set_cons_succ])
          refine wpList_val (run_mv (v := .bool true) rfl rfl) rfl ?_; (try simp only [Act.put, List.setIfInBounds_toArray, List.set_cons_zero, List.set_cons_succ])
          refine wpList_valG (run_mv (v := .int _ _) rfl rfl) rfl ?_; (try simp only [Act.put, List.setIfInBounds_toArray, List.set_cons_zero, List.set_cons_succ])
          refine wpList_valG (run_mv (v := .int _ _) rfl rfl) rfl ?_; (try simp only [Act.put, List.setIfInBounds_toArray, List.set_cons_zero, List.set_cons_succ])
          refine wpList_valG (run_addN rfl rfl rfl (by omega)) rfl ?_; (try simp only [Act.put, List.setIfInBounds_toArray, List.set_cons_zero, List.set_cons_succ])
          refine wpList_valG (run_mv (v := .slice (some _) _ _) rfl rfl) rfl ?_; (try simp only [Act.put, List.setIfInBounds_toArray, List.set_cons_zero, List.set_cons_succ])
          refine wpList_valG (run_len rfl Tryd.underlying30 rfl) rfl ?_; (try simp only [Act.put, List.setIfInBounds_toArray, List.set_cons_zero, List.set_cons_succ])
          refine wpList_valG (run_lssb (c := true) rfl rfl rfl (decide_eq_true (by omega))) rfl ?_; (try simp only [Act.put, List.setIfInBounds_toArray, List.set_cons_zero, List.set_cons_succ])
          refine wpList_val (run_pick (b := true) (v := .bool true) rfl rfl rfl) rfl ?_; (try simp only [Act.put, List.setIfInBounds_toArray, List.set_cons_zero, List.set_cons_succ])
          refine wpList_end ?_
          have C1 : Hid (∀ V, Below wr.heap.size wr V → V.cell? ⟨gc, fc + (kk + i), none⟩ = some (b8 (b.getD (kk + i) 0))) := Lib.hid fun V hV => HB.out V _ (hI.out.below hV).M _ hin2
          have C2 : Hid (∀ V, Below wr.heap.size wr V → V.cell? ⟨gm, 0 + i, none⟩ = some (b8 (m.getD i 0))) := Lib.hid fun V hV => by
            rw [Nat.zero_add]; exact ((hI.out.below hV).M.get (i := 0) rfl).get8 (by omega)
          generalize hT : tab (kk + i) f = T at *
          clear hT
          generalize f (kk + i) = x at *
          generalize hvv2 : u9 = vv2 at *
          clear hvv2
          go_upto_region 11 with fail
          refine wp_region_noPanic ?_; refine wp_region_late (S := Till 13 (fun V => Below wr.heap.size wr V)) (by kernel_rfl) (.inr (Below.refl _ _).drew) (fun _ => ?_); have hS : Below wr.heap.size wr wr.drew := (Below.refl _ _).drew
          generalize wr.drew = d1 at *
          refine wpAnyD_take 0 rfl rfl (by kernel_rfl) (by kernel_rfl) (by kernel_rfl) (by kernel_rfl) (by kernel_rfl) (fun _ _ _ h => h) rfl (fun V hV => run_mv (v := vv2) rfl rfl) hS ?_; (try simp only [Act.put, List.setIfInBounds_toArray, List.set_cons_zero, List.set_cons_succ])
          refine wpAnyD_take 1 rfl rfl (by kernel_rfl) (by kernel_rfl) (by kernel_rfl) (by kernel_rfl) (by kernel_rfl) (fun _ _ _ h => h) rfl (fun V hV => run_mv (v := .slice (some _) _ _) rfl rfl) hS ?_; (try simp only [Act.put, List.setIfInBounds_toArray, List.set_cons_zero, List.set_cons_succ])
          refine wpAnyD_take 2 rfl rfl (by kernel_rfl) (by kernel_rfl) (by kernel_rfl) (by kernel_rfl) (by kernel_rfl) (fun _ _ _ h => h) rfl (fun V hV => run_mv (v := .int _ _) rfl rfl) hS ?_; (try simp only [Act.put, List.setIfInBounds_toArray, List.set_cons_zero, List.set_cons_succ])
          refine wpAnyD_take 3 rfl rfl (by kernel_rfl) (by kernel_rfl) (by kernel_rfl) (by kernel_rfl) (by kernel_rfl) (fun _ _ _ h => h) rfl (fun V hV => run_mv (v := .int _ _) rfl rfl) hS ?_; (try simp only [Act.put, List.setIfInBounds_toArray, List.set_cons_zero, List.set_cons_succ])
          refine wpAnyD_take 4 rfl rfl (by kernel_rfl) (by kernel_rfl) (by kernel_rfl) (by kernel_rfl) (by kernel_rfl) (fun _ _ _ h => h) rfl (fun V hV => run_addN rfl rfl rfl (by omega)) hS ?_; (try simp only [Act.put, List.setIfInBounds_toArray, List.set_cons_zero, List.set_cons_succ])
          refine wpAnyD_take 5 rfl rfl (by kernel_rfl) (by kernel_rfl) (by kernel_rfl) (by kernel_rfl) (by kernel_rfl) (fun _ _ _ h => h) rfl (fun V hV => run_ixs rfl Tryd.underlying30 (by kernel_rfl) rfl rfl (by omega)) hS ?_; (try simp only [Act.put, List.setIfInBounds_toArray, List.set_cons_zero, List.set_cons_succ])
          refine wpAnyD_take 6 rfl rfl (by kernel_rfl) (by kernel_rfl) (by kernel_rfl) (by kernel_rfl) (by kernel_rfl) (fun _ _ _ h => h) rfl (fun V hV => run_ld8 rfl rfl (C1.out V hV)) hS ?_; (try simp only [Act.put, List.setIfInBounds_toArray, List.set_cons_zero, List.set_cons_succ])
          refine wpAnyD_take 7 rfl rfl (by kernel_rfl) (by kernel_rfl) (by kernel_rfl) (by kernel_rfl) (by kernel_rfl) (fun _ _ _ h => h) rfl (fun V hV => run_mv (v := .slice (some _) _ _) rfl rfl) hS ?_; (try simp only [Act.put, List.setIfInBounds_toArray, List.set_cons_zero, List.set_cons_succ])
          refine wpAnyD_take 8 rfl rfl (by kernel_rfl) (by kernel_rfl) (by kernel_rfl) (by kernel_rfl) (by kernel_rfl) (fun _ _ _ h => h) rfl (fun V hV => run_mv (v := .int _ _) rfl rfl) hS ?_; (try simp only [Act.put, List.setIfInBounds_toArray, List.set_cons_zero, List.set_cons_succ])
          refine wpAnyD_take 9 rfl rfl (by kernel_rfl) (by kernel_rfl) (by kernel_rfl) (by kernel_rfl) (by kernel_rfl) (fun _ _ _ h => h) rfl (fun V hV => run_ixs rfl Tryd.underlying30 (by kernel_rfl) rfl rfl (by omega)) hS ?_; (try simp only [Act.put, List.setIfInBounds_toArray, List.set_cons_zero, List.set_cons_succ])
          refine wpAnyD_take 10 rfl rfl (by kernel_rfl) (by kernel_rfl) (by kernel_rfl) (by kernel_rfl) (by kernel_rfl) (fun _ _ _ h => h) rfl (fun V hV => run_ld8 rfl rfl (C2.out V hV)) hS ?_; (try simp only [Act.put, List.setIfInBounds_toArray, List.set_cons_zero, List.set_cons_succ])
          refine wpAnyD_take 11 rfl rfl (by kernel_rfl) (by kernel_rfl) (by kernel_rfl) (by kernel_rfl) (by kernel_rfl) (fun _ _ _ h => h) rfl (fun V hV => run_xor8 rfl rfl rfl) hS ?_; (try simp only [Act.put, List.setIfInBounds_toArray, List.set_cons_zero, List.set_cons_succ])
          rw [EJ.out]
          refine wpAnyD_val 12 (by kernel_rfl) rfl rfl rfl (run_bsl (cells := #[b8 x]) (z := .int .u8 0) rfl Tryd.underlying30 (by kernel_rfl) (by omega) (by omega) (by kernel_rfl)) (.inr (hS.alloc hS.size _)) ?_; (try simp only [Act.put, List.setIfInBounds_toArray, List.set_cons_zero, List.set_cons_succ])
          replace hI := Lib.hid (hI.out.below hS)
          have hb2 : Below d1.heap.size d1 (d1.alloc (.cells #[b8 x] 5)) := (Below.refl _ _).alloc (Nat.le_refl _) _
          have A2 : Hid (Arr d1.heap.size ([x].map b8) (d1.alloc (.cells #[b8 x] 5))) := Lib.hid (Arr.new d1 _ _)
          replace hI := Lib.hid (hI.out.below hb2)
          clear hb2 hS C1 C2
          generalize d1.alloc (.cells #[b8 x] 5) = ua at *
          refine wpAnyD_appA (l := T) (m := [x]) 13 (by kernel_rfl) rfl rfl rfl rfl rfl rfl hI.out.O rfl A2.out.range (by show T.length + 1 ≤ _; omega) (Nat.lt_succ_self 0) hI.out.M.bl.size (fun v2' d2 h3 hb3 hst => ?_); (try simp only [Act.put, List.setIfInBounds_toArray, List.set_cons_zero, List.set_cons_succ])
          replace hI := Lib.hid (hI.out.grow h3 hb3 hst)
          rw [← ET.out] at hI
          clear h3 hb3 hst A2
          clear ua
          refine wpAnyD_val 14 (by kernel_rfl) rfl rfl rfl (run_asg (v := v2') rfl rfl) (.inl rfl) ?_; (try simp only [Act.put, List.setIfInBounds_toArray, List.set_cons_zero, List.set_cons_succ])
          refine wpAnyL_done (by kernel_rfl) ?_ _; refine NoPanic.normal ?_
          go_wp2_with fail
          go_roundw
          case rel => exact ⟨i + 1, by omega, by omega, by go_num, hI.out⟩
          case measure => simp [intOf]; omega
        · have hE : Hid (CtI w [(gw, W), (gb, X), (g2, fk), (g1, key)] u9 (tab (kk + i) f) wr) := Lib.hid hI.out.drop
          clear hI
          generalize hvv2 : u9 = vv2 at *
          clear hvv2
          generalize hpp : kk + i = p' at *
          have hp' : p' = min (16 * (k + 1)) n := by omega
          generalize hT : tab p' f = T at *
          rw [hp'] at hT
          have ET := Lib.hid hT; clear hT
          have hnl : (nxt 16 fk).length = 16 := by rw [nxt_len, hcl]
          obtain ⟨r, hr⟩ : ∃ r, r = nxt 16 fk := ⟨_, rfl⟩
          have EN : Hid (nxt 16 fk = r) := Lib.hid hr.symm
          rw [← hr] at hnl HX
          clear hr
          go_upto_region 9 with fail; refine wp_region_lit ?_
          refine wpList_val (run_mv (v := .int _ _) rfl rfl) rfl ?_; (try simp only [Act.put, List.setIfInBounds_toArray, List.set_cons_zero, List.set_cons_succ])
          by_cases hi16 : i < 16
          · refine wpList_val (run_lssb (c := true) rfl rfl rfl (decide_eq_true (by omega))) rfl ?_; (try simp only [Act.put, List.setIfInBounds_toArray, List.set_cons_zero, List.set_cons_succ])
            refine wpList_val (run_mv (v := .bool true) rfl rfl) rfl ?_; (try simp only [Act.put, List.setIfInBounds_toArray, List.set_cons_zero, List.set_cons_succ])
            refine wpList_valG (run_mv (v := .int _ _) rfl rfl) rfl ?_; (try simp only [Act.put, List.setIfInBounds_toArray, List.set_cons_zero, List.set_cons_succ])
            refine wpList_valG (run_mv (v := .int _ _) rfl rfl) rfl ?_; (try simp only [Act.put, List.setIfInBounds_toArray, List.set_cons_zero, List.set_cons_succ])
            refine wpList_valG (run_addN rfl rfl rfl (by omega)) rfl ?_; (try simp only [Act.put, List.setIfInBounds_toArray, List.set_cons_zero, List.set_cons_succ])
            refine wpList_valG (run_mv (v := .slice (some _) _ _) rfl rfl) rfl ?_; (try simp only [Act.put, List.setIfInBounds_toArray, List.set_cons_zero, List.set_cons_succ])
            refine wpList_valG (run_len rfl Tryd.underlying30 rfl) rfl ?_; (try simp only [Act.put, List.setIfInBounds_toArray, List.set_cons_zero, List.set_cons_succ])
            refine wpList_valG (run_lssb (c := false) rfl rfl rfl (decide_eq_false (by omega))) rfl ?_; (try simp only [Act.put, List.setIfInBounds_toArray, List.set_cons_zero, List.set_cons_succ])
            refine wpList_val (run_pick (b := true) (v := .bool false) rfl rfl rfl) rfl ?_; (try simp only [Act.put, List.setIfInBounds_toArray, List.set_cons_zero, List.set_cons_succ])
            refine wpList_end ?_
            go_upto_region 12 with fail
            go_wp2_with fail; go_loopw [13] (fun z u => ∃ (j : Nat) (q : List (BitVec 8)), j ≤ 16 ∧ z = .int .i64 ((j : Int) - 1) ∧ q.length = 16 ∧ nxt j q = r ∧ CtI w [(gw, W), (gb, X), (g2, q), (g1, key)] vv2 T u) (fun z _ => (intOf z + 1).toNat); (case atStart => exact ⟨16, fk, by omega, rfl, hcl, EN.out, hE.out⟩); (case round => (obtain ⟨j, q, hj, rfl, hq, he, hJ⟩ := hrel; replace hE := Lib.hid hJ; have HE := Lib.hid he; clear hJ he; by_cases h0 : j = 0; (focus (subst h0; have hk2 : ¬ ((0 : Int) ≤ ((0 : Nat) : Int) - 1) := (by omega); obtain rfl : q = r := HE.out; rw [← HX.out] at hE; rw [← ET.out] at hE; go_wp2_with fail; go_roundw; (case rel => exact ⟨k + 1, by omega, by (congr 1; omega), hE.out⟩); (case measure => (simp [intOf]; try omega)))); (obtain ⟨j, rfl⟩ : ∃ t, j = t + 1 := ⟨j - 1, by omega⟩; have e1 : (((j + 1 : Nat) : Int) - 1) = (j : Int) := (by omega); rw [e1]; have hk2 : (0 : Int) ≤ (j : Int) := (by omega); rw [nxt] at HE; go_upto_region 15 with fail; refine wp_region_lit ?_; refine wpList_val (run_mv (v := .int _ _) rfl rfl) rfl ?_; (try simp only [Act.put, List.setIfInBounds_toArray, List.set_cons_zero, List.set_cons_succ]); refine wpList_val (run_ix0 rfl Tryd.underlying23 (by kernel_rfl) rfl rfl (by omega)) rfl ?_; (try simp only [Act.put, List.setIfInBounds_toArray, List.set_cons_zero, List.set_cons_succ]); refine wpList_val (run_ld8 rfl rfl ((hE.out.M.get (i := 2) rfl).get8 (by omega))) rfl ?_; (try simp only [Act.put, List.setIfInBounds_toArray, List.set_cons_zero, List.set_cons_succ]); refine wpList_val (run_add8 (b := 1) rfl rfl rfl) rfl ?_; (try simp only [Act.put, List.setIfInBounds_toArray, List.set_cons_zero, List.set_cons_succ]); refine wpList_val (run_ix0 rfl Tryd.underlying23 (by kernel_rfl) rfl rfl (by omega)) rfl ?_; (try simp only [Act.put, List.setIfInBounds_toArray, List.set_cons_zero, List.set_cons_succ]); refine wpList_skip (run_st8 rfl rfl rfl ((hE.out.M.get (i := 2) rfl).get8 (by omega)) ((hE.out.M.get (i := 2) rfl).f _)) rfl rfl ?_; refine wpList_end ?_; generalize q.getD j 0 + 1 = x at *; replace hE : Hid (CtI w [(gw, W), (gb, X), (g2, q.set j x), (g1, key)] vv2 T (wr.setCell ⟨g2, j, none⟩ (b8 x))) := Lib.hid (hE.out.set 2 rfl (by omega) x); have hx : (q.set j x).getD j 0 = x := (by rw [getD_setB _ _ _ _ (by omega), if_pos rfl]); replace hq : (q.set j x).length = 16 := (by rw [List.length_set, hq]); generalize q.set j x = q' at *; generalize wr.setCell ⟨g2, j, none⟩ (b8 x) = d5 at *; go_upto_region 16 with fail; refine wp_region_lit ?_; refine wpList_val (run_mv (v := .int _ _) rfl rfl) rfl ?_; (try simp only [Act.put, List.setIfInBounds_toArray, List.set_cons_zero, List.set_cons_succ]); refine wpList_val (run_ix0 rfl Tryd.underlying23 (by kernel_rfl) rfl rfl (by omega)) rfl ?_; (try simp only [Act.put, List.setIfInBounds_toArray, List.set_cons_zero, List.set_cons_succ]); refine wpList_val (run_ld8 rfl rfl ((hE.out.M.get (i := 2) rfl).get8 (by omega))) rfl ?_; (try simp only [Act.put, List.setIfInBounds_toArray, List.set_cons_zero, List.set_cons_succ]); rw [hx]; by_cases hz : x ≠ 0; (focus (rw [if_pos hz] at HE; refine wpList_val (run_neq8 (b := 0) (c := true) rfl rfl rfl (decide_eq_true hz)) rfl ?_; (try simp only [Act.put, List.setIfInBounds_toArray, List.set_cons_zero, List.set_cons_succ]); refine wpList_end ?_; obtain rfl : q' = r := HE.out; rw [← HX.out] at hE; rw [← ET.out] at hE; go_wp2_with fail; go_roundw; (case rel => exact ⟨k + 1, by omega, by (congr 1; omega), hE.out⟩); (case measure => (simp [intOf]; try omega)))); (rw [if_neg hz] at HE; refine wpList_val (run_neq8 (b := 0) (c := false) rfl rfl rfl (decide_eq_false hz)) rfl ?_; (try simp only [Act.put, List.setIfInBounds_toArray, List.set_cons_zero, List.set_cons_succ]); refine wpList_end ?_; clear hx hz; go_wp2_with fail; go_roundw; (case rel => exact ⟨j, q', by omega, by go_num, hq, HE.out, hE.out⟩); (case measure => (simp [intOf]; try omega))))))
          · refine wpList_val (run_lssb (c := false) rfl rfl rfl (decide_eq_false (by omega))) rfl ?_; (try simp only [Act.put, List.setIfInBounds_toArray, List.set_cons_zero, List.set_cons_succ])
            refine wpList_val (run_mv (v := .bool false) rfl rfl) rfl ?_; (try simp only [Act.put, List.setIfInBounds_toArray, List.set_cons_zero, List.set_cons_succ])
            refine wpList_pass rfl ?_; (try simp only [Act.put, List.setIfInBounds_toArray, List.set_cons_zero, List.set_cons_succ])
            refine wpList_pass rfl ?_; (try simp only [Act.put, List.setIfInBounds_toArray, List.set_cons_zero, List.set_cons_succ])
            refine wpList_pass rfl ?_; (try simp only [Act.put, List.setIfInBounds_toArray, List.set_cons_zero, List.set_cons_succ])
            refine wpList_pass rfl ?_; (try simp only [Act.put, List.setIfInBounds_toArray, List.set_cons_zero, List.set_cons_succ])
            refine wpList_pass rfl ?_; (try simp only [Act.put, List.setIfInBounds_toArray, List.set_cons_zero, List.set_cons_succ])
            refine wpList_pass rfl ?_; (try simp only [Act.put, List.setIfInBounds_toArray, List.set_cons_zero, List.set_cons_succ])
            refine wpList_val (run_pick (b := false) (v := .bool false) rfl rfl rfl) rfl ?_; (try simp only [Act.put, List.setIfInBounds_toArray, List.set_cons_zero, List.set_cons_succ])
            refine wpList_end ?_
            go_upto_region 12 with fail
            go_wp2_with fail; go_loopw [13] (fun z u => ∃ (j : Nat) (q : List (BitVec 8)), j ≤ 16 ∧ z = .int .i64 ((j : Int) - 1) ∧ q.length = 16 ∧ nxt j q = r ∧ CtI w [(gw, W), (gb, X), (g2, q), (g1, key)] vv2 T u) (fun z _ => (intOf z + 1).toNat); (case atStart => exact ⟨16, fk, by omega, rfl, hcl, EN.out, hE.out⟩); (case round => (obtain ⟨j, q, hj, rfl, hq, he, hJ⟩ := hrel; replace hE := Lib.hid hJ; have HE := Lib.hid he; clear hJ he; by_cases h0 : j = 0; (focus (subst h0; have hk2 : ¬ ((0 : Int) ≤ ((0 : Nat) : Int) - 1) := (by omega); obtain rfl : q = r := HE.out; rw [← HX.out] at hE; rw [← ET.out] at hE; go_wp2_with fail; go_roundw; (case rel => exact ⟨k + 1, by omega, by (congr 1; omega), hE.out⟩); (case measure => (simp [intOf]; try omega)))); (obtain ⟨j, rfl⟩ : ∃ t, j = t + 1 := ⟨j - 1, by omega⟩; have e1 : (((j + 1 : Nat) : Int) - 1) = (j : Int) := (by omega); rw [e1]; have hk2 : (0 : Int) ≤ (j : Int) := (by omega); rw [nxt] at HE; go_upto_region 15 with fail; refine wp_region_lit ?_; refine wpList_val (run_mv (v := .int _ _) rfl rfl) rfl ?_; (try simp only [Act.put, List.setIfInBounds_toArray, List.set_cons_zero, List.set_cons_succ]); refine wpList_val (run_ix0 rfl Tryd.underlying23 (by kernel_rfl) rfl rfl (by omega)) rfl ?_; (try simp only [Act.put, List.setIfInBounds_toArray, List.set_cons_zero, List.set_cons_succ]); refine wpList_val (run_ld8 rfl rfl ((hE.out.M.get (i := 2) rfl).get8 (by omega))) rfl ?_; (try simp only [Act.put, List.setIfInBounds_toArray, List.set_cons_zero, List.set_cons_succ]); refine wpList_val (run_add8 (b := 1) rfl rfl rfl) rfl ?_; (try simp only [Act.put, List.setIfInBounds_toArray, List.set_cons_zero, List.set_cons_succ]); refine wpList_val (run_ix0 rfl Tryd.underlying23 (by kernel_rfl) rfl rfl (by omega)) rfl ?_; (try simp only [Act.put, List.setIfInBounds_toArray, List.set_cons_zero, List.set_cons_succ]); refine wpList_skip (run_st8 rfl rfl rfl ((hE.out.M.get (i := 2) rfl).get8 (by omega)) ((hE.out.M.get (i := 2) rfl).f _)) rfl rfl ?_; refine wpList_end ?_; generalize q.getD j 0 + 1 = x at *; replace hE : Hid (CtI w [(gw, W), (gb, X), (g2, q.set j x), (g1, key)] vv2 T (wr.setCell ⟨g2, j, none⟩ (b8 x))) := Lib.hid (hE.out.set 2 rfl (by omega) x); have hx : (q.set j x).getD j 0 = x := (by rw [getD_setB _ _ _ _ (by omega), if_pos rfl]); replace hq : (q.set j x).length = 16 := (by rw [List.length_set, hq]); generalize q.set j x = q' at *; generalize wr.setCell ⟨g2, j, none⟩ (b8 x) = d5 at *; go_upto_region 16 with fail; refine wp_region_lit ?_; refine wpList_val (run_mv (v := .int _ _) rfl rfl) rfl ?_; (try simp only [Act.put, List.setIfInBounds_toArray, List.set_cons_zero, List.set_cons_succ]); refine wpList_val (run_ix0 rfl Tryd.underlying23 (by kernel_rfl) rfl rfl (by omega)) rfl ?_; (try simp only [Act.put, List.setIfInBounds_toArray, List.set_cons_zero, List.set_cons_succ]); refine wpList_val (run_ld8 rfl rfl ((hE.out.M.get (i := 2) rfl).get8 (by omega))) rfl ?_; (try simp only [Act.put, List.setIfInBounds_toArray, List.set_cons_zero, List.set_cons_succ]); rw [hx]; by_cases hz : x ≠ 0; (focus (rw [if_pos hz] at HE; refine wpList_val (run_neq8 (b := 0) (c := true) rfl rfl rfl (decide_eq_true hz)) rfl ?_; (try simp only [Act.put, List.setIfInBounds_toArray, List.set_cons_zero, List.set_cons_succ]); refine wpList_end ?_; obtain rfl : q' = r := HE.out; rw [← HX.out] at hE; rw [← ET.out] at hE; go_wp2_with fail; go_roundw; (case rel => exact ⟨k + 1, by omega, by (congr 1; omega), hE.out⟩); (case measure => (simp [intOf]; try omega)))); (rw [if_neg hz] at HE; refine wpList_val (run_neq8 (b := 0) (c := false) rfl rfl rfl (decide_eq_false hz)) rfl ?_; (try simp only [Act.put, List.setIfInBounds_toArray, List.set_cons_zero, List.set_cons_succ]); refine wpList_end ?_; clear hx hz; go_wp2_with fail; go_roundw; (case rel => exact ⟨j, q', by omega, by go_num, hq, HE.out, hE.out⟩); (case measure => (simp [intOf]; try omega))))))
theorem rcounter_any (key first : List (BitVec 8)) (v : Value) (b : List (BitVec 8)) (w : World) (hK : key.length = 32) (hF : first.length = 16) (hv : Sl v b w) (hb : b.length ≤ 1000000) :
    Calls Tryd.prog 21 #[.agg (key.map b8).toArray, .agg (first.map b8).toArray, v] w fun e w' => ∃ v', e = .returned v' ∧ (Sl v' (ctr key first b) w' ∧ Below w.heap.size w w') :=
  (rcounter_new key first v b w hK hF hv hb).mono fun _ _ ⟨v, h1, h2⟩ => ⟨v, h1, h2.sl, h2.bl⟩
theorem enters_rcounter : Enters 21 := enters_of Tryd.func21 (by kernel_rfl) rfl
end Go.Proofs.YtobpgolchlgpfaaDoor
namespace Go.Proofs.YtobpgolchlgpfaaDoor
open Go.RowKit
set_option maxRecDepth 20000

/-- Their memory is not the same. -/
def Apart (v v2 : Value) : Prop := ∀ k, v.ownBlock = some k → v2.ownBlock ≠ some k
theorem Apart.symm {v v2 : Value} (h : Apart v v2) : Apart v2 v := fun k h1 h2 => h k h2 h1
theorem Apart.nil (v : Value) : Apart (.slice none 0 0) v := fun k h => by cases h
theorem apart_new {w u : World} {base e e' n n' : Nat} {size size' : Nat} {v v2 : Value} {xs ys : List Value} (h : w.ownsRow base e size v n xs) (h2 : u.ownsRow w.heap.size e' size' v2 n' ys) : Apart v v2 := fun k h1 h3 => by
  have := (h.lt k h1).2
  have := (h2.lt k h3).1
  omega
section
variable {w : World} {ops : Array Oper} {Q : Exit → Act → World → Prop} {rest : List Oper} {o : Oper} {a : Act}
/-- append to one of two. -/
theorem wpList_app2 {s x : Operand} (hg : o.guard = none) (ho : o.op = .call { callee := .builtin .append, args := #[s, x], argTypes := #[30, 30] })
    {base base2 n n2 c : Nat} {v v2 : Value} {l m l2 : List (BitVec 8)} {g : Nat} {off : Nat} (hs : a.eval s = v) (hown : w.ownsRow base 5 1 v n (l.map b8)) (hown2 : w.ownsRow base2 5 1 v2 n2 (l2.map b8)) (hap : Apart v v2) (hx : a.eval x = .slice (some ⟨g, off, none⟩) m.length c)
    (hA : w.rangeAt g off (m.map b8)) (hn : n + m.length ≤ 16777216) (hm : 0 < m.length) (hbase : base ≤ w.heap.size)
    (h : ∀ v' w', w'.ownsRow base 5 1 v' (n + m.length) ((l ++ m).map b8) → w'.ownsRow base2 5 1 v2 n2 (l2.map b8) → Apart v' v2 → Below base w w' → wpList Tryd.prog ops Q rest (a.put o.dst v') w') : wpList Tryd.prog ops Q (o :: rest) a w := by
  have hi : (Tryd.prog.info? 5).map (fun i => (i.size, i.bytes, i.zero)) = some (1, 1, some (.int .u8 0)) := by kernel_rfl
  obtain ⟨inf, h1, h2⟩ := Option.map_eq_some_iff.1 hi
  obtain ⟨e1, e2, e3⟩ : inf.size = 1 ∧ inf.bytes = 1 ∧ inf.zero = some (.int .u8 0) := by simpa using h2
  have hc : ∀ j u, (m.map b8)[j]? = some u → w.cell? ((⟨g, off, none⟩ : Addr).add j) = some u := fun j u hu => by rw [Addr.add_mid]; exact hA j u hu
  have h8 : ∀ u ∈ m.map b8, u.oneCell' = true := fun u hu => by rw [List.mem_map] at hu; obtain ⟨x, _, rfl⟩ := hu; rfl
  obtain ⟨v', w', hr, h3, h4, _⟩ := run_append_own (P := Tryd.prog) w base 30 o.type 5 inf (.int .u8 0) 1 1 Tryd.underlying30 h1 e3 e1 e2 rfl (by omega) v n (l.map b8) hown ⟨g, off, none⟩ m.length c (m.map b8) (by simp) hc h8
    (by unfold maxLen; omega) (by omega) hbase
  have hw := append_where (P := Tryd.prog) base 30 o.type 5 inf (.int .u8 0) 1 1 Tryd.underlying30 h1 e3 e1 e2 rfl (by omega) v n (l.map b8) hown ⟨g, off, none⟩ m.length c (m.map b8) (by simp) hc h8 (by unfold maxLen; omega) (by omega) hm hr
  refine wpList_val (v := v') (w' := w') ?_ hg (h v' w' (by rw [List.map_append]; exact h3) ?_ ?_ (below_grown h4 (own_lt hown) hbase))
  · unfold execOp
    simp [ho, resolve, invoke, builtin, hs, hx, hr, Result.andThen]
  · refine hown2.kept h4 ?_
    cases hv : v2.ownBlock with
    | none => exact .inl rfl
    | some k => exact .inr fun he => hap k he.symm hv
  · intro k hk
    rcases hw with hw | hw
    · rw [hw] at hk; exact hap k hk
    · rw [hw] at hk
      injection hk with hk
      intro hk2
      have := (hown2.lt k hk2).2
      omega
/-- append of a key to keys. -/
theorem wpList_appK {s x : Operand} (hg : o.guard = none) (ho : o.op = .call { callee := .builtin .append, args := #[s, x], argTypes := #[48, 48] })
    {base n c : Nat} {v : Value} {l m : List (BitVec 8)} {g : Nat} (hs : a.eval s = v) (hown : w.ownsRow base 29 32 v n (l.map b8)) (hx : a.eval x = .slice (some ⟨g, 0, none⟩) 1 c) (hml : m.length = 32)
    (hA : w.rangeAt g 0 (m.map b8)) (hn : n ≤ 100000) (hbase : base ≤ w.heap.size)
    (h : ∀ v' w', w'.ownsRow base 29 32 v' (n + 1) ((l ++ m).map b8) → Below base w w' → wpList Tryd.prog ops Q rest (a.put o.dst v') w') : wpList Tryd.prog ops Q (o :: rest) a w := by
  have hi : (Tryd.prog.info? 29).map (fun i => (i.size, i.bytes, i.zero)) = some (32, 32, some (.agg (z8 32).toArray)) := by kernel_rfl
  obtain ⟨inf, h1, h2⟩ := Option.map_eq_some_iff.1 hi
  obtain ⟨e1, e2, e3⟩ : inf.size = 32 ∧ inf.bytes = 32 ∧ inf.zero = some (.agg (z8 32).toArray) := by simpa using h2
  refine wpList_append_own w hg s x 48 ho base 29 inf (.agg (z8 32).toArray) 32 32 Tryd.underlying48 h1 e3 e1 e2 (by decide +kernel) (by omega) v n (l.map b8) hs hown ⟨g, 0, none⟩ 1 c (m.map b8) hx (by simp [hml]) (fun j u hu => by rw [Addr.add_mid]; exact hA j u hu) (fun u hu => by rw [List.mem_map] at hu; obtain ⟨x, _, rfl⟩ := hu; rfl)
    (by unfold maxLen; omega) (by omega) hbase fun v' w' h3 h4 _ => h v' w' (by rw [List.map_append]; exact h3) (below_grown h4 (own_lt hown) hbase)
theorem fold_get : ∀ (xs : List Value) (k : Nat) (cs : Array Value) (i : Nat), ((xs.zipIdx k).foldl (fun cs (p : Value × Nat) => cs.setIfInBounds (0 * 32 + p.2) p.1) cs)[i]? = if k ≤ i ∧ i < k + xs.length ∧ i < cs.size then xs[i - k]? else cs[i]?
  | [], k, cs, i => by rw [if_neg (by simp; omega)]; rfl
  | x :: xs, k, cs, i => by
    rw [List.zipIdx_cons, List.foldl_cons, fold_get xs (k + 1), Nat.zero_mul, Nat.zero_add, Array.size_setIfInBounds, Array.getElem?_setIfInBounds]
    by_cases h1 : i = k
    · subst h1
      rw [if_neg (by omega)]
      by_cases h2 : i < cs.size
      · rw [if_pos rfl, if_pos h2, if_pos ⟨by omega, by simp, h2⟩]; simp
      · rw [if_pos rfl, if_neg h2, if_neg (by omega), Array.getElem?_eq_none (by omega)]
    · by_cases h2 : k + 1 ≤ i ∧ i < k + 1 + xs.length ∧ i < cs.size
      · rw [if_pos h2, if_pos ⟨by omega, by simp; omega, h2.2.2⟩, show i - k = (i - (k + 1)) + 1 by omega, List.getElem?_cons_succ]
      · rw [if_neg h2, if_neg (Ne.symm h1), if_neg (by simp; omega)]
/-- A slice of one key. -/
theorem run_bslK {ρ : Operand → Value} {y : Operand} {l : List (BitVec 8)} (ho : o.op = .buildSlice 48 1 #[(0, y)]) (hl : l.length = 32) (hy : ρ y = .agg (l.map b8).toArray) : (execOp ρ o).run Tryd.prog w = .ok (.value (.slice (some ⟨w.heap.size, 0, none⟩) 1 1)) (w.alloc (.cells (l.map b8).toArray 29)) := by
  have hi : (Tryd.prog.info? 29).map (fun i => (i.size, i.zero)) = some (32, some (.agg (z8 32).toArray)) := by kernel_rfl
  obtain ⟨inf, h1, h2⟩ := Option.map_eq_some_iff.1 hi
  obtain ⟨e1, e2⟩ : inf.size = 32 ∧ inf.zero = some (.agg (z8 32).toArray) := by simpa using h2
  have hf : Instr.fill (fun i => some (i * inf.size, inf.size)) ((Array.range (1 * inf.size)).map ((Value.agg (z8 32).toArray).cells[· % (Value.agg (z8 32).toArray).cells.size]!)) [(0, .agg (l.map b8).toArray)] = some (l.map b8).toArray := by
    rw [e1]
    have hc : (Value.agg (l.map b8).toArray).cells = (l.map b8).toArray := rfl
    simp only [Instr.fill, hc]
    rw [if_neg (by simp [hl])]
    congr 1
    apply Array.ext_getElem?
    intro i
    rw [Array.zipIdx_toArray, List.foldl_toArray, fold_get]
    by_cases h : i < 32
    · rw [if_pos ⟨by omega, by rw [List.length_map]; omega, by simp [h]⟩]; simp
    · rw [if_neg (by rw [List.length_map]; omega), Array.getElem?_eq_none (by simp; omega), Array.getElem?_eq_none (by simp; omega)]
  have h := run_buildSlice (P := Tryd.prog) w 48 29 1 #[(0, .agg (l.map b8).toArray)] (l.map b8).toArray inf (.agg (z8 32).toArray) Tryd.underlying48 h1 e2 (by rw [e1]; omega) (by rw [e1]; omega) hf
  unfold execOp
  simp [ho, hy, h]
end
end Go.Proofs.YtobpgolchlgpfaaDoor
namespace Go.Proofs.YtobpgolchlgpfaaDoor
open Go.RowKit
set_option maxRecDepth 20000

def cp32 (d : List (BitVec 8)) : Nat → List (BitVec 8)
  | 0 => List.replicate 32 0
  | k + 1 => (cp32 d k).set k (d.getD k 0)
theorem cp_len32 (d : List (BitVec 8)) : ∀ k, (cp32 d k).length = 32
  | 0 => by rw [cp32, List.length_replicate]
  | k + 1 => by rw [cp32, List.length_set, cp_len32 d k]
theorem cp_at32 (d : List (BitVec 8)) (t : Nat) : ∀ k, k ≤ 32 → t < k → (cp32 d k).getD t 0 = d.getD t 0
  | 0, _, h => absurd h (Nat.not_lt_zero _)
  | k + 1, hk, h => by
    rw [cp32, getD_set8 _ _ _ _ (by rw [cp_len32]; omega)]
    by_cases e : k = t
    · rw [if_pos e, e]
    · rw [if_neg e]; exact cp_at32 d t k (by omega) (by omega)
theorem cp_eq32 {d : List (BitVec 8)} (h : d.length = 32) : cp32 d 32 = d := by
  apply List.ext_getElem (by rw [cp_len32, h])
  intro i h1 h2
  have := cp_at32 d i 32 (Nat.le_refl _) (by omega)
  simpa [List.getD_eq_getElem?_getD, h1, h2] using this
set_option maxRecDepth 100000 in
theorem run_bldZ32 {w : World} {ρ : Operand → Value} {o : Oper} (ho : o.op = .build 29 #[]) : (execOp ρ o).run Tryd.prog w = .ok (.value (.agg (z8 32).toArray)) w := by
  obtain ⟨dst, op, type, pos, after, guard⟩ := o
  subst ho
  go_simp
  rfl
structure CpI32 (w : World) (x : List (BitVec 8)) (u : World) : Prop where
  bl : Below w.heap.size w u
  R : Arr w.heap.size (z8 32) u
  O : Arr (w.heap.size + 1) (x.map b8) u
  len : x.length = 32
theorem CpI32.below {w u u' : World} {x : List (BitVec 8)} (i : CpI32 w x u) (hb : Below u.heap.size u u') : CpI32 w x u' :=
  ⟨i.bl.trans (hb.mono i.bl.size), i.R.below hb, i.O.below hb, i.len⟩
theorem CpI32.set {w u : World} {x : List (BitVec 8)} (i : CpI32 w x u) {k : Nat} (hk : k < 32) (v : BitVec 8) : CpI32 w (x.set k v) (u.setCell ⟨w.heap.size + 1, k, none⟩ (b8 v)) :=
  ⟨i.bl.setCell (p := ⟨w.heap.size + 1, k, none⟩) (by simp) _, i.R.far (by omega) _ _, by rw [← set_map]; exact i.O.set (by rw [List.length_map, i.len]; exact hk) _, by rw [List.length_set, i.len]⟩
theorem zs_len32 : (z8 32).length = 32 := by unfold z8; rw [List.length_map, List.length_replicate]
set_option maxHeartbeats 1000000 in
theorem refsum32_any (v : Value) (l : List (BitVec 8)) (w : World) (hv : Sl v l w) (hl : l.length ≤ 10000) (hT : Tabs w) :
    Calls Tryd.prog 56 #[v] w fun e w' => e = .returned (.agg ((sum32 l).map b8).toArray) ∧ Below w.heap.size w w' := by
  have HT := Lib.hid hT; clear hT
  have HV := Lib.hid hv; clear hv
  go_enter Tryd.func56, Tryd.ntmps56
  go_upto_region 0 with fail; refine wp_region_lit ?_
  refine wpList_val (run_alc (vs := z8 32) rfl (by kernel_rfl)) rfl ?_; (try simp only [Act.put, List.setIfInBounds_toArray, List.set_cons_zero, List.set_cons_succ])
  refine wpList_end ?_
  go_upto_region 1 with fail; refine wp_region_lit ?_
  refine wpList_val (run_bldZ32 rfl) rfl ?_; (try simp only [Act.put, List.setIfInBounds_toArray, List.set_cons_zero, List.set_cons_succ])
  refine wpList_val (run_alc (vs := z8 32) rfl (by kernel_rfl)) rfl ?_; (try simp only [Act.put, List.setIfInBounds_toArray, List.set_cons_zero, List.set_cons_succ])
  have b1 : Below w.heap.size w ((w.alloc (.cells (z8 32).toArray 29)).alloc (.cells (z8 32).toArray 29)) := ((Below.refl _ _).alloc (Nat.le_refl _) _).alloc (by simp) _
  have R1 := (Arr.new w (z8 32) 29).below ((Below.refl _ _).alloc (Nat.le_refl _) (.cells (z8 32).toArray 29))
  have O1 : Arr (w.heap.size + 1) (z8 32) ((w.alloc (.cells (z8 32).toArray 29)).alloc (.cells (z8 32).toArray 29)) := Arr.at (by simp) (z8 32) _
  rw [show (w.alloc (.cells (z8 32).toArray 29)).heap.size = w.heap.size + 1 by simp]
  generalize (w.alloc (.cells (z8 32).toArray 29)).alloc (.cells (z8 32).toArray 29) = u0 at *
  have HZ : Hid ((Tryd.prog.info? 29).map (·.size) = some (z8 32).length) := Lib.hid (by rw [zs_len32]; kernel_rfl)
  refine wpList_skip (run_stA (vs := z8 32) rfl HZ.out rfl rfl (one8 _) O1.there) rfl rfl ?_
  refine wpList_end ?_
  have hI : Hid (CpI32 w (List.replicate 32 0) (u0.setCells (w.heap.size + 1) 0 (z8 32))) := Lib.hid ⟨below_setCells (by omega) _ _ b1, R1.farAll (by omega) _ _, O1.put rfl, List.length_replicate⟩
  clear b1 R1 O1 HZ
  generalize u0.setCells (w.heap.size + 1) 0 (z8 32) = u1 at *
  go_upto_region 2 with fail; refine wp_region_lit ?_
  refine wpList_callR (run_call0 enters_narrow rfl rfl) rfl (narrow_any _) (fun vh u2 hR => ?_); (try simp only [Act.put, List.setIfInBounds_toArray, List.set_cons_zero, List.set_cons_succ])
  obtain ⟨h, hvh, hm, hb⟩ := hR
  subst hvh
  have HM := Lib.hid hm; clear hm
  replace hI := Lib.hid (hI.out.below hb)
  clear hb
  have hlt2 := hI.out.O.lt
  refine wpList_val (run_mv (v := v) rfl rfl) rfl ?_; (try simp only [Act.put, List.setIfInBounds_toArray, List.set_cons_zero, List.set_cons_succ])
  refine wpList_callR (run_call2 enters_rsum rfl rfl rfl rfl) rfl (rsum32_any h v l _ (HV.out.below hI.out.bl) hl HM.out (HT.out.below hI.out.bl)) (fun v2 u3 hR => ?_); (try simp only [Act.put, List.setIfInBounds_toArray, List.set_cons_zero, List.set_cons_succ])
  obtain ⟨ho, hb⟩ := hR
  replace hI := Lib.hid (hI.out.below hb)
  clear hb HM HT HV
  obtain ⟨g, c, h2, hc, hg2, AG⟩ := own_arr ho (by omega)
  subst h2
  have HG := Lib.hid AG; clear AG ho
  have hdl := sum_len32 l
  generalize hd : sum32 l = DG at *
  have ED := Lib.hid hd; clear hd
  have HE := Lib.hid (cp_eq32 hdl)
  refine wpList_val (run_asg (v := .slice (some _) _ _) rfl rfl) rfl ?_; (try simp only [Act.put, List.setIfInBounds_toArray, List.set_cons_zero, List.set_cons_succ])
  refine wpList_end ?_
  replace hI : Hid (CpI32 w (cp32 DG 0) u3) := hI
  have hne : w.heap.size + 1 ≠ g := by omega
  clear hg2 hlt2 hc
  go_upto_region 3 with fail; refine wp_region_lit ?_
  refine wpList_val (run_asg (v := .int _ _) rfl rfl) rfl ?_; (try simp only [Act.put, List.setIfInBounds_toArray, List.set_cons_zero, List.set_cons_succ])
  refine wpList_end ?_
  go_wp2_with fail
  go_loopw [5] (fun v5 u => ∃ k : Nat, k ≤ 32 ∧ v5 = .int .i64 (k : Int) ∧ CpI32 w (cp32 DG k) u ∧ Arr g (DG.map b8) u) (fun v5 _ => (32 - intOf v5).toNat)
  case atStart => exact ⟨0, by omega, rfl, hI.out, HG.out⟩
  case round =>
    obtain ⟨k, hk, rfl, hJ, hJ2⟩ := hrel
    replace hI := Lib.hid hJ
    replace HG := Lib.hid hJ2
    clear hJ hJ2
    by_cases hkd : k = 32
    · subst hkd
      have hk1 : ¬ (((32 : Nat) : Int) < 32) := by omega
      rw [HE.out] at hI
      have hT := (hI.out.R.put (l' := DG.map b8) (by rw [List.length_map, hdl, zs_len32])).range
      have HL := Lib.hid (size_d32 hdl)
      have HZL := Lib.hid zs_len32
      go_upto_region 7 with fail; refine wp_region_lit ?_
      refine wpList_val (run_ldA (vs := DG.map b8) rfl Tryd.underlying29 HL.out rfl hI.out.O.range) rfl ?_; (try simp only [Act.put, List.setIfInBounds_toArray, List.set_cons_zero, List.set_cons_succ])
      refine wpList_skip (run_stA (vs := DG.map b8) rfl HL.out rfl rfl (one8 _) (by rw [List.length_map, hdl, ← HZL.out]; exact hI.out.R.there)) rfl rfl ?_
      refine wpList_end ?_
      go_wp2_with fail
      refine bodyPost_ret (v := .agg (DG.map b8).toArray) ?_ rfl ⟨by rw [ED.out], below_setCells (Nat.le_refl _) _ _ hI.out.bl⟩
      exact results_arr Tryd.results56 rfl Tryd.underlying29 HL.out hT
    · have hk1 : (k : Int) < 32 := by omega
      have hk2 : k < 32 := by omega
      go_upto_region 6 with fail; refine wp_region_lit ?_
      refine wpList_val (run_mv (v := .int _ _) rfl rfl) rfl ?_; (try simp only [Act.put, List.setIfInBounds_toArray, List.set_cons_zero, List.set_cons_succ]); refine wpList_val (run_mv (v := .slice (some _) _ _) rfl rfl) rfl ?_; (try simp only [Act.put, List.setIfInBounds_toArray, List.set_cons_zero, List.set_cons_succ]); refine wpList_val (run_mv (v := .int _ _) rfl rfl) rfl ?_; (try simp only [Act.put, List.setIfInBounds_toArray, List.set_cons_zero, List.set_cons_succ])
      refine wpList_val (run_ixs rfl Tryd.underlying30 (by kernel_rfl) rfl rfl hk2) rfl ?_; (try simp only [Act.put, List.setIfInBounds_toArray, List.set_cons_zero, List.set_cons_succ])
      rw [Nat.zero_add k]
      refine wpList_val (run_ld8 rfl rfl (HG.out.c k _ (get_map b8 0 (by rw [hdl]; exact hk2)))) rfl ?_; (try simp only [Act.put, List.setIfInBounds_toArray, List.set_cons_zero, List.set_cons_succ])
      refine wpList_val (run_ix0 rfl Tryd.underlying29 (by kernel_rfl) rfl rfl hk2) rfl ?_; (try simp only [Act.put, List.setIfInBounds_toArray, List.set_cons_zero, List.set_cons_succ])
      refine wpList_skip (run_st8 rfl rfl rfl (hI.out.O.c k _ (get_map b8 0 (by rw [hI.out.len]; exact hk2))) (hI.out.O.f _)) rfl rfl ?_
      refine wpList_end ?_
      replace hI := Lib.hid (hI.out.set hk2 (DG.getD k 0))
      replace HG := Lib.hid (HG.out.far hne k (b8 (DG.getD k 0)))
      generalize wr.setCell ⟨w.heap.size + 1, k, none⟩ (b8 (DG.getD k 0)) = u4 at *
      go_wp2_with fail
      go_roundw
      case rel => exact ⟨k + 1, by omega, by go_num, hI.out, HG.out⟩
      case measure => simp [intOf]; omega
theorem enters_refsum32 : Enters 56 := enters_of Tryd.func56 (by kernel_rfl) rfl
end Go.Proofs.YtobpgolchlgpfaaDoor
namespace Go.Proofs.YtobpgolchlgpfaaDoor
open Go.RowKit
set_option maxRecDepth 20000

theorem enters_rslice : Enters 32 := enters_of Tryd.func32 (by kernel_rfl) rfl
theorem enters_joined : Enters 57 := enters_of Tryd.func57 (by kernel_rfl) rfl
set_option maxHeartbeats 1000000 in
theorem rslice_any (K : List (BitVec 8)) (w : World) (hK : K.length = 32) :
    Calls Tryd.prog 32 #[.agg (K.map b8).toArray] w fun e w' => ∃ v', e = .returned v' ∧ (w'.ownsRow w.heap.size 5 1 v' 32 (K.map b8) ∧ Below w.heap.size w w') := by
  go_enter Tryd.func32, Tryd.ntmps32
  go_upto_region 0 with fail; refine wp_region_lit ?_
  refine wpList_val (run_box rfl rfl) rfl ?_; (try simp only [Act.put, List.setIfInBounds_toArray, List.set_cons_zero, List.set_cons_succ])
  refine wpList_val (run_asg (v := .slice _ _ _) rfl rfl) rfl ?_; (try simp only [Act.put, List.setIfInBounds_toArray, List.set_cons_zero, List.set_cons_succ])
  refine wpList_end ?_
  have HK := Lib.hid (Arr.new w (K.map b8) 29)
  have bl : Below w.heap.size w (w.alloc (.cells (K.map b8).toArray 29)) := (Below.refl _ _).alloc (Nat.le_refl _) _
  generalize w.alloc (.cells (K.map b8).toArray 29) = r at *
  have hI : Hid (S5 r (.slice none 0 0) (K.take 0) r) := Lib.hid ⟨Below.refl _ _, World.ownsRow_nil _ _ _ _⟩
  go_upto_region 1 with fail; refine wp_region_lit ?_
  refine wpList_val (run_asg (v := .slice _ _ _) rfl rfl) rfl ?_; (try simp only [Act.put, List.setIfInBounds_toArray, List.set_cons_zero, List.set_cons_succ])
  refine wpList_end ?_
  go_upto_region 2 with fail; refine wp_region_lit ?_
  refine wpList_val (run_asg (v := .int _ _) rfl rfl) rfl ?_; (try simp only [Act.put, List.setIfInBounds_toArray, List.set_cons_zero, List.set_cons_succ])
  refine wpList_end ?_
  go_wp2_with fail
  go_loopw [3, 4] (fun s3 s4 u => ∃ k : Nat, k ≤ 32 ∧ s4 = .int .i64 (k : Int) ∧ S5 r s3 (K.take k) u) (fun _ s4 _ => (32 - intOf s4).toNat)
  case atStart => exact ⟨0, by omega, rfl, hI.out⟩
  case round v3 v4 _ =>
    obtain ⟨k, hk, rfl, hJ⟩ := hrel
    replace hI := Lib.hid hJ
    clear hJ
    by_cases hlt : k = 32
    · subst hlt
      have hk1 : ¬ (((32 : Nat) : Int) < 32) := by omega
      rw [List.take_of_length_le (by omega)] at hI
      go_upto_region 6 with fail; refine wp_region_lit ?_
      refine wpList_val (run_mv (v := u3) rfl rfl) rfl ?_; (try simp only [Act.put, List.setIfInBounds_toArray, List.set_cons_zero, List.set_cons_succ])
      refine wpList_val (run_asg (v := u3) rfl rfl) rfl ?_; (try simp only [Act.put, List.setIfInBounds_toArray, List.set_cons_zero, List.set_cons_succ])
      refine wpList_end ?_
      go_wp2_with fail
      refine bodyPost_ret (results_tmp Tryd.results32 _ _ _) rfl ⟨_, rfl, ?_, bl.trans (hI.out.bl.mono bl.size)⟩
      have := own_mono hI.out.O bl.size
      rw [hK] at this
      exact this
    · have hk1 : (k : Int) < 32 := by omega
      have hk2 : k < 32 := by omega
      have HT2 := Lib.hid (take_snoc8 K k (by omega))
      have htl : (K.take k).length = k := by rw [List.length_take]; omega
      have HC : Hid (wr.cell? ⟨w.heap.size, k, none⟩ = some (b8 (K.getD k 0))) := Lib.hid ((HK.out.below hI.out.bl).c k _ (get_map b8 0 (by omega)))
      generalize K.getD k 0 = x at *
      generalize hP : K.take k = P at *
      clear hP
      go_upto_region 5 with fail; refine wp_region_lit ?_
      refine wpList_val (run_mv (v := u3) rfl rfl) rfl ?_; (try simp only [Act.put, List.setIfInBounds_toArray, List.set_cons_zero, List.set_cons_succ])
      refine wpList_val (run_mv (v := .int _ _) rfl rfl) rfl ?_; (try simp only [Act.put, List.setIfInBounds_toArray, List.set_cons_zero, List.set_cons_succ])
      refine wpList_val (run_ix0 rfl Tryd.underlying29 (by kernel_rfl) rfl rfl hk2) rfl ?_; (try simp only [Act.put, List.setIfInBounds_toArray, List.set_cons_zero, List.set_cons_succ])
      refine wpList_val (run_ld8 rfl rfl HC.out) rfl ?_; (try simp only [Act.put, List.setIfInBounds_toArray, List.set_cons_zero, List.set_cons_succ])
      refine wpList_val (run_bsl (cells := #[b8 (x)]) (z := .int .u8 0) rfl Tryd.underlying30 (by kernel_rfl) (by omega) (by omega) (by kernel_rfl)) rfl ?_; (try simp only [Act.put, List.setIfInBounds_toArray, List.set_cons_zero, List.set_cons_succ]); have hb2 : Below wr.heap.size wr (wr.alloc (.cells #[b8 (x)] 5)) := (Below.refl _ _).alloc (Nat.le_refl _) _; have A2 : Hid (Arr wr.heap.size ([x].map b8) (wr.alloc (.cells #[b8 (x)] 5))) := Lib.hid (Arr.new wr _ _); replace hI := Lib.hid (hI.out.below hb2); clear hb2; generalize wr.alloc (.cells #[b8 (x)] 5) = ua at *; refine wpList_app (f := b8) (fun _ => rfl) (l := P) (m := [x]) (bw := 1) (z := .int .u8 0) rfl rfl Tryd.underlying30 (by kernel_rfl) rfl (by omega) rfl hI.out.O rfl A2.out.range (by rw [htl]; show k + 1 ≤ _; omega) hI.out.bl.size (fun v5 u5 h3 hb3 => ?_); (try simp only [Act.put, List.setIfInBounds_toArray, List.set_cons_zero, List.set_cons_succ]); replace hI : Hid (S5 _ v5 (P ++ [x]) u5) := Lib.hid ⟨hI.out.bl.trans hb3, by rw [List.length_append]; exact h3⟩; clear h3 hb3 A2; clear ua; refine wpList_val (run_asg (v := v5) rfl rfl) rfl ?_; (try simp only [Act.put, List.setIfInBounds_toArray, List.set_cons_zero, List.set_cons_succ]); refine wpList_end ?_
      rw [← HT2.out] at hI
      clear HC HT2
      go_wp2_with fail
      go_roundw
      case rel => exact ⟨k + 1, by omega, by go_num, hI.out⟩
      case measure => simp [intOf]; omega
set_option maxHeartbeats 1000000 in
theorem joined_any (va : Value) (a : List (BitVec 8)) (vb : Value) (b : List (BitVec 8)) (w : World) (ha : Sl va a w) (hb : Sl vb b w) (hn : a.length + b.length ≤ 16777216) :
    Calls Tryd.prog 57 #[va, vb] w fun e w' => ∃ v', e = .returned v' ∧ (Sl v' (a ++ b) w' ∧ Below w.heap.size w w') := by
  have HA := Lib.hid ha; clear ha
  have HB := Lib.hid hb; clear hb
  go_enter Tryd.func57, Tryd.ntmps57
  go_upto_region 1 with fail; refine wp_region_lit ?_
  refine wpList_val (run_asg (v := .slice _ _ _) rfl rfl) rfl ?_; (try simp only [Act.put, List.setIfInBounds_toArray, List.set_cons_zero, List.set_cons_succ])
  refine wpList_end ?_
  go_upto_region 2 with fail; refine wp_region_lit ?_
  refine wpList_val (run_mv (v := .slice _ _ _) rfl rfl) rfl ?_; (try simp only [Act.put, List.setIfInBounds_toArray, List.set_cons_zero, List.set_cons_succ])
  refine wpList_val (run_mv (v := va) rfl rfl) rfl ?_; (try simp only [Act.put, List.setIfInBounds_toArray, List.set_cons_zero, List.set_cons_succ])
  refine wpList_appG (l := []) (m := a) rfl rfl rfl (World.ownsRow_nil w w.heap.size _ _) rfl HA.out (by omega) (Nat.le_refl _) (fun v1 u1 h1 bl => ?_); (try simp only [Act.put, List.setIfInBounds_toArray, List.set_cons_zero, List.set_cons_succ])
  refine wpList_val (run_asg (v := v1) rfl rfl) rfl ?_; (try simp only [Act.put, List.setIfInBounds_toArray, List.set_cons_zero, List.set_cons_succ])
  refine wpList_end ?_
  have HO := Lib.hid h1; clear h1
  go_upto_region 3 with fail; refine wp_region_lit ?_
  refine wpList_val (run_mv (v := v1) rfl rfl) rfl ?_; (try simp only [Act.put, List.setIfInBounds_toArray, List.set_cons_zero, List.set_cons_succ])
  refine wpList_val (run_mv (v := vb) rfl rfl) rfl ?_; (try simp only [Act.put, List.setIfInBounds_toArray, List.set_cons_zero, List.set_cons_succ])
  refine wpList_appG (l := [] ++ a) (m := b) rfl rfl rfl HO.out rfl (HB.out.below bl) (by omega) bl.size (fun v2 u2 h2 hb2 => ?_); (try simp only [Act.put, List.setIfInBounds_toArray, List.set_cons_zero, List.set_cons_succ])
  refine wpList_val (run_asg (v := v2) rfl rfl) rfl ?_; (try simp only [Act.put, List.setIfInBounds_toArray, List.set_cons_zero, List.set_cons_succ])
  refine wpList_end ?_
  have HS : Hid (Sl v2 (a ++ b) u2) := Lib.hid (by
    rw [List.nil_append] at h2
    exact Sl.own (base := w.heap.size) (by rw [List.length_append]; rwa [Nat.zero_add] at h2))
  replace bl := bl.trans hb2
  clear h2 hb2 HO HA HB
  go_upto_region 4 with fail; refine wp_region_lit ?_
  refine wpList_val (run_mv (v := v2) rfl rfl) rfl ?_; (try simp only [Act.put, List.setIfInBounds_toArray, List.set_cons_zero, List.set_cons_succ])
  refine wpList_val (run_asg (v := v2) rfl rfl) rfl ?_; (try simp only [Act.put, List.setIfInBounds_toArray, List.set_cons_zero, List.set_cons_succ])
  refine wpList_end ?_
  go_wp2_with fail
  exact bodyPost_ret (results_tmp Tryd.results57 _ _ _) rfl ⟨_, rfl, HS.out, bl⟩
end Go.Proofs.YtobpgolchlgpfaaDoor
namespace Go.Proofs.YtobpgolchlgpfaaDoor
open Go.RowKit
set_option maxRecDepth 20000

theorem enters_rhmac : Enters 37 := enters_of Tryd.func37 (by kernel_rfl) rfl
def keyS (k : List (BitVec 8)) : List (BitVec 8) := if 64 < k.length then sum32 k else k
theorem keyS_le (k : List (BitVec 8)) : (keyS k).length ≤ 64 := by
  unfold keyS
  split
  · rw [sum_len32]; omega
  · omega
theorem fz_getD (s : List (BitVec 8)) (i : Nat) : (fz s).getD i 0 = if i < s.length then s.getD i 0 else 0 := by
  unfold fz
  by_cases h : i < s.length
  · rw [if_pos h]
    simp only [List.getD_eq_getElem?_getD]
    rw [List.getElem?_append_left h]
  · rw [if_neg h]
    simp only [List.getD_eq_getElem?_getD]
    rw [List.getElem?_append_right (by omega), List.getElem?_replicate]
    split <;> rfl
theorem xor_snoc (m : BitVec 8) (F : List (BitVec 8)) (k : Nat) (h : k < F.length) : xorL m (F.take (k + 1)) = xorL m (F.take k) ++ [F.getD k 0 ^^^ m] := by
  unfold xorL
  rw [take_snoc8 F k h, List.map_append]; rfl
structure TwoR (r : World) (v v2 : Value) (l l2 : List (BitVec 8)) (n : Nat) (u : World) : Prop where
  bl : Below r.heap.size r u
  O : u.ownsRow r.heap.size 5 1 v n (l.map b8)
  O2 : u.ownsRow r.heap.size 5 1 v2 n (l2.map b8)
  ap : Apart v v2
theorem TwoR.below {r u u' : World} {v v2 : Value} {l l2 : List (BitVec 8)} {n : Nat} (i : TwoR r v v2 l l2 n u) (hb : Below u.heap.size u u') : TwoR r v v2 l l2 n u' :=
  ⟨i.bl.trans (hb.mono i.bl.size), own_below i.O hb, own_below i.O2 hb, i.ap⟩
set_option maxHeartbeats 2000000 in
theorem rhmac_any (vk : Value) (k : List (BitVec 8)) (vb : Value) (b : List (BitVec 8)) (w : World) (hk : Sl vk k w) (hkl : k.length ≤ 9000) (hb : Sl vb b w) (hbl : b.length ≤ 9000) (hT : Tabs w) :
    Calls Tryd.prog 37 #[vk, vb] w fun e w' => e = .returned (.agg ((hmac k b).map b8).toArray) ∧ Below w.heap.size w w' := by
  have HT := Lib.hid hT; clear hT
  have HK := Lib.hid hk
  have HB := Lib.hid hb; clear hb
  have EH : Hid (hmac k b = sum32 (xorL 0x5c (fz (keyS k)) ++ sum32 (xorL 0x36 (fz (keyS k)) ++ b))) := Lib.hid rfl
  have HKS : Hid (keyS k = if 64 < k.length then sum32 k else k) := Lib.hid rfl
  have hksl := keyS_le k
  obtain ⟨ao, c, rfl, -, -⟩ := hk
  go_enter Tryd.func37, Tryd.ntmps37
  go_upto_region 0 with fail; refine wp_region_lit ?_
  refine wpList_val (run_alc (vs := z8 32) rfl (by kernel_rfl)) rfl ?_; (try simp only [Act.put, List.setIfInBounds_toArray, List.set_cons_zero, List.set_cons_succ])
  refine wpList_end ?_
  have HR := Lib.hid (Arr.new w (z8 32) 29)
  have bl : Below w.heap.size w (w.alloc (.cells (z8 32).toArray 29)) := (Below.refl _ _).alloc (Nat.le_refl _) _
  generalize w.alloc (.cells (z8 32).toArray 29) = a0 at *
  generalize keyS k = s at *
  go_upto_region 1 with fail; refine wp_region_lit ?_
  refine wpList_val (run_mv (v := .slice _ _ _) rfl rfl) rfl ?_; (try simp only [Act.put, List.setIfInBounds_toArray, List.set_cons_zero, List.set_cons_succ])
  refine wpList_val (run_len rfl Tryd.underlying30 rfl) rfl ?_; (try simp only [Act.put, List.setIfInBounds_toArray, List.set_cons_zero, List.set_cons_succ])
  refine wpList_val (run_gtr rfl rfl rfl) rfl ?_; (try simp only [Act.put, List.setIfInBounds_toArray, List.set_cons_zero, List.set_cons_succ])
  refine wpList_end ?_
  go_upto_if 11 with fail
  go_cut [0] (fun s0 u => Sl s0 s u ∧ Below a0.heap.size a0 u)
  case first =>
    by_cases hlt : 64 < k.length
    · rw [if_pos hlt] at HKS
      rw [decide_eq_true (show (64 : Int) < (k.length : Int) by omega)]
      go_upto_region 2 with fail; refine wp_region_lit ?_
      refine wpList_val (run_mv (v := .slice _ _ _) rfl rfl) rfl ?_; (try simp only [Act.put, List.setIfInBounds_toArray, List.set_cons_zero, List.set_cons_succ])
      refine wpList_enter (run_call1 enters_refsum32 rfl rfl rfl) rfl (refsum32_any _ k _ (HK.out.below bl) (by omega) (HT.out.below bl)) (fun a1 b1 => ?_); (try simp only [Act.put, List.setIfInBounds_toArray, List.set_cons_zero, List.set_cons_succ])
      rw [← HKS.out]
      refine wpList_callR (run_call1 enters_rslice rfl rfl rfl) rfl (rslice_any s _ (by rw [HKS.out]; exact sum_len32 k)) (fun v1 a2 hR => ?_)
      obtain ⟨O1, hb⟩ := hR
      have S1 : Sl v1 s a2 := Sl.own (base := a1.heap.size) (by rw [show s.length = 32 by rw [HKS.out]; exact sum_len32 k]; exact O1)
      (try simp only [Act.put, List.setIfInBounds_toArray, List.set_cons_zero, List.set_cons_succ])
      refine wpList_val (run_asg (v := v1) rfl rfl) rfl ?_
      simp only [Act.put, List.setIfInBounds_toArray, List.set_cons_zero]
      refine wpList_end ?_
      go_wp2_with fail
      go_meet
      exact ⟨S1, b1.trans (hb.mono b1.size)⟩
    · rw [if_neg hlt] at HKS
      rw [decide_eq_false (show ¬ (64 : Int) < (k.length : Int) by omega)]
      go_wp2_with fail
      go_meet
      exact ⟨by rw [HKS.out]; exact HK.out.below bl, Below.refl _ _⟩
  case rest =>
    obtain ⟨S0, hb0⟩ := hcut
    have H0 := Lib.hid S0
    obtain ⟨ak, ck, e0, -, -⟩ := S0
    subst e0
    replace HR := Lib.hid (HR.out.below hb0)
    replace bl := bl.trans (hb0.mono bl.size)
    clear hb0 HK HKS
    generalize hr : wc = r at *
    clear hr
    have hfl := fz_len hksl
    have HFG := Lib.hid (fz_getD s)
    generalize fz s = F at *
    have hI : Hid (TwoR r (.slice none 0 0) (.slice none 0 0) (xorL 0x36 (F.take 0)) (xorL 0x5c (F.take 0)) 0 r) := Lib.hid ⟨Below.refl _ _, World.ownsRow_nil _ _ _ _, World.ownsRow_nil _ _ _ _, Apart.nil _⟩
    go_upto_region 3 with fail; refine wp_region_lit ?_
    refine wpList_val (run_asg (v := .slice _ _ _) rfl rfl) rfl ?_; (try simp only [Act.put, List.setIfInBounds_toArray, List.set_cons_zero, List.set_cons_succ])
    refine wpList_end ?_
    go_upto_region 4 with fail; refine wp_region_lit ?_
    refine wpList_val (run_asg (v := .slice _ _ _) rfl rfl) rfl ?_; (try simp only [Act.put, List.setIfInBounds_toArray, List.set_cons_zero, List.set_cons_succ])
    refine wpList_end ?_
    go_upto_region 5 with fail; refine wp_region_lit ?_
    refine wpList_val (run_asg (v := .int _ _) rfl rfl) rfl ?_; (try simp only [Act.put, List.setIfInBounds_toArray, List.set_cons_zero, List.set_cons_succ])
    refine wpList_end ?_
    go_wp2_with fail
    go_loopw [5, 6, 7] (fun s5 s6 s7 u => ∃ i : Nat, i ≤ 64 ∧ s7 = .int .i64 (i : Int) ∧ TwoR r s5 s6 (xorL 0x36 (F.take i)) (xorL 0x5c (F.take i)) i u) (fun _ _ s7 _ => (64 - intOf s7).toNat)
    case atStart => exact ⟨0, by omega, rfl, hI.out⟩
    case round v5 v6 v7 _ =>
      obtain ⟨i, hi, rfl, hJ⟩ := hrel
      replace hI := Lib.hid hJ
      clear hJ
      by_cases hlt : i = 64
      · subst hlt
        have hk1 : ¬ (((64 : Nat) : Int) < 64) := by omega
        rw [List.take_of_length_le (by omega)] at hI
        have hx1 := xor_len 0x36 F
        have hx2 := xor_len 0x5c F
        generalize xorL 0x36 F = X1 at *
        generalize xorL 0x5c F = X2 at *
        have SI : Hid (∀ V, Below wr.heap.size wr V → Sl u5 X1 V) := Lib.hid fun V hV => Sl.own (base := r.heap.size) (by rw [hx1, hfl]; exact (hI.out.below hV).O)
        have SO : Hid (∀ V, Below wr.heap.size wr V → Sl u6 X2 V) := Lib.hid fun V hV => Sl.own (base := r.heap.size) (by rw [hx2, hfl]; exact (hI.out.below hV).O2)
        replace HR := Lib.hid (HR.out.below hI.out.bl)
        replace bl := bl.trans (hI.out.bl.mono bl.size)
        clear hI H0 HFG
        go_upto_region 13 with fail; refine wp_region_lit ?_
        refine wpList_val (run_mv (v := u6) rfl rfl) rfl ?_; (try simp only [Act.put, List.setIfInBounds_toArray, List.set_cons_zero, List.set_cons_succ])
        refine wpList_val (run_mv (v := u5) rfl rfl) rfl ?_; (try simp only [Act.put, List.setIfInBounds_toArray, List.set_cons_zero, List.set_cons_succ])
        refine wpList_val (run_mv (v := vb) rfl rfl) rfl ?_; (try simp only [Act.put, List.setIfInBounds_toArray, List.set_cons_zero, List.set_cons_succ])
        refine wpList_callR (run_call2 enters_joined rfl rfl rfl rfl) rfl (joined_any _ X1 _ b _ (SI.out _ (Below.refl _ _)) (HB.out.below bl) (by omega)) (fun q1 a1 hR => ?_); (try simp only [Act.put, List.setIfInBounds_toArray, List.set_cons_zero, List.set_cons_succ])
        obtain ⟨S1, hS⟩ := hR
        have hl1 : (X1 ++ b).length ≤ 10000 := by rw [List.length_append]; omega
        generalize X1 ++ b = B1 at *
        refine wpList_enter (run_call1 enters_refsum32 rfl rfl rfl) rfl (refsum32_any _ B1 _ S1 hl1 (HT.out.below (bl.trans (hS.mono bl.size)))) (fun a2 hb => ?_); (try simp only [Act.put, List.setIfInBounds_toArray, List.set_cons_zero, List.set_cons_succ])
        replace hS := hS.trans (hb.mono hS.size)
        clear hb S1
        have hsl := sum_len32 B1
        generalize sum32 B1 = D1 at *
        refine wpList_callR (run_call1 enters_rslice rfl rfl rfl) rfl (rslice_any D1 _ hsl) (fun q2 a3 hR => ?_); (try simp only [Act.put, List.setIfInBounds_toArray, List.set_cons_zero, List.set_cons_succ])
        obtain ⟨O1, hb⟩ := hR
        replace hS := hS.trans (hb.mono hS.size)
        have S2 : Sl q2 D1 a3 := Sl.own (base := a2.heap.size) (by rw [hsl]; exact O1)
        clear hb O1
        refine wpList_callR (run_call2 enters_joined rfl rfl rfl rfl) rfl (joined_any _ X2 _ D1 _ (SO.out _ hS) S2 (by omega)) (fun q3 a4 hR => ?_); (try simp only [Act.put, List.setIfInBounds_toArray, List.set_cons_zero, List.set_cons_succ])
        obtain ⟨S3, hb⟩ := hR
        replace hS := hS.trans (hb.mono hS.size)
        clear hb S2
        have hl2 : (X2 ++ D1).length ≤ 10000 := by rw [List.length_append]; omega
        generalize X2 ++ D1 = B2 at *
        refine wpList_enter (run_call1 enters_refsum32 rfl rfl rfl) rfl (refsum32_any _ B2 _ S3 hl2 (HT.out.below (bl.trans (hS.mono bl.size)))) (fun a5 hb => ?_); (try simp only [Act.put, List.setIfInBounds_toArray, List.set_cons_zero, List.set_cons_succ])
        replace hS := hS.trans (hb.mono hS.size)
        clear hb S3
        have hs2 := sum_len32 B2
        generalize sum32 B2 = D2 at *
        replace HR := Lib.hid (HR.out.below hS)
        replace bl := bl.trans (hS.mono bl.size)
        clear hS SI SO
        have HZ := Lib.hid (size_d32 hs2)
        have hT := (HR.out.put (l' := D2.map b8) (by rw [List.length_map, hs2, z8_len])).range
        refine wpList_skip (run_stA (vs := D2.map b8) rfl HZ.out rfl rfl (one8 _) (by rw [List.length_map, hs2, ← z8_len 32]; exact HR.out.there)) rfl rfl ?_
        refine wpList_end ?_
        go_wp2_with fail
        refine bodyPost_ret (v := .agg (D2.map b8).toArray) ?_ rfl ⟨by rw [EH.out], below_setCells (Nat.le_refl _) _ _ bl⟩
        exact results_arr Tryd.results37 rfl Tryd.underlying29 HZ.out hT
      · have hk1 : (i : Int) < 64 := by omega
        have hk2 : i < 64 := by omega
        have HX1 := Lib.hid (xor_snoc 0x36 F i (by omega))
        have HX2 := Lib.hid (xor_snoc 0x5c F i (by omega))
        have HG := Lib.hid (HFG.out i)
        generalize F.getD i 0 = x at *
        generalize xorL 0x36 (F.take i) = P1 at *
        generalize xorL 0x5c (F.take i) = P2 at *
        go_upto_region 8 with fail; refine wp_region_lit ?_
        refine wpList_val (run_asg (v := .int _ _) rfl rfl) rfl ?_; (try simp only [Act.put, List.setIfInBounds_toArray, List.set_cons_zero, List.set_cons_succ])
        refine wpList_end ?_
        go_upto_region 9 with fail; refine wp_region_lit ?_
        refine wpList_val (run_mv (v := .int _ _) rfl rfl) rfl ?_; (try simp only [Act.put, List.setIfInBounds_toArray, List.set_cons_zero, List.set_cons_succ]); refine wpList_val (run_mv (v := .slice _ _ _) rfl rfl) rfl ?_; (try simp only [Act.put, List.setIfInBounds_toArray, List.set_cons_zero, List.set_cons_succ])
        refine wpList_val (run_len rfl Tryd.underlying30 rfl) rfl ?_; (try simp only [Act.put, List.setIfInBounds_toArray, List.set_cons_zero, List.set_cons_succ])
        refine wpList_val (run_lss rfl rfl rfl) rfl ?_; (try simp only [Act.put, List.setIfInBounds_toArray, List.set_cons_zero, List.set_cons_succ])
        refine wpList_end ?_
        generalize hwr : wr = a1 at *
        clear hwr
        go_upto_if 22 with fail
        go_cut [8] (fun s8 u => s8 = b8 x ∧ u = a1)
        case first =>
          by_cases hil : i < s.length
          · rw [if_pos hil] at HG
            rw [decide_eq_true (show (i : Int) < (s.length : Int) by omega)]
            obtain ⟨g, f, c2, e2, hg, hr⟩ := H0.out.adr (by omega)
            injection e2 with e2 _ e2'
            subst e2 e2'
            have HC : Hid (a1.cell? ⟨g, f + i, none⟩ = some (b8 x)) := Lib.hid (by rw [HG.out]; exact rangeAt_below hr hg hI.out.bl _ _ (get_map b8 0 hil))
            clear hr
            go_upto_region 10 with fail; refine wp_region_lit ?_
            refine wpList_val (run_mv (v := .slice (some _) _ _) rfl rfl) rfl ?_; (try simp only [Act.put, List.setIfInBounds_toArray, List.set_cons_zero, List.set_cons_succ]); refine wpList_val (run_mv (v := .int _ _) rfl rfl) rfl ?_; (try simp only [Act.put, List.setIfInBounds_toArray, List.set_cons_zero, List.set_cons_succ])
            refine wpList_val (run_ixs rfl Tryd.underlying30 (by kernel_rfl) rfl rfl hil) rfl ?_; (try simp only [Act.put, List.setIfInBounds_toArray, List.set_cons_zero, List.set_cons_succ])
            refine wpList_val (run_ld8 rfl rfl HC.out) rfl ?_; (try simp only [Act.put, List.setIfInBounds_toArray, List.set_cons_zero, List.set_cons_succ])
            refine wpList_val (run_asg (v := b8 _) rfl rfl) rfl ?_; (try simp only [Act.put, List.setIfInBounds_toArray, List.set_cons_zero, List.set_cons_succ])
            refine wpList_end ?_
            go_wp2_with fail
            go_meet
            exact ⟨rfl, rfl⟩
          · rw [if_neg hil] at HG
            rw [decide_eq_false (show ¬ (i : Int) < (s.length : Int) by omega)]
            go_wp2_with fail
            go_meet
            exact ⟨by rw [HG.out]; rfl, rfl⟩
        case rest =>
          obtain ⟨rfl, rfl⟩ := hcut
          clear HG H0
          go_upto_region 11 with fail; refine wp_region_lit ?_
          refine wpList_val (run_mv (v := u5) rfl rfl) rfl ?_; (try simp only [Act.put, List.setIfInBounds_toArray, List.set_cons_zero, List.set_cons_succ])
          refine wpList_val (run_mv (v := b8 _) rfl rfl) rfl ?_; (try simp only [Act.put, List.setIfInBounds_toArray, List.set_cons_zero, List.set_cons_succ])
          refine wpList_val (run_xor8 (b := 0x36) rfl rfl rfl) rfl ?_; (try simp only [Act.put, List.setIfInBounds_toArray, List.set_cons_zero, List.set_cons_succ])
          refine wpList_val (run_bsl (cells := #[b8 (x ^^^ 0x36)]) (z := .int .u8 0) rfl Tryd.underlying30 (by kernel_rfl) (by omega) (by omega) (by kernel_rfl)) rfl ?_; (try simp only [Act.put, List.setIfInBounds_toArray, List.set_cons_zero, List.set_cons_succ]); have hb2 : Below wc.heap.size wc (wc.alloc (.cells #[b8 (x ^^^ 0x36)] 5)) := (Below.refl _ _).alloc (Nat.le_refl _) _; have A2 : Hid (Arr wc.heap.size ([x ^^^ 0x36].map b8) (wc.alloc (.cells #[b8 (x ^^^ 0x36)] 5))) := Lib.hid (Arr.new wc _ _)
          replace hI := Lib.hid (hI.out.below hb2)
          clear hb2
          generalize wc.alloc (.cells #[b8 (x ^^^ 0x36)] 5) = a2 at *
          refine wpList_app2 (l := P1) (m := [x ^^^ 0x36]) (l2 := P2) rfl rfl rfl hI.out.O hI.out.O2 hI.out.ap rfl A2.out.range (by show i + 1 ≤ _; omega) (by simp) hI.out.bl.size (fun q1 a3 h1 h2 h3 h4 => ?_); (try simp only [Act.put, List.setIfInBounds_toArray, List.set_cons_zero, List.set_cons_succ])
          have HO1 := Lib.hid h1
          have HO2 := Lib.hid h2
          have HAP := Lib.hid h3
          have hbl4 := hI.out.bl.trans h4
          clear h1 h2 h3 h4 hI A2
          refine wpList_val (run_asg (v := q1) rfl rfl) rfl ?_; (try simp only [Act.put, List.setIfInBounds_toArray, List.set_cons_zero, List.set_cons_succ])
          refine wpList_end ?_
          go_upto_region 12 with fail; refine wp_region_lit ?_
          refine wpList_val (run_mv (v := u6) rfl rfl) rfl ?_; (try simp only [Act.put, List.setIfInBounds_toArray, List.set_cons_zero, List.set_cons_succ])
          refine wpList_val (run_mv (v := b8 _) rfl rfl) rfl ?_; (try simp only [Act.put, List.setIfInBounds_toArray, List.set_cons_zero, List.set_cons_succ])
          refine wpList_val (run_xor8 (b := 0x5c) rfl rfl rfl) rfl ?_; (try simp only [Act.put, List.setIfInBounds_toArray, List.set_cons_zero, List.set_cons_succ])
          refine wpList_val (run_bsl (cells := #[b8 (x ^^^ 0x5c)]) (z := .int .u8 0) rfl Tryd.underlying30 (by kernel_rfl) (by omega) (by omega) (by kernel_rfl)) rfl ?_; (try simp only [Act.put, List.setIfInBounds_toArray, List.set_cons_zero, List.set_cons_succ]); have hb2 : Below a3.heap.size a3 (a3.alloc (.cells #[b8 (x ^^^ 0x5c)] 5)) := (Below.refl _ _).alloc (Nat.le_refl _) _; have A2 : Hid (Arr a3.heap.size ([x ^^^ 0x5c].map b8) (a3.alloc (.cells #[b8 (x ^^^ 0x5c)] 5))) := Lib.hid (Arr.new a3 _ _)
          replace HO1 := Lib.hid (own_below HO1.out hb2)
          replace HO2 := Lib.hid (own_below HO2.out hb2)
          replace hbl4 := hbl4.trans (hb2.mono hbl4.size)
          clear hb2
          generalize a3.alloc (.cells #[b8 (x ^^^ 0x5c)] 5) = a4 at *
          refine wpList_app2 (l := P2) (m := [x ^^^ 0x5c]) (l2 := P1 ++ [x ^^^ 0x36]) rfl rfl rfl HO2.out HO1.out HAP.out.symm rfl A2.out.range (by show i + 1 ≤ _; omega) (by simp) hbl4.size (fun q2 a5 h1 h2 h3 h4 => ?_); (try simp only [Act.put, List.setIfInBounds_toArray, List.set_cons_zero, List.set_cons_succ])
          have H5 : Hid (TwoR r q1 q2 (xorL 0x36 (F.take (i + 1))) (xorL 0x5c (F.take (i + 1))) (i + 1) a5) := Lib.hid ⟨hbl4.trans h4, by rw [HX1.out]; exact h2, by rw [HX2.out]; exact h1, h3.symm⟩
          clear h1 h2 h3 h4 HO1 HO2 HAP hbl4 A2 HX1 HX2
          refine wpList_val (run_asg (v := q2) rfl rfl) rfl ?_; (try simp only [Act.put, List.setIfInBounds_toArray, List.set_cons_zero, List.set_cons_succ])
          refine wpList_end ?_
          go_wp2_with fail
          go_roundw
          case rel => exact ⟨i + 1, by omega, by go_num, H5.out⟩
          case measure => simp [intOf]; omega
end Go.Proofs.YtobpgolchlgpfaaDoor
namespace Go.Proofs.YtobpgolchlgpfaaDoor
open Go.RowKit
set_option maxRecDepth 20000

theorem enters_rextract : Enters 50 := enters_of Tryd.func50 (by kernel_rfl) rfl
theorem enters_rexpand : Enters 49 := enters_of Tryd.func49 (by kernel_rfl) rfl
set_option maxHeartbeats 1000000 in
theorem rextract_any (vk : Value) (k : List (BitVec 8)) (vb : Value) (b : List (BitVec 8)) (w : World) (hk : Sl vk k w) (hkl : k.length ≤ 9000) (hb : Sl vb b w) (hbl : b.length ≤ 9000) (hT : Tabs w) :
    Calls Tryd.prog 50 #[vk, vb] w fun e w' => e = .returned (.agg ((extract k b).map b8).toArray) ∧ Below w.heap.size w w' := by
  have HT := Lib.hid hT; clear hT
  have HK := Lib.hid hk
  have HB := Lib.hid hb; clear hb
  have EH : Hid (extract k b = hmac (if k.length = 0 then List.replicate 32 0 else k) b) := Lib.hid (by unfold extract; split <;> rfl)
  have hsl : (if k.length = 0 then List.replicate 32 (0 : BitVec 8) else k).length ≤ 9000 := by
    split
    · simp
    · omega
  have HS : Hid ((if k.length = 0 then List.replicate 32 (0 : BitVec 8) else k) = if k.length = 0 then List.replicate 32 (0 : BitVec 8) else k) := Lib.hid rfl
  obtain ⟨ao, c, rfl, -, -⟩ := hk
  go_enter Tryd.func50, Tryd.ntmps50
  go_upto_region 0 with fail; refine wp_region_lit ?_
  refine wpList_val (run_alc (vs := z8 32) rfl (by kernel_rfl)) rfl ?_; (try simp only [Act.put, List.setIfInBounds_toArray, List.set_cons_zero, List.set_cons_succ])
  refine wpList_end ?_
  have HR := Lib.hid (Arr.new w (z8 32) 29)
  have bl : Below w.heap.size w (w.alloc (.cells (z8 32).toArray 29)) := (Below.refl _ _).alloc (Nat.le_refl _) _
  generalize w.alloc (.cells (z8 32).toArray 29) = a0 at *
  go_upto_region 1 with fail; refine wp_region_lit ?_
  refine wpList_val (run_mv (v := .slice _ _ _) rfl rfl) rfl ?_; (try simp only [Act.put, List.setIfInBounds_toArray, List.set_cons_zero, List.set_cons_succ])
  refine wpList_val (run_len rfl Tryd.underlying30 rfl) rfl ?_; (try simp only [Act.put, List.setIfInBounds_toArray, List.set_cons_zero, List.set_cons_succ])
  refine wpList_val (run_eql rfl rfl rfl) rfl ?_; (try simp only [Act.put, List.setIfInBounds_toArray, List.set_cons_zero, List.set_cons_succ])
  refine wpList_end ?_
  go_upto_if 7 with fail
  go_cut [0] (fun s0 u => Sl s0 (if k.length = 0 then List.replicate 32 (0 : BitVec 8) else k) u ∧ Below a0.heap.size a0 u)
  case first =>
    by_cases h0 : k.length = 0
    · rw [show ((k.length : Int) == 0) = true by rw [h0]; rfl]
      go_upto_region 2 with fail; refine wp_region_lit ?_
      refine wpList_val (run_mk8 (n := 32) rfl rfl rfl (by omega)) rfl ?_; (try simp only [Act.put, List.setIfInBounds_toArray, List.set_cons_zero, List.set_cons_succ])
      refine wpList_val (run_asg (v := .slice (some _) _ _) rfl rfl) rfl ?_
      simp only [Act.put, List.setIfInBounds_toArray, List.set_cons_zero]
      refine wpList_end ?_
      have S1 : Hid (Sl (.slice (some ⟨a0.heap.size, 0, none⟩) 32 32) (List.replicate 32 0) (a0.alloc (.cells (z8 32).toArray 5))) := Lib.hid (sl_zero (Arr.new a0 (z8 32) 5))
      have b1 : Below a0.heap.size a0 (a0.alloc (.cells (z8 32).toArray 5)) := (Below.refl _ _).alloc (Nat.le_refl _) _
      generalize a0.alloc (.cells (z8 32).toArray 5) = a1 at *
      go_wp2_with fail
      go_meet
      exact ⟨by rw [if_pos h0]; exact S1.out, b1⟩
    · rw [show ((k.length : Int) == 0) = false from beq_eq_false_iff_ne.2 (by omega)]
      go_wp2_with fail
      go_meet
      exact ⟨by rw [if_neg h0]; exact HK.out.below bl, Below.refl _ _⟩
  case rest =>
    obtain ⟨S0, hb0⟩ := hcut
    generalize (if k.length = 0 then List.replicate 32 (0 : BitVec 8) else k) = s at *
    replace HR := Lib.hid (HR.out.below hb0)
    replace bl := bl.trans (hb0.mono bl.size)
    clear hb0 HS
    go_upto_region 3 with fail; refine wp_region_lit ?_
    refine wpList_val (run_mv (v := u0) rfl rfl) rfl ?_; (try simp only [Act.put, List.setIfInBounds_toArray, List.set_cons_zero, List.set_cons_succ])
    refine wpList_val (run_mv (v := vb) rfl rfl) rfl ?_; (try simp only [Act.put, List.setIfInBounds_toArray, List.set_cons_zero, List.set_cons_succ])
    refine wpList_enter (run_call2 enters_rhmac rfl rfl rfl rfl) rfl (rhmac_any _ s vb b _ S0 hsl (HB.out.below bl) hbl (HT.out.below bl)) (fun u2 hb => ?_); (try simp only [Act.put, List.setIfInBounds_toArray, List.set_cons_zero, List.set_cons_succ])
    replace HR := Lib.hid (HR.out.below hb)
    replace bl := bl.trans (hb.mono bl.size)
    clear hb
    have hs2 : (hmac s b).length = 32 := hmac_len _ _
    generalize hmac s b = D2 at *
    have HZ := Lib.hid (size_d32 hs2)
    have hT := (HR.out.put (l' := D2.map b8) (by rw [List.length_map, hs2, z8_len])).range
    refine wpList_skip (run_stA (vs := D2.map b8) rfl HZ.out rfl rfl (one8 _) (by rw [List.length_map, hs2, ← z8_len 32]; exact HR.out.there)) rfl rfl ?_
    refine wpList_end ?_
    go_wp2_with fail
    refine bodyPost_ret (v := .agg (D2.map b8).toArray) ?_ rfl ⟨by rw [EH.out], below_setCells (Nat.le_refl _) _ _ bl⟩
    exact results_arr Tryd.results50 rfl Tryd.underlying29 HZ.out hT
structure ExR (r : World) (v v2 : Value) (k info : List (BitVec 8)) (i : Nat) (u : World) : Prop where
  bl : Below r.heap.size r u
  O : u.ownsRow r.heap.size 5 1 v (32 * i) ((expA k info i).map b8)
  O2 : u.ownsRow r.heap.size 5 1 v2 (tI k info i).length ((tI k info i).map b8)
theorem ExR.below {r u u' : World} {v v2 : Value} {k info : List (BitVec 8)} {i : Nat} (h : ExR r v v2 k info i u) (hb : Below u.heap.size u u') : ExR r v v2 k info i u' :=
  ⟨h.bl.trans (hb.mono h.bl.size), own_below h.O hb, own_below h.O2 hb⟩
set_option maxHeartbeats 2000000 in
theorem rexpand_any (K : List (BitVec 8)) (vi : Value) (info : List (BitVec 8)) (n : Nat) (w : World) (hK : K.length = 32) (hi : Sl vi info w) (hil : info.length ≤ 8000) (hn : n ≤ 8160) (hT : Tabs w) :
    Calls Tryd.prog 49 #[.agg (K.map b8).toArray, vi, .int .i64 (n : Int)] w fun e w' => ∃ v', e = .returned v' ∧ (Sl v' (expand K info n) w' ∧ Below w.heap.size w w') := by
  have HT := Lib.hid hT; clear hT
  have HI := Lib.hid hi
  obtain ⟨ao, c, rfl, -, -⟩ := hi
  have EE : Hid (expand K info n = (expA K info ((n + 31) / 32)).take n) := Lib.hid rfl
  go_enter Tryd.func49, Tryd.ntmps49
  go_upto_region 0 with fail; refine wp_region_lit ?_
  refine wpList_val (run_box rfl rfl) rfl ?_; (try simp only [Act.put, List.setIfInBounds_toArray, List.set_cons_zero, List.set_cons_succ])
  refine wpList_val (run_asg (v := .slice _ _ _) rfl rfl) rfl ?_; (try simp only [Act.put, List.setIfInBounds_toArray, List.set_cons_zero, List.set_cons_succ])
  refine wpList_end ?_
  have HK := Lib.hid (Arr.new w (K.map b8) 29)
  have bl : Below w.heap.size w (w.alloc (.cells (K.map b8).toArray 29)) := (Below.refl _ _).alloc (Nat.le_refl _) _
  generalize w.alloc (.cells (K.map b8).toArray 29) = r at *
  go_upto_region 1 with fail; refine wp_region_lit ?_
  refine wpList_val (run_mv (v := .int _ _) rfl rfl) rfl ?_; (try simp only [Act.put, List.setIfInBounds_toArray, List.set_cons_zero, List.set_cons_succ])
  refine wpList_val (run_lssb (c := false) rfl rfl rfl (decide_eq_false (by omega))) rfl ?_; (try simp only [Act.put, List.setIfInBounds_toArray, List.set_cons_zero, List.set_cons_succ])
  refine wpList_val (run_mv (v := .bool false) rfl rfl) rfl ?_; (try simp only [Act.put, List.setIfInBounds_toArray, List.set_cons_zero, List.set_cons_succ])
  refine wpList_valG (run_mv (v := .int _ _) rfl rfl) rfl ?_; (try simp only [Act.put, List.setIfInBounds_toArray, List.set_cons_zero, List.set_cons_succ])
  refine wpList_valG (run_gtrb (c := false) rfl rfl rfl (decide_eq_false (by omega))) rfl ?_; (try simp only [Act.put, List.setIfInBounds_toArray, List.set_cons_zero, List.set_cons_succ])
  refine wpList_val (run_pick (b := false) (v := .bool false) rfl rfl rfl) rfl ?_; (try simp only [Act.put, List.setIfInBounds_toArray, List.set_cons_zero, List.set_cons_succ])
  refine wpList_end ?_
  have hp : (n + 31) / 32 ≤ 255 ∧ n ≤ 32 * ((n + 31) / 32) ∧ 32 * ((n + 31) / 32) < n + 32 := by omega
  generalize (n + 31) / 32 = p at *
  have hI : Hid (ExR r (.slice none 0 0) (.slice none 0 0) K info 0 r) := Lib.hid ⟨Below.refl _ _, World.ownsRow_nil _ _ _ _, World.ownsRow_nil _ _ _ _⟩
  go_upto_region 3 with fail; refine wp_region_lit ?_
  refine wpList_val (run_asg (v := .slice _ _ _) rfl rfl) rfl ?_; (try simp only [Act.put, List.setIfInBounds_toArray, List.set_cons_zero, List.set_cons_succ])
  refine wpList_end ?_
  go_upto_region 4 with fail; refine wp_region_lit ?_
  refine wpList_val (run_asg (v := .slice _ _ _) rfl rfl) rfl ?_; (try simp only [Act.put, List.setIfInBounds_toArray, List.set_cons_zero, List.set_cons_succ])
  refine wpList_end ?_
  go_upto_region 5 with fail; refine wp_region_lit ?_
  refine wpList_val (run_asg (v := .int _ _) rfl rfl) rfl ?_; (try simp only [Act.put, List.setIfInBounds_toArray, List.set_cons_zero, List.set_cons_succ])
  refine wpList_end ?_
  go_wp2_with fail
  go_loopw [7, 8, 9] (fun s7 s8 s9 u => ∃ i : Nat, i ≤ p ∧ s9 = .int .i64 ((i + 1 : Nat) : Int) ∧ ExR r s7 s8 K info i u) (fun _ _ s9 _ => (p + 1 - intOf s9).toNat)
  case atStart => exact ⟨0, by omega, rfl, hI.out⟩
  case round =>
    obtain ⟨i, hi, rfl, hJ⟩ := hrel
    replace hI := Lib.hid hJ
    clear hJ
    have hel := expA_len K info i
    obtain ⟨a7, c7, e7, hc7, -⟩ : ∃ a7 c7, u7 = .slice a7 (32 * i) c7 ∧ 32 * i ≤ c7 ∧ True := by
      rcases hI.out.O.2 with ⟨h1, h2⟩ | ⟨g, cap, cur, h1, _, _, h2, _⟩
      · exact ⟨none, 0, by rw [h1, h2], by omega, trivial⟩
      · exact ⟨_, cap, h1, h2, trivial⟩
    subst e7
    go_upto_region 6 with fail; refine wp_region_lit ?_
    refine wpList_val (run_mv (v := .slice _ _ _) rfl rfl) rfl ?_; (try simp only [Act.put, List.setIfInBounds_toArray, List.set_cons_zero, List.set_cons_succ])
    refine wpList_val (run_len rfl Tryd.underlying30 rfl) rfl ?_; (try simp only [Act.put, List.setIfInBounds_toArray, List.set_cons_zero, List.set_cons_succ])
    refine wpList_val (run_mv (v := .int _ _) rfl rfl) rfl ?_; (try simp only [Act.put, List.setIfInBounds_toArray, List.set_cons_zero, List.set_cons_succ])
    by_cases hlt : i = p
    · subst hlt
      refine wpList_val (run_lssb (c := false) rfl rfl rfl (decide_eq_false (by omega))) rfl ?_; (try simp only [Act.put, List.setIfInBounds_toArray, List.set_cons_zero, List.set_cons_succ])
      refine wpList_end ?_
      go_upto_region 10 with fail; refine wp_region_lit ?_
      refine wpList_val (run_mv (v := .slice _ _ _) rfl rfl) rfl ?_; (try simp only [Act.put, List.setIfInBounds_toArray, List.set_cons_zero, List.set_cons_succ])
      refine wpList_val (run_mv (v := .int _ _) rfl rfl) rfl ?_; (try simp only [Act.put, List.setIfInBounds_toArray, List.set_cons_zero, List.set_cons_succ])
      refine wpList_val (run_slo rfl Tryd.underlying30 (by kernel_rfl) rfl rfl (by omega)) rfl ?_; (try simp only [Act.put, List.setIfInBounds_toArray, List.set_cons_zero, List.set_cons_succ])
      refine wpList_val (run_asg (v := .slice _ _ _) rfl rfl) rfl ?_; (try simp only [Act.put, List.setIfInBounds_toArray, List.set_cons_zero, List.set_cons_succ])
      refine wpList_end ?_
      have HS : Hid (Sl (.slice a7 n c7) ((expA K info i).take n) wr) := Lib.hid ((Sl.own (base := r.heap.size) (by rw [hel]; exact hI.out.O)).front (by omega))
      rw [← EE.out] at HS
      replace bl := bl.trans (hI.out.bl.mono bl.size)
      clear hI
      go_wp2_with fail
      exact bodyPost_ret (results_tmp Tryd.results49 _ _ _) rfl ⟨_, rfl, HS.out, bl⟩
    · have hk2 : i < p := by omega
      refine wpList_val (run_lssb (c := true) rfl rfl rfl (decide_eq_true (by omega))) rfl ?_; (try simp only [Act.put, List.setIfInBounds_toArray, List.set_cons_zero, List.set_cons_succ])
      refine wpList_end ?_
      have HTI : Hid (hmac K ((tI K info i ++ info) ++ [BitVec.ofNat 8 (i + 1)]) = tI K info (i + 1)) := Lib.hid rfl
      have HEA : Hid (expA K info (i + 1) = expA K info i ++ tI K info (i + 1)) := Lib.hid rfl
      have htl := tI_len K info i
      have htle := tI_le K info i
      generalize hT1 : tI K info (i + 1) = T1 at *
      have ET := Lib.hid hT1; clear hT1
      have O7 := Lib.hid hI.out.O
      have S8 : Hid (Sl u8 (tI K info i) wr) := Lib.hid (Sl.own hI.out.O2)
      have bi := hI.out.bl
      clear hI
      generalize tI K info i = T0 at *
      generalize expA K info i = E0 at *
      generalize hwr : wr = a0 at *
      clear hwr
      go_upto_region 8 with fail; refine wp_region_lit ?_
      refine wpList_val (run_ldA (vs := K.map b8) rfl Tryd.underlying29 (size_d32 hK) rfl (HK.out.below bi).range) rfl ?_; (try simp only [Act.put, List.setIfInBounds_toArray, List.set_cons_zero, List.set_cons_succ])
      refine wpList_callR (run_call1 enters_rslice rfl rfl rfl) rfl (rslice_any K _ hK) (fun q1 a1 hR => ?_); (try simp only [Act.put, List.setIfInBounds_toArray, List.set_cons_zero, List.set_cons_succ])
      obtain ⟨O1, hS⟩ := hR
      have S1 : Hid (Sl q1 K a1) := Lib.hid (Sl.own (base := a0.heap.size) (by rw [hK]; exact O1))
      clear O1
      refine wpList_val (run_mv (v := u8) rfl rfl) rfl ?_; (try simp only [Act.put, List.setIfInBounds_toArray, List.set_cons_zero, List.set_cons_succ])
      refine wpList_val (run_mv (v := .slice _ _ _) rfl rfl) rfl ?_; (try simp only [Act.put, List.setIfInBounds_toArray, List.set_cons_zero, List.set_cons_succ])
      refine wpList_callR (run_call2 enters_joined rfl rfl rfl rfl) rfl (joined_any _ T0 _ info _ (S8.out.below hS) (HI.out.below (bl.trans ((bi.trans (hS.mono bi.size)).mono bl.size))) (by omega)) (fun q2 a2 hR => ?_); (try simp only [Act.put, List.setIfInBounds_toArray, List.set_cons_zero, List.set_cons_succ])
      obtain ⟨S2, hb⟩ := hR
      replace hS := hS.trans (hb.mono hS.size)
      replace S1 := Lib.hid (S1.out.below hb)
      clear hb S8
      refine wpList_val (run_mv (v := .int _ _) rfl rfl) rfl ?_; (try simp only [Act.put, List.setIfInBounds_toArray, List.set_cons_zero, List.set_cons_succ])
      refine wpList_val (run_cvi_8 rfl rfl) rfl ?_; (try simp only [Act.put, List.setIfInBounds_toArray, List.set_cons_zero, List.set_cons_succ])
      have hl2 : (T0 ++ info).length ≤ 8100 := by rw [List.length_append]; omega
      have hl3 : ((T0 ++ info) ++ [BitVec.ofNat 8 (i + 1)]).length ≤ 9000 := by rw [List.length_append]; simp only [List.length_cons, List.length_nil]; omega
      generalize T0 ++ info = TI at *
      generalize BitVec.ofNat 8 (i + 1) = x at *
      refine wpList_val (run_bsl (cells := #[b8 (x)]) (z := .int .u8 0) rfl Tryd.underlying30 (by kernel_rfl) (by omega) (by omega) (by kernel_rfl)) rfl ?_; (try simp only [Act.put, List.setIfInBounds_toArray, List.set_cons_zero, List.set_cons_succ]); have hb2 : Below a2.heap.size a2 (a2.alloc (.cells #[b8 (x)] 5)) := (Below.refl _ _).alloc (Nat.le_refl _) _; have A2 : Hid (Arr a2.heap.size ([x].map b8) (a2.alloc (.cells #[b8 (x)] 5))) := Lib.hid (Arr.new a2 _ _)
      have S3 : Hid (Sl (.slice (some ⟨a2.heap.size, 0, none⟩) 1 1) [x] (a2.alloc (.cells #[b8 x] 5))) := Lib.hid (Sl.arr A2.out (l := [x]) (c := 1) (Nat.le_refl _))
      replace hS := hS.trans (hb2.mono hS.size)
      replace S1 := Lib.hid (S1.out.below hb2)
      replace S2 := S2.below hb2
      clear hb2 A2
      generalize a2.alloc (.cells #[b8 x] 5) = a3 at *
      refine wpList_callR (run_call2 enters_joined rfl rfl rfl rfl) rfl (joined_any _ TI _ [x] _ S2 S3.out (by simp only [List.length_cons, List.length_nil]; omega)) (fun q3 a4 hR => ?_); (try simp only [Act.put, List.setIfInBounds_toArray, List.set_cons_zero, List.set_cons_succ])
      obtain ⟨S4, hb⟩ := hR
      replace hS := hS.trans (hb.mono hS.size)
      replace S1 := Lib.hid (S1.out.below hb)
      clear hb S2 S3
      have bb : Below w.heap.size w a4 := bl.trans ((bi.trans (hS.mono bi.size)).mono bl.size)
      refine wpList_enter (run_call2 enters_rhmac rfl rfl rfl rfl) rfl (rhmac_any _ K _ _ _ S1.out (by omega) S4 hl3 (HT.out.below bb)) (fun a5 hb => ?_)
      rw [HTI.out]; (try simp only [Act.put, List.setIfInBounds_toArray, List.set_cons_zero, List.set_cons_succ])
      replace hS := hS.trans (hb.mono hS.size)
      clear hb S1 S4 bb
      refine wpList_callR (run_call1 enters_rslice rfl rfl rfl) rfl (rslice_any T1 _ htl) (fun q4 a6 hR => ?_); (try simp only [Act.put, List.setIfInBounds_toArray, List.set_cons_zero, List.set_cons_succ])
      obtain ⟨O8, hb⟩ := hR
      have hAp : Apart (.slice a7 (32 * i) c7) q4 := apart_new (own_below O7.out hS) O8
      have HO8 := Lib.hid (own_mono O8 (Nat.le_trans bi.size hS.size))
      replace hS := hS.trans (hb.mono hS.size)
      replace O7 := Lib.hid (own_below O7.out hS)
      replace bi := bi.trans (hS.mono bi.size)
      clear hb O8 hS HTI
      refine wpList_val (run_asg (v := q4) rfl rfl) rfl ?_; (try simp only [Act.put, List.setIfInBounds_toArray, List.set_cons_zero, List.set_cons_succ])
      refine wpList_end ?_
      obtain ⟨g8, c8, e8, hc8, -, A8⟩ := own_arr HO8.out (by omega)
      have hR8 := Lib.hid A8.range; clear A8
      subst e8
      go_upto_region 9 with fail; refine wp_region_lit ?_
      refine wpList_val (run_mv (v := .slice _ _ _) rfl rfl) rfl ?_; (try simp only [Act.put, List.setIfInBounds_toArray, List.set_cons_zero, List.set_cons_succ])
      refine wpList_val (run_mv (v := .slice (some _) _ _) rfl rfl) rfl ?_; (try simp only [Act.put, List.setIfInBounds_toArray, List.set_cons_zero, List.set_cons_succ])
      refine wpList_app2 (l := E0) (m := T1) (l2 := T1) rfl rfl rfl O7.out HO8.out hAp (by rw [htl]; rfl) hR8.out (by omega) (by omega) bi.size (fun q5 a7' h1 h2 h3 h4 => ?_); (try simp only [Act.put, List.setIfInBounds_toArray, List.set_cons_zero, List.set_cons_succ])
      refine wpList_val (run_asg (v := q5) rfl rfl) rfl ?_; (try simp only [Act.put, List.setIfInBounds_toArray, List.set_cons_zero, List.set_cons_succ])
      refine wpList_end ?_
      have H5 : Hid (ExR r q5 (.slice (some ⟨g8, 0, none⟩) 32 c8) K info (i + 1) a7') := Lib.hid ⟨bi.trans h4, by rw [HEA.out, show 32 * (i + 1) = 32 * i + T1.length by omega]; exact h1, by rw [ET.out, htl]; exact h2⟩
      clear h1 h2 h3 h4 O7 HO8 hAp hR8 HEA bi
      go_wp2_with fail
      go_roundw
      case rel => exact ⟨i + 1, by omega, by go_num, H5.out⟩
      case measure => simp [intOf]; omega
theorem rexpand_out (vi : Value) (K : List (BitVec 8)) (n : Int) (w : World) (hn : n < 0 ∨ 8160 < n) :
    Calls Tryd.prog 49 #[.agg (K.map b8).toArray, vi, .int .i64 n] w fun e w' => ∃ v', e = .returned v' ∧ (Sl v' [] w' ∧ Below w.heap.size w w') := by
  go_enter Tryd.func49, Tryd.ntmps49
  go_upto_region 0 with fail; refine wp_region_lit ?_
  refine wpList_val (run_box rfl rfl) rfl ?_; (try simp only [Act.put, List.setIfInBounds_toArray, List.set_cons_zero, List.set_cons_succ])
  refine wpList_val (run_asg (v := .slice _ _ _) rfl rfl) rfl ?_; (try simp only [Act.put, List.setIfInBounds_toArray, List.set_cons_zero, List.set_cons_succ])
  refine wpList_end ?_
  have bl : Below w.heap.size w (w.alloc (.cells (K.map b8).toArray 29)) := (Below.refl _ _).alloc (Nat.le_refl _) _
  generalize w.alloc (.cells (K.map b8).toArray 29) = a1 at *
  have HS : Hid (Sl (.slice none 0 0) [] a1) := Lib.hid ⟨none, 0, rfl, Nat.le_refl _, fun h => absurd rfl h⟩
  go_upto_region 1 with fail; refine wp_region_lit ?_
  refine wpList_val (run_mv (v := .int _ _) rfl rfl) rfl ?_; (try simp only [Act.put, List.setIfInBounds_toArray, List.set_cons_zero, List.set_cons_succ])
  by_cases h0 : n < 0
  · refine wpList_val (run_lssb (c := true) rfl rfl rfl (decide_eq_true h0)) rfl ?_; (try simp only [Act.put, List.setIfInBounds_toArray, List.set_cons_zero, List.set_cons_succ])
    refine wpList_val (run_mv (v := .bool true) rfl rfl) rfl ?_; (try simp only [Act.put, List.setIfInBounds_toArray, List.set_cons_zero, List.set_cons_succ])
    refine wpList_pass rfl ?_; (try simp only [Act.put, List.setIfInBounds_toArray, List.set_cons_zero, List.set_cons_succ])
    refine wpList_pass rfl ?_; (try simp only [Act.put, List.setIfInBounds_toArray, List.set_cons_zero, List.set_cons_succ])
    refine wpList_val (run_pick (b := true) (v := .bool true) rfl rfl rfl) rfl ?_; (try simp only [Act.put, List.setIfInBounds_toArray, List.set_cons_zero, List.set_cons_succ])
    refine wpList_end ?_
    go_upto_region 2 with fail; refine wp_region_lit ?_
    refine wpList_val (run_asg (v := .slice _ _ _) rfl rfl) rfl ?_; (try simp only [Act.put, List.setIfInBounds_toArray, List.set_cons_zero, List.set_cons_succ])
    refine wpList_end ?_
    go_wp2_with fail
    exact bodyPost_ret (results_tmp Tryd.results49 _ _ _) rfl ⟨_, rfl, HS.out, bl⟩
  · refine wpList_val (run_lssb (c := false) rfl rfl rfl (decide_eq_false h0)) rfl ?_; (try simp only [Act.put, List.setIfInBounds_toArray, List.set_cons_zero, List.set_cons_succ])
    refine wpList_val (run_mv (v := .bool false) rfl rfl) rfl ?_; (try simp only [Act.put, List.setIfInBounds_toArray, List.set_cons_zero, List.set_cons_succ])
    refine wpList_valG (run_mv (v := .int _ _) rfl rfl) rfl ?_; (try simp only [Act.put, List.setIfInBounds_toArray, List.set_cons_zero, List.set_cons_succ])
    refine wpList_valG (run_gtrb (c := true) rfl rfl rfl (decide_eq_true (by omega))) rfl ?_; (try simp only [Act.put, List.setIfInBounds_toArray, List.set_cons_zero, List.set_cons_succ])
    refine wpList_val (run_pick (b := false) (v := .bool true) rfl rfl rfl) rfl ?_; (try simp only [Act.put, List.setIfInBounds_toArray, List.set_cons_zero, List.set_cons_succ])
    refine wpList_end ?_
    go_upto_region 2 with fail; refine wp_region_lit ?_
    refine wpList_val (run_asg (v := .slice _ _ _) rfl rfl) rfl ?_; (try simp only [Act.put, List.setIfInBounds_toArray, List.set_cons_zero, List.set_cons_succ])
    refine wpList_end ?_
    go_wp2_with fail
    exact bodyPost_ret (results_tmp Tryd.results49 _ _ _) rfl ⟨_, rfl, HS.out, bl⟩
end Go.Proofs.YtobpgolchlgpfaaDoor
namespace Go.Proofs.YtobpgolchlgpfaaDoor
open Go.RowKit
set_option maxRecDepth 20000

theorem enters_rkey : Enters 51 := enters_of Tryd.func51 (by kernel_rfl) rfl
theorem enters_rkeys : Enters 31 := enters_of Tryd.func31 (by kernel_rfl) rfl
set_option maxHeartbeats 1000000 in
theorem rkey_any (v : Value) (l : List (BitVec 8)) (w : World) (hv : Sl v l w) (hl : 32 ≤ l.length) :
    Calls Tryd.prog 51 #[v] w fun e w' => e = .returned (.agg ((l.take 32).map b8).toArray) ∧ Below w.heap.size w w' := by
  obtain ⟨g, f, c, rfl, hg, hr⟩ := hv.adr (by omega)
  have HC : Hid (∀ V, Below w.heap.size w V → ∀ k, k < 32 → V.cell? ⟨g, f + k, none⟩ = some (b8 (l.getD k 0))) := Lib.hid fun V hV k hk => rangeAt_below hr hg hV _ _ (get_map b8 0 (by omega))
  have hdl : (l.take 32).length = 32 := by rw [List.length_take]; omega
  have HD : Hid (∀ k, k < 32 → l.getD k 0 = (l.take 32).getD k 0) := Lib.hid fun k hk => by simp [hk]
  clear hr hv
  go_enter Tryd.func51, Tryd.ntmps51
  go_upto_region 0 with fail; refine wp_region_lit ?_
  refine wpList_val (run_alc (vs := z8 32) rfl (by kernel_rfl)) rfl ?_; (try simp only [Act.put, List.setIfInBounds_toArray, List.set_cons_zero, List.set_cons_succ])
  refine wpList_end ?_
  generalize hD : l.take 32 = D at *
  have ED := Lib.hid hD; clear hD
  have HE := Lib.hid (cp_eq32 hdl)
  go_upto_region 1 with fail; refine wp_region_lit ?_
  refine wpList_val (run_bldZ32 rfl) rfl ?_; (try simp only [Act.put, List.setIfInBounds_toArray, List.set_cons_zero, List.set_cons_succ])
  refine wpList_val (run_alc (vs := z8 32) rfl (by kernel_rfl)) rfl ?_; (try simp only [Act.put, List.setIfInBounds_toArray, List.set_cons_zero, List.set_cons_succ])
  have hN := TwoI.new w (z8 32) (z8 32) 29 29
  rw [show (w.alloc (.cells (z8 32).toArray 29)).heap.size = w.heap.size + 1 by simp]
  generalize (w.alloc (.cells (z8 32).toArray 29)).alloc (.cells (z8 32).toArray 29) = a0 at *
  have HZ : Hid ((Tryd.prog.info? 29).map (·.size) = some (z8 32).length) := Lib.hid (by rw [zs_len32]; kernel_rfl)
  refine wpList_skip (run_stA (vs := z8 32) rfl HZ.out rfl rfl (one8 _) hN.O.there) rfl rfl ?_
  refine wpList_end ?_
  have hI : Hid (TwoI w (z8 32) ((cp32 D 0).map b8) (a0.setCells (w.heap.size + 1) 0 (z8 32))) := Lib.hid ⟨below_setCells (by omega) _ _ hN.bl, hN.R.farAll (by omega) _ _, hN.O.put rfl⟩
  clear hN HZ
  generalize a0.setCells (w.heap.size + 1) 0 (z8 32) = a1 at *
  go_upto_region 2 with fail; refine wp_region_lit ?_
  refine wpList_val (run_asg (v := .int _ _) rfl rfl) rfl ?_; (try simp only [Act.put, List.setIfInBounds_toArray, List.set_cons_zero, List.set_cons_succ])
  refine wpList_end ?_
  go_wp2_with fail
  go_loopw [4] (fun s4 u => ∃ k : Nat, k ≤ 32 ∧ s4 = .int .i64 (k : Int) ∧ TwoI w (z8 32) ((cp32 D k).map b8) u) (fun s4 _ => (32 - intOf s4).toNat)
  case atStart => exact ⟨0, by omega, rfl, hI.out⟩
  case round =>
    obtain ⟨k, hk, rfl, hJ⟩ := hrel
    replace hI := Lib.hid hJ
    clear hJ
    go_upto_region 3 with fail; refine wp_region_lit ?_
    refine wpList_val (run_mv (v := .int _ _) rfl rfl) rfl ?_; (try simp only [Act.put, List.setIfInBounds_toArray, List.set_cons_zero, List.set_cons_succ])
    by_cases hkd : k = 32
    · subst hkd
      refine wpList_val (run_lssb (c := false) rfl rfl rfl (decide_eq_false (by omega))) rfl ?_; (try simp only [Act.put, List.setIfInBounds_toArray, List.set_cons_zero, List.set_cons_succ])
      refine wpList_val (run_mv (v := .bool false) rfl rfl) rfl ?_; (try simp only [Act.put, List.setIfInBounds_toArray, List.set_cons_zero, List.set_cons_succ])
      refine wpList_pass rfl ?_; (try simp only [Act.put, List.setIfInBounds_toArray, List.set_cons_zero, List.set_cons_succ])
      refine wpList_pass rfl ?_; (try simp only [Act.put, List.setIfInBounds_toArray, List.set_cons_zero, List.set_cons_succ])
      refine wpList_pass rfl ?_; (try simp only [Act.put, List.setIfInBounds_toArray, List.set_cons_zero, List.set_cons_succ])
      refine wpList_pass rfl ?_; (try simp only [Act.put, List.setIfInBounds_toArray, List.set_cons_zero, List.set_cons_succ])
      refine wpList_val (run_pick (b := false) (v := .bool false) rfl rfl rfl) rfl ?_; (try simp only [Act.put, List.setIfInBounds_toArray, List.set_cons_zero, List.set_cons_succ])
      refine wpList_end ?_
      rw [HE.out] at hI
      have hT := (hI.out.R.put (l' := D.map b8) (by rw [List.length_map, hdl, zs_len32])).range
      have HL := Lib.hid (size_d32 hdl)
      go_upto_region 6 with fail; refine wp_region_lit ?_
      refine wpList_val (run_ldA (vs := D.map b8) rfl Tryd.underlying29 HL.out rfl hI.out.O.range) rfl ?_; (try simp only [Act.put, List.setIfInBounds_toArray, List.set_cons_zero, List.set_cons_succ])
      refine wpList_skip (run_stA (vs := D.map b8) rfl HL.out rfl rfl (one8 _) (by rw [List.length_map, hdl, ← z8_len 32]; exact hI.out.R.there)) rfl rfl ?_
      refine wpList_end ?_
      go_wp2_with fail
      refine bodyPost_ret (v := .agg (D.map b8).toArray) ?_ rfl ⟨by rw [ED.out], below_setCells (Nat.le_refl _) _ _ hI.out.bl⟩
      exact results_arr Tryd.results51 rfl Tryd.underlying29 HL.out hT
    · have hk2 : k < 32 := by omega
      have hcl := cp_len32 D k
      refine wpList_val (run_lssb (c := true) rfl rfl rfl (decide_eq_true (by omega))) rfl ?_; (try simp only [Act.put, List.setIfInBounds_toArray, List.set_cons_zero, List.set_cons_succ])
      refine wpList_val (run_mv (v := .bool true) rfl rfl) rfl ?_; (try simp only [Act.put, List.setIfInBounds_toArray, List.set_cons_zero, List.set_cons_succ])
      refine wpList_valG (run_mv (v := .int _ _) rfl rfl) rfl ?_; (try simp only [Act.put, List.setIfInBounds_toArray, List.set_cons_zero, List.set_cons_succ])
      refine wpList_valG (run_mv (v := .slice (some _) _ _) rfl rfl) rfl ?_; (try simp only [Act.put, List.setIfInBounds_toArray, List.set_cons_zero, List.set_cons_succ])
      refine wpList_valG (run_len rfl Tryd.underlying30 rfl) rfl ?_; (try simp only [Act.put, List.setIfInBounds_toArray, List.set_cons_zero, List.set_cons_succ])
      refine wpList_valG (run_lssb (c := true) rfl rfl rfl (decide_eq_true (by omega))) rfl ?_; (try simp only [Act.put, List.setIfInBounds_toArray, List.set_cons_zero, List.set_cons_succ])
      refine wpList_val (run_pick (b := true) (v := .bool true) rfl rfl rfl) rfl ?_; (try simp only [Act.put, List.setIfInBounds_toArray, List.set_cons_zero, List.set_cons_succ])
      refine wpList_end ?_
      go_upto_region 5 with fail; refine wp_region_lit ?_
      refine wpList_val (run_mv (v := .int _ _) rfl rfl) rfl ?_; (try simp only [Act.put, List.setIfInBounds_toArray, List.set_cons_zero, List.set_cons_succ]); refine wpList_val (run_mv (v := .slice (some _) _ _) rfl rfl) rfl ?_; (try simp only [Act.put, List.setIfInBounds_toArray, List.set_cons_zero, List.set_cons_succ]); refine wpList_val (run_mv (v := .int _ _) rfl rfl) rfl ?_; (try simp only [Act.put, List.setIfInBounds_toArray, List.set_cons_zero, List.set_cons_succ])
      refine wpList_val (run_ixs rfl Tryd.underlying30 (by kernel_rfl) rfl rfl (by omega)) rfl ?_; (try simp only [Act.put, List.setIfInBounds_toArray, List.set_cons_zero, List.set_cons_succ])
      refine wpList_val (run_ld8 rfl rfl (HC.out _ hI.out.bl k hk2)) rfl ?_; (try simp only [Act.put, List.setIfInBounds_toArray, List.set_cons_zero, List.set_cons_succ])
      rw [HD.out k hk2]
      refine wpList_val (run_ix0 rfl Tryd.underlying29 (by kernel_rfl) rfl rfl hk2) rfl ?_; (try simp only [Act.put, List.setIfInBounds_toArray, List.set_cons_zero, List.set_cons_succ])
      refine wpList_skip (run_st8 rfl rfl rfl (hI.out.O.c k _ (get_map b8 0 (by omega))) (hI.out.O.f _)) rfl rfl ?_
      refine wpList_end ?_
      have H2 : Hid (TwoI w (z8 32) ((cp32 D (k + 1)).map b8) (wr.setCell ⟨w.heap.size + 1, k, none⟩ (b8 (D.getD k 0)))) := Lib.hid (by rw [cp32, ← set_map]; exact hI.out.set (by rw [List.length_map]; omega) _)
      generalize wr.setCell ⟨w.heap.size + 1, k, none⟩ (b8 (D.getD k 0)) = a2 at *
      go_wp2_with fail
      go_roundw
      case rel => exact ⟨k + 1, by omega, by go_num, H2.out⟩
      case measure => simp [intOf]; omega
theorem ks_own {w : World} {base n : Nat} {v : Value} {l : List (BitVec 8)} (h : w.ownsRow base 29 32 v n (l.map b8)) : KS v n l w := by
  have hl : l.length = 32 * n := by have := h.1; rw [List.length_map] at this; omega
  rcases h.2 with ⟨rfl, hn⟩ | ⟨g, cap, cur, rfl, hb, hg, h1, h2, h3, h4⟩
  · exact ⟨none, 0, by rw [hn], by omega, hl, fun hp => by omega⟩
  · refine ⟨_, cap, rfl, h1, hl, fun _ => ⟨g, rfl, (Array.getElem?_eq_some_iff.1 hg).1, fun j v hv => ?_⟩⟩
    have hj : j < (l.map b8).length := by
      rcases Nat.lt_or_ge j (l.map b8).length with h | h
      · exact h
      · rw [List.getElem?_eq_none h] at hv; cases hv
    rw [List.length_map] at hj
    rw [Nat.zero_add]
    simp only [World.cell?, hg]
    rw [← hv, ← h4]
    rw [List.getElem?_take_of_lt (by omega)]
    simp
set_option maxHeartbeats 2000000 in
theorem rkeys_any (vs : Value) (s : List (BitVec 8)) (vb : Value) (b : List (BitVec 8)) (vi : Value) (info : List (BitVec 8)) (n : Nat) (w : World) (hs : Sl vs s w) (hsl : s.length ≤ 9000) (hb : Sl vb b w) (hbl : b.length ≤ 9000) (hi : Sl vi info w) (hil : info.length ≤ 8000) (hn : n ≤ 255) (hT : Tabs w) :
    Calls Tryd.prog 31 #[vs, vb, vi, .int .i64 (n : Int)] w fun e w' => ∃ v', e = .returned v' ∧ (KS v' n (expand (extract s b) info (32 * n)) w' ∧ Below w.heap.size w w') := by
  have HT := Lib.hid hT; clear hT
  have HV := Lib.hid hs; clear hs
  have HB := Lib.hid hb; clear hb
  have HI := Lib.hid hi; clear hi
  go_enter Tryd.func31, Tryd.ntmps31
  go_upto_region 1 with fail; refine wp_region_lit ?_
  refine wpList_val (run_mv (v := .int _ _) rfl rfl) rfl ?_; (try simp only [Act.put, List.setIfInBounds_toArray, List.set_cons_zero, List.set_cons_succ])
  refine wpList_val (run_lssb (c := false) rfl rfl rfl (decide_eq_false (by omega))) rfl ?_; (try simp only [Act.put, List.setIfInBounds_toArray, List.set_cons_zero, List.set_cons_succ])
  refine wpList_val (run_mv (v := .bool false) rfl rfl) rfl ?_; (try simp only [Act.put, List.setIfInBounds_toArray, List.set_cons_zero, List.set_cons_succ])
  refine wpList_valG (run_mv (v := .int _ _) rfl rfl) rfl ?_; (try simp only [Act.put, List.setIfInBounds_toArray, List.set_cons_zero, List.set_cons_succ])
  refine wpList_valG (run_gtrb (c := false) rfl rfl rfl (decide_eq_false (by omega))) rfl ?_; (try simp only [Act.put, List.setIfInBounds_toArray, List.set_cons_zero, List.set_cons_succ])
  refine wpList_val (run_pick (b := false) (v := .bool false) rfl rfl rfl) rfl ?_; (try simp only [Act.put, List.setIfInBounds_toArray, List.set_cons_zero, List.set_cons_succ])
  refine wpList_end ?_
  go_upto_region 3 with fail; refine wp_region_lit ?_
  refine wpList_val (run_mv (v := vs) rfl rfl) rfl ?_; (try simp only [Act.put, List.setIfInBounds_toArray, List.set_cons_zero, List.set_cons_succ])
  refine wpList_val (run_mv (v := vb) rfl rfl) rfl ?_; (try simp only [Act.put, List.setIfInBounds_toArray, List.set_cons_zero, List.set_cons_succ])
  refine wpList_enter (run_call2 enters_rextract rfl rfl rfl rfl) rfl (rextract_any vs s vb b _ HV.out hsl HB.out hbl HT.out) (fun a1 bl => ?_); (try simp only [Act.put, List.setIfInBounds_toArray, List.set_cons_zero, List.set_cons_succ])
  refine wpList_val (run_mv (v := vi) rfl rfl) rfl ?_; (try simp only [Act.put, List.setIfInBounds_toArray, List.set_cons_zero, List.set_cons_succ])
  refine wpList_val (run_mv (v := .int _ _) rfl rfl) rfl ?_; (try simp only [Act.put, List.setIfInBounds_toArray, List.set_cons_zero, List.set_cons_succ])
  refine wpList_val (run_mul rfl rfl rfl (by omega) (by omega)) rfl ?_; (try simp only [Act.put, List.setIfInBounds_toArray, List.set_cons_zero, List.set_cons_succ])
  rw [show ((32 : Int) * (n : Int)) = ((32 * n : Nat) : Int) by omega]
  refine wpList_callR (run_call3 enters_rexpand rfl rfl rfl rfl rfl) rfl (rexpand_any (extract s b) vi info (32 * n) _ (extract_len s b) (HI.out.below bl) hil (by omega) (HT.out.below bl)) (fun q9 r hR => ?_); (try simp only [Act.put, List.setIfInBounds_toArray, List.set_cons_zero, List.set_cons_succ])
  obtain ⟨S9, hb⟩ := hR
  replace bl := bl.trans (hb.mono bl.size)
  clear hb
  have hBl := expand_len (extract s b) info (32 * n)
  generalize hB : expand (extract s b) info (32 * n) = B at *
  have EB := Lib.hid hB; clear hB
  have H9 := Lib.hid S9
  obtain ⟨ao, c, rfl, -, -⟩ := S9
  rw [hBl] at H9 ⊢
  refine wpList_val (run_asg (v := .slice _ _ _) rfl rfl) rfl ?_; (try simp only [Act.put, List.setIfInBounds_toArray, List.set_cons_zero, List.set_cons_succ])
  refine wpList_end ?_
  have hI : Hid (Below r.heap.size r r ∧ r.ownsRow r.heap.size 29 32 (.slice none 0 0) 0 ((B.take (32 * 0)).map b8)) := Lib.hid ⟨Below.refl _ _, World.ownsRow_nil _ _ _ _⟩
  go_upto_region 4 with fail; refine wp_region_lit ?_
  refine wpList_val (run_asg (v := .slice _ _ _) rfl rfl) rfl ?_; (try simp only [Act.put, List.setIfInBounds_toArray, List.set_cons_zero, List.set_cons_succ])
  refine wpList_end ?_
  go_upto_region 5 with fail; refine wp_region_lit ?_
  refine wpList_val (run_asg (v := .int _ _) rfl rfl) rfl ?_; (try simp only [Act.put, List.setIfInBounds_toArray, List.set_cons_zero, List.set_cons_succ])
  refine wpList_end ?_
  go_wp2_with fail
  go_loopw [10, 11] (fun s10 s11 u => ∃ i : Nat, i ≤ n ∧ s11 = .int .i64 (i : Int) ∧ Below r.heap.size r u ∧ u.ownsRow r.heap.size 29 32 s10 i ((B.take (32 * i)).map b8)) (fun _ s11 _ => (n - intOf s11).toNat)
  case atStart => exact ⟨0, by omega, rfl, hI.out.1, hI.out.2⟩
  case round =>
    obtain ⟨i, hi, rfl, bi, hJ⟩ := hrel
    have HO := Lib.hid hJ
    clear hJ hI
    by_cases hlt : i = n
    · subst hlt
      have hk1 : ¬ (((i : Nat) : Int) < (i : Int)) := by omega
      rw [List.take_of_length_le (by omega)] at HO
      have HKS := Lib.hid (ks_own HO.out)
      replace bl := bl.trans (bi.mono bl.size)
      go_upto_region 9 with fail; refine wp_region_lit ?_
      refine wpList_val (run_mv (v := u10) rfl rfl) rfl ?_; (try simp only [Act.put, List.setIfInBounds_toArray, List.set_cons_zero, List.set_cons_succ])
      refine wpList_val (run_asg (v := u10) rfl rfl) rfl ?_; (try simp only [Act.put, List.setIfInBounds_toArray, List.set_cons_zero, List.set_cons_succ])
      refine wpList_end ?_
      go_wp2_with fail
      exact bodyPost_ret (results_tmp Tryd.results31 _ _ _) rfl ⟨_, rfl, by rw [EB.out]; exact HKS.out, bl⟩
    · have hk1 : (i : Int) < (n : Int) := by omega
      have hk2 : i < n := by omega
      have hdl : ((B.drop (32 * i)).take 32).length = 32 := by rw [List.length_take, List.length_drop]; omega
      have HX : Hid (B.take (32 * (i + 1)) = B.take (32 * i) ++ (B.drop (32 * i)).take 32) := Lib.hid (by rw [show 32 * (i + 1) = 32 * i + 32 by omega, List.take_add])
      have SC : Hid (Sl (cutO ao (32 * n) c (32 * i)) (B.drop (32 * i)) wr) := Lib.hid (by
        have h1 : Sl (.slice ao B.length c) B r := by rw [hBl]; exact H9.out
        have := (h1.below bi).cut (k := 32 * i) (by omega)
        rwa [hBl] at this)
      go_upto_region 8 with fail; refine wp_region_lit ?_
      refine wpList_val (run_mv (v := u10) rfl rfl) rfl ?_; (try simp only [Act.put, List.setIfInBounds_toArray, List.set_cons_zero, List.set_cons_succ])
      refine wpList_val (run_mv (v := .slice _ _ _) rfl rfl) rfl ?_; (try simp only [Act.put, List.setIfInBounds_toArray, List.set_cons_zero, List.set_cons_succ])
      refine wpList_val (run_mv (v := .int _ _) rfl rfl) rfl ?_; (try simp only [Act.put, List.setIfInBounds_toArray, List.set_cons_zero, List.set_cons_succ])
      refine wpList_val (run_mul rfl rfl rfl (by omega) (by omega)) rfl ?_; (try simp only [Act.put, List.setIfInBounds_toArray, List.set_cons_zero, List.set_cons_succ])
      rw [show ((32 : Int) * (i : Int)) = ((32 * i : Nat) : Int) by omega]
      refine wpList_val (run_cut rfl Tryd.underlying30 (by kernel_rfl) rfl rfl (by omega)) rfl ?_; (try simp only [Act.put, List.setIfInBounds_toArray, List.set_cons_zero, List.set_cons_succ])
      refine wpList_enter (run_call1 enters_rkey rfl rfl rfl) rfl (rkey_any _ (B.drop (32 * i)) _ SC.out (by rw [List.length_drop]; omega)) (fun a2 hb => ?_); (try simp only [Act.put, List.setIfInBounds_toArray, List.set_cons_zero, List.set_cons_succ])
      replace HO := Lib.hid (own_below HO.out hb)
      replace bi := bi.trans (hb.mono bi.size)
      clear hb SC
      generalize (B.drop (32 * i)).take 32 = D at *
      refine wpList_val (run_bslK (l := D) rfl hdl rfl) rfl ?_; (try simp only [Act.put, List.setIfInBounds_toArray, List.set_cons_zero, List.set_cons_succ])
      have hb : Below a2.heap.size a2 (a2.alloc (.cells (D.map b8).toArray 29)) := (Below.refl _ _).alloc (Nat.le_refl _) _
      have A2 := Lib.hid (Arr.new a2 (D.map b8) 29)
      replace HO := Lib.hid (own_below HO.out hb)
      replace bi := bi.trans (hb.mono bi.size)
      clear hb
      generalize a2.alloc (.cells (D.map b8).toArray 29) = a3 at *
      refine wpList_appK (l := B.take (32 * i)) (m := D) rfl rfl rfl HO.out rfl hdl A2.out.range (by omega) bi.size (fun q1 a4 h1 h2 => ?_); (try simp only [Act.put, List.setIfInBounds_toArray, List.set_cons_zero, List.set_cons_succ])
      have H5 : Hid (a4.ownsRow r.heap.size 29 32 q1 (i + 1) ((B.take (32 * (i + 1))).map b8)) := Lib.hid (by rw [HX.out]; exact h1)
      replace bi := bi.trans h2
      clear h1 h2 A2 HO HX
      refine wpList_val (run_asg (v := q1) rfl rfl) rfl ?_; (try simp only [Act.put, List.setIfInBounds_toArray, List.set_cons_zero, List.set_cons_succ])
      refine wpList_end ?_
      go_wp2_with fail
      go_roundw
      case rel => exact ⟨i + 1, by omega, by go_num, bi, H5.out⟩
      case measure => simp [intOf]; omega
end Go.Proofs.YtobpgolchlgpfaaDoor
namespace Go.Proofs.YtobpgolchlgpfaaDoor
open Go.RowKit
set_option maxRecDepth 20000

theorem enters_reight : Enters 24 := enters_of Tryd.func24 (by kernel_rfl) rfl
theorem run_geqS {w : World} {ρ : Operand → Value} {o : Oper} {t t' : TypeId} {x y : Operand} {k : IntKind} {a b : Int} {c : Bool} (ho : o.op = .binOp .geq t x y t') (hx : ρ x = .int k a) (hy : ρ y = .int k b) (h : decide (b ≤ a) = c) : (execOp ρ o).run Tryd.prog w = .ok (.value (.bool c)) w := by
  rw [← h]; exact run_geq ho hx hy
set_option maxHeartbeats 4000000 in
theorem reight_any (n : BitVec 64) (w : World) : Calls Tryd.prog 24 #[b64 n] w fun e w' => ∃ v', e = .returned v' ∧ S5 w v' (nb n) w' := by
  obtain ⟨f, hf⟩ : ∃ f : Nat → BitVec 8, f = nbF n := ⟨_, rfl⟩
  have EF : Hid (∀ i j, i + j = 7 → (n >>> (8 * i)).setWidth 8 = f j) := Lib.hid fun i j h => by rw [hf, nbF, show 7 - j = i by omega]
  have EX : Hid (nb n = tab 8 f) := Lib.hid (by rw [hf]; rfl)
  have hI : Hid (S5 w (.slice none 0 0) (tab 0 f) w) := Lib.hid (S5.none w)
  clear hf
  go_enter Tryd.func24, Tryd.ntmps24
  go_upto_region 2 with fail
  go_wp2_with fail
  go_loopw [3, 4] (fun s1 s2 u => ∃ j k : Nat, j + k = 8 ∧ s2 = .int .i64 ((j : Int) - 1) ∧ S5 w s1 (tab k f) u) (fun _ s _ => (intOf s + 1).toNat)
  case atStart => exact ⟨8, 0, rfl, rfl, hI.out⟩
  case round =>
    obtain ⟨j, k, hj, rfl, hJ⟩ := hrel
    replace hI := Lib.hid hJ
    clear hJ
    have htl := tab_len k f
    by_cases h0 : j = 0
    · subst h0
      obtain rfl : k = 8 := by omega
      generalize tab 8 f = r at *
      go_upto_region 3 with fail; refine wp_region_lit ?_
      refine wpList_val (run_mv (v := .int _ _) rfl rfl) rfl ?_; (try simp only [Act.put, List.setIfInBounds_toArray, List.set_cons_zero, List.set_cons_succ])
      refine wpList_val (run_geqS (c := false) rfl rfl rfl (decide_eq_false (by omega))) rfl ?_; (try simp only [Act.put, List.setIfInBounds_toArray, List.set_cons_zero, List.set_cons_succ])
      refine wpList_end ?_
      go_upto_region 6 with fail; refine wp_region_lit ?_
      refine wpList_val (run_mv (v := u3) rfl rfl) rfl ?_; (try simp only [Act.put, List.setIfInBounds_toArray, List.set_cons_zero, List.set_cons_succ])
      refine wpList_val (run_asg (v := u3) rfl rfl) rfl ?_; (try simp only [Act.put, List.setIfInBounds_toArray, List.set_cons_zero, List.set_cons_succ])
      refine wpList_end ?_
      go_wp2_with fail
      refine bodyPost_ret (results_tmp Tryd.results24 _ _ _) rfl ⟨_, rfl, ?_⟩
      rw [EX.out]; exact hI.out
    · obtain ⟨j, rfl⟩ : ∃ t, j = t + 1 := ⟨j - 1, by omega⟩
      have e1 : (((j + 1 : Nat) : Int) - 1) = (j : Int) := by omega
      rw [e1]
      have HX := Lib.hid (tab_succ k f)
      have EJ := EF.out j k (by omega)
      generalize tab k f = T at *
      generalize f k = x at *
      go_upto_region 3 with fail; refine wp_region_lit ?_
      refine wpList_val (run_mv (v := .int _ _) rfl rfl) rfl ?_; (try simp only [Act.put, List.setIfInBounds_toArray, List.set_cons_zero, List.set_cons_succ])
      refine wpList_val (run_geqS (c := true) rfl rfl rfl (decide_eq_true (by omega))) rfl ?_; (try simp only [Act.put, List.setIfInBounds_toArray, List.set_cons_zero, List.set_cons_succ])
      refine wpList_end ?_
      go_upto_region 5 with fail; refine wp_region_lit ?_
      refine wpList_val (run_mv (v := u3) rfl rfl) rfl ?_; (try simp only [Act.put, List.setIfInBounds_toArray, List.set_cons_zero, List.set_cons_succ])
      refine wpList_val (run_mv (v := b64 _) rfl rfl) rfl ?_; (try simp only [Act.put, List.setIfInBounds_toArray, List.set_cons_zero, List.set_cons_succ])
      refine wpList_val (run_mv (v := .int _ _) rfl rfl) rfl ?_; (try simp only [Act.put, List.setIfInBounds_toArray, List.set_cons_zero, List.set_cons_succ])
      refine wpList_val (run_mulN (a := 8) rfl rfl rfl (by omega)) rfl ?_; (try simp only [Act.put, List.setIfInBounds_toArray, List.set_cons_zero, List.set_cons_succ])
      refine wpList_val (run_cviuN rfl rfl (by omega)) rfl ?_; (try simp only [Act.put, List.setIfInBounds_toArray, List.set_cons_zero, List.set_cons_succ])
      refine wpList_val (run_shr64 rfl rfl rfl (by omega)) rfl ?_; (try simp only [Act.put, List.setIfInBounds_toArray, List.set_cons_zero, List.set_cons_succ])
      refine wpList_val (run_rem64 (b := 256) rfl rfl rfl (by decide)) rfl ?_; (try simp only [Act.put, List.setIfInBounds_toArray, List.set_cons_zero, List.set_cons_succ])
      refine wpList_val (run_cv64_8 rfl rfl) rfl ?_; (try simp only [Act.put, List.setIfInBounds_toArray, List.set_cons_zero, List.set_cons_succ])
      rw [mod_byte, EJ]
      refine wpList_val (run_bsl (cells := #[b8 (x)]) (z := .int .u8 0) rfl Tryd.underlying30 (by kernel_rfl) (by omega) (by omega) (by kernel_rfl)) rfl ?_; (try simp only [Act.put, List.setIfInBounds_toArray, List.set_cons_zero, List.set_cons_succ]); have hb2 : Below wr.heap.size wr (wr.alloc (.cells #[b8 (x)] 5)) := (Below.refl _ _).alloc (Nat.le_refl _) _; have A2 : Hid (Arr wr.heap.size ([x].map b8) (wr.alloc (.cells #[b8 (x)] 5))) := Lib.hid (Arr.new wr _ _); replace hI := Lib.hid (hI.out.below hb2); clear hb2; generalize wr.alloc (.cells #[b8 (x)] 5) = ua at *; refine wpList_app (f := b8) (fun _ => rfl) (l := T) (m := [x]) (bw := 1) (z := .int .u8 0) rfl rfl Tryd.underlying30 (by kernel_rfl) rfl (by omega) rfl hI.out.O rfl A2.out.range (by show T.length + 1 ≤ _; omega) hI.out.bl.size (fun v2 c2 h3 hb3 => ?_); (try simp only [Act.put, List.setIfInBounds_toArray, List.set_cons_zero, List.set_cons_succ]); replace hI : Hid (S5 _ v2 (T ++ [x]) c2) := Lib.hid ⟨hI.out.bl.trans hb3, by rw [List.length_append]; exact h3⟩; clear h3 hb3 A2; clear ua; refine wpList_val (run_asg (v := v2) rfl rfl) rfl ?_; (try simp only [Act.put, List.setIfInBounds_toArray, List.set_cons_zero, List.set_cons_succ]); refine wpList_end ?_
      rw [← HX.out] at hI
      go_wp2_with fail
      go_roundw
      case rel => exact ⟨j, k + 1, by omega, by first | rfl | go_num, hI.out⟩
      case measure => simp [intOf]; try omega
theorem nonce_back (n : BitVec 64) {k : Nat} (h : 8 ≤ k) : (nonceB n).getD k 0 = 0 := by
  unfold nonceB
  rw [getD_app2 (by rw [nb_len]; exact h), nb_len]
  rw [List.getD_eq_getElem?_getD, List.getElem?_replicate]
  split <;> rfl
theorem nonce_upd (n : BitVec 64) : upd (fun i => (nb n).getD i 0) (List.replicate 16 0) 8 = nonceB n := ext8 (by rw [upd_len, nonce_len, List.length_replicate]) fun i hi => by
  rw [upd_len, List.length_replicate] at hi
  unfold upd
  rw [tab_get _ (by rw [List.length_replicate]; exact hi)]
  by_cases h : i < 8
  · rw [if_pos h]; unfold nonceB; rw [getD_app (by rw [nb_len]; exact h)]
  · rw [if_neg h, nonce_back n (by omega), List.getD_eq_getElem?_getD, List.getElem?_replicate]
    split <;> rfl
theorem enters_rnonce : Enters 14 := enters_of Tryd.func14 (by kernel_rfl) rfl
set_option maxHeartbeats 4000000 in
theorem rnonce_any (n : BitVec 64) (w : World) : Calls Tryd.prog 14 #[b64 n] w fun e w' => e = .returned (.agg ((nonceB n).map b8).toArray) ∧ Below w.heap.size w w' := by
  have hM := Lib.hid (Ms.nil w)
  have hml := nb_len n
  have hrl := nonce_len n
  have H8 := Lib.hid (reight_any n)
  obtain ⟨f, hf⟩ : ∃ f : Nat → BitVec 8, f = fun i => (nb n).getD i 0 := ⟨_, rfl⟩
  have EF : Hid (∀ i, (nb n).getD i 0 = f i) := Lib.hid fun i => by rw [hf]
  have EU : Hid (upd f (List.replicate 16 0) 8 = nonceB n) := Lib.hid (by rw [hf]; exact nonce_upd n)
  clear hf
  generalize nonceB n = r at *
  generalize nb n = m at *
  go_enter Tryd.func14, Tryd.ntmps14
  go_upto_region 0 with fail; refine wp_region_lit ?_
  refine wpList_val (run_alc (vs := z8 16) rfl (by kernel_rfl)) rfl ?_; (try simp only [Act.put, List.setIfInBounds_toArray, List.set_cons_zero, List.set_cons_succ]); replace hM := Lib.hid (hM.out.newZ 16 23); generalize w.alloc (.cells (z8 16).toArray 23) = a1 at *; generalize w.heap.size = g1 at *
  refine wpList_end ?_
  go_upto_region 1 with fail; refine wp_region_lit ?_
  refine wpList_val (run_bld (cells := (z8 16).toArray) rfl (by kernel_rfl)) rfl ?_; (try simp only [Act.put, List.setIfInBounds_toArray, List.set_cons_zero, List.set_cons_succ]); refine wpList_val (run_alc (vs := z8 16) rfl (by kernel_rfl)) rfl ?_; (try simp only [Act.put, List.setIfInBounds_toArray, List.set_cons_zero, List.set_cons_succ]); replace hM := Lib.hid (hM.out.newZ 16 23); generalize a1.alloc (.cells (z8 16).toArray 23) = a2 at *; generalize a1.heap.size = g2 at *; refine wpList_skip (run_stA (vs := z8 16) rfl (sz (l := List.replicate 16 0) sz16 List.length_replicate) rfl rfl (oneB (List.replicate 16 0)) ((hM.out.get (i := 0) rfl).there8 rfl)) rfl rfl ?_; refine wpList_end ?_; replace hM := Lib.hid (show Ms _ _ (a2.setCells g2 0 (z8 16)) from hM.out.put 0 rfl (m := List.replicate 16 0) rfl)
  generalize a2.setCells g2 0 (z8 16) = a3 at *
  go_upto_region 2 with fail; refine wp_region_lit ?_
  refine wpList_val (run_mv (v := b64 _) rfl rfl) rfl ?_; (try simp only [Act.put, List.setIfInBounds_toArray, List.set_cons_zero, List.set_cons_succ])
  refine wpList_callR (run_call1 enters_reight rfl rfl rfl) rfl (H8.out _) (fun v4 a4 hR => ?_); (try simp only [Act.put, List.setIfInBounds_toArray, List.set_cons_zero, List.set_cons_succ])
  obtain ⟨g4, c4, rfl, hc4, hg4, hA⟩ := own_arr hR.O (by omega)
  replace hM := Lib.hid (hM.out.add hR.bl hg4 hA)
  clear hR hA hg4
  rw [hml] at hc4 ⊢
  refine wpList_val (run_asg (v := .slice (some _) _ _) rfl rfl) rfl ?_; (try simp only [Act.put, List.setIfInBounds_toArray, List.set_cons_zero, List.set_cons_succ])
  refine wpList_end ?_
  replace hM : Hid (Ms w [(g4, m), (g2, upd f (List.replicate 16 0) 0), (g1, List.replicate 16 0)] a4) := Lib.hid (by rw [upd_zero]; exact hM.out)
  go_wp2_with fail
  go_loopw [5] (fun s u => ∃ k : Nat, k ≤ 8 ∧ s = .int .i64 (k : Int) ∧ Ms w [(g4, m), (g2, upd f (List.replicate 16 0) k), (g1, List.replicate 16 0)] u) (fun s _ => (8 - intOf s).toNat)
  case atStart => exact ⟨0, by omega, rfl, hM.out⟩
  case round =>
    obtain ⟨k, hk, rfl, hJ⟩ := hrel
    replace hM := Lib.hid hJ
    clear hJ
    by_cases hlt : k = 8
    · subst hlt
      have hk1 : ¬ (((8 : Nat) : Int) < 8) := by omega
      rw [EU.out] at hM
      go_upto_region 7 with fail; refine wp_region_lit ?_; refine wpList_val (run_ldM (vs := (r).map b8) rfl Tryd.underlying23 rfl (sz sz16 hrl) rfl (hM.out.get (i := 1) rfl).range) rfl ?_; (try simp only [Act.put, List.setIfInBounds_toArray, List.set_cons_zero, List.set_cons_succ]); refine wpList_skip (run_stA (vs := (r).map b8) rfl (sz sz16 hrl) rfl rfl (oneB _) ((hM.out.get (i := 2) rfl).there8 (by rw [hrl, List.length_replicate]))) rfl rfl ?_; refine wpList_end ?_; replace hM := Lib.hid (hM.out.put 2 rfl (m := r) (by rw [hrl, List.length_replicate])); go_wp2_with fail; refine bodyPost_ret (v := .agg ((r).map b8).toArray) (results_rowB Tryd.results14 rfl Tryd.underlying23 rfl (sz sz16 hrl) (hM.out.get (i := 2) rfl).range) rfl ⟨rfl, hM.out.bl⟩
    · have hk1 : (k : Int) < 8 := by omega
      have hul := upd_len f (List.replicate 16 0) k
      rw [List.length_replicate] at hul
      have EJ := EF.out k
      go_upto_region 6 with fail; refine wp_region_lit ?_
      refine wpList_val (run_mv (v := .int _ _) rfl rfl) rfl ?_; (try simp only [Act.put, List.setIfInBounds_toArray, List.set_cons_zero, List.set_cons_succ])
      refine wpList_val (run_mv (v := .slice (some _) _ _) rfl rfl) rfl ?_; (try simp only [Act.put, List.setIfInBounds_toArray, List.set_cons_zero, List.set_cons_succ])
      refine wpList_val (run_mv (v := .int _ _) rfl rfl) rfl ?_; (try simp only [Act.put, List.setIfInBounds_toArray, List.set_cons_zero, List.set_cons_succ])
      refine wpList_val (run_ixs rfl Tryd.underlying30 (by kernel_rfl) rfl rfl (by omega)) rfl ?_; (try simp only [Act.put, List.setIfInBounds_toArray, List.set_cons_zero, List.set_cons_succ])
      rw [Nat.zero_add k]
      refine wpList_val (run_ld8 rfl rfl ((hM.out.get (i := 0) rfl).get8 (by omega))) rfl ?_; (try simp only [Act.put, List.setIfInBounds_toArray, List.set_cons_zero, List.set_cons_succ])
      rw [EJ]
      refine wpList_val (run_ix0 rfl Tryd.underlying23 (by kernel_rfl) rfl rfl (by omega)) rfl ?_; (try simp only [Act.put, List.setIfInBounds_toArray, List.set_cons_zero, List.set_cons_succ])
      refine wpList_skip (run_st8 rfl rfl rfl ((hM.out.get (i := 1) rfl).get8 (by omega)) ((hM.out.get (i := 1) rfl).f _)) rfl rfl ?_
      refine wpList_end ?_
      replace hM : Hid (Ms w [(g4, m), (g2, upd f (List.replicate 16 0) (k + 1)), (g1, List.replicate 16 0)] (wr.setCell ⟨g2, k, none⟩ (b8 (f k)))) := Lib.hid (by rw [← upd_set (by rw [List.length_replicate]; omega)]; exact hM.out.set 1 rfl (by omega) _)
      generalize wr.setCell ⟨g2, k, none⟩ (b8 (f k)) = b4 at *
      go_wp2_with fail
      go_roundw
      case rel => exact ⟨k + 1, by omega, by go_num, hM.out⟩
      case measure => simp [intOf]; omega
/-- append of any bytes, and what stands by. -/
theorem wpList_appBy {w : World} {ops : Array Oper} {Q : Exit → Act → World → Prop} {rest : List Oper} {o : Oper} {a : Act} {s x : Operand} {base : Nat} {v vx : Value} {n : Nat} {l m : List (BitVec 8)} (hg : o.guard = none) (ho : o.op = .call { callee := .builtin .append, args := #[s, x], argTypes := #[30, 30] }) (hs : a.eval s = v) (hown : w.ownsRow base 5 1 v n (l.map b8)) (hx : a.eval x = vx) (hv : Sl vx m w) (hn : n + m.length ≤ 16777216) (hbase : base ≤ w.heap.size)
    (h : ∀ v' w', w'.ownsRow base 5 1 v' (n + m.length) ((l ++ m).map b8) → Below base w w' → Stand v w v' w' → wpList Tryd.prog ops Q rest (a.put o.dst v') w') : wpList Tryd.prog ops Q (o :: rest) a w := by
  by_cases he : m = []
  · subst he
    obtain ⟨ao, c, rfl, _, _⟩ := hv
    refine wpList_val (v := v) (w' := w) ?_ hg (h v w (by rw [List.append_nil]; exact hown) (Below.refl _ _) fun _ _ h1 h2 => ⟨h1, h2⟩)
    have hr := run_app0 (ao := ao) (c := c) (ty := o.type) hown
    unfold execOp
    simp [ho, resolve, invoke, builtin, hs, hx, hr, Result.andThen]
  · obtain ⟨b, f, c, rfl, _, hr⟩ := hv.adr (List.length_pos_iff.2 he)
    obtain ⟨v', w', hrun, h1, h2, h3⟩ := run_app_stand ho hs hown hx hr hn (List.length_pos_iff.2 he) hbase
    exact wpList_val hrun hg (h v' w' h1 h2 h3)
end Go.Proofs.YtobpgolchlgpfaaDoor
namespace Go.Proofs.YtobpgolchlgpfaaDoor
open Go.RowKit
set_option maxRecDepth 20000

theorem enters_rbound : Enters 22 := enters_of Tryd.func22 (by kernel_rfl) rfl
theorem enters_rkeys6 : Enters 20 := enters_of Tryd.func20 (by kernel_rfl) rfl
set_option maxHeartbeats 4000000 in
theorem rbound_any (m : List (BitVec 8)) (n : BitVec 64) (vw : Value) (wi : List (BitVec 8)) (vh : Value) (h : List (BitVec 8)) (w : World) (hm : m.length = 32) (hw : Sl vw wi w) (hh : Sl vh h w) (hl : wi.length + h.length ≤ 8000) (hT : Tabs w) :
    Calls Tryd.prog 22 #[.agg (m.map b8).toArray, b64 n, vw, vh] w fun e w' => ∃ v', e = .returned v' ∧ (Sl v' (tagB m n wi h) w' ∧ Below w.heap.size w w') := by
  have hM := Lib.hid (Ms.nil w)
  have HT := Lib.hid hT; clear hT
  have HW := Lib.hid hw
  have HH := Lib.hid hh
  obtain ⟨aw, cw, rfl, -, -⟩ := hw
  obtain ⟨ah, ch, rfl, -, -⟩ := hh
  have hnl := nb_len n
  have hql := nb_len (BitVec.ofNat 64 wi.length)
  have htl := tag_len m n wi h
  have ER : Hid (hmac m (nb n ++ List.replicate 8 0 ++ wi ++ h ++ nb (BitVec.ofNat 64 wi.length)) = tagB m n wi h) := Lib.hid rfl
  have H1 := Lib.hid (reight_any n)
  have H2 := Lib.hid (reight_any (BitVec.ofNat 64 wi.length))
  generalize tagB m n wi h = tg at *
  generalize nb (BitVec.ofNat 64 wi.length) = q at *
  generalize nb n = p at *
  go_enter Tryd.func22, Tryd.ntmps22
  go_upto_region 0 with fail; refine wp_region_lit ?_
  refine wpList_val (run_box rfl rfl) rfl ?_; (try simp only [Act.put, List.setIfInBounds_toArray, List.set_cons_zero, List.set_cons_succ]); replace hM := Lib.hid (hM.out.new (m) 29); generalize w.alloc (.cells ((m).map b8).toArray 29) = a1 at *; generalize w.heap.size = g1 at *
  refine wpList_val (run_asg (v := .slice none 0 0) rfl rfl) rfl ?_; (try simp only [Act.put, List.setIfInBounds_toArray, List.set_cons_zero, List.set_cons_succ])
  refine wpList_end ?_
  go_upto_region 1 with fail; refine wp_region_lit ?_
  refine wpList_val (run_mv (v := b64 _) rfl rfl) rfl ?_; (try simp only [Act.put, List.setIfInBounds_toArray, List.set_cons_zero, List.set_cons_succ])
  refine wpList_callR (run_call1 enters_reight rfl rfl rfl) rfl (H1.out _) (fun v9 a2 hR => ?_); (try simp only [Act.put, List.setIfInBounds_toArray, List.set_cons_zero, List.set_cons_succ])
  have hI := Lib.hid hR
  clear hR
  refine wpList_val (run_asg (v := v9) rfl rfl) rfl ?_; (try simp only [Act.put, List.setIfInBounds_toArray, List.set_cons_zero, List.set_cons_succ])
  refine wpList_end ?_
  go_upto_region 2 with fail; refine wp_region_lit ?_
  refine wpList_val (run_mk8 (n := 8) rfl rfl rfl (by omega)) rfl ?_; (try simp only [Act.put, List.setIfInBounds_toArray, List.set_cons_zero, List.set_cons_succ])
  have SZ : Hid (Sl (.slice (some ⟨a2.heap.size, 0, none⟩) 8 8) (List.replicate 8 0) (a2.alloc (.cells (z8 8).toArray 5))) := Lib.hid (sl_zero (Arr.new a2 (z8 8) 5))
  replace hI := Lib.hid (hI.out.below (show Below a2.heap.size a2 (a2.alloc (.cells (z8 8).toArray 5)) from (Below.refl _ _).alloc (Nat.le_refl _) _))
  generalize a2.alloc (.cells (z8 8).toArray 5) = a3 at *
  generalize a2.heap.size = g3 at *
  refine wpList_val (run_asg (v := .slice (some _) _ _) rfl rfl) rfl ?_; (try simp only [Act.put, List.setIfInBounds_toArray, List.set_cons_zero, List.set_cons_succ])
  refine wpList_end ?_
  go_upto_region 3 with fail; refine wp_region_lit ?_
  refine wpList_val (run_mv (v := .slice _ _ _) rfl rfl) rfl ?_; (try simp only [Act.put, List.setIfInBounds_toArray, List.set_cons_zero, List.set_cons_succ])
  refine wpList_val (run_len rfl Tryd.underlying30 rfl) rfl ?_; (try simp only [Act.put, List.setIfInBounds_toArray, List.set_cons_zero, List.set_cons_succ])
  refine wpList_val (run_cvlen rfl rfl) rfl ?_; (try simp only [Act.put, List.setIfInBounds_toArray, List.set_cons_zero, List.set_cons_succ])
  refine wpList_callR (run_call1 enters_reight rfl rfl rfl) rfl (H2.out _) (fun v11 a4 hR => ?_); (try simp only [Act.put, List.setIfInBounds_toArray, List.set_cons_zero, List.set_cons_succ])
  have hap := apart_new hI.out.O hR.O
  replace hI := Lib.hid (hI.out.below hR.bl)
  replace SZ := Lib.hid (SZ.out.below hR.bl)
  obtain ⟨g4, c4, rfl, hc4, hg4, hA⟩ := own_arr hR.O (by omega)
  have hne : v9.ownBlock ≠ some g4 := fun e => hap g4 e rfl
  clear hR hg4 hap
  rw [hql] at hc4 ⊢
  have HA := Lib.hid hA; clear hA
  refine wpList_val (run_asg (v := .slice (some _) _ _) rfl rfl) rfl ?_; (try simp only [Act.put, List.setIfInBounds_toArray, List.set_cons_zero, List.set_cons_succ])
  refine wpList_end ?_
  have hb1 := hM.out.bl
  go_upto_region 4 with fail; refine wp_region_lit ?_
  refine wpList_val (run_mv (v := v9) rfl rfl) rfl ?_; (try simp only [Act.put, List.setIfInBounds_toArray, List.set_cons_zero, List.set_cons_succ])
  refine wpList_val (run_mv (v := .slice (some _) _ _) rfl rfl) rfl ?_; (try simp only [Act.put, List.setIfInBounds_toArray, List.set_cons_zero, List.set_cons_succ])
  refine wpList_appBy (l := p) (m := List.replicate 8 0) rfl rfl rfl hI.out.O rfl SZ.out (by rw [hnl, List.length_replicate]; omega) hI.out.bl.size (fun v2 a5 h3 hb3 hSt => ?_); (try simp only [Act.put, List.setIfInBounds_toArray, List.set_cons_zero, List.set_cons_succ])
  obtain ⟨hA, hne2⟩ := hSt _ _ HA.out hne
  replace HA := Lib.hid hA
  replace hI : Hid (S5 a1 v2 (p ++ List.replicate 8 0) a5) := Lib.hid ⟨hI.out.bl.trans hb3, by rw [List.length_append]; exact h3⟩
  clear h3 hb3 hSt hA hne SZ
  refine wpList_val (run_asg (v := v2) rfl rfl) rfl ?_; (try simp only [Act.put, List.setIfInBounds_toArray, List.set_cons_zero, List.set_cons_succ])
  refine wpList_end ?_
  go_upto_region 5 with fail; refine wp_region_lit ?_
  refine wpList_val (run_mv (v := v2) rfl rfl) rfl ?_; (try simp only [Act.put, List.setIfInBounds_toArray, List.set_cons_zero, List.set_cons_succ])
  refine wpList_val (run_mv (v := .slice _ _ _) rfl rfl) rfl ?_; (try simp only [Act.put, List.setIfInBounds_toArray, List.set_cons_zero, List.set_cons_succ])
  refine wpList_appBy (l := p ++ List.replicate 8 0) (m := wi) rfl rfl rfl hI.out.O rfl (HW.out.below (hb1.trans (hI.out.bl.mono hb1.size))) (by rw [List.length_append, hnl, List.length_replicate]; omega) hI.out.bl.size (fun v3 a6 h3 hb3 hSt => ?_); (try simp only [Act.put, List.setIfInBounds_toArray, List.set_cons_zero, List.set_cons_succ])
  obtain ⟨hA, hne3⟩ := hSt _ _ HA.out hne2
  replace HA := Lib.hid hA
  replace hI : Hid (S5 a1 v3 (p ++ List.replicate 8 0 ++ wi) a6) := Lib.hid ⟨hI.out.bl.trans hb3, by rw [List.length_append]; exact h3⟩
  clear h3 hb3 hSt hA hne2
  refine wpList_val (run_asg (v := v3) rfl rfl) rfl ?_; (try simp only [Act.put, List.setIfInBounds_toArray, List.set_cons_zero, List.set_cons_succ])
  refine wpList_end ?_
  go_upto_region 6 with fail; refine wp_region_lit ?_
  refine wpList_val (run_mv (v := v3) rfl rfl) rfl ?_; (try simp only [Act.put, List.setIfInBounds_toArray, List.set_cons_zero, List.set_cons_succ])
  refine wpList_val (run_mv (v := .slice _ _ _) rfl rfl) rfl ?_; (try simp only [Act.put, List.setIfInBounds_toArray, List.set_cons_zero, List.set_cons_succ])
  refine wpList_appBy (l := p ++ List.replicate 8 0 ++ wi) (m := h) rfl rfl rfl hI.out.O rfl (HH.out.below (hb1.trans (hI.out.bl.mono hb1.size))) (by rw [List.length_append, List.length_append, hnl, List.length_replicate]; omega) hI.out.bl.size (fun v4 a7 h3 hb3 hSt => ?_); (try simp only [Act.put, List.setIfInBounds_toArray, List.set_cons_zero, List.set_cons_succ])
  obtain ⟨hA, hne4⟩ := hSt _ _ HA.out hne3
  replace HA := Lib.hid hA
  replace hI : Hid (S5 a1 v4 (p ++ List.replicate 8 0 ++ wi ++ h) a7) := Lib.hid ⟨hI.out.bl.trans hb3, by rw [List.length_append]; exact h3⟩
  clear h3 hb3 hSt hA hne3
  refine wpList_val (run_asg (v := v4) rfl rfl) rfl ?_; (try simp only [Act.put, List.setIfInBounds_toArray, List.set_cons_zero, List.set_cons_succ])
  refine wpList_end ?_
  have SQ : Hid (Sl (.slice (some ⟨g4, 0, none⟩) 8 c4) q a7) := Lib.hid (by
    have := Sl.arr HA.out (c := c4) (by omega)
    rwa [hql] at this)
  go_upto_region 7 with fail; refine wp_region_lit ?_
  refine wpList_val (run_mv (v := v4) rfl rfl) rfl ?_; (try simp only [Act.put, List.setIfInBounds_toArray, List.set_cons_zero, List.set_cons_succ])
  refine wpList_val (run_mv (v := .slice (some _) _ _) rfl rfl) rfl ?_; (try simp only [Act.put, List.setIfInBounds_toArray, List.set_cons_zero, List.set_cons_succ])
  refine wpList_appBy (l := p ++ List.replicate 8 0 ++ wi ++ h) (m := q) rfl rfl rfl hI.out.O rfl SQ.out (by rw [List.length_append, List.length_append, List.length_append, hnl, List.length_replicate]; omega) hI.out.bl.size (fun v5 a8 h3 hb3 hSt => ?_); (try simp only [Act.put, List.setIfInBounds_toArray, List.set_cons_zero, List.set_cons_succ])
  replace hI : Hid (S5 a1 v5 (p ++ List.replicate 8 0 ++ wi ++ h ++ q) a8) := Lib.hid ⟨hI.out.bl.trans hb3, by rw [List.length_append]; exact h3⟩
  have hfl : (p ++ List.replicate 8 0 ++ wi ++ h ++ q).length ≤ 9000 := by rw [List.length_append, List.length_append, List.length_append, List.length_append, hnl, List.length_replicate, hql]; omega
  generalize p ++ List.replicate 8 0 ++ wi ++ h ++ q = fl at *
  clear h3 hb3 hSt hne4 SQ HA
  refine wpList_val (run_asg (v := v5) rfl rfl) rfl ?_; (try simp only [Act.put, List.setIfInBounds_toArray, List.set_cons_zero, List.set_cons_succ])
  refine wpList_end ?_
  replace hM := Lib.hid (hM.out.below hI.out.bl)
  have SF := Lib.hid hI.out.sl
  clear hI hb1
  go_upto_region 8 with fail; refine wp_region_lit ?_
  refine wpList_val (run_ldM (vs := m.map b8) rfl Tryd.underlying29 rfl (sz szKey hm) rfl (hM.out.get (i := 0) rfl).range) rfl ?_; (try simp only [Act.put, List.setIfInBounds_toArray, List.set_cons_zero, List.set_cons_succ])
  refine wpList_callR (run_call1 enters_rslice rfl rfl rfl) rfl (rslice_any m _ hm) (fun q1 b1 hR => ?_); (try simp only [Act.put, List.setIfInBounds_toArray, List.set_cons_zero, List.set_cons_succ])
  have S1 : Hid (Sl q1 m b1) := Lib.hid (Sl.own (base := a8.heap.size) (by rw [hm]; exact hR.1))
  replace SF := Lib.hid (SF.out.below hR.2)
  replace hM := Lib.hid (hM.out.below hR.2)
  clear hR
  refine wpList_val (run_mv (v := v5) rfl rfl) rfl ?_; (try simp only [Act.put, List.setIfInBounds_toArray, List.set_cons_zero, List.set_cons_succ])
  refine wpList_enter (run_call2 enters_rhmac rfl rfl rfl rfl) rfl (rhmac_any _ m _ fl _ S1.out (by omega) SF.out hfl (HT.out.below hM.out.bl)) (fun b2 hb => ?_); (try simp only [Act.put, List.setIfInBounds_toArray, List.set_cons_zero, List.set_cons_succ])
  replace hM := Lib.hid (hM.out.below hb)
  clear hb S1 SF
  rw [ER.out]
  refine wpList_callR (run_call1 enters_rslice rfl rfl rfl) rfl (rslice_any tg _ htl) (fun q2 b3 hR => ?_); (try simp only [Act.put, List.setIfInBounds_toArray, List.set_cons_zero, List.set_cons_succ])
  have S2 : Hid (Sl q2 tg b3) := Lib.hid (Sl.own (base := b2.heap.size) (by rw [htl]; exact hR.1))
  replace hM := Lib.hid (hM.out.below hR.2)
  clear hR
  refine wpList_val (run_asg (v := q2) rfl rfl) rfl ?_; (try simp only [Act.put, List.setIfInBounds_toArray, List.set_cons_zero, List.set_cons_succ])
  refine wpList_end ?_
  go_wp2_with fail
  exact bodyPost_ret (results_tmp Tryd.results22 _ _ _) rfl ⟨_, rfl, S2.out, hM.out.bl⟩
set_option maxHeartbeats 4000000 in
theorem rkeys6_any (key : List (BitVec 8)) (w : World) (hK : key.length = 32) (hT : Tabs w) : Calls Tryd.prog 20 #[.agg (key.map b8).toArray] w fun e w' => ∃ v', e = .returned v' ∧ (KS v' 2 (twoB key) w' ∧ Below w.heap.size w w') := by
  have hM := Lib.hid (Ms.nil w)
  have HT := Lib.hid hT; clear hT
  have HK : Hid (∀ (vb vi : Value) (u : World), Sl vb key u → Sl vi lblB u → Tabs u → Calls Tryd.prog 31 #[.slice none 0 0, vb, vi, .int .i64 2] u fun e w' => ∃ v', e = .returned v' ∧ (KS v' 2 (twoB key) w' ∧ Below u.heap.size u w')) := Lib.hid fun vb vi u h1 h2 h3 =>
    rkeys_any (.slice none 0 0) [] vb key vi lblB 2 u (sl_nil u) (by decide) h1 (by omega) h2 (by decide) (by omega) h3
  have hll : lblB.length = 12 := rfl
  generalize twoB key = B at *
  go_enter Tryd.func20, Tryd.ntmps20
  go_upto_region 0 with fail; refine wp_region_lit ?_
  refine wpList_val (run_box rfl rfl) rfl ?_; (try simp only [Act.put, List.setIfInBounds_toArray, List.set_cons_zero, List.set_cons_succ]); replace hM := Lib.hid (hM.out.new (key) 29); generalize w.alloc (.cells ((key).map b8).toArray 29) = a1 at *; generalize w.heap.size = g1 at *
  refine wpList_val (run_asg (v := .slice none 0 0) rfl rfl) rfl ?_; (try simp only [Act.put, List.setIfInBounds_toArray, List.set_cons_zero, List.set_cons_succ])
  refine wpList_end ?_
  go_upto_region 1 with fail; refine wp_region_lit ?_
  refine wpList_val (run_ldM (vs := key.map b8) rfl Tryd.underlying29 rfl (sz szKey hK) rfl (hM.out.get (i := 0) rfl).range) rfl ?_; (try simp only [Act.put, List.setIfInBounds_toArray, List.set_cons_zero, List.set_cons_succ])
  refine wpList_callR (run_call1 enters_rslice rfl rfl rfl) rfl (rslice_any key _ hK) (fun q1 a3 hR => ?_); (try simp only [Act.put, List.setIfInBounds_toArray, List.set_cons_zero, List.set_cons_succ])
  have S1 : Hid (Sl q1 key a3) := Lib.hid (Sl.own (base := a1.heap.size) (by rw [hK]; exact hR.1))
  replace hM := Lib.hid (hM.out.below hR.2)
  clear hR
  refine wpList_val (run_bsl (cells := (lblB.map b8).toArray) (z := .int .u8 0) rfl Tryd.underlying30 (by kernel_rfl) (by omega) (by omega) (by kernel_rfl)) rfl ?_; (try simp only [Act.put, List.setIfInBounds_toArray, List.set_cons_zero, List.set_cons_succ])
  refine wpList_val (run_cvb rfl rfl) rfl ?_; (try simp only [Act.put, List.setIfInBounds_toArray, List.set_cons_zero, List.set_cons_succ])
  have hb : Below a3.heap.size a3 (a3.alloc (.cells (lblB.map b8).toArray 5 ((lblB.map b8).toArray.size, (lblB.map b8).toArray.size + 1))) := (Below.refl _ _).alloc (Nat.le_refl _) _
  have S2 : Hid (Sl (.slice (some ⟨a3.heap.size, 0, none⟩) 12 12) lblB (a3.alloc (.cells (lblB.map b8).toArray 5 ((lblB.map b8).toArray.size, (lblB.map b8).toArray.size + 1)))) := Lib.hid (row_const a3 lblB 12 _ hll)
  generalize a3.alloc (.cells (lblB.map b8).toArray 5 ((lblB.map b8).toArray.size, (lblB.map b8).toArray.size + 1)) = a4 at *
  replace hM := Lib.hid (hM.out.below hb)
  replace S1 := Lib.hid (S1.out.below hb)
  clear hb
  generalize a3.heap.size = g4 at *
  refine wpList_callR (run_call4 enters_rkeys rfl rfl rfl rfl rfl rfl) rfl (HK.out _ _ _ S1.out S2.out (HT.out.below hM.out.bl)) (fun v9 a5 hR => ?_); (try simp only [Act.put, List.setIfInBounds_toArray, List.set_cons_zero, List.set_cons_succ])
  refine wpList_val (run_asg (v := v9) rfl rfl) rfl ?_; (try simp only [Act.put, List.setIfInBounds_toArray, List.set_cons_zero, List.set_cons_succ])
  refine wpList_end ?_
  replace hM := Lib.hid (hM.out.below hR.2)
  go_wp2_with fail
  exact bodyPost_ret (results_tmp Tryd.results20 _ _ _) rfl ⟨_, rfl, hR.1, hM.out.bl⟩
end Go.Proofs.YtobpgolchlgpfaaDoor
namespace Go.Proofs.YtobpgolchlgpfaaDoor
open Go.RowKit
set_option maxRecDepth 20000

theorem enters_rseal : Enters 11 := enters_of Tryd.func11 (by kernel_rfl) rfl
theorem enters_ropen : Enters 13 := enters_of Tryd.func13 (by kernel_rfl) rfl
theorem run_neqstrG {w : World} {ρ : Operand → Value} {o : Oper} {x y : Operand} {t t' : TypeId} {s s' : ByteArray} (ho : o.op = .binOp .neq t x y t') (hx : ρ x = .string s) (hy : ρ y = .string s') : (execOp ρ o).run Tryd.prog w = .ok (.value (.bool (!(s.toList == s'.toList)))) w := by
  obtain ⟨dst, op, type, pos, after, guard⟩ := o
  subst ho
  go_simp
set_option maxHeartbeats 4000000 in
theorem rseal_any (key : List (BitVec 8)) (n : BitVec 64) (vw : Value) (wi : List (BitVec 8)) (vb : Value) (b : List (BitVec 8)) (w : World) (hK : key.length = 32) (hw : Sl vw wi w) (hb : Sl vb b w) (hl : wi.length + b.length ≤ 8000) (hT : Tabs w) :
    Calls Tryd.prog 11 #[.agg (key.map b8).toArray, b64 n, vw, vb] w fun e w' => ∃ v', e = .returned v' ∧ (Sl v' (sealB key n wi b) w' ∧ Below w.heap.size w w') := by
  have hM := Lib.hid (Ms.nil w)
  have HT := Lib.hid hT; clear hT
  have HW := Lib.hid hw; clear hw
  have HB := Lib.hid hb; clear hb
  have hel := enc_len key
  have hdl := bind_len key
  have hBl := two_len key
  have hrl := nonce_len n
  have htl := tag_len (bindK key) n wi (hidB key n b)
  have hhl := hid_len key n b
  have E1 : Hid ((twoB key).take 32 = encK key) := Lib.hid rfl
  have E2 : Hid ((twoB key).drop 32 = bindK key) := Lib.hid rfl
  have ES : Hid (hidB key n b ++ tagB (bindK key) n wi (hidB key n b) = sealB key n wi b) := Lib.hid rfl
  have HK := Lib.hid (fun w hT => rkeys6_any key w hK hT)
  have HN := Lib.hid (rnonce_any n)
  have HC : Hid (∀ (v : Value) (u : World), Sl v b u → Calls Tryd.prog 21 #[.agg ((encK key).map b8).toArray, .agg ((nonceB n).map b8).toArray, v] u fun e w' => ∃ v', e = .returned v' ∧ S5 u v' (hidB key n b) w') := Lib.hid fun v u h => rcounter_new (encK key) (nonceB n) v b u hel hrl h (by omega)
  have HBi : Hid (∀ (vh : Value) (u : World), Sl vw wi u → Sl vh (hidB key n b) u → Tabs u → Calls Tryd.prog 22 #[.agg ((bindK key).map b8).toArray, b64 n, vw, vh] u fun e w' => ∃ v', e = .returned v' ∧ (Sl v' (tagB (bindK key) n wi (hidB key n b)) w' ∧ Below u.heap.size u w')) := Lib.hid fun vh u h1 h2 h3 => rbound_any (bindK key) n vw wi vh (hidB key n b) u hdl h1 h2 (by omega) h3
  generalize sealB key n wi b = out at *
  generalize tagB (bindK key) n wi (hidB key n b) = tg at *
  generalize hidB key n b = hd at *
  generalize encK key = E at *
  generalize bindK key = D at *
  generalize twoB key = B at *
  generalize nonceB n = r at *
  go_enter Tryd.func11, Tryd.ntmps11
  go_upto_region 0 with fail; refine wp_region_lit ?_
  refine wpList_val (run_box rfl rfl) rfl ?_; (try simp only [Act.put, List.setIfInBounds_toArray, List.set_cons_zero, List.set_cons_succ]); replace hM := Lib.hid (hM.out.new (key) 29); generalize w.alloc (.cells ((key).map b8).toArray 29) = a1 at *; generalize w.heap.size = g1 at *
  refine wpList_val (run_asg (v := .slice none 0 0) rfl rfl) rfl ?_; (try simp only [Act.put, List.setIfInBounds_toArray, List.set_cons_zero, List.set_cons_succ])
  refine wpList_end ?_
  go_upto_region 1 with fail; refine wp_region_lit ?_
  refine wpList_val (run_ldM (vs := key.map b8) rfl Tryd.underlying29 rfl (sz szKey hK) rfl (hM.out.get (i := 0) rfl).range) rfl ?_; (try simp only [Act.put, List.setIfInBounds_toArray, List.set_cons_zero, List.set_cons_succ])
  refine wpList_callR (run_call1 enters_rkeys6 rfl rfl rfl) rfl (HK.out _ (HT.out.below hM.out.bl)) (fun v9 a2 hR => ?_); (try simp only [Act.put, List.setIfInBounds_toArray, List.set_cons_zero, List.set_cons_succ])
  obtain ⟨hKS, hb⟩ := hR
  replace hM := Lib.hid (hM.out.below hb)
  clear hb
  obtain ⟨ao, ck, rfl, hck, -, h4⟩ := hKS
  obtain ⟨gk, rfl, hgk, hrk⟩ := h4 (by omega)
  have HA1 : Hid (∀ V, Below a2.heap.size a2 V → V.rangeAt gk (0 + 0 * 32) (E.map b8)) := Lib.hid fun V hV => by
    have := rangeAt_take (k := 32) (rangeAt_below hrk hgk hV)
    rw [← List.map_take, E1.out] at this
    exact this
  have HA2 : Hid (∀ V, Below a2.heap.size a2 V → V.rangeAt gk (0 + 1 * 32) (D.map b8)) := Lib.hid fun V hV => by
    have := rangeAt_drop (k := 32) (rangeAt_below hrk hgk hV)
    rw [← List.map_drop, E2.out] at this
    exact this
  clear hrk hgk h4
  refine wpList_val (run_asg (v := .slice (some _) _ _) rfl rfl) rfl ?_; (try simp only [Act.put, List.setIfInBounds_toArray, List.set_cons_zero, List.set_cons_succ])
  refine wpList_end ?_
  go_upto_region 2 with fail
  refine wp_region_noPanic ?_; refine wp_region_late (S := Till 7 (fun V => Below a2.heap.size a2 V)) (by kernel_rfl) (.inr (Below.refl _ _).drew) (fun _ => ?_); have hS : Below a2.heap.size a2 a2.drew := (Below.refl _ _).drew
  generalize a2.drew = a3 at *
  refine wpAnyD_take 0 rfl rfl (by kernel_rfl) (by kernel_rfl) (by kernel_rfl) (by kernel_rfl) (by kernel_rfl) (fun _ _ _ h => h) rfl (fun V hV => run_mv (v := .slice (some _) _ _) rfl rfl) hS ?_; (try simp only [Act.put, List.setIfInBounds_toArray, List.set_cons_zero, List.set_cons_succ])
  refine wpAnyD_take 1 rfl rfl (by kernel_rfl) (by kernel_rfl) (by kernel_rfl) (by kernel_rfl) (by kernel_rfl) (fun _ _ _ h => h) rfl (fun V hV => run_ixK (i := 0) rfl rfl rfl (by omega)) hS ?_; (try simp only [Act.put, List.setIfInBounds_toArray, List.set_cons_zero, List.set_cons_succ])
  refine wpAnyD_take 2 rfl rfl (by kernel_rfl) (by kernel_rfl) (by kernel_rfl) (by kernel_rfl) (by kernel_rfl) (fun _ _ _ h => h) rfl (fun V hV => run_ldK (l := E) rfl hel rfl (HA1.out V hV)) hS ?_; (try simp only [Act.put, List.setIfInBounds_toArray, List.set_cons_zero, List.set_cons_succ])
  refine wpAnyD_take 3 rfl rfl (by kernel_rfl) (by kernel_rfl) (by kernel_rfl) (by kernel_rfl) (by kernel_rfl) (fun _ _ _ h => h) rfl (fun V hV => run_mv (v := b64 _) rfl rfl) hS ?_; (try simp only [Act.put, List.setIfInBounds_toArray, List.set_cons_zero, List.set_cons_succ])
  refine wpAnyD_take 5 rfl rfl (by kernel_rfl) (by kernel_rfl) (by kernel_rfl) (by kernel_rfl) (by kernel_rfl) (fun _ _ _ h => h) rfl (fun V hV => run_mv (v := vb) rfl rfl) hS ?_; (try simp only [Act.put, List.setIfInBounds_toArray, List.set_cons_zero, List.set_cons_succ])
  refine wpAnyD_call 4 (by kernel_rfl) rfl rfl rfl (run_call1 enters_rnonce rfl rfl rfl) (HN.out _) (fun w hb => hS.trans (hb.mono hS.size)) (fun a4 hb => ?_); replace hS := hS.trans (hb.mono hS.size); clear hb; (try simp only [Act.put, List.setIfInBounds_toArray, List.set_cons_zero, List.set_cons_succ])
  refine wpAnyD_callR 6 (by kernel_rfl) rfl rfl rfl (run_call3 enters_rcounter rfl rfl rfl rfl rfl) (HC.out vb _ (HB.out.below (hM.out.below hS).bl)) (fun v w' hR => hS.trans (hR.bl.mono hS.size)) (fun v10 a5 hR => ?_); (try simp only [Act.put, List.setIfInBounds_toArray, List.set_cons_zero, List.set_cons_succ])
  have hS4 := hS
  replace hS := hS.trans (hR.bl.mono hS.size)
  have hI := Lib.hid hR
  clear hR
  refine wpAnyD_val 7 (by kernel_rfl) rfl rfl rfl (run_asg (v := v10) rfl rfl) (.inl rfl) ?_; (try simp only [Act.put, List.setIfInBounds_toArray, List.set_cons_zero, List.set_cons_succ])
  refine wpAnyL_done (by kernel_rfl) ?_ _; refine NoPanic.normal ?_
  have hM4 := Lib.hid (hM.out.below hS4)
  replace hM := Lib.hid (hM.out.below hS)
  clear hS4
  go_upto_region 3 with fail; refine wp_region_lit ?_
  refine wpList_val (run_mv (v := .slice (some _) _ _) rfl rfl) rfl ?_; (try simp only [Act.put, List.setIfInBounds_toArray, List.set_cons_zero, List.set_cons_succ])
  refine wpList_val (run_ixK (i := 1) rfl rfl rfl (by omega)) rfl ?_; (try simp only [Act.put, List.setIfInBounds_toArray, List.set_cons_zero, List.set_cons_succ])
  refine wpList_val (run_ldK (l := D) rfl hdl rfl (HA2.out _ hS)) rfl ?_; (try simp only [Act.put, List.setIfInBounds_toArray, List.set_cons_zero, List.set_cons_succ])
  clear hS HA1 HA2
  refine wpList_val (run_mv (v := b64 _) rfl rfl) rfl ?_; (try simp only [Act.put, List.setIfInBounds_toArray, List.set_cons_zero, List.set_cons_succ])
  refine wpList_val (run_mv (v := vw) rfl rfl) rfl ?_; (try simp only [Act.put, List.setIfInBounds_toArray, List.set_cons_zero, List.set_cons_succ])
  refine wpList_val (run_mv (v := v10) rfl rfl) rfl ?_; (try simp only [Act.put, List.setIfInBounds_toArray, List.set_cons_zero, List.set_cons_succ])
  refine wpList_callR (run_call4 enters_rbound rfl rfl rfl rfl rfl rfl) rfl (HBi.out v10 _ (HW.out.below hM.out.bl) hI.out.sl (HT.out.below hM.out.bl)) (fun v11 a6 hR => ?_); (try simp only [Act.put, List.setIfInBounds_toArray, List.set_cons_zero, List.set_cons_succ])
  replace hI := Lib.hid (hI.out.below hR.2)
  have ST := Lib.hid hR.1
  clear hR hM
  refine wpList_val (run_asg (v := v11) rfl rfl) rfl ?_; (try simp only [Act.put, List.setIfInBounds_toArray, List.set_cons_zero, List.set_cons_succ])
  refine wpList_end ?_
  go_upto_region 4 with fail; refine wp_region_lit ?_
  refine wpList_val (run_mv (v := v10) rfl rfl) rfl ?_; (try simp only [Act.put, List.setIfInBounds_toArray, List.set_cons_zero, List.set_cons_succ])
  refine wpList_val (run_mv (v := v11) rfl rfl) rfl ?_; (try simp only [Act.put, List.setIfInBounds_toArray, List.set_cons_zero, List.set_cons_succ])
  refine wpList_appG (l := hd) (m := tg) rfl rfl rfl hI.out.O rfl ST.out (by omega) hI.out.bl.size (fun v12 a7 h3 hb3 => ?_); (try simp only [Act.put, List.setIfInBounds_toArray, List.set_cons_zero, List.set_cons_succ])
  replace hI : Hid (S5 a4 v12 (hd ++ tg) a7) := Lib.hid ⟨hI.out.bl.trans hb3, by rw [List.length_append]; exact h3⟩
  rw [ES.out] at hI
  clear h3 hb3 ST
  refine wpList_val (run_asg (v := v12) rfl rfl) rfl ?_; (try simp only [Act.put, List.setIfInBounds_toArray, List.set_cons_zero, List.set_cons_succ])
  refine wpList_end ?_
  go_upto_region 5 with fail; refine wp_region_lit ?_
  refine wpList_val (run_mv (v := v12) rfl rfl) rfl ?_; (try simp only [Act.put, List.setIfInBounds_toArray, List.set_cons_zero, List.set_cons_succ])
  refine wpList_val (run_asg (v := v12) rfl rfl) rfl ?_; (try simp only [Act.put, List.setIfInBounds_toArray, List.set_cons_zero, List.set_cons_succ])
  refine wpList_end ?_
  replace hM4 := Lib.hid (hM4.out.below hI.out.bl)
  go_wp2_with fail
  exact bodyPost_ret (results_tmp Tryd.results11 _ _ _) rfl ⟨_, rfl, hI.out.sl, hM4.out.bl⟩
end Go.Proofs.YtobpgolchlgpfaaDoor
namespace Go.Proofs.YtobpgolchlgpfaaDoor
open Go.RowKit
set_option maxRecDepth 20000

/-- What the reference's Open answers: bytes, and a number. -/
def OpenRR (v : Value) (o : List (BitVec 8)) (e : Nat) (u : World) : Prop := ∃ v', v = .tuple #[v', .int .i64 (e : Int)] ∧ Sl v' o u
set_option maxHeartbeats 8000000 in
theorem ropen_any (key : List (BitVec 8)) (n : BitVec 64) (vw : Value) (wi : List (BitVec 8)) (vb : Value) (b : List (BitVec 8)) (w : World) (hK : key.length = 32) (hw : Sl vw wi w) (hb : Sl vb b w) (hl : wi.length + b.length ≤ 8000) (hT : Tabs w) :
    Calls Tryd.prog 13 #[.agg (key.map b8).toArray, b64 n, vw, vb] w fun e w' => ∃ v, e = .returned v ∧ (OpenRR v (openB key n wi b) (openE key n wi b) w' ∧ Below w.heap.size w w') := by
  have hM := Lib.hid (Ms.nil w)
  by_cases h32 : b.length < 32
  · have EE : openE key n wi b = 10 := by unfold openE; rw [if_pos h32]
    have EO : openB key n wi b = [] := by unfold openB; rw [if_pos h32]
    rw [EE, EO]
    obtain ⟨ab, cb, rfl, -, -⟩ := hb
    clear EE EO
    go_enter Tryd.func13, Tryd.ntmps13
    go_upto_region 0 with fail; refine wp_region_lit ?_
    refine wpList_val (run_box rfl rfl) rfl ?_; (try simp only [Act.put, List.setIfInBounds_toArray, List.set_cons_zero, List.set_cons_succ]); replace hM := Lib.hid (hM.out.new (key) 29); generalize w.alloc (.cells ((key).map b8).toArray 29) = a1 at *; generalize w.heap.size = g1 at *
    refine wpList_val (run_asg (v := .slice _ _ _) rfl rfl) rfl ?_; (try simp only [Act.put, List.setIfInBounds_toArray, List.set_cons_zero, List.set_cons_succ]); refine wpList_val (run_asg (v := .int _ _) rfl rfl) rfl ?_; (try simp only [Act.put, List.setIfInBounds_toArray, List.set_cons_zero, List.set_cons_succ])
    refine wpList_end ?_
    go_upto_region 1 with fail; refine wp_region_lit ?_
    refine wpList_val (run_mv (v := .slice _ _ _) rfl rfl) rfl ?_; (try simp only [Act.put, List.setIfInBounds_toArray, List.set_cons_zero, List.set_cons_succ])
    refine wpList_val (run_len rfl Tryd.underlying30 rfl) rfl ?_; (try simp only [Act.put, List.setIfInBounds_toArray, List.set_cons_zero, List.set_cons_succ])
    refine wpList_val (run_lssb (c := true) rfl rfl rfl (decide_eq_true (by omega))) rfl ?_; (try simp only [Act.put, List.setIfInBounds_toArray, List.set_cons_zero, List.set_cons_succ])
    refine wpList_end ?_
    go_upto_region 2 with fail; refine wp_region_lit ?_
    refine wpList_val (run_asg (v := .slice _ _ _) rfl rfl) rfl ?_; (try simp only [Act.put, List.setIfInBounds_toArray, List.set_cons_zero, List.set_cons_succ]); refine wpList_val (run_asg (v := .int _ _) rfl rfl) rfl ?_; (try simp only [Act.put, List.setIfInBounds_toArray, List.set_cons_zero, List.set_cons_succ])
    refine wpList_end ?_
    go_wp2_with fail
    exact bodyPost_ret (results_tmp2 Tryd.results13 _ _ _) rfl ⟨_, rfl, ⟨_, rfl, sl_nil _⟩, hM.out.bl⟩
  have HT := Lib.hid hT; clear hT
  have HW := Lib.hid hw; clear hw
  have HB := Lib.hid hb
  have hel := enc_len key
  have hdl := bind_len key
  have hBl := two_len key
  have hrl := nonce_len n
  obtain ⟨ab, cb, rfl, hcb, h3⟩ := hb
  obtain ⟨gb, fb, rfl, hgb, hrb⟩ := h3 (by intro h; rw [h] at h32; exact h32 (by decide))
  have hfl : (b.take (b.length - 32)).length = b.length - 32 := by rw [List.length_take]; omega
  have SF : Hid (Sl (.slice (some ⟨gb, fb, none⟩) (b.length - 32) cb) (b.take (b.length - 32)) w) := Lib.hid ⟨_, cb, by rw [hfl], by omega, fun _ => ⟨gb, fb, rfl, hgb, by rw [List.map_take]; exact rangeAt_take hrb⟩⟩
  have SB : Hid (Sl (cutO (some ⟨gb, fb, none⟩) b.length cb (b.length - 32)) (b.drop (b.length - 32)) w) := Lib.hid (Sl.cut HB.out (by omega))
  clear hrb hgb HB h3
  have H1 : Hid (tagB (bindK key) n wi (b.take (b.length - 32)) = b.drop (b.length - 32) → openE key n wi b = 0 ∧ openB key n wi b = hidB key n (b.take (b.length - 32))) := Lib.hid fun h => by
    have h' : opensB key n wi b := h
    unfold openE openB
    rw [if_neg h32, if_neg h32, if_pos h', if_pos h']
    exact ⟨rfl, rfl⟩
  have H2 : Hid (¬ tagB (bindK key) n wi (b.take (b.length - 32)) = b.drop (b.length - 32) → openE key n wi b = 21 ∧ openB key n wi b = []) := Lib.hid fun h => by
    have h' : ¬ opensB key n wi b := h
    unfold openE openB
    rw [if_neg h32, if_neg h32, if_neg h', if_neg h']
    exact ⟨rfl, rfl⟩
  have E1 : Hid ((twoB key).take 32 = encK key) := Lib.hid rfl
  have E2 : Hid ((twoB key).drop 32 = bindK key) := Lib.hid rfl
  have HK := Lib.hid (fun w hT => rkeys6_any key w hK hT)
  have HN := Lib.hid (rnonce_any n)
  have HC : Hid (∀ (v : Value) (u : World), Sl v (b.take (b.length - 32)) u → Calls Tryd.prog 21 #[.agg ((encK key).map b8).toArray, .agg ((nonceB n).map b8).toArray, v] u fun e w' => ∃ v', e = .returned v' ∧ S5 u v' (hidB key n (b.take (b.length - 32))) w') := Lib.hid fun v u h => rcounter_new (encK key) (nonceB n) v _ u hel hrl h (by omega)
  have HBi : Hid (∀ (vh : Value) (u : World), Sl vw wi u → Sl vh (b.take (b.length - 32)) u → Tabs u → Calls Tryd.prog 22 #[.agg ((bindK key).map b8).toArray, b64 n, vw, vh] u fun e w' => ∃ v', e = .returned v' ∧ (Sl v' (tagB (bindK key) n wi (b.take (b.length - 32))) w' ∧ Below u.heap.size u w')) := Lib.hid fun vh u h1 h2 h3 => rbound_any (bindK key) n vw wi vh _ u hdl h1 h2 (by omega) h3
  generalize tagB (bindK key) n wi (b.take (b.length - 32)) = tg at *
  generalize hidB key n (b.take (b.length - 32)) = hd at *
  generalize b.take (b.length - 32) = fr at *
  generalize b.drop (b.length - 32) = bk at *
  generalize openE key n wi b = oe at *
  generalize openB key n wi b = oo at *
  generalize b.length = L at *
  generalize encK key = E at *
  generalize bindK key = D at *
  generalize twoB key = B at *
  generalize nonceB n = r at *
  go_enter Tryd.func13, Tryd.ntmps13
  go_upto_region 0 with fail; refine wp_region_lit ?_
  refine wpList_val (run_box rfl rfl) rfl ?_; (try simp only [Act.put, List.setIfInBounds_toArray, List.set_cons_zero, List.set_cons_succ]); replace hM := Lib.hid (hM.out.new (key) 29); generalize w.alloc (.cells ((key).map b8).toArray 29) = a1 at *; generalize w.heap.size = g1 at *
  refine wpList_val (run_asg (v := .slice _ _ _) rfl rfl) rfl ?_; (try simp only [Act.put, List.setIfInBounds_toArray, List.set_cons_zero, List.set_cons_succ]); refine wpList_val (run_asg (v := .int _ _) rfl rfl) rfl ?_; (try simp only [Act.put, List.setIfInBounds_toArray, List.set_cons_zero, List.set_cons_succ])
  refine wpList_end ?_
  go_upto_region 1 with fail; refine wp_region_lit ?_
  refine wpList_val (run_mv (v := .slice (some _) _ _) rfl rfl) rfl ?_; (try simp only [Act.put, List.setIfInBounds_toArray, List.set_cons_zero, List.set_cons_succ])
  refine wpList_val (run_len rfl Tryd.underlying30 rfl) rfl ?_; (try simp only [Act.put, List.setIfInBounds_toArray, List.set_cons_zero, List.set_cons_succ])
  refine wpList_val (run_lssb (c := false) rfl rfl rfl (decide_eq_false (by omega))) rfl ?_; (try simp only [Act.put, List.setIfInBounds_toArray, List.set_cons_zero, List.set_cons_succ])
  refine wpList_end ?_
  go_upto_region 3 with fail; refine wp_region_lit ?_
  refine wpList_val (run_ldM (vs := key.map b8) rfl Tryd.underlying29 rfl (sz szKey hK) rfl (hM.out.get (i := 0) rfl).range) rfl ?_; (try simp only [Act.put, List.setIfInBounds_toArray, List.set_cons_zero, List.set_cons_succ])
  refine wpList_callR (run_call1 enters_rkeys6 rfl rfl rfl) rfl (HK.out _ (HT.out.below hM.out.bl)) (fun v9 a2 hR => ?_); (try simp only [Act.put, List.setIfInBounds_toArray, List.set_cons_zero, List.set_cons_succ])
  obtain ⟨hKS, hb⟩ := hR
  replace hM := Lib.hid (hM.out.below hb)
  clear hb
  obtain ⟨ao, ck, rfl, hck, -, h4⟩ := hKS
  obtain ⟨gk, rfl, hgk, hrk⟩ := h4 (by omega)
  have HA1 : Hid (∀ V, Below a2.heap.size a2 V → V.rangeAt gk (0 + 0 * 32) (E.map b8)) := Lib.hid fun V hV => by
    have := rangeAt_take (k := 32) (rangeAt_below hrk hgk hV)
    rw [← List.map_take, E1.out] at this
    exact this
  have HA2 : Hid (∀ V, Below a2.heap.size a2 V → V.rangeAt gk (0 + 1 * 32) (D.map b8)) := Lib.hid fun V hV => by
    have := rangeAt_drop (k := 32) (rangeAt_below hrk hgk hV)
    rw [← List.map_drop, E2.out] at this
    exact this
  clear hrk hgk h4
  refine wpList_val (run_asg (v := .slice (some _) _ _) rfl rfl) rfl ?_; (try simp only [Act.put, List.setIfInBounds_toArray, List.set_cons_zero, List.set_cons_succ])
  refine wpList_end ?_
  go_upto_region 4 with fail; refine wp_region_lit ?_
  refine wpList_val (run_mv (v := .slice (some _) _ _) rfl rfl) rfl ?_; (try simp only [Act.put, List.setIfInBounds_toArray, List.set_cons_zero, List.set_cons_succ])
  refine wpList_val (run_len rfl Tryd.underlying30 rfl) rfl ?_; (try simp only [Act.put, List.setIfInBounds_toArray, List.set_cons_zero, List.set_cons_succ])
  refine wpList_val (run_subN (b := 32) rfl rfl rfl (by omega) (by omega)) rfl ?_; (try simp only [Act.put, List.setIfInBounds_toArray, List.set_cons_zero, List.set_cons_succ])
  refine wpList_val (run_asg (v := .int _ _) rfl rfl) rfl ?_; (try simp only [Act.put, List.setIfInBounds_toArray, List.set_cons_zero, List.set_cons_succ])
  refine wpList_end ?_
  go_upto_region 5 with fail
  refine wp_region_noPanic ?_; refine wp_region_late (S := fun _ V => Below a2.heap.size a2 V) (by kernel_rfl) ((Below.refl _ _).drew) (fun hS => ?_)
  generalize a2.drew = a3 at *
  refine wpAnyL_take 0 rfl rfl (by kernel_rfl) (by kernel_rfl) (by kernel_rfl) (fun _ _ _ h => h) rfl (fun V hV => run_mv (v := .slice (some _) _ _) rfl rfl) hS ?_; (try simp only [Act.put, List.setIfInBounds_toArray, List.set_cons_zero, List.set_cons_succ])
  refine wpAnyL_take 1 rfl rfl (by kernel_rfl) (by kernel_rfl) (by kernel_rfl) (fun _ _ _ h => h) rfl (fun V hV => run_ixK (i := 1) rfl rfl rfl (by omega)) hS ?_; (try simp only [Act.put, List.setIfInBounds_toArray, List.set_cons_zero, List.set_cons_succ])
  refine wpAnyL_take 2 rfl rfl (by kernel_rfl) (by kernel_rfl) (by kernel_rfl) (fun _ _ _ h => h) rfl (fun V hV => run_ldK (l := D) rfl hdl rfl (HA2.out V hV)) hS ?_; (try simp only [Act.put, List.setIfInBounds_toArray, List.set_cons_zero, List.set_cons_succ])
  refine wpAnyL_take 3 rfl rfl (by kernel_rfl) (by kernel_rfl) (by kernel_rfl) (fun _ _ _ h => h) rfl (fun V hV => run_mv (v := b64 _) rfl rfl) hS ?_; (try simp only [Act.put, List.setIfInBounds_toArray, List.set_cons_zero, List.set_cons_succ])
  refine wpAnyL_take 4 rfl rfl (by kernel_rfl) (by kernel_rfl) (by kernel_rfl) (fun _ _ _ h => h) rfl (fun V hV => run_mv (v := vw) rfl rfl) hS ?_; (try simp only [Act.put, List.setIfInBounds_toArray, List.set_cons_zero, List.set_cons_succ])
  refine wpAnyL_take 5 rfl rfl (by kernel_rfl) (by kernel_rfl) (by kernel_rfl) (fun _ _ _ h => h) rfl (fun V hV => run_mv (v := .slice (some _) _ _) rfl rfl) hS ?_; (try simp only [Act.put, List.setIfInBounds_toArray, List.set_cons_zero, List.set_cons_succ])
  refine wpAnyL_take 6 rfl rfl (by kernel_rfl) (by kernel_rfl) (by kernel_rfl) (fun _ _ _ h => h) rfl (fun V hV => run_mv (v := .int _ _) rfl rfl) hS ?_; (try simp only [Act.put, List.setIfInBounds_toArray, List.set_cons_zero, List.set_cons_succ])
  refine wpAnyL_take 7 rfl rfl (by kernel_rfl) (by kernel_rfl) (by kernel_rfl) (fun _ _ _ h => h) rfl (fun V hV => run_slh rfl Tryd.underlying30 (by kernel_rfl) rfl rfl (by omega)) hS ?_; (try simp only [Act.put, List.setIfInBounds_toArray, List.set_cons_zero, List.set_cons_succ])
  refine wpAnyL_take 10 rfl rfl (by kernel_rfl) (by kernel_rfl) (by kernel_rfl) (fun _ _ _ h => h) rfl (fun V hV => run_mv (v := .slice (some _) _ _) rfl rfl) hS ?_; (try simp only [Act.put, List.setIfInBounds_toArray, List.set_cons_zero, List.set_cons_succ])
  refine wpAnyL_take 11 rfl rfl (by kernel_rfl) (by kernel_rfl) (by kernel_rfl) (fun _ _ _ h => h) rfl (fun V hV => run_mv (v := .int _ _) rfl rfl) hS ?_; (try simp only [Act.put, List.setIfInBounds_toArray, List.set_cons_zero, List.set_cons_succ])
  refine wpAnyL_take 12 rfl rfl (by kernel_rfl) (by kernel_rfl) (by kernel_rfl) (fun _ _ _ h => h) rfl (fun V hV => run_cut rfl Tryd.underlying30 (by kernel_rfl) rfl rfl (by omega)) hS ?_; (try simp only [Act.put, List.setIfInBounds_toArray, List.set_cons_zero, List.set_cons_succ])
  generalize cutO (some ⟨gb, fb, none⟩) L cb (L - 32) = vt at *
  refine wpAnyL_take 13 rfl rfl (by kernel_rfl) (by kernel_rfl) (by kernel_rfl) (fun _ _ _ h => h) rfl (fun V hV => run_str rfl rfl (SB.out.below (hM.out.below hV).bl)) hS ?_; (try simp only [Act.put, List.setIfInBounds_toArray, List.set_cons_zero, List.set_cons_succ])
  refine wpAnyL_call 8 (by kernel_rfl) rfl rfl rfl (run_call4 enters_rbound rfl rfl rfl rfl rfl rfl) (HBi.out _ _ (HW.out.below (hM.out.below hS).bl) (SF.out.below (hM.out.below hS).bl) (HT.out.below (hM.out.below hS).bl)) (fun v w' hR => hS.trans (hR.2.mono hS.size)) (fun v8 a4 hR => ?_); (try simp only [Act.put, List.setIfInBounds_toArray, List.set_cons_zero, List.set_cons_succ])
  replace hS := hS.trans (hR.2.mono hS.size)
  have ST := Lib.hid hR.1
  clear hR
  refine wpAnyL_val 9 (by kernel_rfl) rfl rfl rfl (run_str rfl rfl ST.out) (hS) ?_; (try simp only [Act.put, List.setIfInBounds_toArray, List.set_cons_zero, List.set_cons_succ])
  refine wpAnyL_take 14 rfl rfl (by kernel_rfl) (by kernel_rfl) (by kernel_rfl) (fun _ _ _ h => h) rfl (fun V hV => run_neqstrG rfl rfl rfl) hS ?_; (try simp only [Act.put, List.setIfInBounds_toArray, List.set_cons_zero, List.set_cons_succ])
  refine wpAnyL_done (by kernel_rfl) ?_ _; refine NoPanic.normal ?_
  replace hM := Lib.hid (hM.out.below hS)
  rw [strOf_beq]
  clear ST HA2
  by_cases ho : tg = bk
  · obtain ⟨e1, e2⟩ := H1.out ho
    have EE := Lib.hid e1
    have EO := Lib.hid e2
    clear e1 e2 H1 H2
    rw [decide_eq_true ho]
    have hS4 := hS
    clear hS
    go_upto_region 7 with fail
    refine wp_region_noPanic ?_; refine wp_region_late (S := Till 10 (fun V => Below a4.heap.size a4 V)) (by kernel_rfl) (.inr (Below.refl _ _).drew) (fun _ => ?_); have hS : Below a4.heap.size a4 a4.drew := (Below.refl _ _).drew
    generalize a4.drew = b5 at *
    refine wpAnyD_take 0 rfl rfl (by kernel_rfl) (by kernel_rfl) (by kernel_rfl) (by kernel_rfl) (by kernel_rfl) (fun _ _ _ h => h) rfl (fun V hV => run_mv (v := .slice (some _) _ _) rfl rfl) hS ?_; (try simp only [Act.put, List.setIfInBounds_toArray, List.set_cons_zero, List.set_cons_succ])
    refine wpAnyD_take 1 rfl rfl (by kernel_rfl) (by kernel_rfl) (by kernel_rfl) (by kernel_rfl) (by kernel_rfl) (fun _ _ _ h => h) rfl (fun V hV => run_ixK (i := 0) rfl rfl rfl (by omega)) hS ?_; (try simp only [Act.put, List.setIfInBounds_toArray, List.set_cons_zero, List.set_cons_succ])
    refine wpAnyD_take 2 rfl rfl (by kernel_rfl) (by kernel_rfl) (by kernel_rfl) (by kernel_rfl) (by kernel_rfl) (fun _ _ _ h => h) rfl (fun V hV => run_ldK (l := E) rfl hel rfl (HA1.out V (hS4.trans (hV.mono hS4.size)))) hS ?_; (try simp only [Act.put, List.setIfInBounds_toArray, List.set_cons_zero, List.set_cons_succ])
    refine wpAnyD_take 3 rfl rfl (by kernel_rfl) (by kernel_rfl) (by kernel_rfl) (by kernel_rfl) (by kernel_rfl) (fun _ _ _ h => h) rfl (fun V hV => run_mv (v := b64 _) rfl rfl) hS ?_; (try simp only [Act.put, List.setIfInBounds_toArray, List.set_cons_zero, List.set_cons_succ])
    refine wpAnyD_take 5 rfl rfl (by kernel_rfl) (by kernel_rfl) (by kernel_rfl) (by kernel_rfl) (by kernel_rfl) (fun _ _ _ h => h) rfl (fun V hV => run_mv (v := .slice (some _) _ _) rfl rfl) hS ?_; (try simp only [Act.put, List.setIfInBounds_toArray, List.set_cons_zero, List.set_cons_succ])
    refine wpAnyD_take 6 rfl rfl (by kernel_rfl) (by kernel_rfl) (by kernel_rfl) (by kernel_rfl) (by kernel_rfl) (fun _ _ _ h => h) rfl (fun V hV => run_mv (v := .int _ _) rfl rfl) hS ?_; (try simp only [Act.put, List.setIfInBounds_toArray, List.set_cons_zero, List.set_cons_succ])
    refine wpAnyD_take 7 rfl rfl (by kernel_rfl) (by kernel_rfl) (by kernel_rfl) (by kernel_rfl) (by kernel_rfl) (fun _ _ _ h => h) rfl (fun V hV => run_slh rfl Tryd.underlying30 (by kernel_rfl) rfl rfl (by omega)) hS ?_; (try simp only [Act.put, List.setIfInBounds_toArray, List.set_cons_zero, List.set_cons_succ])
    refine wpAnyD_call 4 (by kernel_rfl) rfl rfl rfl (run_call1 enters_rnonce rfl rfl rfl) (HN.out _) (fun w hb => hS.trans (hb.mono hS.size)) (fun b6 hb => ?_); replace hS := hS.trans (hb.mono hS.size); clear hb; (try simp only [Act.put, List.setIfInBounds_toArray, List.set_cons_zero, List.set_cons_succ])
    refine wpAnyD_callR 8 (by kernel_rfl) rfl rfl rfl (run_call3 enters_rcounter rfl rfl rfl rfl rfl) (HC.out _ _ (SF.out.below (hM.out.below hS).bl)) (fun v w' hR => hS.trans (hR.bl.mono hS.size)) (fun v11 b7 hR => ?_); (try simp only [Act.put, List.setIfInBounds_toArray, List.set_cons_zero, List.set_cons_succ])
    replace hS := hS.trans (hR.bl.mono hS.size)
    have SH := Lib.hid hR.sl
    clear hR
    refine wpAnyD_val 9 (by kernel_rfl) rfl rfl rfl (run_asg (v := v11) rfl rfl) (.inr (hS)) ?_; (try simp only [Act.put, List.setIfInBounds_toArray, List.set_cons_zero, List.set_cons_succ])
    refine wpAnyD_val 10 (by kernel_rfl) rfl rfl rfl (run_asg (v := .int _ _) rfl rfl) (.inl rfl) ?_; (try simp only [Act.put, List.setIfInBounds_toArray, List.set_cons_zero, List.set_cons_succ])
    refine wpAnyL_done (by kernel_rfl) ?_ _; refine NoPanic.normal ?_
    replace hM := Lib.hid (hM.out.below hS)
    clear hS
    go_wp2_with fail
    exact bodyPost_ret (results_tmp2 Tryd.results13 _ _ _) rfl ⟨_, rfl, by rw [EE.out, EO.out]; exact ⟨_, rfl, SH.out⟩, hM.out.bl⟩
  · obtain ⟨e1, e2⟩ := H2.out ho
    have EE := Lib.hid e1
    have EO := Lib.hid e2
    clear e1 e2 H1 H2 hS
    rw [decide_eq_false ho]
    go_upto_region 6 with fail; refine wp_region_lit ?_
    refine wpList_val (run_asg (v := .slice _ _ _) rfl rfl) rfl ?_; (try simp only [Act.put, List.setIfInBounds_toArray, List.set_cons_zero, List.set_cons_succ]); refine wpList_val (run_asg (v := .int _ _) rfl rfl) rfl ?_; (try simp only [Act.put, List.setIfInBounds_toArray, List.set_cons_zero, List.set_cons_succ])
    refine wpList_end ?_
    go_wp2_with fail
    exact bodyPost_ret (results_tmp2 Tryd.results13 _ _ _) rfl ⟨_, rfl, by rw [EE.out, EO.out]; exact ⟨_, rfl, sl_nil _⟩, hM.out.bl⟩
end Go.Proofs.YtobpgolchlgpfaaDoor
namespace Go.Proofs.YtobpgolchlgpfaaDoor
open Go.RowKit
set_option maxRecDepth 20000

theorem run_cv16S {w : World} {ρ : Operand → Value} {o : Oper} {x : Operand} {n : Nat} (ho : o.op = .convert 33 3 x) (hx : ρ x = .int .u16 (n : Int)) (h1 : n < 65536) : (execOp ρ o).run Tryd.prog w = .ok (.value (.int .i64 (n : Int))) w := by
  rw [run_cv ho Tryd.underlying33 Tryd.underlying3 hx, i64_fit (by omega) (by omega)]
theorem openE_le (k : List (BitVec 8)) (n : BitVec 64) (wi b : List (BitVec 8)) : openE k n wi b ≤ 21 := by
  unfold openE; split
  · omega
  · split <;> omega
set_option maxHeartbeats 8000000 in
theorem sealSeals_any (k : List (BitVec 8)) (n : BitVec 64) (vw : Value) (wi : List (BitVec 8)) (vb : Value) (b : List (BitVec 8)) (w : World) (hk : k.length = 32) (hw : Sl vw wi w) (hwl : wi.length ≤ 140737488351232) (hb : Sl vb b w) (hbl : b.length ≤ 140737488351232) (hT : Tabs w) :
    Calls Tryd.prog 4 #[.agg (k.map b8).toArray, b64 n, vw, vb] w fun e w' => e = .returned (.bool true) ∧ Below w.heap.size w w' := by
  have hM := Lib.hid (Ms.nil w)
  have HT := Lib.hid hT; clear hT
  have HW := Lib.hid hw
  have HB := Lib.hid hb
  obtain ⟨aw, cw, rfl, -, -⟩ := hw
  obtain ⟨ab, cb, rfl, -, -⟩ := hb
  have HS : Hid (wi.length + b.length ≤ 300 → ∀ (u : World), Sl (.slice aw wi.length cw) wi u → Sl (.slice ab b.length cb) b u → Tabs u → Calls Tryd.prog 10 #[.agg (k.map b8).toArray, b64 n, .slice aw wi.length cw, .slice ab b.length cb] u fun e w' => ∃ v', e = .returned v' ∧ S5 u v' (sealB k n wi b) w') := Lib.hid fun hl u h1 h2 h3 => seal_any k n _ wi _ b u hk h1 (by omega) h2 (by omega) h3
  have HRS : Hid (wi.length + b.length ≤ 300 → ∀ (u : World), Sl (.slice aw wi.length cw) wi u → Sl (.slice ab b.length cb) b u → Tabs u → Calls Tryd.prog 11 #[.agg (k.map b8).toArray, b64 n, .slice aw wi.length cw, .slice ab b.length cb] u fun e w' => ∃ v', e = .returned v' ∧ (Sl v' (sealB k n wi b) w' ∧ Below u.heap.size u w')) := Lib.hid fun hl u h1 h2 h3 => rseal_any k n _ wi _ b u hk h1 h2 (by omega) h3
  have HO : Hid (wi.length + b.length ≤ 300 → ∀ (u : World), Sl (.slice aw wi.length cw) wi u → Sl (.slice ab b.length cb) b u → Tabs u → Calls Tryd.prog 12 #[.agg (k.map b8).toArray, b64 n, .slice aw wi.length cw, .slice ab b.length cb] u fun e w' => ∃ v, e = .returned v ∧ (OpenR v (openB k n wi b) (openE k n wi b) w' ∧ Below u.heap.size u w')) := Lib.hid fun hl u h1 h2 h3 => open_any k n _ wi _ b u hk h1 (by omega) h2 (by omega) h3
  have HRO : Hid (wi.length + b.length ≤ 300 → ∀ (u : World), Sl (.slice aw wi.length cw) wi u → Sl (.slice ab b.length cb) b u → Tabs u → Calls Tryd.prog 13 #[.agg (k.map b8).toArray, b64 n, .slice aw wi.length cw, .slice ab b.length cb] u fun e w' => ∃ v, e = .returned v ∧ (OpenRR v (openB k n wi b) (openE k n wi b) w' ∧ Below u.heap.size u w')) := Lib.hid fun hl u h1 h2 h3 => ropen_any k n _ wi _ b u hk h1 h2 (by omega) h3
  have HN1 := Lib.hid (nonce_any n)
  have HN2 := Lib.hid (rnonce_any n)
  have hrl := nonce_len n
  have hoe := openE_le k n wi b
  generalize sealB k n wi b = X at *
  generalize openE k n wi b = oe at *
  generalize openB k n wi b = oo at *
  generalize nonceB n = r at *
  go_enter Tryd.func4, Tryd.ntmps4
  go_upto_region 0 with fail; refine wp_region_lit ?_
  refine wpList_val (run_box rfl rfl) rfl ?_; (try simp only [Act.put, List.setIfInBounds_toArray, List.set_cons_zero, List.set_cons_succ]); replace hM := Lib.hid (hM.out.new (k) 29); generalize w.alloc (.cells ((k).map b8).toArray 29) = a1 at *; generalize w.heap.size = g1 at *
  refine wpList_val (run_asg (v := .bool false) rfl rfl) rfl ?_; (try simp only [Act.put, List.setIfInBounds_toArray, List.set_cons_zero, List.set_cons_succ])
  refine wpList_end ?_
  go_upto_region 1 with fail; refine wp_region_lit ?_
  refine wpList_val (run_mv (v := .slice _ _ _) rfl rfl) rfl ?_; (try simp only [Act.put, List.setIfInBounds_toArray, List.set_cons_zero, List.set_cons_succ])
  refine wpList_val (run_len rfl Tryd.underlying30 rfl) rfl ?_; (try simp only [Act.put, List.setIfInBounds_toArray, List.set_cons_zero, List.set_cons_succ])
  refine wpList_val (run_mv (v := .slice _ _ _) rfl rfl) rfl ?_; (try simp only [Act.put, List.setIfInBounds_toArray, List.set_cons_zero, List.set_cons_succ])
  refine wpList_val (run_len rfl Tryd.underlying30 rfl) rfl ?_; (try simp only [Act.put, List.setIfInBounds_toArray, List.set_cons_zero, List.set_cons_succ])
  refine wpList_val (run_addN rfl rfl rfl (by omega)) rfl ?_; (try simp only [Act.put, List.setIfInBounds_toArray, List.set_cons_zero, List.set_cons_succ])
  by_cases hlt : 300 < wi.length + b.length
  · refine wpList_val (run_gtrb (c := true) rfl rfl rfl (decide_eq_true (by omega))) rfl ?_; (try simp only [Act.put, List.setIfInBounds_toArray, List.set_cons_zero, List.set_cons_succ])
    refine wpList_val (run_mv (v := .bool true) rfl rfl) rfl ?_; (try simp only [Act.put, List.setIfInBounds_toArray, List.set_cons_zero, List.set_cons_succ])
    refine wpList_pass rfl ?_; (try simp only [Act.put, List.setIfInBounds_toArray, List.set_cons_zero, List.set_cons_succ])
    refine wpList_pass rfl ?_; (try simp only [Act.put, List.setIfInBounds_toArray, List.set_cons_zero, List.set_cons_succ])
    refine wpList_val (run_pick (b := true) (v := .bool true) rfl rfl rfl) rfl ?_; (try simp only [Act.put, List.setIfInBounds_toArray, List.set_cons_zero, List.set_cons_succ])
    refine wpList_end ?_
    go_upto_region 2 with fail; refine wp_region_lit ?_
    refine wpList_enter (run_call0 enters_known6 rfl rfl) rfl (known6_any _ (HT.out.below hM.out.bl)) (fun a3 hb3 => ?_); (try simp only [Act.put, List.setIfInBounds_toArray, List.set_cons_zero, List.set_cons_succ])
    refine wpList_val (run_asg (v := .bool true) rfl rfl) rfl ?_; (try simp only [Act.put, List.setIfInBounds_toArray, List.set_cons_zero, List.set_cons_succ])
    refine wpList_end ?_
    replace hM := Lib.hid (hM.out.below hb3)
    go_wp2_with fail
    go_ret
    exact ⟨rfl, hM.out.bl⟩
  refine wpList_val (run_gtrb (c := false) rfl rfl rfl (decide_eq_false (by omega))) rfl ?_; (try simp only [Act.put, List.setIfInBounds_toArray, List.set_cons_zero, List.set_cons_succ])
  refine wpList_val (run_mv (v := .bool false) rfl rfl) rfl ?_; (try simp only [Act.put, List.setIfInBounds_toArray, List.set_cons_zero, List.set_cons_succ])
  refine wpList_enterG (run_call0 enters_known6 rfl rfl) rfl (known6_any _ (HT.out.below hM.out.bl)) (fun a2 hb => ?_); (try simp only [Act.put, List.setIfInBounds_toArray, List.set_cons_zero, List.set_cons_succ])
  replace hM := Lib.hid (hM.out.below hb)
  clear hb
  refine wpList_valG (run_notS (c := true) rfl rfl) rfl ?_; (try simp only [Act.put, List.setIfInBounds_toArray, List.set_cons_zero, List.set_cons_succ])
  refine wpList_val (run_pick (b := false) (v := .bool false) rfl rfl rfl) rfl ?_; (try simp only [Act.put, List.setIfInBounds_toArray, List.set_cons_zero, List.set_cons_succ])
  refine wpList_end ?_
  go_upto_region 3 with fail; refine wp_region_lit ?_
  refine wpList_val (run_ldM (vs := k.map b8) rfl Tryd.underlying29 rfl (sz szKey hk) rfl (hM.out.get (i := 0) rfl).range) rfl ?_; (try simp only [Act.put, List.setIfInBounds_toArray, List.set_cons_zero, List.set_cons_succ])
  refine wpList_val (run_mv (v := b64 _) rfl rfl) rfl ?_; (try simp only [Act.put, List.setIfInBounds_toArray, List.set_cons_zero, List.set_cons_succ]); refine wpList_val (run_mv (v := .slice _ _ _) rfl rfl) rfl ?_; (try simp only [Act.put, List.setIfInBounds_toArray, List.set_cons_zero, List.set_cons_succ]); refine wpList_val (run_mv (v := .slice _ _ _) rfl rfl) rfl ?_; (try simp only [Act.put, List.setIfInBounds_toArray, List.set_cons_zero, List.set_cons_succ])
  refine wpList_callR (run_call4 enters_seal rfl rfl rfl rfl rfl rfl) rfl (HS.out (by omega) _ (HW.out.below hM.out.bl) (HB.out.below hM.out.bl) (HT.out.below hM.out.bl)) (fun v9 a3 hR => ?_); (try simp only [Act.put, List.setIfInBounds_toArray, List.set_cons_zero, List.set_cons_succ])
  replace hM := Lib.hid (hM.out.below hR.bl)
  have S1 := Lib.hid hR.sl
  clear hR
  refine wpList_val (run_asg (v := v9) rfl rfl) rfl ?_; (try simp only [Act.put, List.setIfInBounds_toArray, List.set_cons_zero, List.set_cons_succ])
  refine wpList_end ?_
  go_upto_region 4 with fail; refine wp_region_lit ?_
  refine wpList_val (run_ldM (vs := k.map b8) rfl Tryd.underlying29 rfl (sz szKey hk) rfl (hM.out.get (i := 0) rfl).range) rfl ?_; (try simp only [Act.put, List.setIfInBounds_toArray, List.set_cons_zero, List.set_cons_succ])
  refine wpList_val (run_mv (v := b64 _) rfl rfl) rfl ?_; (try simp only [Act.put, List.setIfInBounds_toArray, List.set_cons_zero, List.set_cons_succ]); refine wpList_val (run_mv (v := .slice _ _ _) rfl rfl) rfl ?_; (try simp only [Act.put, List.setIfInBounds_toArray, List.set_cons_zero, List.set_cons_succ]); refine wpList_val (run_mv (v := .slice _ _ _) rfl rfl) rfl ?_; (try simp only [Act.put, List.setIfInBounds_toArray, List.set_cons_zero, List.set_cons_succ])
  refine wpList_callR (run_call4 enters_rseal rfl rfl rfl rfl rfl rfl) rfl (HRS.out (by omega) _ (HW.out.below hM.out.bl) (HB.out.below hM.out.bl) (HT.out.below hM.out.bl)) (fun v10 a4 hR => ?_); (try simp only [Act.put, List.setIfInBounds_toArray, List.set_cons_zero, List.set_cons_succ])
  replace hM := Lib.hid (hM.out.below hR.2)
  replace S1 := Lib.hid (S1.out.below hR.2)
  have S2 := Lib.hid hR.1
  clear hR
  refine wpList_val (run_asg (v := v10) rfl rfl) rfl ?_; (try simp only [Act.put, List.setIfInBounds_toArray, List.set_cons_zero, List.set_cons_succ])
  refine wpList_end ?_
  go_upto_region 5 with fail; refine wp_region_lit ?_
  refine wpList_val (run_ldM (vs := k.map b8) rfl Tryd.underlying29 rfl (sz szKey hk) rfl (hM.out.get (i := 0) rfl).range) rfl ?_; (try simp only [Act.put, List.setIfInBounds_toArray, List.set_cons_zero, List.set_cons_succ])
  refine wpList_val (run_mv (v := b64 _) rfl rfl) rfl ?_; (try simp only [Act.put, List.setIfInBounds_toArray, List.set_cons_zero, List.set_cons_succ]); refine wpList_val (run_mv (v := .slice _ _ _) rfl rfl) rfl ?_; (try simp only [Act.put, List.setIfInBounds_toArray, List.set_cons_zero, List.set_cons_succ]); refine wpList_val (run_mv (v := .slice _ _ _) rfl rfl) rfl ?_; (try simp only [Act.put, List.setIfInBounds_toArray, List.set_cons_zero, List.set_cons_succ])
  refine wpList_callR (run_call4 enters_open rfl rfl rfl rfl rfl rfl) rfl (HO.out (by omega) _ (HW.out.below hM.out.bl) (HB.out.below hM.out.bl) (HT.out.below hM.out.bl)) (fun v2 a5 hR => ?_); (try simp only [Act.put, List.setIfInBounds_toArray, List.set_cons_zero, List.set_cons_succ])
  obtain ⟨⟨o1, rfl, So⟩, hb⟩ := hR
  replace hM := Lib.hid (hM.out.below hb)
  replace S1 := Lib.hid (S1.out.below hb)
  replace S2 := Lib.hid (S2.out.below hb)
  have S3 := Lib.hid So
  clear hb So
  refine wpList_val (run_mv (v := .tuple _) rfl rfl) rfl ?_; (try simp only [Act.put, List.setIfInBounds_toArray, List.set_cons_zero, List.set_cons_succ])
  refine wpList_val (run_ext (v := o1) rfl rfl rfl) rfl ?_; (try simp only [Act.put, List.setIfInBounds_toArray, List.set_cons_zero, List.set_cons_succ])
  refine wpList_val (run_ext (v := .int .u16 (oe : Int)) rfl rfl rfl) rfl ?_; (try simp only [Act.put, List.setIfInBounds_toArray, List.set_cons_zero, List.set_cons_succ])
  refine wpList_val (run_asg (v := o1) rfl rfl) rfl ?_; (try simp only [Act.put, List.setIfInBounds_toArray, List.set_cons_zero, List.set_cons_succ])
  refine wpList_val (run_asg (v := .int _ _) rfl rfl) rfl ?_; (try simp only [Act.put, List.setIfInBounds_toArray, List.set_cons_zero, List.set_cons_succ])
  refine wpList_end ?_
  go_upto_region 6 with fail; refine wp_region_lit ?_
  refine wpList_val (run_ldM (vs := k.map b8) rfl Tryd.underlying29 rfl (sz szKey hk) rfl (hM.out.get (i := 0) rfl).range) rfl ?_; (try simp only [Act.put, List.setIfInBounds_toArray, List.set_cons_zero, List.set_cons_succ])
  refine wpList_val (run_mv (v := b64 _) rfl rfl) rfl ?_; (try simp only [Act.put, List.setIfInBounds_toArray, List.set_cons_zero, List.set_cons_succ]); refine wpList_val (run_mv (v := .slice _ _ _) rfl rfl) rfl ?_; (try simp only [Act.put, List.setIfInBounds_toArray, List.set_cons_zero, List.set_cons_succ]); refine wpList_val (run_mv (v := .slice _ _ _) rfl rfl) rfl ?_; (try simp only [Act.put, List.setIfInBounds_toArray, List.set_cons_zero, List.set_cons_succ])
  refine wpList_callR (run_call4 enters_ropen rfl rfl rfl rfl rfl rfl) rfl (HRO.out (by omega) _ (HW.out.below hM.out.bl) (HB.out.below hM.out.bl) (HT.out.below hM.out.bl)) (fun v3 a6 hR => ?_); (try simp only [Act.put, List.setIfInBounds_toArray, List.set_cons_zero, List.set_cons_succ])
  obtain ⟨⟨o2, rfl, So⟩, hb⟩ := hR
  replace hM := Lib.hid (hM.out.below hb)
  replace S1 := Lib.hid (S1.out.below hb)
  replace S2 := Lib.hid (S2.out.below hb)
  replace S3 := Lib.hid (S3.out.below hb)
  have S4 := Lib.hid So
  clear hb So
  refine wpList_val (run_mv (v := .tuple _) rfl rfl) rfl ?_; (try simp only [Act.put, List.setIfInBounds_toArray, List.set_cons_zero, List.set_cons_succ])
  refine wpList_val (run_ext (v := o2) rfl rfl rfl) rfl ?_; (try simp only [Act.put, List.setIfInBounds_toArray, List.set_cons_zero, List.set_cons_succ])
  refine wpList_val (run_ext (v := .int .i64 (oe : Int)) rfl rfl rfl) rfl ?_; (try simp only [Act.put, List.setIfInBounds_toArray, List.set_cons_zero, List.set_cons_succ])
  refine wpList_val (run_asg (v := o2) rfl rfl) rfl ?_; (try simp only [Act.put, List.setIfInBounds_toArray, List.set_cons_zero, List.set_cons_succ])
  refine wpList_val (run_asg (v := .int _ _) rfl rfl) rfl ?_; (try simp only [Act.put, List.setIfInBounds_toArray, List.set_cons_zero, List.set_cons_succ])
  refine wpList_end ?_
  go_upto_region 7 with fail; refine wp_region_lit ?_
  refine wpList_val (run_mv (v := v9) rfl rfl) rfl ?_; (try simp only [Act.put, List.setIfInBounds_toArray, List.set_cons_zero, List.set_cons_succ])
  refine wpList_val (run_str rfl rfl S1.out) rfl ?_; (try simp only [Act.put, List.setIfInBounds_toArray, List.set_cons_zero, List.set_cons_succ])
  refine wpList_val (run_mv (v := v10) rfl rfl) rfl ?_; (try simp only [Act.put, List.setIfInBounds_toArray, List.set_cons_zero, List.set_cons_succ])
  refine wpList_val (run_str rfl rfl S2.out) rfl ?_; (try simp only [Act.put, List.setIfInBounds_toArray, List.set_cons_zero, List.set_cons_succ])
  refine wpList_val (run_eqstr rfl rfl rfl) rfl ?_; (try simp only [Act.put, List.setIfInBounds_toArray, List.set_cons_zero, List.set_cons_succ])
  refine wpList_val (run_mv (v := .bool true) rfl rfl) rfl ?_; (try simp only [Act.put, List.setIfInBounds_toArray, List.set_cons_zero, List.set_cons_succ])
  refine wpList_valG (run_mv (v := o1) rfl rfl) rfl ?_; (try simp only [Act.put, List.setIfInBounds_toArray, List.set_cons_zero, List.set_cons_succ])
  refine wpList_valG (run_str rfl rfl S3.out) rfl ?_; (try simp only [Act.put, List.setIfInBounds_toArray, List.set_cons_zero, List.set_cons_succ])
  refine wpList_valG (run_mv (v := o2) rfl rfl) rfl ?_; (try simp only [Act.put, List.setIfInBounds_toArray, List.set_cons_zero, List.set_cons_succ])
  refine wpList_valG (run_str rfl rfl S4.out) rfl ?_; (try simp only [Act.put, List.setIfInBounds_toArray, List.set_cons_zero, List.set_cons_succ])
  refine wpList_valG (run_eqstr rfl rfl rfl) rfl ?_; (try simp only [Act.put, List.setIfInBounds_toArray, List.set_cons_zero, List.set_cons_succ])
  refine wpList_val (run_pick (b := true) (v := .bool true) rfl rfl rfl) rfl ?_; (try simp only [Act.put, List.setIfInBounds_toArray, List.set_cons_zero, List.set_cons_succ])
  refine wpList_val (run_mv (v := .bool true) rfl rfl) rfl ?_; (try simp only [Act.put, List.setIfInBounds_toArray, List.set_cons_zero, List.set_cons_succ])
  refine wpList_valG (run_mv (v := .int _ _) rfl rfl) rfl ?_; (try simp only [Act.put, List.setIfInBounds_toArray, List.set_cons_zero, List.set_cons_succ])
  refine wpList_valG (run_cv16S rfl rfl (by omega)) rfl ?_; (try simp only [Act.put, List.setIfInBounds_toArray, List.set_cons_zero, List.set_cons_succ])
  refine wpList_valG (run_mv (v := .int _ _) rfl rfl) rfl ?_; (try simp only [Act.put, List.setIfInBounds_toArray, List.set_cons_zero, List.set_cons_succ])
  refine wpList_valG (run_eqlb (c := true) rfl rfl rfl (by simp)) rfl ?_; (try simp only [Act.put, List.setIfInBounds_toArray, List.set_cons_zero, List.set_cons_succ])
  refine wpList_val (run_pick (b := true) (v := .bool true) rfl rfl rfl) rfl ?_; (try simp only [Act.put, List.setIfInBounds_toArray, List.set_cons_zero, List.set_cons_succ])
  refine wpList_val (run_mv (v := .bool true) rfl rfl) rfl ?_; (try simp only [Act.put, List.setIfInBounds_toArray, List.set_cons_zero, List.set_cons_succ])
  clear S1 S2 S3 S4
  refine wpList_valG (run_mv (v := b64 _) rfl rfl) rfl ?_; (try simp only [Act.put, List.setIfInBounds_toArray, List.set_cons_zero, List.set_cons_succ])
  refine wpList_enterG (run_call1 enters_nonce rfl rfl rfl) rfl (HN1.out _) (fun a7 hb => ?_); (try simp only [Act.put, List.setIfInBounds_toArray, List.set_cons_zero, List.set_cons_succ])
  replace hM := Lib.hid (hM.out.below hb)
  clear hb
  refine wpList_valG (run_mv (v := b64 _) rfl rfl) rfl ?_; (try simp only [Act.put, List.setIfInBounds_toArray, List.set_cons_zero, List.set_cons_succ])
  refine wpList_enterG (run_call1 enters_rnonce rfl rfl rfl) rfl (HN2.out _) (fun a8 hb => ?_); (try simp only [Act.put, List.setIfInBounds_toArray, List.set_cons_zero, List.set_cons_succ])
  replace hM := Lib.hid (hM.out.below hb)
  clear hb
  refine wpList_valG (run_eq16 (c := true) hrl hrl rfl rfl rfl (decide_eq_true rfl)) rfl ?_; (try simp only [Act.put, List.setIfInBounds_toArray, List.set_cons_zero, List.set_cons_succ])
  refine wpList_val (run_pick (b := true) (v := .bool true) rfl rfl rfl) rfl ?_; (try simp only [Act.put, List.setIfInBounds_toArray, List.set_cons_zero, List.set_cons_succ])
  refine wpList_val (run_asg (v := .bool true) rfl rfl) rfl ?_; (try simp only [Act.put, List.setIfInBounds_toArray, List.set_cons_zero, List.set_cons_succ])
  refine wpList_end ?_
  go_wp2_with fail
  go_ret
  exact ⟨rfl, hM.out.bl⟩
end Go.Proofs.YtobpgolchlgpfaaDoor
