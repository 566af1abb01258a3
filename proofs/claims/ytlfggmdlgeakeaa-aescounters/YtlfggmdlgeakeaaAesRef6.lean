/- What the reference's Counter does. -/
import Derived.Test.YtlfggmdlgeakeaaAesRef4
namespace Go.Proofs.Ytlfggmdlgeakeaa
open Go.RowKit

theorem grown_setCell (u : World) (g j : Nat) (v : Value) : u.grownBy (u.setCell ⟨g, j, none⟩ v) (some g) :=
  ⟨rfl, rfl, rfl, by simp, fun k _ hne => by
    have : g ≠ k := fun e => hne (by rw [e])
    simp [World.setCell, Array.getElem?_modify, this]⟩
/-- Blocks of one's own, and beside them what grows. -/
structure CtI (w : World) (L : List (Nat × List (BitVec 8))) (v : Value) (l : List (BitVec 8)) (u : World) : Prop where
  M : Ms w L u
  O : u.ownsRow w.heap.size 5 1 v l.length (l.map b8)
  ne : ∀ p ∈ L, v.ownBlock ≠ some p.1
section
variable {w u u' : World} {L : List (Nat × List (BitVec 8))} {v v' : Value} {l : List (BitVec 8)}
theorem CtI.below (h : CtI w L v l u) (hb : Below u.heap.size u u') : CtI w L v l u' := ⟨h.M.below hb, own_below h.O hb, h.ne⟩
theorem CtI.add (h : CtI w L v l u) {g : Nat} {m : List (BitVec 8)} (hb : Below u.heap.size u u') (hg : u.heap.size ≤ g) (hA : Arr g (m.map b8) u') : CtI w ((g, m) :: L) v l u' :=
  ⟨h.M.add hb hg hA, own_below h.O hb, fun p hp => by
    rcases List.mem_cons.1 hp with rfl | hp
    · intro he
      have := (h.O.lt _ he).2
      have e : (g, m).1 = g := rfl
      omega
    · exact h.ne p hp⟩
theorem CtI.drop {p : Nat × List (BitVec 8)} (h : CtI w (p :: L) v l u) : CtI w L v l u := ⟨h.M.drop, h.O, fun q hq => h.ne q (List.mem_cons_of_mem _ hq)⟩
theorem CtI.set (h : CtI w L v l u) (i : Nat) {g : Nat} {m : List (BitVec 8)} (hi : L[i]? = some (g, m)) {j : Nat} (hj : j < m.length) (x : BitVec 8) : CtI w (L.set i (g, m.set j x)) v l (u.setCell ⟨g, j, none⟩ (b8 x)) := by
  have hne := h.ne _ (List.mem_of_getElem? hi)
  refine ⟨h.M.set i hi hj x, h.O.kept (grown_setCell u g j (b8 x)) (.inr hne), fun p hp => ?_⟩
  rcases List.mem_or_eq_of_mem_set hp with hp | rfl
  · exact h.ne p hp
  · exact hne
theorem CtI.grow (h : CtI w L v l u) {x : BitVec 8} (h3 : u'.ownsRow w.heap.size 5 1 v' (l.length + [x].length) ((l ++ [x]).map b8)) (hb : Below w.heap.size u u') (hst : Stand v u v' u') : CtI w L v' (l ++ [x]) u' :=
  ⟨⟨h.M.bl.trans hb, h.M.nd, fun p hp => ⟨(h.M.all p hp).1, (hst _ _ (h.M.all p hp).2 (h.ne p hp)).1⟩⟩, by rw [List.length_append]; exact h3, fun p hp => (hst _ _ (h.M.all p hp).2 (h.ne p hp)).2⟩
end
set_option maxRecDepth 20000 in
set_option maxHeartbeats 8000000 in
theorem rcounter_any (key first : List (BitVec 8)) (v : Value) (b : List (BitVec 8)) (w : World) (hK : key.length = 32) (hF : first.length = 16) (hv : Sl v b w) (hb : b.length ≤ 1000000) :
    Calls Try.prog 22 #[.agg (key.map b8).toArray, .agg (first.map b8).toArray, v] w fun e w' => ∃ v', e = .returned v' ∧ (Sl v' (ctr key first b) w' ∧ Below w.heap.size w w') := by
  have hM := Lib.hid (Ms.nil w)
  have HV := Lib.hid hv
  have hsl := sched_len hK
  obtain ⟨f, hf⟩ : ∃ f : Nat → BitVec 8, f = ctrV key first b := ⟨_, rfl⟩
  have EC : Hid (ctr key first b = tab b.length f) := Lib.hid (by rw [hf]; rfl)
  have EF : Hid (∀ k i, i < 16 → b.getD (16 * k + i) 0 ^^^ (hideB (sched key) (cnt first k)).getD i 0 = f (16 * k + i)) := Lib.hid fun k i hi => by
    rw [hf, ctrV, show (16 * k + i) / 16 = k by omega, show (16 * k + i) % 16 = i by omega]; rfl
  have HC := Lib.hid (cnt_len hF)
  have HTS : Hid (∀ k, tab (k + 1) f = tab k f ++ [f k]) := Lib.hid fun k => tab_succ k f
  have HTL : Hid (∀ k, (tab k f).length = k) := Lib.hid fun k => tab_len k f
  clear hf
  obtain ⟨ao, c, rfl, -, -⟩ := hv
  generalize hn : b.length = n at *
  have HN := Lib.hid hn; clear hn
  go_enter Try.func22, Try.ntmps22
  go_upto_region 0 with fail; refine wp_region_lit ?_
  refine wpList_val (run_box rfl rfl) rfl ?_; (try simp only [Act.put, List.setIfInBounds_toArray, List.set_cons_zero, List.set_cons_succ]); replace hM := Lib.hid (hM.out.new (key) 23); generalize w.alloc (.cells ((key).map b8).toArray 23) = a1 at *; generalize w.heap.size = g1 at *
  refine wpList_val (run_box rfl rfl) rfl ?_; (try simp only [Act.put, List.setIfInBounds_toArray, List.set_cons_zero, List.set_cons_succ]); replace hM := Lib.hid (hM.out.new (first) 24); generalize a1.alloc (.cells ((first).map b8).toArray 24) = a2 at *; generalize a1.heap.size = g2 at *
  refine wpList_val (run_asg (v := .slice none 0 0) rfl rfl) rfl ?_; (try simp only [Act.put, List.setIfInBounds_toArray, List.set_cons_zero, List.set_cons_succ])
  refine wpList_end ?_
  go_upto_region 1 with fail; refine wp_region_lit ?_
  refine wpList_callR (run_call0 enters_boxes rfl rfl) rfl (boxes_any _) (fun v1 a3 hR => ?_); (try simp only [Act.put, List.setIfInBounds_toArray, List.set_cons_zero, List.set_cons_succ])
  obtain ⟨gb, cb, rfl, hcb, hgb, AB⟩ := own_arr hR.O (by rw [bxL_len]; omega)
  replace hM := Lib.hid (hM.out.add hR.bl hgb AB)
  rw [bxL_len]
  rw [bxL_len] at hcb
  clear hR AB hgb
  obtain ⟨X, hX⟩ : ∃ X, X = bxL := ⟨_, rfl⟩
  have hxl : X.length = 256 := by rw [hX, bxL_len]
  rw [← hX] at hM
  have EX : Hid (X = bxL) := Lib.hid hX
  clear hX
  refine wpList_val (run_asg (v := .slice (some _) _ _) rfl rfl) rfl ?_; (try simp only [Act.put, List.setIfInBounds_toArray, List.set_cons_zero, List.set_cons_succ])
  refine wpList_end ?_
  go_upto_region 2 with fail; refine wp_region_lit ?_
  (repeat ((first | refine wpList_val (run_mv (v := b32 _) rfl rfl) rfl ?_ | refine wpList_val (run_mv (v := b64 _) rfl rfl) rfl ?_ | refine wpList_val (run_mv (v := b8 _) rfl rfl) rfl ?_ | refine wpList_val (run_mv (v := .int _ _) rfl rfl) rfl ?_ | refine wpList_val (run_mv (v := .bool _) rfl rfl) rfl ?_ | refine wpList_val (run_mv (v := .slice (some _) _ _) rfl rfl) rfl ?_ | refine wpList_val (run_mv (v := .slice _ _ _) rfl rfl) rfl ?_ | refine wpList_val (run_mv (v := .pointer (some _)) rfl rfl) rfl ?_ | refine wpList_val (run_mv (v := .agg _) rfl rfl) rfl ?_ | refine wpList_val (run_asg (v := b32 _) rfl rfl) rfl ?_ | refine wpList_val (run_asg (v := b64 _) rfl rfl) rfl ?_ | refine wpList_val (run_asg (v := b8 _) rfl rfl) rfl ?_ | refine wpList_val (run_asg (v := .int _ _) rfl rfl) rfl ?_ | refine wpList_val (run_asg (v := .bool _) rfl rfl) rfl ?_ | refine wpList_val (run_asg (v := .slice (some _) _ _) rfl rfl) rfl ?_ | refine wpList_val (run_asg (v := .slice _ _ _) rfl rfl) rfl ?_ | refine wpList_val (run_asg (v := .pointer (some _)) rfl rfl) rfl ?_ | refine wpList_val (run_asg (v := .agg _) rfl rfl) rfl ?_ | refine wpList_val (run_mv rfl rfl) rfl ?_ | refine wpList_val (run_asg rfl rfl) rfl ?_ | refine wpList_val (run_xor32 rfl rfl rfl) rfl ?_ | refine wpList_val (run_and32 rfl rfl rfl) rfl ?_ | refine wpList_val (run_or32 rfl rfl rfl) rfl ?_ | refine wpList_val (run_add32 rfl rfl rfl) rfl ?_ | refine wpList_val (run_not32 rfl rfl) rfl ?_ | refine wpList_val (run_xor64 rfl rfl rfl) rfl ?_ | refine wpList_val (run_and64 rfl rfl rfl) rfl ?_ | refine wpList_val (run_or64 rfl rfl rfl) rfl ?_ | refine wpList_val (run_add64 rfl rfl rfl) rfl ?_ | refine wpList_val (run_not64 rfl rfl) rfl ?_ | refine wpList_val (run_xor8 rfl rfl rfl) rfl ?_ | refine wpList_val (run_and8 rfl rfl rfl) rfl ?_ | refine wpList_val (run_or8 rfl rfl rfl) rfl ?_ | refine wpList_val (run_add8 rfl rfl rfl) rfl ?_ | refine wpList_val (run_not8 rfl rfl) rfl ?_ | refine wpList_val (run_cv64_32 rfl rfl) rfl ?_ | refine wpList_val (run_cv8_32 rfl rfl) rfl ?_ | refine wpList_val (run_cv8_64 rfl rfl) rfl ?_ | refine wpList_val (run_cv32_8 rfl rfl) rfl ?_ | refine wpList_val (run_cv64_8 rfl rfl) rfl ?_); (try simp only [Act.put, List.setIfInBounds_toArray, List.set_cons_zero, List.set_cons_succ])))
  refine wpList_val (run_ldM (vs := key.map b8) rfl Try.underlying23 rfl (sz szKey hK) rfl (hM.out.get (i := 2) rfl).range) rfl ?_; (try simp only [Act.put, List.setIfInBounds_toArray, List.set_cons_zero, List.set_cons_succ])
  have HSB : Hid (∀ V L, Ms w ((gb, X) :: L) V → Sl (.slice (some ⟨gb, 0, none⟩) 256 cb) bxL V) := Lib.hid fun V L h => by
    rw [← EX.out]
    have := Sl.arr (h.get (i := 0) rfl) (c := cb) (by omega)
    rw [hxl] at this
    exact this
  refine wpList_callR (run_call2 enters_expanded rfl rfl rfl rfl) rfl (expanded_any _ key _ (HSB.out _ _ hM.out) hK) (fun v2 a4 hR => ?_); (try simp only [Act.put, List.setIfInBounds_toArray, List.set_cons_zero, List.set_cons_succ])
  obtain ⟨gw, cw, rfl, hcw, hgw, AW⟩ := own_arr hR.O (by omega)
  replace hM := Lib.hid (hM.out.add hR.bl hgw AW)
  rw [hsl]
  rw [hsl] at hcw
  clear hR AW hgw
  generalize sched key = W at *
  have HSW : Hid (∀ V L, Ms w ((gw, W) :: L) V → Sl (.slice (some ⟨gw, 0, none⟩) 240 cw) W V) := Lib.hid fun V L h => by
    have := Sl.arr (h.get (i := 0) rfl) (c := cw) (by omega)
    rw [hsl] at this
    exact this
  refine wpList_val (run_asg (v := .slice (some _) _ _) rfl rfl) rfl ?_; (try simp only [Act.put, List.setIfInBounds_toArray, List.set_cons_zero, List.set_cons_succ])
  refine wpList_end ?_
  go_upto_region 3 with fail; refine wp_region_lit ?_
  refine wpList_val (run_asg (v := .slice none 0 0) rfl rfl) rfl ?_; (try simp only [Act.put, List.setIfInBounds_toArray, List.set_cons_zero, List.set_cons_succ])
  refine wpList_end ?_
  have hI : Hid (CtI w [(gw, W), (gb, X), (g2, cnt first 0), (g1, key)] (.slice none 0 0) (tab 0 f) a4) := Lib.hid ⟨hM.out, World.ownsRow_nil _ _ _ _, fun _ _ h => by cases h⟩
  clear hM
  go_wp2_with fail
  go_loopw [9, 10] (fun s9 s10 u => ∃ k : Nat, 16 * k ≤ n + 16 ∧ s10 = .int .i64 ((16 * k : Nat) : Int) ∧ CtI w [(gw, W), (gb, X), (g2, cnt first k), (g1, key)] s9 (tab (min (16 * k) n) f) u) (fun _ z _ => (n + 16 - intOf z).toNat)
  case atStart => exact ⟨0, by omega, rfl, by rw [show min (16 * 0) n = 0 by omega]; exact hI.out⟩
  case round =>
    obtain ⟨k, hk, rfl, hJ⟩ := hrel
    replace hI := Lib.hid hJ
    clear hJ
    go_upto_region 5 with fail; refine wp_region_lit ?_
    (repeat ((first | refine wpList_val (run_mv (v := b32 _) rfl rfl) rfl ?_ | refine wpList_val (run_mv (v := b64 _) rfl rfl) rfl ?_ | refine wpList_val (run_mv (v := b8 _) rfl rfl) rfl ?_ | refine wpList_val (run_mv (v := .int _ _) rfl rfl) rfl ?_ | refine wpList_val (run_mv (v := .bool _) rfl rfl) rfl ?_ | refine wpList_val (run_mv (v := .slice (some _) _ _) rfl rfl) rfl ?_ | refine wpList_val (run_mv (v := .slice _ _ _) rfl rfl) rfl ?_ | refine wpList_val (run_mv (v := .pointer (some _)) rfl rfl) rfl ?_ | refine wpList_val (run_mv (v := .agg _) rfl rfl) rfl ?_ | refine wpList_val (run_asg (v := b32 _) rfl rfl) rfl ?_ | refine wpList_val (run_asg (v := b64 _) rfl rfl) rfl ?_ | refine wpList_val (run_asg (v := b8 _) rfl rfl) rfl ?_ | refine wpList_val (run_asg (v := .int _ _) rfl rfl) rfl ?_ | refine wpList_val (run_asg (v := .bool _) rfl rfl) rfl ?_ | refine wpList_val (run_asg (v := .slice (some _) _ _) rfl rfl) rfl ?_ | refine wpList_val (run_asg (v := .slice _ _ _) rfl rfl) rfl ?_ | refine wpList_val (run_asg (v := .pointer (some _)) rfl rfl) rfl ?_ | refine wpList_val (run_asg (v := .agg _) rfl rfl) rfl ?_ | refine wpList_val (run_mv rfl rfl) rfl ?_ | refine wpList_val (run_asg rfl rfl) rfl ?_ | refine wpList_val (run_xor32 rfl rfl rfl) rfl ?_ | refine wpList_val (run_and32 rfl rfl rfl) rfl ?_ | refine wpList_val (run_or32 rfl rfl rfl) rfl ?_ | refine wpList_val (run_add32 rfl rfl rfl) rfl ?_ | refine wpList_val (run_not32 rfl rfl) rfl ?_ | refine wpList_val (run_xor64 rfl rfl rfl) rfl ?_ | refine wpList_val (run_and64 rfl rfl rfl) rfl ?_ | refine wpList_val (run_or64 rfl rfl rfl) rfl ?_ | refine wpList_val (run_add64 rfl rfl rfl) rfl ?_ | refine wpList_val (run_not64 rfl rfl) rfl ?_ | refine wpList_val (run_xor8 rfl rfl rfl) rfl ?_ | refine wpList_val (run_and8 rfl rfl rfl) rfl ?_ | refine wpList_val (run_or8 rfl rfl rfl) rfl ?_ | refine wpList_val (run_add8 rfl rfl rfl) rfl ?_ | refine wpList_val (run_not8 rfl rfl) rfl ?_ | refine wpList_val (run_cv64_32 rfl rfl) rfl ?_ | refine wpList_val (run_cv8_32 rfl rfl) rfl ?_ | refine wpList_val (run_cv8_64 rfl rfl) rfl ?_ | refine wpList_val (run_cv32_8 rfl rfl) rfl ?_ | refine wpList_val (run_cv64_8 rfl rfl) rfl ?_); (try simp only [Act.put, List.setIfInBounds_toArray, List.set_cons_zero, List.set_cons_succ])))
    refine wpList_val (run_len rfl Try.underlying25 rfl) rfl ?_; (try simp only [Act.put, List.setIfInBounds_toArray, List.set_cons_zero, List.set_cons_succ])
    by_cases hlt : n ≤ 16 * k
    · refine wpList_val (run_lssb (c := false) rfl rfl rfl (decide_eq_false (by omega))) rfl ?_; (try simp only [Act.put, List.setIfInBounds_toArray, List.set_cons_zero, List.set_cons_succ])
      refine wpList_end ?_
      rw [show min (16 * k) n = n by omega] at hI
      have hpl := HTL.out n
      generalize tab n f = r at *
      go_upto_region 17 with fail; refine wp_region_lit ?_
      refine wpList_val (run_mv (v := u9) rfl rfl) rfl ?_; (try simp only [Act.put, List.setIfInBounds_toArray, List.set_cons_zero, List.set_cons_succ])
      refine wpList_val (run_asg (v := u9) rfl rfl) rfl ?_; (try simp only [Act.put, List.setIfInBounds_toArray, List.set_cons_zero, List.set_cons_succ])
      refine wpList_end ?_
      go_wp2_with fail
      refine bodyPost_ret (results_tmp Try.results22 _ _ _) rfl ⟨_, rfl, ?_, hI.out.M.bl⟩
      rw [EC.out]
      exact Sl.own hI.out.O
    · refine wpList_val (run_lssb (c := true) rfl rfl rfl (decide_eq_true (by omega))) rfl ?_; (try simp only [Act.put, List.setIfInBounds_toArray, List.set_cons_zero, List.set_cons_succ])
      refine wpList_end ?_
      rw [show min (16 * k) n = 16 * k by omega] at hI
      have HFk := Lib.hid (EF.out k)
      generalize hkk : 16 * k = kk at *
      have hcl := HC.out k
      have HX : Hid (cnt first (k + 1) = nxt 16 (cnt first k)) := Lib.hid rfl
      obtain ⟨gc, fc, cc, e1, hrb⟩ := HV.out.rd (by rw [HN.out]; omega)
      injection e1 with e1 e2 e1'
      clear e2
      subst e1 e1'
      have HB : Hid (∀ V L, Ms w L V → ∀ i, i < n → V.cell? ⟨gc, fc + i, none⟩ = some (b8 (b.getD i 0))) := Lib.hid fun V _ hV i hi => hrb V hV.bl i (by rw [HN.out]; exact hi)
      clear hrb
      go_upto_region 7 with fail; refine wp_region_lit ?_
      (repeat ((first | refine wpList_val (run_mv (v := b32 _) rfl rfl) rfl ?_ | refine wpList_val (run_mv (v := b64 _) rfl rfl) rfl ?_ | refine wpList_val (run_mv (v := b8 _) rfl rfl) rfl ?_ | refine wpList_val (run_mv (v := .int _ _) rfl rfl) rfl ?_ | refine wpList_val (run_mv (v := .bool _) rfl rfl) rfl ?_ | refine wpList_val (run_mv (v := .slice (some _) _ _) rfl rfl) rfl ?_ | refine wpList_val (run_mv (v := .slice _ _ _) rfl rfl) rfl ?_ | refine wpList_val (run_mv (v := .pointer (some _)) rfl rfl) rfl ?_ | refine wpList_val (run_mv (v := .agg _) rfl rfl) rfl ?_ | refine wpList_val (run_asg (v := b32 _) rfl rfl) rfl ?_ | refine wpList_val (run_asg (v := b64 _) rfl rfl) rfl ?_ | refine wpList_val (run_asg (v := b8 _) rfl rfl) rfl ?_ | refine wpList_val (run_asg (v := .int _ _) rfl rfl) rfl ?_ | refine wpList_val (run_asg (v := .bool _) rfl rfl) rfl ?_ | refine wpList_val (run_asg (v := .slice (some _) _ _) rfl rfl) rfl ?_ | refine wpList_val (run_asg (v := .slice _ _ _) rfl rfl) rfl ?_ | refine wpList_val (run_asg (v := .pointer (some _)) rfl rfl) rfl ?_ | refine wpList_val (run_asg (v := .agg _) rfl rfl) rfl ?_ | refine wpList_val (run_mv rfl rfl) rfl ?_ | refine wpList_val (run_asg rfl rfl) rfl ?_ | refine wpList_val (run_xor32 rfl rfl rfl) rfl ?_ | refine wpList_val (run_and32 rfl rfl rfl) rfl ?_ | refine wpList_val (run_or32 rfl rfl rfl) rfl ?_ | refine wpList_val (run_add32 rfl rfl rfl) rfl ?_ | refine wpList_val (run_not32 rfl rfl) rfl ?_ | refine wpList_val (run_xor64 rfl rfl rfl) rfl ?_ | refine wpList_val (run_and64 rfl rfl rfl) rfl ?_ | refine wpList_val (run_or64 rfl rfl rfl) rfl ?_ | refine wpList_val (run_add64 rfl rfl rfl) rfl ?_ | refine wpList_val (run_not64 rfl rfl) rfl ?_ | refine wpList_val (run_xor8 rfl rfl rfl) rfl ?_ | refine wpList_val (run_and8 rfl rfl rfl) rfl ?_ | refine wpList_val (run_or8 rfl rfl rfl) rfl ?_ | refine wpList_val (run_add8 rfl rfl rfl) rfl ?_ | refine wpList_val (run_not8 rfl rfl) rfl ?_ | refine wpList_val (run_cv64_32 rfl rfl) rfl ?_ | refine wpList_val (run_cv8_32 rfl rfl) rfl ?_ | refine wpList_val (run_cv8_64 rfl rfl) rfl ?_ | refine wpList_val (run_cv32_8 rfl rfl) rfl ?_ | refine wpList_val (run_cv64_8 rfl rfl) rfl ?_); (try simp only [Act.put, List.setIfInBounds_toArray, List.set_cons_zero, List.set_cons_succ])))
      refine wpList_val (run_ldM (vs := (cnt first k).map b8) rfl Try.underlying24 rfl (sz sz16 hcl) rfl (hI.out.M.get (i := 2) rfl).range) rfl ?_; (try simp only [Act.put, List.setIfInBounds_toArray, List.set_cons_zero, List.set_cons_succ])
      refine wpList_callR (run_call1 enters_of' rfl rfl rfl) rfl (of_any (cnt first k) _ hcl) (fun v3 b1 hR => ?_); (try simp only [Act.put, List.setIfInBounds_toArray, List.set_cons_zero, List.set_cons_succ])
      replace hI := Lib.hid (hI.out.below hR.bl)
      have H3 := Lib.hid hR.sl
      clear hR
      refine wpList_callR (run_call3 enters_hidden rfl rfl rfl rfl rfl) rfl (hidden_any _ _ W v3 (cnt first k) _ (HSB.out _ _ hI.out.M.drop) (HSW.out _ _ hI.out.M) hsl H3.out hcl) (fun v4 b2 hR => ?_); (try simp only [Act.put, List.setIfInBounds_toArray, List.set_cons_zero, List.set_cons_succ])
      have hml : (hideB W (cnt first k)).length = 16 := hidI_len _ _ _
      obtain ⟨gm, cm, rfl, -, hgm, AM⟩ := own_arr hR.O (by omega)
      replace hI := Lib.hid (hI.out.add hR.bl hgm AM)
      rw [hml]
      clear hR AM hgm H3
      generalize hideB W (cnt first k) = m at *
      generalize hF0 : cnt first k = fk at *
      clear hF0
      refine wpList_val (run_asg (v := .slice (some _) _ _) rfl rfl) rfl ?_; (try simp only [Act.put, List.setIfInBounds_toArray, List.set_cons_zero, List.set_cons_succ])
      refine wpList_end ?_
      go_upto_region 8 with fail
      generalize hvv : u9 = vv at *
      clear hvv
      go_wp2_with fail
      go_loopw [9, 12] (fun s9 s12 u => ∃ i : Nat, i ≤ 16 ∧ kk + i ≤ n ∧ s12 = .int .i64 (i : Int) ∧ CtI w [(gm, m), (gw, W), (gb, X), (g2, fk), (g1, key)] s9 (tab (kk + i) f) u) (fun _ z _ => (16 - intOf z).toNat)
      case atStart => exact ⟨0, by omega, by omega, rfl, hI.out⟩
      case round =>
        obtain ⟨i, hi, hin, rfl, hJ⟩ := hrel
        replace hI := Lib.hid hJ
        clear hJ
        by_cases hgo : i < 16 ∧ kk + i < n
        · obtain ⟨hi16, hin2⟩ := hgo
          have hpl := HTL.out (kk + i)
          have ET := Lib.hid (HTS.out (kk + i))
          have EJ := Lib.hid (HFk.out i hi16)
          go_upto_region 9 with fail; refine wp_region_lit ?_
          (repeat ((first | refine wpList_val (run_mv (v := b32 _) rfl rfl) rfl ?_ | refine wpList_val (run_mv (v := b64 _) rfl rfl) rfl ?_ | refine wpList_val (run_mv (v := b8 _) rfl rfl) rfl ?_ | refine wpList_val (run_mv (v := .int _ _) rfl rfl) rfl ?_ | refine wpList_val (run_mv (v := .bool _) rfl rfl) rfl ?_ | refine wpList_val (run_mv (v := .slice (some _) _ _) rfl rfl) rfl ?_ | refine wpList_val (run_mv (v := .slice _ _ _) rfl rfl) rfl ?_ | refine wpList_val (run_mv (v := .pointer (some _)) rfl rfl) rfl ?_ | refine wpList_val (run_mv (v := .agg _) rfl rfl) rfl ?_ | refine wpList_val (run_asg (v := b32 _) rfl rfl) rfl ?_ | refine wpList_val (run_asg (v := b64 _) rfl rfl) rfl ?_ | refine wpList_val (run_asg (v := b8 _) rfl rfl) rfl ?_ | refine wpList_val (run_asg (v := .int _ _) rfl rfl) rfl ?_ | refine wpList_val (run_asg (v := .bool _) rfl rfl) rfl ?_ | refine wpList_val (run_asg (v := .slice (some _) _ _) rfl rfl) rfl ?_ | refine wpList_val (run_asg (v := .slice _ _ _) rfl rfl) rfl ?_ | refine wpList_val (run_asg (v := .pointer (some _)) rfl rfl) rfl ?_ | refine wpList_val (run_asg (v := .agg _) rfl rfl) rfl ?_ | refine wpList_val (run_mv rfl rfl) rfl ?_ | refine wpList_val (run_asg rfl rfl) rfl ?_ | refine wpList_val (run_xor32 rfl rfl rfl) rfl ?_ | refine wpList_val (run_and32 rfl rfl rfl) rfl ?_ | refine wpList_val (run_or32 rfl rfl rfl) rfl ?_ | refine wpList_val (run_add32 rfl rfl rfl) rfl ?_ | refine wpList_val (run_not32 rfl rfl) rfl ?_ | refine wpList_val (run_xor64 rfl rfl rfl) rfl ?_ | refine wpList_val (run_and64 rfl rfl rfl) rfl ?_ | refine wpList_val (run_or64 rfl rfl rfl) rfl ?_ | refine wpList_val (run_add64 rfl rfl rfl) rfl ?_ | refine wpList_val (run_not64 rfl rfl) rfl ?_ | refine wpList_val (run_xor8 rfl rfl rfl) rfl ?_ | refine wpList_val (run_and8 rfl rfl rfl) rfl ?_ | refine wpList_val (run_or8 rfl rfl rfl) rfl ?_ | refine wpList_val (run_add8 rfl rfl rfl) rfl ?_ | refine wpList_val (run_not8 rfl rfl) rfl ?_ | refine wpList_val (run_cv64_32 rfl rfl) rfl ?_ | refine wpList_val (run_cv8_32 rfl rfl) rfl ?_ | refine wpList_val (run_cv8_64 rfl rfl) rfl ?_ | refine wpList_val (run_cv32_8 rfl rfl) rfl ?_ | refine wpList_val (run_cv64_8 rfl rfl) rfl ?_); (try simp only [Act.put, List.setIfInBounds_toArray, List.set_cons_zero, List.set_cons_succ])))
          refine wpList_val (run_lssb (c := true) rfl rfl rfl (decide_eq_true (by omega))) rfl ?_; (try simp only [Act.put, List.setIfInBounds_toArray, List.set_cons_zero, List.set_cons_succ])
          refine wpList_val (run_mv (v := .bool true) rfl rfl) rfl ?_; (try simp only [Act.put, List.setIfInBounds_toArray, List.set_cons_zero, List.set_cons_succ])
          refine wpList_valG (run_mv (v := .int _ _) rfl rfl) rfl ?_; (try simp only [Act.put, List.setIfInBounds_toArray, List.set_cons_zero, List.set_cons_succ])
          refine wpList_valG (run_mv (v := .int _ _) rfl rfl) rfl ?_; (try simp only [Act.put, List.setIfInBounds_toArray, List.set_cons_zero, List.set_cons_succ])
          refine wpList_valG (run_addN rfl rfl rfl (by omega)) rfl ?_; (try simp only [Act.put, List.setIfInBounds_toArray, List.set_cons_zero, List.set_cons_succ])
          refine wpList_valG (run_mv (v := .slice (some _) _ _) rfl rfl) rfl ?_; (try simp only [Act.put, List.setIfInBounds_toArray, List.set_cons_zero, List.set_cons_succ])
          refine wpList_valG (run_len rfl Try.underlying25 rfl) rfl ?_; (try simp only [Act.put, List.setIfInBounds_toArray, List.set_cons_zero, List.set_cons_succ])
          refine wpList_valG (run_lssb (c := true) rfl rfl rfl (decide_eq_true (by omega))) rfl ?_; (try simp only [Act.put, List.setIfInBounds_toArray, List.set_cons_zero, List.set_cons_succ])
          refine wpList_val (run_pick (b := true) (v := .bool true) rfl rfl rfl) rfl ?_; (try simp only [Act.put, List.setIfInBounds_toArray, List.set_cons_zero, List.set_cons_succ])
          refine wpList_end ?_
          have C1 : Hid (∀ V, Below wr.heap.size wr V → V.cell? ⟨gc, fc + (kk + i), none⟩ = some (b8 (b.getD (kk + i) 0))) := Lib.hid fun V hV => HB.out V _ (hI.out.below hV).M _ hin2
          have C2 : Hid (∀ V, Below wr.heap.size wr V → V.cell? ⟨gm, 0 + i, none⟩ = some (b8 (m.getD i 0))) := Lib.hid fun V hV => by
            rw [Nat.zero_add]; exact ((hI.out.below hV).M.get (i := 0) rfl).get8 (by omega)
          generalize hT : tab (kk + i) f = T at *
          clear hT
          generalize f (kk + i) = x at *
          generalize hvv2 : u9 = vv2 at *
          clear hvv2
          go_upto_region 11 with fail
          refine wp_region_noPanic ?_; refine wp_region_late (S := Till 13 (fun V => Below wr.heap.size wr V)) (by kernel_rfl) (.inr (Below.refl _ _).drew) (fun _ => ?_); have hS : Below wr.heap.size wr wr.drew := (Below.refl _ _).drew
          generalize wr.drew = d1 at *
          refine wpAnyD_take 0 rfl rfl (by kernel_rfl) (by kernel_rfl) (by kernel_rfl) (by kernel_rfl) (by kernel_rfl) (fun _ _ _ h => h) rfl (fun V hV => run_mv (v := vv2) rfl rfl) hS ?_; (try simp only [Act.put, List.setIfInBounds_toArray, List.set_cons_zero, List.set_cons_succ])
          refine wpAnyD_take 1 rfl rfl (by kernel_rfl) (by kernel_rfl) (by kernel_rfl) (by kernel_rfl) (by kernel_rfl) (fun _ _ _ h => h) rfl (fun V hV => run_mv (v := .slice (some _) _ _) rfl rfl) hS ?_; (try simp only [Act.put, List.setIfInBounds_toArray, List.set_cons_zero, List.set_cons_succ])
          refine wpAnyD_take 2 rfl rfl (by kernel_rfl) (by kernel_rfl) (by kernel_rfl) (by kernel_rfl) (by kernel_rfl) (fun _ _ _ h => h) rfl (fun V hV => run_mv (v := .int _ _) rfl rfl) hS ?_; (try simp only [Act.put, List.setIfInBounds_toArray, List.set_cons_zero, List.set_cons_succ])
          refine wpAnyD_take 3 rfl rfl (by kernel_rfl) (by kernel_rfl) (by kernel_rfl) (by kernel_rfl) (by kernel_rfl) (fun _ _ _ h => h) rfl (fun V hV => run_mv (v := .int _ _) rfl rfl) hS ?_; (try simp only [Act.put, List.setIfInBounds_toArray, List.set_cons_zero, List.set_cons_succ])
          refine wpAnyD_take 4 rfl rfl (by kernel_rfl) (by kernel_rfl) (by kernel_rfl) (by kernel_rfl) (by kernel_rfl) (fun _ _ _ h => h) rfl (fun V hV => run_addN rfl rfl rfl (by omega)) hS ?_; (try simp only [Act.put, List.setIfInBounds_toArray, List.set_cons_zero, List.set_cons_succ])
          refine wpAnyD_take 5 rfl rfl (by kernel_rfl) (by kernel_rfl) (by kernel_rfl) (by kernel_rfl) (by kernel_rfl) (fun _ _ _ h => h) rfl (fun V hV => run_ixs rfl Try.underlying25 (by kernel_rfl) rfl rfl (by omega)) hS ?_; (try simp only [Act.put, List.setIfInBounds_toArray, List.set_cons_zero, List.set_cons_succ])
          refine wpAnyD_take 6 rfl rfl (by kernel_rfl) (by kernel_rfl) (by kernel_rfl) (by kernel_rfl) (by kernel_rfl) (fun _ _ _ h => h) rfl (fun V hV => run_ld8 rfl rfl (C1.out V hV)) hS ?_; (try simp only [Act.put, List.setIfInBounds_toArray, List.set_cons_zero, List.set_cons_succ])
          refine wpAnyD_take 7 rfl rfl (by kernel_rfl) (by kernel_rfl) (by kernel_rfl) (by kernel_rfl) (by kernel_rfl) (fun _ _ _ h => h) rfl (fun V hV => run_mv (v := .slice (some _) _ _) rfl rfl) hS ?_; (try simp only [Act.put, List.setIfInBounds_toArray, List.set_cons_zero, List.set_cons_succ])
          refine wpAnyD_take 8 rfl rfl (by kernel_rfl) (by kernel_rfl) (by kernel_rfl) (by kernel_rfl) (by kernel_rfl) (fun _ _ _ h => h) rfl (fun V hV => run_mv (v := .int _ _) rfl rfl) hS ?_; (try simp only [Act.put, List.setIfInBounds_toArray, List.set_cons_zero, List.set_cons_succ])
          refine wpAnyD_take 9 rfl rfl (by kernel_rfl) (by kernel_rfl) (by kernel_rfl) (by kernel_rfl) (by kernel_rfl) (fun _ _ _ h => h) rfl (fun V hV => run_ixs rfl Try.underlying25 (by kernel_rfl) rfl rfl (by omega)) hS ?_; (try simp only [Act.put, List.setIfInBounds_toArray, List.set_cons_zero, List.set_cons_succ])
          refine wpAnyD_take 10 rfl rfl (by kernel_rfl) (by kernel_rfl) (by kernel_rfl) (by kernel_rfl) (by kernel_rfl) (fun _ _ _ h => h) rfl (fun V hV => run_ld8 rfl rfl (C2.out V hV)) hS ?_; (try simp only [Act.put, List.setIfInBounds_toArray, List.set_cons_zero, List.set_cons_succ])
          refine wpAnyD_take 11 rfl rfl (by kernel_rfl) (by kernel_rfl) (by kernel_rfl) (by kernel_rfl) (by kernel_rfl) (fun _ _ _ h => h) rfl (fun V hV => run_xor8 rfl rfl rfl) hS ?_; (try simp only [Act.put, List.setIfInBounds_toArray, List.set_cons_zero, List.set_cons_succ])
          rw [EJ.out]
          refine wpAnyD_val 12 (by kernel_rfl) rfl rfl rfl (run_bsl (cells := #[b8 x]) (z := .int .u8 0) rfl Try.underlying25 (by kernel_rfl) (by omega) (by omega) (by kernel_rfl)) (.inr (hS.alloc hS.size _)) ?_; (try simp only [Act.put, List.setIfInBounds_toArray, List.set_cons_zero, List.set_cons_succ])
          replace hI := Lib.hid (hI.out.below hS)
          have hb2 : Below d1.heap.size d1 (d1.alloc (.cells #[b8 x] 5)) := (Below.refl _ _).alloc (Nat.le_refl _) _
          have A2 : Hid (Arr d1.heap.size ([x].map b8) (d1.alloc (.cells #[b8 x] 5))) := Lib.hid (Arr.new d1 _ _)
          replace hI := Lib.hid (hI.out.below hb2)
          clear hb2 hS C1 C2
          generalize d1.alloc (.cells #[b8 x] 5) = ua at *
          refine wpAnyD_appA (l := T) (m := [x]) 13 (by kernel_rfl) rfl rfl rfl rfl rfl rfl hI.out.O rfl A2.out.range (by show T.length + 1 ≤ _; omega) (Nat.lt_succ_self 0) hI.out.M.bl.size (fun v2' d2 h3 hb3 hst => ?_); (try simp only [Act.put, List.setIfInBounds_toArray, List.set_cons_zero, List.set_cons_succ])
          replace hI := Lib.hid (hI.out.grow h3 hb3 hst)
          rw [← ET.out] at hI
          clear h3 hb3 hst A2
          clear ua
          refine wpAnyD_val 14 (by kernel_rfl) rfl rfl rfl (run_asg (v := v2') rfl rfl) (.inl rfl) ?_; (try simp only [Act.put, List.setIfInBounds_toArray, List.set_cons_zero, List.set_cons_succ])
          refine wpAnyL_done (by kernel_rfl) ?_ _; refine NoPanic.normal ?_
          go_wp2_with fail
          go_roundw
          case rel => exact ⟨i + 1, by omega, by omega, by go_num, hI.out⟩
          case measure => simp [intOf]; omega
        · have hE : Hid (CtI w [(gw, W), (gb, X), (g2, fk), (g1, key)] u9 (tab (kk + i) f) wr) := Lib.hid hI.out.drop
          clear hI
          generalize hvv2 : u9 = vv2 at *
          clear hvv2
          generalize hpp : kk + i = p' at *
          have hp' : p' = min (16 * (k + 1)) n := by omega
          generalize hT : tab p' f = T at *
          rw [hp'] at hT
          have ET := Lib.hid hT; clear hT
          have hnl : (nxt 16 fk).length = 16 := by rw [nxt_len, hcl]
          obtain ⟨r, hr⟩ : ∃ r, r = nxt 16 fk := ⟨_, rfl⟩
          have EN : Hid (nxt 16 fk = r) := Lib.hid hr.symm
          rw [← hr] at hnl HX
          clear hr
          go_upto_region 9 with fail; refine wp_region_lit ?_
          (repeat ((first | refine wpList_val (run_mv (v := b32 _) rfl rfl) rfl ?_ | refine wpList_val (run_mv (v := b64 _) rfl rfl) rfl ?_ | refine wpList_val (run_mv (v := b8 _) rfl rfl) rfl ?_ | refine wpList_val (run_mv (v := .int _ _) rfl rfl) rfl ?_ | refine wpList_val (run_mv (v := .bool _) rfl rfl) rfl ?_ | refine wpList_val (run_mv (v := .slice (some _) _ _) rfl rfl) rfl ?_ | refine wpList_val (run_mv (v := .slice _ _ _) rfl rfl) rfl ?_ | refine wpList_val (run_mv (v := .pointer (some _)) rfl rfl) rfl ?_ | refine wpList_val (run_mv (v := .agg _) rfl rfl) rfl ?_ | refine wpList_val (run_asg (v := b32 _) rfl rfl) rfl ?_ | refine wpList_val (run_asg (v := b64 _) rfl rfl) rfl ?_ | refine wpList_val (run_asg (v := b8 _) rfl rfl) rfl ?_ | refine wpList_val (run_asg (v := .int _ _) rfl rfl) rfl ?_ | refine wpList_val (run_asg (v := .bool _) rfl rfl) rfl ?_ | refine wpList_val (run_asg (v := .slice (some _) _ _) rfl rfl) rfl ?_ | refine wpList_val (run_asg (v := .slice _ _ _) rfl rfl) rfl ?_ | refine wpList_val (run_asg (v := .pointer (some _)) rfl rfl) rfl ?_ | refine wpList_val (run_asg (v := .agg _) rfl rfl) rfl ?_ | refine wpList_val (run_mv rfl rfl) rfl ?_ | refine wpList_val (run_asg rfl rfl) rfl ?_ | refine wpList_val (run_xor32 rfl rfl rfl) rfl ?_ | refine wpList_val (run_and32 rfl rfl rfl) rfl ?_ | refine wpList_val (run_or32 rfl rfl rfl) rfl ?_ | refine wpList_val (run_add32 rfl rfl rfl) rfl ?_ | refine wpList_val (run_not32 rfl rfl) rfl ?_ | refine wpList_val (run_xor64 rfl rfl rfl) rfl ?_ | refine wpList_val (run_and64 rfl rfl rfl) rfl ?_ | refine wpList_val (run_or64 rfl rfl rfl) rfl ?_ | refine wpList_val (run_add64 rfl rfl rfl) rfl ?_ | refine wpList_val (run_not64 rfl rfl) rfl ?_ | refine wpList_val (run_xor8 rfl rfl rfl) rfl ?_ | refine wpList_val (run_and8 rfl rfl rfl) rfl ?_ | refine wpList_val (run_or8 rfl rfl rfl) rfl ?_ | refine wpList_val (run_add8 rfl rfl rfl) rfl ?_ | refine wpList_val (run_not8 rfl rfl) rfl ?_ | refine wpList_val (run_cv64_32 rfl rfl) rfl ?_ | refine wpList_val (run_cv8_32 rfl rfl) rfl ?_ | refine wpList_val (run_cv8_64 rfl rfl) rfl ?_ | refine wpList_val (run_cv32_8 rfl rfl) rfl ?_ | refine wpList_val (run_cv64_8 rfl rfl) rfl ?_); (try simp only [Act.put, List.setIfInBounds_toArray, List.set_cons_zero, List.set_cons_succ])))
          by_cases hi16 : i < 16
          · refine wpList_val (run_lssb (c := true) rfl rfl rfl (decide_eq_true (by omega))) rfl ?_; (try simp only [Act.put, List.setIfInBounds_toArray, List.set_cons_zero, List.set_cons_succ])
            refine wpList_val (run_mv (v := .bool true) rfl rfl) rfl ?_; (try simp only [Act.put, List.setIfInBounds_toArray, List.set_cons_zero, List.set_cons_succ])
            refine wpList_valG (run_mv (v := .int _ _) rfl rfl) rfl ?_; (try simp only [Act.put, List.setIfInBounds_toArray, List.set_cons_zero, List.set_cons_succ])
            refine wpList_valG (run_mv (v := .int _ _) rfl rfl) rfl ?_; (try simp only [Act.put, List.setIfInBounds_toArray, List.set_cons_zero, List.set_cons_succ])
            refine wpList_valG (run_addN rfl rfl rfl (by omega)) rfl ?_; (try simp only [Act.put, List.setIfInBounds_toArray, List.set_cons_zero, List.set_cons_succ])
            refine wpList_valG (run_mv (v := .slice (some _) _ _) rfl rfl) rfl ?_; (try simp only [Act.put, List.setIfInBounds_toArray, List.set_cons_zero, List.set_cons_succ])
            refine wpList_valG (run_len rfl Try.underlying25 rfl) rfl ?_; (try simp only [Act.put, List.setIfInBounds_toArray, List.set_cons_zero, List.set_cons_succ])
            refine wpList_valG (run_lssb (c := false) rfl rfl rfl (decide_eq_false (by omega))) rfl ?_; (try simp only [Act.put, List.setIfInBounds_toArray, List.set_cons_zero, List.set_cons_succ])
            refine wpList_val (run_pick (b := true) (v := .bool false) rfl rfl rfl) rfl ?_; (try simp only [Act.put, List.setIfInBounds_toArray, List.set_cons_zero, List.set_cons_succ])
            refine wpList_end ?_
            go_upto_region 12 with fail
            go_wp2_with fail; go_loopw [13] (fun z u => ∃ (j : Nat) (q : List (BitVec 8)), j ≤ 16 ∧ z = .int .i64 ((j : Int) - 1) ∧ q.length = 16 ∧ nxt j q = r ∧ CtI w [(gw, W), (gb, X), (g2, q), (g1, key)] vv2 T u) (fun z _ => (intOf z + 1).toNat); (case atStart => exact ⟨16, fk, by omega, rfl, hcl, EN.out, hE.out⟩); (case round => (obtain ⟨j, q, hj, rfl, hq, he, hJ⟩ := hrel; replace hE := Lib.hid hJ; have HE := Lib.hid he; clear hJ he; by_cases h0 : j = 0; (focus (subst h0; have hk2 : ¬ ((0 : Int) ≤ ((0 : Nat) : Int) - 1) := (by omega); obtain rfl : q = r := HE.out; rw [← HX.out] at hE; rw [← ET.out] at hE; go_wp2_with fail; go_roundw; (case rel => exact ⟨k + 1, by omega, by (congr 1; omega), hE.out⟩); (case measure => (simp [intOf]; try omega)))); (obtain ⟨j, rfl⟩ : ∃ t, j = t + 1 := ⟨j - 1, by omega⟩; have e1 : (((j + 1 : Nat) : Int) - 1) = (j : Int) := (by omega); rw [e1]; have hk2 : (0 : Int) ≤ (j : Int) := (by omega); rw [nxt] at HE; go_upto_region 15 with fail; refine wp_region_lit ?_; (repeat ((first | refine wpList_val (run_mv (v := b32 _) rfl rfl) rfl ?_ | refine wpList_val (run_mv (v := b64 _) rfl rfl) rfl ?_ | refine wpList_val (run_mv (v := b8 _) rfl rfl) rfl ?_ | refine wpList_val (run_mv (v := .int _ _) rfl rfl) rfl ?_ | refine wpList_val (run_mv (v := .bool _) rfl rfl) rfl ?_ | refine wpList_val (run_mv (v := .slice (some _) _ _) rfl rfl) rfl ?_ | refine wpList_val (run_mv (v := .slice _ _ _) rfl rfl) rfl ?_ | refine wpList_val (run_mv (v := .pointer (some _)) rfl rfl) rfl ?_ | refine wpList_val (run_mv (v := .agg _) rfl rfl) rfl ?_ | refine wpList_val (run_asg (v := b32 _) rfl rfl) rfl ?_ | refine wpList_val (run_asg (v := b64 _) rfl rfl) rfl ?_ | refine wpList_val (run_asg (v := b8 _) rfl rfl) rfl ?_ | refine wpList_val (run_asg (v := .int _ _) rfl rfl) rfl ?_ | refine wpList_val (run_asg (v := .bool _) rfl rfl) rfl ?_ | refine wpList_val (run_asg (v := .slice (some _) _ _) rfl rfl) rfl ?_ | refine wpList_val (run_asg (v := .slice _ _ _) rfl rfl) rfl ?_ | refine wpList_val (run_asg (v := .pointer (some _)) rfl rfl) rfl ?_ | refine wpList_val (run_asg (v := .agg _) rfl rfl) rfl ?_ | refine wpList_val (run_mv rfl rfl) rfl ?_ | refine wpList_val (run_asg rfl rfl) rfl ?_ | refine wpList_val (run_xor32 rfl rfl rfl) rfl ?_ | refine wpList_val (run_and32 rfl rfl rfl) rfl ?_ | refine wpList_val (run_or32 rfl rfl rfl) rfl ?_ | refine wpList_val (run_add32 rfl rfl rfl) rfl ?_ | refine wpList_val (run_not32 rfl rfl) rfl ?_ | refine wpList_val (run_xor64 rfl rfl rfl) rfl ?_ | refine wpList_val (run_and64 rfl rfl rfl) rfl ?_ | refine wpList_val (run_or64 rfl rfl rfl) rfl ?_ | refine wpList_val (run_add64 rfl rfl rfl) rfl ?_ | refine wpList_val (run_not64 rfl rfl) rfl ?_ | refine wpList_val (run_xor8 rfl rfl rfl) rfl ?_ | refine wpList_val (run_and8 rfl rfl rfl) rfl ?_ | refine wpList_val (run_or8 rfl rfl rfl) rfl ?_ | refine wpList_val (run_add8 rfl rfl rfl) rfl ?_ | refine wpList_val (run_not8 rfl rfl) rfl ?_ | refine wpList_val (run_cv64_32 rfl rfl) rfl ?_ | refine wpList_val (run_cv8_32 rfl rfl) rfl ?_ | refine wpList_val (run_cv8_64 rfl rfl) rfl ?_ | refine wpList_val (run_cv32_8 rfl rfl) rfl ?_ | refine wpList_val (run_cv64_8 rfl rfl) rfl ?_); (try simp only [Act.put, List.setIfInBounds_toArray, List.set_cons_zero, List.set_cons_succ]))); refine wpList_val (run_ix0 rfl Try.underlying24 (by kernel_rfl) rfl rfl (by omega)) rfl ?_; (try simp only [Act.put, List.setIfInBounds_toArray, List.set_cons_zero, List.set_cons_succ]); refine wpList_val (run_ld8 rfl rfl ((hE.out.M.get (i := 2) rfl).get8 (by omega))) rfl ?_; (try simp only [Act.put, List.setIfInBounds_toArray, List.set_cons_zero, List.set_cons_succ]); refine wpList_val (run_add8 (b := 1) rfl rfl rfl) rfl ?_; (try simp only [Act.put, List.setIfInBounds_toArray, List.set_cons_zero, List.set_cons_succ]); refine wpList_val (run_ix0 rfl Try.underlying24 (by kernel_rfl) rfl rfl (by omega)) rfl ?_; (try simp only [Act.put, List.setIfInBounds_toArray, List.set_cons_zero, List.set_cons_succ]); refine wpList_skip (run_st8 rfl rfl rfl ((hE.out.M.get (i := 2) rfl).get8 (by omega)) ((hE.out.M.get (i := 2) rfl).f _)) rfl rfl ?_; refine wpList_end ?_; generalize q.getD j 0 + 1 = x at *; replace hE : Hid (CtI w [(gw, W), (gb, X), (g2, q.set j x), (g1, key)] vv2 T (wr.setCell ⟨g2, j, none⟩ (b8 x))) := Lib.hid (hE.out.set 2 rfl (by omega) x); have hx : (q.set j x).getD j 0 = x := (by rw [getD_setB _ _ _ _ (by omega), if_pos rfl]); replace hq : (q.set j x).length = 16 := (by rw [List.length_set, hq]); generalize q.set j x = q' at *; generalize wr.setCell ⟨g2, j, none⟩ (b8 x) = d5 at *; go_upto_region 16 with fail; refine wp_region_lit ?_; (repeat ((first | refine wpList_val (run_mv (v := b32 _) rfl rfl) rfl ?_ | refine wpList_val (run_mv (v := b64 _) rfl rfl) rfl ?_ | refine wpList_val (run_mv (v := b8 _) rfl rfl) rfl ?_ | refine wpList_val (run_mv (v := .int _ _) rfl rfl) rfl ?_ | refine wpList_val (run_mv (v := .bool _) rfl rfl) rfl ?_ | refine wpList_val (run_mv (v := .slice (some _) _ _) rfl rfl) rfl ?_ | refine wpList_val (run_mv (v := .slice _ _ _) rfl rfl) rfl ?_ | refine wpList_val (run_mv (v := .pointer (some _)) rfl rfl) rfl ?_ | refine wpList_val (run_mv (v := .agg _) rfl rfl) rfl ?_ | refine wpList_val (run_asg (v := b32 _) rfl rfl) rfl ?_ | refine wpList_val (run_asg (v := b64 _) rfl rfl) rfl ?_ | refine wpList_val (run_asg (v := b8 _) rfl rfl) rfl ?_ | refine wpList_val (run_asg (v := .int _ _) rfl rfl) rfl ?_ | refine wpList_val (run_asg (v := .bool _) rfl rfl) rfl ?_ | refine wpList_val (run_asg (v := .slice (some _) _ _) rfl rfl) rfl ?_ | refine wpList_val (run_asg (v := .slice _ _ _) rfl rfl) rfl ?_ | refine wpList_val (run_asg (v := .pointer (some _)) rfl rfl) rfl ?_ | refine wpList_val (run_asg (v := .agg _) rfl rfl) rfl ?_ | refine wpList_val (run_mv rfl rfl) rfl ?_ | refine wpList_val (run_asg rfl rfl) rfl ?_ | refine wpList_val (run_xor32 rfl rfl rfl) rfl ?_ | refine wpList_val (run_and32 rfl rfl rfl) rfl ?_ | refine wpList_val (run_or32 rfl rfl rfl) rfl ?_ | refine wpList_val (run_add32 rfl rfl rfl) rfl ?_ | refine wpList_val (run_not32 rfl rfl) rfl ?_ | refine wpList_val (run_xor64 rfl rfl rfl) rfl ?_ | refine wpList_val (run_and64 rfl rfl rfl) rfl ?_ | refine wpList_val (run_or64 rfl rfl rfl) rfl ?_ | refine wpList_val (run_add64 rfl rfl rfl) rfl ?_ | refine wpList_val (run_not64 rfl rfl) rfl ?_ | refine wpList_val (run_xor8 rfl rfl rfl) rfl ?_ | refine wpList_val (run_and8 rfl rfl rfl) rfl ?_ | refine wpList_val (run_or8 rfl rfl rfl) rfl ?_ | refine wpList_val (run_add8 rfl rfl rfl) rfl ?_ | refine wpList_val (run_not8 rfl rfl) rfl ?_ | refine wpList_val (run_cv64_32 rfl rfl) rfl ?_ | refine wpList_val (run_cv8_32 rfl rfl) rfl ?_ | refine wpList_val (run_cv8_64 rfl rfl) rfl ?_ | refine wpList_val (run_cv32_8 rfl rfl) rfl ?_ | refine wpList_val (run_cv64_8 rfl rfl) rfl ?_); (try simp only [Act.put, List.setIfInBounds_toArray, List.set_cons_zero, List.set_cons_succ]))); refine wpList_val (run_ix0 rfl Try.underlying24 (by kernel_rfl) rfl rfl (by omega)) rfl ?_; (try simp only [Act.put, List.setIfInBounds_toArray, List.set_cons_zero, List.set_cons_succ]); refine wpList_val (run_ld8 rfl rfl ((hE.out.M.get (i := 2) rfl).get8 (by omega))) rfl ?_; (try simp only [Act.put, List.setIfInBounds_toArray, List.set_cons_zero, List.set_cons_succ]); rw [hx]; by_cases hz : x ≠ 0; (focus (rw [if_pos hz] at HE; refine wpList_val (run_neq8 (b := 0) (c := true) rfl rfl rfl (decide_eq_true hz)) rfl ?_; (try simp only [Act.put, List.setIfInBounds_toArray, List.set_cons_zero, List.set_cons_succ]); refine wpList_end ?_; obtain rfl : q' = r := HE.out; rw [← HX.out] at hE; rw [← ET.out] at hE; go_wp2_with fail; go_roundw; (case rel => exact ⟨k + 1, by omega, by (congr 1; omega), hE.out⟩); (case measure => (simp [intOf]; try omega)))); (rw [if_neg hz] at HE; refine wpList_val (run_neq8 (b := 0) (c := false) rfl rfl rfl (decide_eq_false hz)) rfl ?_; (try simp only [Act.put, List.setIfInBounds_toArray, List.set_cons_zero, List.set_cons_succ]); refine wpList_end ?_; clear hx hz; go_wp2_with fail; go_roundw; (case rel => exact ⟨j, q', by omega, by go_num, hq, HE.out, hE.out⟩); (case measure => (simp [intOf]; try omega))))))
          · refine wpList_val (run_lssb (c := false) rfl rfl rfl (decide_eq_false (by omega))) rfl ?_; (try simp only [Act.put, List.setIfInBounds_toArray, List.set_cons_zero, List.set_cons_succ])
            refine wpList_val (run_mv (v := .bool false) rfl rfl) rfl ?_; (try simp only [Act.put, List.setIfInBounds_toArray, List.set_cons_zero, List.set_cons_succ])
            refine wpList_pass rfl ?_; (try simp only [Act.put, List.setIfInBounds_toArray, List.set_cons_zero, List.set_cons_succ])
            refine wpList_pass rfl ?_; (try simp only [Act.put, List.setIfInBounds_toArray, List.set_cons_zero, List.set_cons_succ])
            refine wpList_pass rfl ?_; (try simp only [Act.put, List.setIfInBounds_toArray, List.set_cons_zero, List.set_cons_succ])
            refine wpList_pass rfl ?_; (try simp only [Act.put, List.setIfInBounds_toArray, List.set_cons_zero, List.set_cons_succ])
            refine wpList_pass rfl ?_; (try simp only [Act.put, List.setIfInBounds_toArray, List.set_cons_zero, List.set_cons_succ])
            refine wpList_pass rfl ?_; (try simp only [Act.put, List.setIfInBounds_toArray, List.set_cons_zero, List.set_cons_succ])
            refine wpList_val (run_pick (b := false) (v := .bool false) rfl rfl rfl) rfl ?_; (try simp only [Act.put, List.setIfInBounds_toArray, List.set_cons_zero, List.set_cons_succ])
            refine wpList_end ?_
            go_upto_region 12 with fail
            go_wp2_with fail; go_loopw [13] (fun z u => ∃ (j : Nat) (q : List (BitVec 8)), j ≤ 16 ∧ z = .int .i64 ((j : Int) - 1) ∧ q.length = 16 ∧ nxt j q = r ∧ CtI w [(gw, W), (gb, X), (g2, q), (g1, key)] vv2 T u) (fun z _ => (intOf z + 1).toNat); (case atStart => exact ⟨16, fk, by omega, rfl, hcl, EN.out, hE.out⟩); (case round => (obtain ⟨j, q, hj, rfl, hq, he, hJ⟩ := hrel; replace hE := Lib.hid hJ; have HE := Lib.hid he; clear hJ he; by_cases h0 : j = 0; (focus (subst h0; have hk2 : ¬ ((0 : Int) ≤ ((0 : Nat) : Int) - 1) := (by omega); obtain rfl : q = r := HE.out; rw [← HX.out] at hE; rw [← ET.out] at hE; go_wp2_with fail; go_roundw; (case rel => exact ⟨k + 1, by omega, by (congr 1; omega), hE.out⟩); (case measure => (simp [intOf]; try omega)))); (obtain ⟨j, rfl⟩ : ∃ t, j = t + 1 := ⟨j - 1, by omega⟩; have e1 : (((j + 1 : Nat) : Int) - 1) = (j : Int) := (by omega); rw [e1]; have hk2 : (0 : Int) ≤ (j : Int) := (by omega); rw [nxt] at HE; go_upto_region 15 with fail; refine wp_region_lit ?_; (repeat ((first | refine wpList_val (run_mv (v := b32 _) rfl rfl) rfl ?_ | refine wpList_val (run_mv (v := b64 _) rfl rfl) rfl ?_ | refine wpList_val (run_mv (v := b8 _) rfl rfl) rfl ?_ | refine wpList_val (run_mv (v := .int _ _) rfl rfl) rfl ?_ | refine wpList_val (run_mv (v := .bool _) rfl rfl) rfl ?_ | refine wpList_val (run_mv (v := .slice (some _) _ _) rfl rfl) rfl ?_ | refine wpList_val (run_mv (v := .slice _ _ _) rfl rfl) rfl ?_ | refine wpList_val (run_mv (v := .pointer (some _)) rfl rfl) rfl ?_ | refine wpList_val (run_mv (v := .agg _) rfl rfl) rfl ?_ | refine wpList_val (run_asg (v := b32 _) rfl rfl) rfl ?_ | refine wpList_val (run_asg (v := b64 _) rfl rfl) rfl ?_ | refine wpList_val (run_asg (v := b8 _) rfl rfl) rfl ?_ | refine wpList_val (run_asg (v := .int _ _) rfl rfl) rfl ?_ | refine wpList_val (run_asg (v := .bool _) rfl rfl) rfl ?_ | refine wpList_val (run_asg (v := .slice (some _) _ _) rfl rfl) rfl ?_ | refine wpList_val (run_asg (v := .slice _ _ _) rfl rfl) rfl ?_ | refine wpList_val (run_asg (v := .pointer (some _)) rfl rfl) rfl ?_ | refine wpList_val (run_asg (v := .agg _) rfl rfl) rfl ?_ | refine wpList_val (run_mv rfl rfl) rfl ?_ | refine wpList_val (run_asg rfl rfl) rfl ?_ | refine wpList_val (run_xor32 rfl rfl rfl) rfl ?_ | refine wpList_val (run_and32 rfl rfl rfl) rfl ?_ | refine wpList_val (run_or32 rfl rfl rfl) rfl ?_ | refine wpList_val (run_add32 rfl rfl rfl) rfl ?_ | refine wpList_val (run_not32 rfl rfl) rfl ?_ | refine wpList_val (run_xor64 rfl rfl rfl) rfl ?_ | refine wpList_val (run_and64 rfl rfl rfl) rfl ?_ | refine wpList_val (run_or64 rfl rfl rfl) rfl ?_ | refine wpList_val (run_add64 rfl rfl rfl) rfl ?_ | refine wpList_val (run_not64 rfl rfl) rfl ?_ | refine wpList_val (run_xor8 rfl rfl rfl) rfl ?_ | refine wpList_val (run_and8 rfl rfl rfl) rfl ?_ | refine wpList_val (run_or8 rfl rfl rfl) rfl ?_ | refine wpList_val (run_add8 rfl rfl rfl) rfl ?_ | refine wpList_val (run_not8 rfl rfl) rfl ?_ | refine wpList_val (run_cv64_32 rfl rfl) rfl ?_ | refine wpList_val (run_cv8_32 rfl rfl) rfl ?_ | refine wpList_val (run_cv8_64 rfl rfl) rfl ?_ | refine wpList_val (run_cv32_8 rfl rfl) rfl ?_ | refine wpList_val (run_cv64_8 rfl rfl) rfl ?_); (try simp only [Act.put, List.setIfInBounds_toArray, List.set_cons_zero, List.set_cons_succ]))); refine wpList_val (run_ix0 rfl Try.underlying24 (by kernel_rfl) rfl rfl (by omega)) rfl ?_; (try simp only [Act.put, List.setIfInBounds_toArray, List.set_cons_zero, List.set_cons_succ]); refine wpList_val (run_ld8 rfl rfl ((hE.out.M.get (i := 2) rfl).get8 (by omega))) rfl ?_; (try simp only [Act.put, List.setIfInBounds_toArray, List.set_cons_zero, List.set_cons_succ]); refine wpList_val (run_add8 (b := 1) rfl rfl rfl) rfl ?_; (try simp only [Act.put, List.setIfInBounds_toArray, List.set_cons_zero, List.set_cons_succ]); refine wpList_val (run_ix0 rfl Try.underlying24 (by kernel_rfl) rfl rfl (by omega)) rfl ?_; (try simp only [Act.put, List.setIfInBounds_toArray, List.set_cons_zero, List.set_cons_succ]); refine wpList_skip (run_st8 rfl rfl rfl ((hE.out.M.get (i := 2) rfl).get8 (by omega)) ((hE.out.M.get (i := 2) rfl).f _)) rfl rfl ?_; refine wpList_end ?_; generalize q.getD j 0 + 1 = x at *; replace hE : Hid (CtI w [(gw, W), (gb, X), (g2, q.set j x), (g1, key)] vv2 T (wr.setCell ⟨g2, j, none⟩ (b8 x))) := Lib.hid (hE.out.set 2 rfl (by omega) x); have hx : (q.set j x).getD j 0 = x := (by rw [getD_setB _ _ _ _ (by omega), if_pos rfl]); replace hq : (q.set j x).length = 16 := (by rw [List.length_set, hq]); generalize q.set j x = q' at *; generalize wr.setCell ⟨g2, j, none⟩ (b8 x) = d5 at *; go_upto_region 16 with fail; refine wp_region_lit ?_; (repeat ((first | refine wpList_val (run_mv (v := b32 _) rfl rfl) rfl ?_ | refine wpList_val (run_mv (v := b64 _) rfl rfl) rfl ?_ | refine wpList_val (run_mv (v := b8 _) rfl rfl) rfl ?_ | refine wpList_val (run_mv (v := .int _ _) rfl rfl) rfl ?_ | refine wpList_val (run_mv (v := .bool _) rfl rfl) rfl ?_ | refine wpList_val (run_mv (v := .slice (some _) _ _) rfl rfl) rfl ?_ | refine wpList_val (run_mv (v := .slice _ _ _) rfl rfl) rfl ?_ | refine wpList_val (run_mv (v := .pointer (some _)) rfl rfl) rfl ?_ | refine wpList_val (run_mv (v := .agg _) rfl rfl) rfl ?_ | refine wpList_val (run_asg (v := b32 _) rfl rfl) rfl ?_ | refine wpList_val (run_asg (v := b64 _) rfl rfl) rfl ?_ | refine wpList_val (run_asg (v := b8 _) rfl rfl) rfl ?_ | refine wpList_val (run_asg (v := .int _ _) rfl rfl) rfl ?_ | refine wpList_val (run_asg (v := .bool _) rfl rfl) rfl ?_ | refine wpList_val (run_asg (v := .slice (some _) _ _) rfl rfl) rfl ?_ | refine wpList_val (run_asg (v := .slice _ _ _) rfl rfl) rfl ?_ | refine wpList_val (run_asg (v := .pointer (some _)) rfl rfl) rfl ?_ | refine wpList_val (run_asg (v := .agg _) rfl rfl) rfl ?_ | refine wpList_val (run_mv rfl rfl) rfl ?_ | refine wpList_val (run_asg rfl rfl) rfl ?_ | refine wpList_val (run_xor32 rfl rfl rfl) rfl ?_ | refine wpList_val (run_and32 rfl rfl rfl) rfl ?_ | refine wpList_val (run_or32 rfl rfl rfl) rfl ?_ | refine wpList_val (run_add32 rfl rfl rfl) rfl ?_ | refine wpList_val (run_not32 rfl rfl) rfl ?_ | refine wpList_val (run_xor64 rfl rfl rfl) rfl ?_ | refine wpList_val (run_and64 rfl rfl rfl) rfl ?_ | refine wpList_val (run_or64 rfl rfl rfl) rfl ?_ | refine wpList_val (run_add64 rfl rfl rfl) rfl ?_ | refine wpList_val (run_not64 rfl rfl) rfl ?_ | refine wpList_val (run_xor8 rfl rfl rfl) rfl ?_ | refine wpList_val (run_and8 rfl rfl rfl) rfl ?_ | refine wpList_val (run_or8 rfl rfl rfl) rfl ?_ | refine wpList_val (run_add8 rfl rfl rfl) rfl ?_ | refine wpList_val (run_not8 rfl rfl) rfl ?_ | refine wpList_val (run_cv64_32 rfl rfl) rfl ?_ | refine wpList_val (run_cv8_32 rfl rfl) rfl ?_ | refine wpList_val (run_cv8_64 rfl rfl) rfl ?_ | refine wpList_val (run_cv32_8 rfl rfl) rfl ?_ | refine wpList_val (run_cv64_8 rfl rfl) rfl ?_); (try simp only [Act.put, List.setIfInBounds_toArray, List.set_cons_zero, List.set_cons_succ]))); refine wpList_val (run_ix0 rfl Try.underlying24 (by kernel_rfl) rfl rfl (by omega)) rfl ?_; (try simp only [Act.put, List.setIfInBounds_toArray, List.set_cons_zero, List.set_cons_succ]); refine wpList_val (run_ld8 rfl rfl ((hE.out.M.get (i := 2) rfl).get8 (by omega))) rfl ?_; (try simp only [Act.put, List.setIfInBounds_toArray, List.set_cons_zero, List.set_cons_succ]); rw [hx]; by_cases hz : x ≠ 0; (focus (rw [if_pos hz] at HE; refine wpList_val (run_neq8 (b := 0) (c := true) rfl rfl rfl (decide_eq_true hz)) rfl ?_; (try simp only [Act.put, List.setIfInBounds_toArray, List.set_cons_zero, List.set_cons_succ]); refine wpList_end ?_; obtain rfl : q' = r := HE.out; rw [← HX.out] at hE; rw [← ET.out] at hE; go_wp2_with fail; go_roundw; (case rel => exact ⟨k + 1, by omega, by (congr 1; omega), hE.out⟩); (case measure => (simp [intOf]; try omega)))); (rw [if_neg hz] at HE; refine wpList_val (run_neq8 (b := 0) (c := false) rfl rfl rfl (decide_eq_false hz)) rfl ?_; (try simp only [Act.put, List.setIfInBounds_toArray, List.set_cons_zero, List.set_cons_succ]); refine wpList_end ?_; clear hx hz; go_wp2_with fail; go_roundw; (case rel => exact ⟨j, q', by omega, by go_num, hq, HE.out, hE.out⟩); (case measure => (simp [intOf]; try omega))))))
theorem enters_rcounter : Enters 22 := enters_of Try.func22 (by kernel_rfl) rfl
end Go.Proofs.Ytlfggmdlgeakeaa
