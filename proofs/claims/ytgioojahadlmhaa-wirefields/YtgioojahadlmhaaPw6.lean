/- What wire's List, Bundle, Envelope, Request, Response, Account, Header and Users answer. -/
import Derived.Test.YtgioojahadlmhaaPw3
import Derived.Test.YtgioojahadlmhaaWrF
import Derived.Test.YtgioojahadlmhaaWrG
namespace Go.Proofs.Ytgioojahadlmhaa
open Go.RowKit
set_option maxRecDepth 20000
attribute [local irreducible] wpList

def itB (p : Int × MEv) : List (BitVec 8) := viB p.1 ++ evB p.2
theorem itAt_fix {m : Int × MEv} {X : List Value} {w : World} (hm : m.2.Ok) (h : Fro 0 (itAt m X) w) : ∃ cs, X = itR (.int .i64 m.1) cs ∧ cs.length = 72 ∧ One cs ∧ Fro 0 (evAt m.2 cs) w := by
  obtain ⟨cs, hq, h2⟩ := h.now
  obtain ⟨a0, c0, e0, -⟩ := id h2
  have l0 : cs.length = 72 := by rw [e0]; exact evC_len hm _
  have o0 : One cs := by rw [e0]; exact by rw [evC_row]; exact evR_one rfl rfl rfl (One.b8 _) rfl rfl hdC_one rfl
  refine ⟨cs, hq, l0, o0, fun V hV => ?_⟩
  obtain ⟨cs2, h3, h4⟩ := h V hV
  have l2 : cs2.length = 72 := by obtain ⟨a, c, e, -⟩ := h4; rw [e]; exact evC_len hm _
  rw [hq] at h3
  have h5 : (_ : List Value) = (_ : List Value) := congrArg (fun l : List Value => (l.drop 1).take 72) h3
  rw [itR_Env l0, itR_Env l2] at h5
  subst h5
  exact h4
theorem enters_walV : Enters 110 := enters_of Try.func110 (by kernel_rfl) rfl
set_option maxHeartbeats 4000000 in
theorem walV_any (w : World) (p : Nat) (L : List (Nat × List Value)) (l : List (BitVec 8)) (ms : List MEv) (a : Option Addr) (c : Nat) (u : World) (hn : ms.length ≤ 100000000000) (hp : ∀ p ∈ ms, p.Ok ∧ -9223372036854775808 ≤ p.one) (hX : Fro 0 (SlR 72 evAt ms a c) w) (hb : l.length + (alB evB ms).length ≤ 100000000000) (H : Ww w p L l u) : Calls Try.prog 110 #[.pointer (some ⟨p, 0, none⟩), .slice a ms.length c, .func (.func 54) #[] #[]] u fun e u' => ∃ v', e = .returned v' ∧ Ww w p L (l ++ (alB evB ms)) u' := by
  have HE : Hid (∀ i, i < ms.length → ∃ g f cs x, a = some ⟨g, f, none⟩ ∧ alF evB ms (i + 1) = alF evB ms i ++ x ∧ (cs : List Value).length = 72 ∧ One cs ∧ (∀ u, Below w.heap.size w u → u.rangeAt g (f + i * 72) cs) ∧ (∀ (u : World) (L : List (Nat × List Value)) (y : List (BitVec 8)), y = l ++ alF evB ms i → Ww w p L y u → Calls Try.prog 54 #[.pointer (some ⟨p, 0, none⟩), .agg cs.toArray] u fun e u' => ∃ v', e = .returned v' ∧ Ww w p L (y ++ x) u')) := Lib.hid fun i hi => by
    obtain ⟨g, f, cs, h1, h2, h3, h4, h5⟩ := slR_get hX hi
    have hk := hp _ (List.getElem_mem hi)
    have hle := alF_le evB ms hi
    obtain ⟨q1, q2, e, -⟩ := evAt_fix hk.1 h5
    have hone : One cs := by rw [e, evC_row]; exact evR_one rfl rfl rfl (One.b8 _) rfl rfl hdC_one rfl
    exact ⟨g, f, cs, evB ms[i], h1, alF_succ hi, h3, hone, fun u hu => rangeAt_below h4 h2 hu, fun u L y hy H => wenv_any w p L y ms[i] cs u hk.1 hk.2 h5 (by rw [hy, List.length_append]; omega) H⟩
  have E0 : Hid (viB (ms.length : Int) = alF evB ms 0) := Lib.hid (alF_zero _ _)
  have EO : Hid (alF evB ms ms.length = alB evB ms) := Lib.hid (alF_all _ _)
  have HB : Hid (l.length + (viB (ms.length : Int)).length ≤ 100000000000) := Lib.hid (by have h := alF_head evB ms; omega)
  have E := Lib.hid H
  clear hb H hX hp
  obtain ⟨Gf, hGf⟩ : ∃ Gf, Gf = alF evB ms := ⟨_, rfl⟩
  rw [← hGf] at HE E0 EO
  clear hGf
  generalize alB evB ms = out at *
  generalize ms.length = n at *
  go_enter Try.func110, Try.ntmps110
  go_upto_region 0 with fail; refine wp_region_lit ?_
  refine wpList_val (run_mv (v := .pointer (some ⟨p, 0, none⟩)) rfl rfl) rfl ?_; (try simp only [Act.put, List.setIfInBounds_toArray, List.set_cons_zero, List.set_cons_succ])
  refine wpList_val (run_mv (v := .slice a n c) rfl rfl) rfl ?_; (try simp only [Act.put, List.setIfInBounds_toArray, List.set_cons_zero, List.set_cons_succ])
  refine wpList_val (run_len rfl Try.underlying73 rfl) rfl ?_; (try simp only [Act.put, List.setIfInBounds_toArray, List.set_cons_zero, List.set_cons_succ])
  refine wpList_callR (run_call2 enters_wnum rfl rfl rfl rfl) rfl (wnum_any w p L l (n : Int) u HB.out E.out) (fun v1 a1 hR => ?_); (try simp only [Act.put, List.setIfInBounds_toArray, List.set_cons_zero, List.set_cons_succ])
  replace E := Lib.hid hR
  clear hR
  rw [E0.out] at E
  refine wpList_end ?_
  go_upto_region 1 with fail; refine wp_region_lit ?_
  refine wpList_val (run_mv (v := .slice a n c) rfl rfl) rfl ?_; (try simp only [Act.put, List.setIfInBounds_toArray, List.set_cons_zero, List.set_cons_succ])
  refine wpList_val (run_len rfl Try.underlying73 rfl) rfl ?_; (try simp only [Act.put, List.setIfInBounds_toArray, List.set_cons_zero, List.set_cons_succ])
  refine wpList_val (run_mv (v := .int .i64 0) rfl rfl) rfl ?_; (try simp only [Act.put, List.setIfInBounds_toArray, List.set_cons_zero, List.set_cons_succ])
  refine wpList_end ?_
  go_wp2_with fail
  go_loopw [14] (fun s14 u => ∃ i : Nat, i ≤ n ∧ s14 = .int .i64 (i : Int) ∧ Ww w p L (l ++ Gf i) u) (fun s14 _ => ((n : Int) - intOf s14).toNat)
  case atStart => exact ⟨0, by omega, rfl, E.out⟩
  case round =>
    obtain ⟨i, hi, rfl, hJ⟩ := hrel
    replace E := Lib.hid hJ
    clear hJ
    by_cases hik : i = n
    · subst hik
      replace E := Lib.hid (E.out.cast (show _ = l ++ out by rw [EO.out]))
      go_upto_region 2 with fail; refine wp_region_lit ?_
      refine wpList_val (run_lssb (c := false) rfl rfl rfl (decide_eq_false (by omega))) rfl ?_; (try simp only [Act.put, List.setIfInBounds_toArray, List.set_cons_zero, List.set_cons_succ])
      refine wpList_end ?_
      go_wp2_with fail
      exact bodyPost_end (results_none Try.results110 _ _ _) rfl ⟨_, rfl, E.out⟩
    · obtain ⟨g, f, cs, x, rfl, hx, hz, hone, hr, hc⟩ := HE.out i (by omega)
      have HX := Lib.hid hx
      have HR1 := Lib.hid hr
      have HC1 := Lib.hid hc
      have HO1 := Lib.hid hone
      clear hx hr hc hone
      go_upto_region 2 with fail; refine wp_region_lit ?_
      refine wpList_val (run_lssb (c := true) rfl rfl rfl (decide_eq_true (by omega))) rfl ?_; (try simp only [Act.put, List.setIfInBounds_toArray, List.set_cons_zero, List.set_cons_succ])
      refine wpList_end ?_
      go_upto_region 3 with fail; refine wp_region_lit ?_
      refine wpList_val (run_ixZ (z := 72) (i := i) rfl Try.underlying73 (by kernel_rfl) rfl rfl (by omega)) rfl ?_; (try simp only [Act.put, List.setIfInBounds_toArray, List.set_cons_zero, List.set_cons_succ])
      refine wpList_val (run_ldM (vs := cs) rfl Try.underlying64 rfl (szR hz (by kernel_rfl)) rfl (HR1.out _ E.out.bl)) rfl ?_; (try simp only [Act.put, List.setIfInBounds_toArray, List.set_cons_zero, List.set_cons_succ])
      refine wpList_val (run_alc (vs := evR ((.int .i64 0)) ((.int .i64 0)) ((.bool false)) (z8 32) ((.int .i64 0)) ((.int .i64 0)) (hdR (z8 32) ((.int .i64 0)) ((.int .i64 0))) ((.slice none 0 0))) rfl (by kernel_rfl)) rfl ?_; (try simp only [Act.put, List.setIfInBounds_toArray, List.set_cons_zero, List.set_cons_succ])
      replace E := Lib.hid (E.out.new (evR ((.int .i64 0)) ((.int .i64 0)) ((.bool false)) (z8 32) ((.int .i64 0)) ((.int .i64 0)) (hdR (z8 32) ((.int .i64 0)) ((.int .i64 0))) ((.slice none 0 0))) 64)
      generalize wr.alloc (.cells (evR ((.int .i64 0)) ((.int .i64 0)) ((.bool false)) (z8 32) ((.int .i64 0)) ((.int .i64 0)) (hdR (z8 32) ((.int .i64 0)) ((.int .i64 0))) ((.slice none 0 0))).toArray 64) = a1 at *
      generalize wr.heap.size = g1 at *
      refine wpList_skip (run_stM (vs := cs) rfl (szR hz (by kernel_rfl)) rfl rfl (One.all HO1.out) ((E.out.get (i := 0) rfl).thereM (by have q2 : (evR ((.int .i64 0)) ((.int .i64 0)) ((.bool false)) (z8 32) ((.int .i64 0)) ((.int .i64 0)) (hdR (z8 32) ((.int .i64 0)) ((.int .i64 0))) ((.slice none 0 0))).length = 72 := (evR_len (z8_len' 32) (hdR_len (z8_len' 32))); omega))) rfl rfl ?_
      replace E := Lib.hid (E.out.put 0 rfl (m' := cs) (hz.trans (show (evR ((.int .i64 0)) ((.int .i64 0)) ((.bool false)) (z8 32) ((.int .i64 0)) ((.int .i64 0)) (hdR (z8 32) ((.int .i64 0)) ((.int .i64 0))) ((.slice none 0 0))).length = 72 from (evR_len (z8_len' 32) (hdR_len (z8_len' 32)))).symm))
      replace E := Lib.hid (show Ww w p ((g1, cs) :: L) _ _ from E.out)
      generalize a1.setCells g1 0 cs = a2 at *
      refine wpList_end ?_
      go_upto_region 4 with fail; refine wp_region_lit ?_
      refine wpList_val (run_mv (v := .func (.func 54) #[] #[]) rfl rfl) rfl ?_; (try simp only [Act.put, List.setIfInBounds_toArray, List.set_cons_zero, List.set_cons_succ])
      refine wpList_val (run_mv (v := .pointer (some ⟨p, 0, none⟩)) rfl rfl) rfl ?_; (try simp only [Act.put, List.setIfInBounds_toArray, List.set_cons_zero, List.set_cons_succ])
      refine wpList_val (run_ldM (vs := cs) rfl Try.underlying64 rfl (szR hz (by kernel_rfl)) rfl (E.out.get (i := 0) rfl).range) rfl ?_; (try simp only [Act.put, List.setIfInBounds_toArray, List.set_cons_zero, List.set_cons_succ])
      refine wpList_callR (run_callv2 enters_wenv rfl rfl rfl rfl) rfl (HC1.out _ _ _ rfl E.out) (fun v3 a3 hR => ?_); (try simp only [Act.put, List.setIfInBounds_toArray, List.set_cons_zero, List.set_cons_succ])
      replace E := Lib.hid (hR.drop.cast (show _ = l ++ Gf (i + 1) by rw [HX.out, List.append_assoc]))
      clear hR
      refine wpList_end ?_
      go_upto_region 5 with fail; refine wp_region_lit ?_
      refine wpList_val (run_addN (a := i) (b := 1) rfl rfl rfl (by omega)) rfl ?_; (try simp only [Act.put, List.setIfInBounds_toArray, List.set_cons_zero, List.set_cons_succ])
      refine wpList_val (run_mv (v := .int .i64 ((i + 1 : Nat) : Int)) rfl rfl) rfl ?_; (try simp only [Act.put, List.setIfInBounds_toArray, List.set_cons_zero, List.set_cons_succ])
      refine wpList_end ?_
      go_wp2_with fail
      exact ⟨⟨i + 1, by omega, rfl, E.out⟩, by simp [intOf]; omega⟩
theorem enters_witm : Enters 84 := enters_of Try.func84 (by kernel_rfl) rfl
set_option maxHeartbeats 4000000 in
theorem witm_any (w : World) (p : Nat) (L : List (Nat × List Value)) (l : List (BitVec 8)) (m : Int × MEv) (X : List Value) (u : World) (hm : m.2.Ok) (ho : -9223372036854775808 ≤ m.2.one) (hX : Fro 0 (itAt m X) w) (hb : l.length + (itB m).length ≤ 100000000000) (H : Ww w p L l u) : Calls Try.prog 84 #[.pointer (some ⟨p, 0, none⟩), .agg (X).toArray] u fun e u' => ∃ v', e = .returned v' ∧ Ww w p L (l ++ (itB m)) u' := by
  obtain ⟨c1, rfl, l1, o1, HF⟩ := itAt_fix hm hX
  clear hX
  have HF2 := Lib.hid HF
  clear HF
  have EB : Hid (l ++ viB m.1 ++ evB m.2 = l ++ (itB m)) := Lib.hid (by unfold itB; simp only [List.append_assoc])
  have HB : Hid ((l ++ viB m.1 ++ evB m.2).length ≤ 100000000000) := Lib.hid (by rw [EB.out, List.length_append]; exact hb)
  have E := Lib.hid H
  clear hb H
  go_enter Try.func84, Try.ntmps84
  go_upto_region 0 with fail; refine wp_region_lit ?_
  refine wpList_val (run_boxL8 (vs := itR (.int .i64 m.1) (c1)) rfl rfl) rfl ?_; (try simp only [Act.put, List.setIfInBounds_toArray, List.set_cons_zero, List.set_cons_succ])
  replace E := Lib.hid (E.out.new (itR (.int .i64 m.1) (c1)) 70)
  generalize u.alloc (.cells (itR (.int .i64 m.1) (c1)).toArray 70) = a1 at *
  generalize u.heap.size = g2 at *
  refine wpList_end ?_
  go_upto_region 1 with fail; refine wp_region_lit ?_
  refine wpList_val (run_mv (v := .pointer (some ⟨p, 0, none⟩)) rfl rfl) rfl ?_; (try simp only [Act.put, List.setIfInBounds_toArray, List.set_cons_zero, List.set_cons_succ])
  refine wpList_val (run_fad (s := 0) (k := 0) rfl Try.underlying70 rfl (by kernel_rfl) rfl rfl) rfl ?_; (try simp only [Act.put, List.setIfInBounds_toArray, List.set_cons_zero, List.set_cons_succ])
  refine wpList_val (run_ldc rfl Try.underlying3 rfl rfl ((E.out.get (i := 0) rfl).c 0 _ (itR_Device ))) rfl ?_; (try simp only [Act.put, List.setIfInBounds_toArray, List.set_cons_zero, List.set_cons_succ])
  refine wpList_callR (run_call2 enters_wnum rfl rfl rfl rfl) rfl (wnum_any w p _ _ (m.1) _ (by have h := HB.out; simp only [List.length_append] at h ⊢; omega) E.out) (fun v4 a3 hR => ?_); (try simp only [Act.put, List.setIfInBounds_toArray, List.set_cons_zero, List.set_cons_succ])
  replace E := Lib.hid hR
  clear hR
  refine wpList_end ?_
  go_upto_region 2 with fail; refine wp_region_lit ?_
  refine wpList_val (run_mv (v := .pointer (some ⟨p, 0, none⟩)) rfl rfl) rfl ?_; (try simp only [Act.put, List.setIfInBounds_toArray, List.set_cons_zero, List.set_cons_succ])
  refine wpList_val (run_fad (s := 71) (k := 1) rfl Try.underlying70 rfl (by kernel_rfl) rfl rfl) rfl ?_; (try simp only [Act.put, List.setIfInBounds_toArray, List.set_cons_zero, List.set_cons_succ])
  refine wpList_val (run_ldM (vs := c1) rfl Try.underlying64 rfl (szR l1 (by kernel_rfl)) rfl ((E.out.get (i := 0) rfl).seg (itR_Env l1))) rfl ?_; (try simp only [Act.put, List.setIfInBounds_toArray, List.set_cons_zero, List.set_cons_succ])
  refine wpList_callR (run_call2 enters_wenv rfl rfl rfl rfl) rfl (wenv_any w p _ _ m.2 c1 _ hm ho HF2.out (by have h := HB.out; simp only [List.length_append] at h ⊢; omega) E.out) (fun v6 a5 hR => ?_); (try simp only [Act.put, List.setIfInBounds_toArray, List.set_cons_zero, List.set_cons_succ])
  replace E := Lib.hid hR
  clear hR
  refine wpList_end ?_
  have E2 := Lib.hid (E.out.drop.cast EB.out)
  go_wp2_with fail
  exact bodyPost_end (results_none Try.results84 _ _ _) rfl ⟨_, rfl, E2.out⟩
theorem enters_walI : Enters 83 := enters_of Try.func83 (by kernel_rfl) rfl
set_option maxHeartbeats 4000000 in
theorem walI_any (w : World) (p : Nat) (L : List (Nat × List Value)) (l : List (BitVec 8)) (ms : List (Int × MEv)) (a : Option Addr) (c : Nat) (u : World) (hn : ms.length ≤ 100000000000) (hp : ∀ p ∈ ms, p.2.Ok ∧ -9223372036854775808 ≤ p.2.one) (hX : Fro 0 (SlR 73 itAt ms a c) w) (hb : l.length + (alB itB ms).length ≤ 100000000000) (H : Ww w p L l u) : Calls Try.prog 83 #[.pointer (some ⟨p, 0, none⟩), .slice a ms.length c, .func (.func 84) #[] #[]] u fun e u' => ∃ v', e = .returned v' ∧ Ww w p L (l ++ (alB itB ms)) u' := by
  have HE : Hid (∀ i, i < ms.length → ∃ g f cs x, a = some ⟨g, f, none⟩ ∧ alF itB ms (i + 1) = alF itB ms i ++ x ∧ (cs : List Value).length = 73 ∧ One cs ∧ (∀ u, Below w.heap.size w u → u.rangeAt g (f + i * 73) cs) ∧ (∀ (u : World) (L : List (Nat × List Value)) (y : List (BitVec 8)), y = l ++ alF itB ms i → Ww w p L y u → Calls Try.prog 84 #[.pointer (some ⟨p, 0, none⟩), .agg cs.toArray] u fun e u' => ∃ v', e = .returned v' ∧ Ww w p L (y ++ x) u')) := Lib.hid fun i hi => by
    obtain ⟨g, f, cs, h1, h2, h3, h4, h5⟩ := slR_get hX hi
    have hk := hp _ (List.getElem_mem hi)
    have hle := alF_le itB ms hi
    obtain ⟨c1, e, l1, o1, -⟩ := itAt_fix hk.1 h5
    have hone : One cs := by rw [e]; exact itR_one rfl o1
    exact ⟨g, f, cs, itB ms[i], h1, alF_succ hi, h3, hone, fun u hu => rangeAt_below h4 h2 hu, fun u L y hy H => witm_any w p L y ms[i] cs u hk.1 hk.2 h5 (by rw [hy, List.length_append]; omega) H⟩
  have E0 : Hid (viB (ms.length : Int) = alF itB ms 0) := Lib.hid (alF_zero _ _)
  have EO : Hid (alF itB ms ms.length = alB itB ms) := Lib.hid (alF_all _ _)
  have HB : Hid (l.length + (viB (ms.length : Int)).length ≤ 100000000000) := Lib.hid (by have h := alF_head itB ms; omega)
  have E := Lib.hid H
  clear hb H hX hp
  obtain ⟨Gf, hGf⟩ : ∃ Gf, Gf = alF itB ms := ⟨_, rfl⟩
  rw [← hGf] at HE E0 EO
  clear hGf
  generalize alB itB ms = out at *
  generalize ms.length = n at *
  go_enter Try.func83, Try.ntmps83
  go_upto_region 0 with fail; refine wp_region_lit ?_
  refine wpList_val (run_mv (v := .pointer (some ⟨p, 0, none⟩)) rfl rfl) rfl ?_; (try simp only [Act.put, List.setIfInBounds_toArray, List.set_cons_zero, List.set_cons_succ])
  refine wpList_val (run_mv (v := .slice a n c) rfl rfl) rfl ?_; (try simp only [Act.put, List.setIfInBounds_toArray, List.set_cons_zero, List.set_cons_succ])
  refine wpList_val (run_len rfl Try.underlying44 rfl) rfl ?_; (try simp only [Act.put, List.setIfInBounds_toArray, List.set_cons_zero, List.set_cons_succ])
  refine wpList_callR (run_call2 enters_wnum rfl rfl rfl rfl) rfl (wnum_any w p L l (n : Int) u HB.out E.out) (fun v1 a1 hR => ?_); (try simp only [Act.put, List.setIfInBounds_toArray, List.set_cons_zero, List.set_cons_succ])
  replace E := Lib.hid hR
  clear hR
  rw [E0.out] at E
  refine wpList_end ?_
  go_upto_region 1 with fail; refine wp_region_lit ?_
  refine wpList_val (run_mv (v := .slice a n c) rfl rfl) rfl ?_; (try simp only [Act.put, List.setIfInBounds_toArray, List.set_cons_zero, List.set_cons_succ])
  refine wpList_val (run_len rfl Try.underlying44 rfl) rfl ?_; (try simp only [Act.put, List.setIfInBounds_toArray, List.set_cons_zero, List.set_cons_succ])
  refine wpList_val (run_mv (v := .int .i64 0) rfl rfl) rfl ?_; (try simp only [Act.put, List.setIfInBounds_toArray, List.set_cons_zero, List.set_cons_succ])
  refine wpList_end ?_
  go_wp2_with fail
  go_loopw [14] (fun s14 u => ∃ i : Nat, i ≤ n ∧ s14 = .int .i64 (i : Int) ∧ Ww w p L (l ++ Gf i) u) (fun s14 _ => ((n : Int) - intOf s14).toNat)
  case atStart => exact ⟨0, by omega, rfl, E.out⟩
  case round =>
    obtain ⟨i, hi, rfl, hJ⟩ := hrel
    replace E := Lib.hid hJ
    clear hJ
    by_cases hik : i = n
    · subst hik
      replace E := Lib.hid (E.out.cast (show _ = l ++ out by rw [EO.out]))
      go_upto_region 2 with fail; refine wp_region_lit ?_
      refine wpList_val (run_lssb (c := false) rfl rfl rfl (decide_eq_false (by omega))) rfl ?_; (try simp only [Act.put, List.setIfInBounds_toArray, List.set_cons_zero, List.set_cons_succ])
      refine wpList_end ?_
      go_wp2_with fail
      exact bodyPost_end (results_none Try.results83 _ _ _) rfl ⟨_, rfl, E.out⟩
    · obtain ⟨g, f, cs, x, rfl, hx, hz, hone, hr, hc⟩ := HE.out i (by omega)
      have HX := Lib.hid hx
      have HR1 := Lib.hid hr
      have HC1 := Lib.hid hc
      have HO1 := Lib.hid hone
      clear hx hr hc hone
      go_upto_region 2 with fail; refine wp_region_lit ?_
      refine wpList_val (run_lssb (c := true) rfl rfl rfl (decide_eq_true (by omega))) rfl ?_; (try simp only [Act.put, List.setIfInBounds_toArray, List.set_cons_zero, List.set_cons_succ])
      refine wpList_end ?_
      go_upto_region 3 with fail; refine wp_region_lit ?_
      refine wpList_val (run_ixZ (z := 73) (i := i) rfl Try.underlying44 (by kernel_rfl) rfl rfl (by omega)) rfl ?_; (try simp only [Act.put, List.setIfInBounds_toArray, List.set_cons_zero, List.set_cons_succ])
      refine wpList_val (run_ldM (vs := cs) rfl Try.underlying70 rfl (szR hz (by kernel_rfl)) rfl (HR1.out _ E.out.bl)) rfl ?_; (try simp only [Act.put, List.setIfInBounds_toArray, List.set_cons_zero, List.set_cons_succ])
      refine wpList_val (run_alc (vs := itR ((.int .i64 0)) (evR ((.int .i64 0)) ((.int .i64 0)) ((.bool false)) (z8 32) ((.int .i64 0)) ((.int .i64 0)) (hdR (z8 32) ((.int .i64 0)) ((.int .i64 0))) ((.slice none 0 0)))) rfl (by kernel_rfl)) rfl ?_; (try simp only [Act.put, List.setIfInBounds_toArray, List.set_cons_zero, List.set_cons_succ])
      replace E := Lib.hid (E.out.new (itR ((.int .i64 0)) (evR ((.int .i64 0)) ((.int .i64 0)) ((.bool false)) (z8 32) ((.int .i64 0)) ((.int .i64 0)) (hdR (z8 32) ((.int .i64 0)) ((.int .i64 0))) ((.slice none 0 0)))) 70)
      generalize wr.alloc (.cells (itR ((.int .i64 0)) (evR ((.int .i64 0)) ((.int .i64 0)) ((.bool false)) (z8 32) ((.int .i64 0)) ((.int .i64 0)) (hdR (z8 32) ((.int .i64 0)) ((.int .i64 0))) ((.slice none 0 0)))).toArray 70) = a1 at *
      generalize wr.heap.size = g1 at *
      refine wpList_skip (run_stM (vs := cs) rfl (szR hz (by kernel_rfl)) rfl rfl (One.all HO1.out) ((E.out.get (i := 0) rfl).thereM (by have q2 : (itR ((.int .i64 0)) (evR ((.int .i64 0)) ((.int .i64 0)) ((.bool false)) (z8 32) ((.int .i64 0)) ((.int .i64 0)) (hdR (z8 32) ((.int .i64 0)) ((.int .i64 0))) ((.slice none 0 0)))).length = 73 := (itR_len (evR_len (z8_len' 32) (hdR_len (z8_len' 32)))); omega))) rfl rfl ?_
      replace E := Lib.hid (E.out.put 0 rfl (m' := cs) (hz.trans (show (itR ((.int .i64 0)) (evR ((.int .i64 0)) ((.int .i64 0)) ((.bool false)) (z8 32) ((.int .i64 0)) ((.int .i64 0)) (hdR (z8 32) ((.int .i64 0)) ((.int .i64 0))) ((.slice none 0 0)))).length = 73 from (itR_len (evR_len (z8_len' 32) (hdR_len (z8_len' 32))))).symm))
      replace E := Lib.hid (show Ww w p ((g1, cs) :: L) _ _ from E.out)
      generalize a1.setCells g1 0 cs = a2 at *
      refine wpList_end ?_
      go_upto_region 4 with fail; refine wp_region_lit ?_
      refine wpList_val (run_mv (v := .func (.func 84) #[] #[]) rfl rfl) rfl ?_; (try simp only [Act.put, List.setIfInBounds_toArray, List.set_cons_zero, List.set_cons_succ])
      refine wpList_val (run_mv (v := .pointer (some ⟨p, 0, none⟩)) rfl rfl) rfl ?_; (try simp only [Act.put, List.setIfInBounds_toArray, List.set_cons_zero, List.set_cons_succ])
      refine wpList_val (run_ldM (vs := cs) rfl Try.underlying70 rfl (szR hz (by kernel_rfl)) rfl (E.out.get (i := 0) rfl).range) rfl ?_; (try simp only [Act.put, List.setIfInBounds_toArray, List.set_cons_zero, List.set_cons_succ])
      refine wpList_callR (run_callv2 enters_witm rfl rfl rfl rfl) rfl (HC1.out _ _ _ rfl E.out) (fun v3 a3 hR => ?_); (try simp only [Act.put, List.setIfInBounds_toArray, List.set_cons_zero, List.set_cons_succ])
      replace E := Lib.hid (hR.drop.cast (show _ = l ++ Gf (i + 1) by rw [HX.out, List.append_assoc]))
      clear hR
      refine wpList_end ?_
      go_upto_region 5 with fail; refine wp_region_lit ?_
      refine wpList_val (run_addN (a := i) (b := 1) rfl rfl rfl (by omega)) rfl ?_; (try simp only [Act.put, List.setIfInBounds_toArray, List.set_cons_zero, List.set_cons_succ])
      refine wpList_val (run_mv (v := .int .i64 ((i + 1 : Nat) : Int)) rfl rfl) rfl ?_; (try simp only [Act.put, List.setIfInBounds_toArray, List.set_cons_zero, List.set_cons_succ])
      refine wpList_end ?_
      go_wp2_with fail
      exact ⟨⟨i + 1, by omega, rfl, E.out⟩, by simp [intOf]; omega⟩
theorem enters_wusr : Enters 73 := enters_of Try.func73 (by kernel_rfl) rfl
set_option maxHeartbeats 4000000 in
theorem wusr_any (w : World) (p : Nat) (L : List (Nat × List Value)) (l : List (BitVec 8)) (m : MUs) (u : World)  (hb : l.length + (usB m).length ≤ 100000000000) (H : Ww w p L l u) : Calls Try.prog 73 #[.pointer (some ⟨p, 0, none⟩), .agg (usR (.string (strOf m.name)) (.int .i64 m.acc) (.bool m.sure)).toArray] u fun e u' => ∃ v', e = .returned v' ∧ Ww w p L (l ++ (usB m)) u' := by
  have EB : Hid (l ++ txB m.name ++ viB m.acc ++ trB m.sure = l ++ (usB m)) := Lib.hid (by unfold usB; simp only [List.append_assoc])
  have HB : Hid ((l ++ txB m.name ++ viB m.acc ++ trB m.sure).length ≤ 100000000000) := Lib.hid (by rw [EB.out, List.length_append]; exact hb)
  have E := Lib.hid H
  clear hb H
  go_enter Try.func73, Try.ntmps73
  go_upto_region 0 with fail; refine wp_region_lit ?_
  refine wpList_val (run_boxL8 (vs := usR (.string (strOf m.name)) (.int .i64 m.acc) (.bool m.sure)) rfl rfl) rfl ?_; (try simp only [Act.put, List.setIfInBounds_toArray, List.set_cons_zero, List.set_cons_succ])
  replace E := Lib.hid (E.out.new (usR (.string (strOf m.name)) (.int .i64 m.acc) (.bool m.sure)) 25)
  generalize u.alloc (.cells (usR (.string (strOf m.name)) (.int .i64 m.acc) (.bool m.sure)).toArray 25) = a1 at *
  generalize u.heap.size = g2 at *
  refine wpList_end ?_
  go_upto_region 1 with fail; refine wp_region_lit ?_
  refine wpList_val (run_mv (v := .pointer (some ⟨p, 0, none⟩)) rfl rfl) rfl ?_; (try simp only [Act.put, List.setIfInBounds_toArray, List.set_cons_zero, List.set_cons_succ])
  refine wpList_val (run_fad (s := 0) (k := 0) rfl Try.underlying25 rfl (by kernel_rfl) rfl rfl) rfl ?_; (try simp only [Act.put, List.setIfInBounds_toArray, List.set_cons_zero, List.set_cons_succ])
  refine wpList_val (run_ldc rfl Try.underlying9 rfl rfl ((E.out.get (i := 0) rfl).c 0 _ (usR_Name ))) rfl ?_; (try simp only [Act.put, List.setIfInBounds_toArray, List.set_cons_zero, List.set_cons_succ])
  refine wpList_callR (run_call2 enters_wtxt rfl rfl rfl rfl) rfl (wtxt_any w p _ _ (m.name) _ (by have h := HB.out; simp only [List.length_append] at h ⊢; omega) E.out) (fun v4 a3 hR => ?_); (try simp only [Act.put, List.setIfInBounds_toArray, List.set_cons_zero, List.set_cons_succ])
  replace E := Lib.hid hR
  clear hR
  refine wpList_end ?_
  go_upto_region 2 with fail; refine wp_region_lit ?_
  refine wpList_val (run_mv (v := .pointer (some ⟨p, 0, none⟩)) rfl rfl) rfl ?_; (try simp only [Act.put, List.setIfInBounds_toArray, List.set_cons_zero, List.set_cons_succ])
  refine wpList_val (run_fad (s := 0) (k := 1) rfl Try.underlying25 rfl (by kernel_rfl) rfl rfl) rfl ?_; (try simp only [Act.put, List.setIfInBounds_toArray, List.set_cons_zero, List.set_cons_succ])
  refine wpList_val (run_ldc rfl Try.underlying3 rfl rfl ((E.out.get (i := 0) rfl).c 1 _ (usR_Account ))) rfl ?_; (try simp only [Act.put, List.setIfInBounds_toArray, List.set_cons_zero, List.set_cons_succ])
  refine wpList_callR (run_call2 enters_wnum rfl rfl rfl rfl) rfl (wnum_any w p _ _ (m.acc) _ (by have h := HB.out; simp only [List.length_append] at h ⊢; omega) E.out) (fun v6 a5 hR => ?_); (try simp only [Act.put, List.setIfInBounds_toArray, List.set_cons_zero, List.set_cons_succ])
  replace E := Lib.hid hR
  clear hR
  refine wpList_end ?_
  go_upto_region 3 with fail; refine wp_region_lit ?_
  refine wpList_val (run_mv (v := .pointer (some ⟨p, 0, none⟩)) rfl rfl) rfl ?_; (try simp only [Act.put, List.setIfInBounds_toArray, List.set_cons_zero, List.set_cons_succ])
  refine wpList_val (run_fad (s := 0) (k := 2) rfl Try.underlying25 rfl (by kernel_rfl) rfl rfl) rfl ?_; (try simp only [Act.put, List.setIfInBounds_toArray, List.set_cons_zero, List.set_cons_succ])
  refine wpList_val (run_ldc rfl Try.underlying4 rfl rfl ((E.out.get (i := 0) rfl).c 2 _ (usR_Sure ))) rfl ?_; (try simp only [Act.put, List.setIfInBounds_toArray, List.set_cons_zero, List.set_cons_succ])
  refine wpList_callR (run_call2 enters_wtru rfl rfl rfl rfl) rfl (wtru_any w p _ _ (m.sure) _ (by have h := HB.out; simp only [List.length_append] at h ⊢; omega) E.out) (fun v8 a7 hR => ?_); (try simp only [Act.put, List.setIfInBounds_toArray, List.set_cons_zero, List.set_cons_succ])
  replace E := Lib.hid hR
  clear hR
  refine wpList_end ?_
  have E2 := Lib.hid (E.out.drop.cast EB.out)
  go_wp2_with fail
  exact bodyPost_end (results_none Try.results73 _ _ _) rfl ⟨_, rfl, E2.out⟩
theorem enters_walU : Enters 72 := enters_of Try.func72 (by kernel_rfl) rfl
set_option maxHeartbeats 4000000 in
theorem walU_any (w : World) (p : Nat) (L : List (Nat × List Value)) (l : List (BitVec 8)) (ms : List MUs) (a : Option Addr) (c : Nat) (u : World) (hn : ms.length ≤ 100000000000) (hp : ∀ p ∈ ms, True) (hX : Fro 0 (SlR 3 usAt ms a c) w) (hb : l.length + (alB usB ms).length ≤ 100000000000) (H : Ww w p L l u) : Calls Try.prog 72 #[.pointer (some ⟨p, 0, none⟩), .slice a ms.length c, .func (.func 73) #[] #[]] u fun e u' => ∃ v', e = .returned v' ∧ Ww w p L (l ++ (alB usB ms)) u' := by
  have HE : Hid (∀ i, i < ms.length → ∃ g f cs x, a = some ⟨g, f, none⟩ ∧ alF usB ms (i + 1) = alF usB ms i ++ x ∧ (cs : List Value).length = 3 ∧ One cs ∧ (∀ u, Below w.heap.size w u → u.rangeAt g (f + i * 3) cs) ∧ (∀ (u : World) (L : List (Nat × List Value)) (y : List (BitVec 8)), y = l ++ alF usB ms i → Ww w p L y u → Calls Try.prog 73 #[.pointer (some ⟨p, 0, none⟩), .agg cs.toArray] u fun e u' => ∃ v', e = .returned v' ∧ Ww w p L (y ++ x) u')) := Lib.hid fun i hi => by
    obtain ⟨g, f, cs, h1, h2, h3, h4, h5⟩ := slR_get hX hi
    have hk := hp _ (List.getElem_mem hi)
    have hle := alF_le usB ms hi
    have e : cs = usR (.string (strOf ms[i].name)) (.int .i64 ms[i].acc) (.bool ms[i].sure) := h5.now
    have hone : One cs := by rw [e]; exact usR_one rfl rfl rfl
    clear hk
    exact ⟨g, f, cs, usB ms[i], h1, alF_succ hi, h3, hone, fun u hu => rangeAt_below h4 h2 hu, fun u L y hy H => by rw [e]; exact wusr_any w p L y ms[i] u (by rw [hy, List.length_append]; omega) H⟩
  have E0 : Hid (viB (ms.length : Int) = alF usB ms 0) := Lib.hid (alF_zero _ _)
  have EO : Hid (alF usB ms ms.length = alB usB ms) := Lib.hid (alF_all _ _)
  have HB : Hid (l.length + (viB (ms.length : Int)).length ≤ 100000000000) := Lib.hid (by have h := alF_head usB ms; omega)
  have E := Lib.hid H
  clear hb H hX hp
  obtain ⟨Gf, hGf⟩ : ∃ Gf, Gf = alF usB ms := ⟨_, rfl⟩
  rw [← hGf] at HE E0 EO
  clear hGf
  generalize alB usB ms = out at *
  generalize ms.length = n at *
  go_enter Try.func72, Try.ntmps72
  go_upto_region 0 with fail; refine wp_region_lit ?_
  refine wpList_val (run_mv (v := .pointer (some ⟨p, 0, none⟩)) rfl rfl) rfl ?_; (try simp only [Act.put, List.setIfInBounds_toArray, List.set_cons_zero, List.set_cons_succ])
  refine wpList_val (run_mv (v := .slice a n c) rfl rfl) rfl ?_; (try simp only [Act.put, List.setIfInBounds_toArray, List.set_cons_zero, List.set_cons_succ])
  refine wpList_val (run_len rfl Try.underlying26 rfl) rfl ?_; (try simp only [Act.put, List.setIfInBounds_toArray, List.set_cons_zero, List.set_cons_succ])
  refine wpList_callR (run_call2 enters_wnum rfl rfl rfl rfl) rfl (wnum_any w p L l (n : Int) u HB.out E.out) (fun v1 a1 hR => ?_); (try simp only [Act.put, List.setIfInBounds_toArray, List.set_cons_zero, List.set_cons_succ])
  replace E := Lib.hid hR
  clear hR
  rw [E0.out] at E
  refine wpList_end ?_
  go_upto_region 1 with fail; refine wp_region_lit ?_
  refine wpList_val (run_mv (v := .slice a n c) rfl rfl) rfl ?_; (try simp only [Act.put, List.setIfInBounds_toArray, List.set_cons_zero, List.set_cons_succ])
  refine wpList_val (run_len rfl Try.underlying26 rfl) rfl ?_; (try simp only [Act.put, List.setIfInBounds_toArray, List.set_cons_zero, List.set_cons_succ])
  refine wpList_val (run_mv (v := .int .i64 0) rfl rfl) rfl ?_; (try simp only [Act.put, List.setIfInBounds_toArray, List.set_cons_zero, List.set_cons_succ])
  refine wpList_end ?_
  go_wp2_with fail
  go_loopw [14] (fun s14 u => ∃ i : Nat, i ≤ n ∧ s14 = .int .i64 (i : Int) ∧ Ww w p L (l ++ Gf i) u) (fun s14 _ => ((n : Int) - intOf s14).toNat)
  case atStart => exact ⟨0, by omega, rfl, E.out⟩
  case round =>
    obtain ⟨i, hi, rfl, hJ⟩ := hrel
    replace E := Lib.hid hJ
    clear hJ
    by_cases hik : i = n
    · subst hik
      replace E := Lib.hid (E.out.cast (show _ = l ++ out by rw [EO.out]))
      go_upto_region 2 with fail; refine wp_region_lit ?_
      refine wpList_val (run_lssb (c := false) rfl rfl rfl (decide_eq_false (by omega))) rfl ?_; (try simp only [Act.put, List.setIfInBounds_toArray, List.set_cons_zero, List.set_cons_succ])
      refine wpList_end ?_
      go_wp2_with fail
      exact bodyPost_end (results_none Try.results72 _ _ _) rfl ⟨_, rfl, E.out⟩
    · obtain ⟨g, f, cs, x, rfl, hx, hz, hone, hr, hc⟩ := HE.out i (by omega)
      have HX := Lib.hid hx
      have HR1 := Lib.hid hr
      have HC1 := Lib.hid hc
      have HO1 := Lib.hid hone
      clear hx hr hc hone
      go_upto_region 2 with fail; refine wp_region_lit ?_
      refine wpList_val (run_lssb (c := true) rfl rfl rfl (decide_eq_true (by omega))) rfl ?_; (try simp only [Act.put, List.setIfInBounds_toArray, List.set_cons_zero, List.set_cons_succ])
      refine wpList_end ?_
      go_upto_region 3 with fail; refine wp_region_lit ?_
      refine wpList_val (run_ixZ (z := 3) (i := i) rfl Try.underlying26 (by kernel_rfl) rfl rfl (by omega)) rfl ?_; (try simp only [Act.put, List.setIfInBounds_toArray, List.set_cons_zero, List.set_cons_succ])
      refine wpList_val (run_ldM (vs := cs) rfl Try.underlying25 rfl (szR hz (by kernel_rfl)) rfl (HR1.out _ E.out.bl)) rfl ?_; (try simp only [Act.put, List.setIfInBounds_toArray, List.set_cons_zero, List.set_cons_succ])
      refine wpList_val (run_alc (vs := usR ((.string ⟨#[]⟩)) ((.int .i64 0)) ((.bool false))) rfl (by kernel_rfl)) rfl ?_; (try simp only [Act.put, List.setIfInBounds_toArray, List.set_cons_zero, List.set_cons_succ])
      replace E := Lib.hid (E.out.new (usR ((.string ⟨#[]⟩)) ((.int .i64 0)) ((.bool false))) 25)
      generalize wr.alloc (.cells (usR ((.string ⟨#[]⟩)) ((.int .i64 0)) ((.bool false))).toArray 25) = a1 at *
      generalize wr.heap.size = g1 at *
      refine wpList_skip (run_stM (vs := cs) rfl (szR hz (by kernel_rfl)) rfl rfl (One.all HO1.out) ((E.out.get (i := 0) rfl).thereM (by have q2 : (usR ((.string ⟨#[]⟩)) ((.int .i64 0)) ((.bool false))).length = 3 := usR_len; omega))) rfl rfl ?_
      replace E := Lib.hid (E.out.put 0 rfl (m' := cs) (hz.trans (show (usR ((.string ⟨#[]⟩)) ((.int .i64 0)) ((.bool false))).length = 3 from usR_len).symm))
      replace E := Lib.hid (show Ww w p ((g1, cs) :: L) _ _ from E.out)
      generalize a1.setCells g1 0 cs = a2 at *
      refine wpList_end ?_
      go_upto_region 4 with fail; refine wp_region_lit ?_
      refine wpList_val (run_mv (v := .func (.func 73) #[] #[]) rfl rfl) rfl ?_; (try simp only [Act.put, List.setIfInBounds_toArray, List.set_cons_zero, List.set_cons_succ])
      refine wpList_val (run_mv (v := .pointer (some ⟨p, 0, none⟩)) rfl rfl) rfl ?_; (try simp only [Act.put, List.setIfInBounds_toArray, List.set_cons_zero, List.set_cons_succ])
      refine wpList_val (run_ldM (vs := cs) rfl Try.underlying25 rfl (szR hz (by kernel_rfl)) rfl (E.out.get (i := 0) rfl).range) rfl ?_; (try simp only [Act.put, List.setIfInBounds_toArray, List.set_cons_zero, List.set_cons_succ])
      refine wpList_callR (run_callv2 enters_wusr rfl rfl rfl rfl) rfl (HC1.out _ _ _ rfl E.out) (fun v3 a3 hR => ?_); (try simp only [Act.put, List.setIfInBounds_toArray, List.set_cons_zero, List.set_cons_succ])
      replace E := Lib.hid (hR.drop.cast (show _ = l ++ Gf (i + 1) by rw [HX.out, List.append_assoc]))
      clear hR
      refine wpList_end ?_
      go_upto_region 5 with fail; refine wp_region_lit ?_
      refine wpList_val (run_addN (a := i) (b := 1) rfl rfl rfl (by omega)) rfl ?_; (try simp only [Act.put, List.setIfInBounds_toArray, List.set_cons_zero, List.set_cons_succ])
      refine wpList_val (run_mv (v := .int .i64 ((i + 1 : Nat) : Int)) rfl rfl) rfl ?_; (try simp only [Act.put, List.setIfInBounds_toArray, List.set_cons_zero, List.set_cons_succ])
      refine wpList_end ?_
      go_wp2_with fail
      exact ⟨⟨i + 1, by omega, rfl, E.out⟩, by simp [intOf]; omega⟩
theorem enters_wuss : Enters 36 := enters_of Try.func36 (by kernel_rfl) rfl
set_option maxHeartbeats 4000000 in
theorem wuss_any (w : World) (p : Nat) (L : List (Nat × List Value)) (l : List (BitVec 8)) (ms : List MUs) (a : Option Addr) (c : Nat) (u : World) (hn : ms.length ≤ 100000000000) (hX : Fro 0 (SlR 3 usAt ms a c) w) (hb : l.length + (alB usB ms).length ≤ 100000000000) (H : Ww w p L l u) : Calls Try.prog 36 #[.pointer (some ⟨p, 0, none⟩), .slice a ms.length c] u fun e u' => ∃ v', e = .returned v' ∧ Ww w p L (l ++ (alB usB ms)) u' := by
  have HC := Lib.hid (walU_any w p L l ms a c u hn (fun _ _ => trivial) hX hb H)
  clear hX hb H
  generalize alB usB ms = out at *
  generalize ms.length = n at *
  go_enter Try.func36, Try.ntmps36
  go_upto_region 0 with fail; refine wp_region_lit ?_
  refine wpList_val (run_mv (v := .pointer (some ⟨p, 0, none⟩)) rfl rfl) rfl ?_; (try simp only [Act.put, List.setIfInBounds_toArray, List.set_cons_zero, List.set_cons_succ])
  refine wpList_val (run_mv (v := .slice a n c) rfl rfl) rfl ?_; (try simp only [Act.put, List.setIfInBounds_toArray, List.set_cons_zero, List.set_cons_succ])
  refine wpList_callR (run_call3 enters_walU rfl rfl rfl rfl rfl) rfl HC.out (fun v1 a1 hR => ?_); (try simp only [Act.put, List.setIfInBounds_toArray, List.set_cons_zero, List.set_cons_succ])
  have E := Lib.hid hR
  clear hR
  refine wpList_end ?_
  go_wp2_with fail
  exact bodyPost_end (results_none Try.results36 _ _ _) rfl ⟨_, rfl, E.out⟩
end Go.Proofs.Ytgioojahadlmhaa
namespace Go.Proofs.Ytgioojahadlmhaa
open Go.RowKit
set_option maxRecDepth 20000
attribute [local irreducible] wpList

theorem rqB_al (m : MRq) : rqB m = viB m.kind ++ viB m.acc ++ viB m.dev ++ txB m.pin ++ txB m.next ++ txB m.name ++ lsB m.ls ++ m.token ++ pkB m.signed ++ m.sig ++ alB pkB m.ones ++ viB m.ver ++ alB itB m.items := by simp [rqB, rqF, rqH, psB, alB, List.append_assoc]; rfl
theorem rpB_al (m : MRp) : rpB m = viB m.err ++ lsB m.ls ++ buB m.bu ++ alB evB m.mail := by simp [rpB, evsB, alB, List.append_assoc]
theorem slB_al (m : MSlot) : slB m = viB m.dev ++ pkB m.signed ++ m.sig ++ alB pkB m.ones ++ viB m.last ++ alB evB m.mail := by simp [slB, psB, evsB, alB, List.append_assoc]
theorem acB_al (m : MAc) : acB m = viB m.id ++ txB m.pin ++ viB m.wrong ++ viB m.till ++ lsB m.ls ++ alB slB m.slots ++ alB (fun k => k) m.tokens := by simp [acB, acG, acF, alB, List.append_assoc]
theorem enters_wreq : Enters 40 := enters_of Try.func40 (by kernel_rfl) rfl
set_option maxHeartbeats 4000000 in
theorem wreq_any (w : World) (p : Nat) (L : List (Nat × List Value)) (l : List (BitVec 8)) (m : MRq) (X : List Value) (u : World) (hm : m.Ok) (ho : ∀ p ∈ m.items, -9223372036854775808 ≤ p.2.one) (hX : Fro 0 (rqAt m X) w) (hb : l.length + (rqB m).length ≤ 100000000000) (H : Ww w p L l u) : Calls Try.prog 40 #[.pointer (some ⟨p, 0, none⟩), .agg (X).toArray] u fun e u' => ∃ v', e = .returned v' ∧ Ww w p L (l ++ (rqB m)) u' := by
  obtain ⟨c1, a0, c0, a2, c2, rfl, l1, o1, f1, f2, f3⟩ := rqAt_fix hm hX
  clear hX
  have F1 := Lib.hid f1
  have F2 := Lib.hid f2
  have F3 := Lib.hid f3
  have y1 := hm.kind0
  have y2 := hm.kind1
  have hls := hm.ls
  have k1 := hm.token
  have k2 := hm.signed
  have k3 := hm.sig
  have K4 := Lib.hid hm.ones
  have K5 := Lib.hid hm.items
  have n1 := hm.many
  have n2 := hm.much
  have HO := Lib.hid ho
  clear f1 f2 f3 hm ho
  have EB : Hid (l ++ viB m.kind ++ viB m.acc ++ viB m.dev ++ txB m.pin ++ txB m.next ++ txB m.name ++ lsB m.ls ++ m.token ++ pkB m.signed ++ m.sig ++ alB pkB m.ones ++ viB m.ver ++ alB itB m.items = l ++ (rqB m)) := Lib.hid (by rw [rqB_al]; simp only [List.append_assoc])
  have HB : Hid ((l ++ viB m.kind ++ viB m.acc ++ viB m.dev ++ txB m.pin ++ txB m.next ++ txB m.name ++ lsB m.ls ++ m.token ++ pkB m.signed ++ m.sig ++ alB pkB m.ones ++ viB m.ver ++ alB itB m.items).length ≤ 100000000000) := Lib.hid (by rw [EB.out, List.length_append]; exact hb)
  have E := Lib.hid H
  clear hb H
  go_enter Try.func40, Try.ntmps40
  go_upto_region 0 with fail; refine wp_region_lit ?_
  refine wpList_val (run_boxL8 (vs := rqR (.int .u8 m.kind) (.int .i64 m.acc) (.int .i64 m.dev) (.string (strOf m.pin)) (.string (strOf m.next)) (.string (strOf m.name)) (c1) (m.token.map b8) (pkC m.signed) (m.sig.map b8) (.slice a0 m.ones.length c0) (.int .i64 m.ver) (.slice a2 m.items.length c2)) rfl rfl) rfl ?_; (try simp only [Act.put, List.setIfInBounds_toArray, List.set_cons_zero, List.set_cons_succ])
  replace E := Lib.hid (E.out.new (rqR (.int .u8 m.kind) (.int .i64 m.acc) (.int .i64 m.dev) (.string (strOf m.pin)) (.string (strOf m.next)) (.string (strOf m.name)) (c1) (m.token.map b8) (pkC m.signed) (m.sig.map b8) (.slice a0 m.ones.length c0) (.int .i64 m.ver) (.slice a2 m.items.length c2)) 46)
  generalize u.alloc (.cells (rqR (.int .u8 m.kind) (.int .i64 m.acc) (.int .i64 m.dev) (.string (strOf m.pin)) (.string (strOf m.next)) (.string (strOf m.name)) (c1) (m.token.map b8) (pkC m.signed) (m.sig.map b8) (.slice a0 m.ones.length c0) (.int .i64 m.ver) (.slice a2 m.items.length c2)).toArray 46) = a1 at *
  generalize u.heap.size = g2 at *
  refine wpList_end ?_
  go_upto_region 1 with fail; refine wp_region_lit ?_
  refine wpList_val (run_mv (v := .pointer (some ⟨p, 0, none⟩)) rfl rfl) rfl ?_; (try simp only [Act.put, List.setIfInBounds_toArray, List.set_cons_zero, List.set_cons_succ])
  refine wpList_val (run_fad (s := 0) (k := 0) rfl Try.underlying46 rfl (by kernel_rfl) rfl rfl) rfl ?_; (try simp only [Act.put, List.setIfInBounds_toArray, List.set_cons_zero, List.set_cons_succ])
  refine wpList_val (run_ldc rfl Try.underlying5 rfl rfl ((E.out.get (i := 0) rfl).c 0 _ (rqR_Kind ))) rfl ?_; (try simp only [Act.put, List.setIfInBounds_toArray, List.set_cons_zero, List.set_cons_succ])
  refine wpList_val (run_cv8iR rfl rfl y1 y2) rfl ?_; (try simp only [Act.put, List.setIfInBounds_toArray, List.set_cons_zero, List.set_cons_succ])
  refine wpList_callR (run_call2 enters_wnum rfl rfl rfl rfl) rfl (wnum_any w p _ _ (m.kind) _ (by have h := HB.out; simp only [List.length_append] at h ⊢; omega) E.out) (fun v4 a3 hR => ?_); (try simp only [Act.put, List.setIfInBounds_toArray, List.set_cons_zero, List.set_cons_succ])
  replace E := Lib.hid hR
  clear hR
  refine wpList_end ?_
  go_upto_region 2 with fail; refine wp_region_lit ?_
  refine wpList_val (run_mv (v := .pointer (some ⟨p, 0, none⟩)) rfl rfl) rfl ?_; (try simp only [Act.put, List.setIfInBounds_toArray, List.set_cons_zero, List.set_cons_succ])
  refine wpList_val (run_fad (s := 0) (k := 1) rfl Try.underlying46 rfl (by kernel_rfl) rfl rfl) rfl ?_; (try simp only [Act.put, List.setIfInBounds_toArray, List.set_cons_zero, List.set_cons_succ])
  refine wpList_val (run_ldc rfl Try.underlying3 rfl rfl ((E.out.get (i := 0) rfl).c 1 _ (rqR_Account ))) rfl ?_; (try simp only [Act.put, List.setIfInBounds_toArray, List.set_cons_zero, List.set_cons_succ])
  refine wpList_callR (run_call2 enters_wnum rfl rfl rfl rfl) rfl (wnum_any w p _ _ (m.acc) _ (by have h := HB.out; simp only [List.length_append] at h ⊢; omega) E.out) (fun v6 a5 hR => ?_); (try simp only [Act.put, List.setIfInBounds_toArray, List.set_cons_zero, List.set_cons_succ])
  replace E := Lib.hid hR
  clear hR
  refine wpList_end ?_
  go_upto_region 3 with fail; refine wp_region_lit ?_
  refine wpList_val (run_mv (v := .pointer (some ⟨p, 0, none⟩)) rfl rfl) rfl ?_; (try simp only [Act.put, List.setIfInBounds_toArray, List.set_cons_zero, List.set_cons_succ])
  refine wpList_val (run_fad (s := 0) (k := 2) rfl Try.underlying46 rfl (by kernel_rfl) rfl rfl) rfl ?_; (try simp only [Act.put, List.setIfInBounds_toArray, List.set_cons_zero, List.set_cons_succ])
  refine wpList_val (run_ldc rfl Try.underlying3 rfl rfl ((E.out.get (i := 0) rfl).c 2 _ (rqR_Device ))) rfl ?_; (try simp only [Act.put, List.setIfInBounds_toArray, List.set_cons_zero, List.set_cons_succ])
  refine wpList_callR (run_call2 enters_wnum rfl rfl rfl rfl) rfl (wnum_any w p _ _ (m.dev) _ (by have h := HB.out; simp only [List.length_append] at h ⊢; omega) E.out) (fun v8 a7 hR => ?_); (try simp only [Act.put, List.setIfInBounds_toArray, List.set_cons_zero, List.set_cons_succ])
  replace E := Lib.hid hR
  clear hR
  refine wpList_end ?_
  go_upto_region 4 with fail; refine wp_region_lit ?_
  refine wpList_val (run_mv (v := .pointer (some ⟨p, 0, none⟩)) rfl rfl) rfl ?_; (try simp only [Act.put, List.setIfInBounds_toArray, List.set_cons_zero, List.set_cons_succ])
  refine wpList_val (run_fad (s := 0) (k := 3) rfl Try.underlying46 rfl (by kernel_rfl) rfl rfl) rfl ?_; (try simp only [Act.put, List.setIfInBounds_toArray, List.set_cons_zero, List.set_cons_succ])
  refine wpList_val (run_ldc rfl Try.underlying9 rfl rfl ((E.out.get (i := 0) rfl).c 3 _ (rqR_Pin ))) rfl ?_; (try simp only [Act.put, List.setIfInBounds_toArray, List.set_cons_zero, List.set_cons_succ])
  refine wpList_callR (run_call2 enters_wtxt rfl rfl rfl rfl) rfl (wtxt_any w p _ _ (m.pin) _ (by have h := HB.out; simp only [List.length_append] at h ⊢; omega) E.out) (fun v10 a9 hR => ?_); (try simp only [Act.put, List.setIfInBounds_toArray, List.set_cons_zero, List.set_cons_succ])
  replace E := Lib.hid hR
  clear hR
  refine wpList_end ?_
  go_upto_region 5 with fail; refine wp_region_lit ?_
  refine wpList_val (run_mv (v := .pointer (some ⟨p, 0, none⟩)) rfl rfl) rfl ?_; (try simp only [Act.put, List.setIfInBounds_toArray, List.set_cons_zero, List.set_cons_succ])
  refine wpList_val (run_fad (s := 0) (k := 4) rfl Try.underlying46 rfl (by kernel_rfl) rfl rfl) rfl ?_; (try simp only [Act.put, List.setIfInBounds_toArray, List.set_cons_zero, List.set_cons_succ])
  refine wpList_val (run_ldc rfl Try.underlying9 rfl rfl ((E.out.get (i := 0) rfl).c 4 _ (rqR_Next ))) rfl ?_; (try simp only [Act.put, List.setIfInBounds_toArray, List.set_cons_zero, List.set_cons_succ])
  refine wpList_callR (run_call2 enters_wtxt rfl rfl rfl rfl) rfl (wtxt_any w p _ _ (m.next) _ (by have h := HB.out; simp only [List.length_append] at h ⊢; omega) E.out) (fun v12 a11 hR => ?_); (try simp only [Act.put, List.setIfInBounds_toArray, List.set_cons_zero, List.set_cons_succ])
  replace E := Lib.hid hR
  clear hR
  refine wpList_end ?_
  go_upto_region 6 with fail; refine wp_region_lit ?_
  refine wpList_val (run_mv (v := .pointer (some ⟨p, 0, none⟩)) rfl rfl) rfl ?_; (try simp only [Act.put, List.setIfInBounds_toArray, List.set_cons_zero, List.set_cons_succ])
  refine wpList_val (run_fad (s := 0) (k := 5) rfl Try.underlying46 rfl (by kernel_rfl) rfl rfl) rfl ?_; (try simp only [Act.put, List.setIfInBounds_toArray, List.set_cons_zero, List.set_cons_succ])
  refine wpList_val (run_ldc rfl Try.underlying9 rfl rfl ((E.out.get (i := 0) rfl).c 5 _ (rqR_Name ))) rfl ?_; (try simp only [Act.put, List.setIfInBounds_toArray, List.set_cons_zero, List.set_cons_succ])
  refine wpList_callR (run_call2 enters_wtxt rfl rfl rfl rfl) rfl (wtxt_any w p _ _ (m.name) _ (by have h := HB.out; simp only [List.length_append] at h ⊢; omega) E.out) (fun v14 a13 hR => ?_); (try simp only [Act.put, List.setIfInBounds_toArray, List.set_cons_zero, List.set_cons_succ])
  replace E := Lib.hid hR
  clear hR
  refine wpList_end ?_
  go_upto_region 7 with fail; refine wp_region_lit ?_
  refine wpList_val (run_mv (v := .pointer (some ⟨p, 0, none⟩)) rfl rfl) rfl ?_; (try simp only [Act.put, List.setIfInBounds_toArray, List.set_cons_zero, List.set_cons_succ])
  refine wpList_val (run_fad (s := 98) (k := 6) rfl Try.underlying46 rfl (by kernel_rfl) rfl rfl) rfl ?_; (try simp only [Act.put, List.setIfInBounds_toArray, List.set_cons_zero, List.set_cons_succ])
  refine wpList_val (run_ldM (vs := c1) rfl Try.underlying40 rfl (szR l1 (by kernel_rfl)) rfl ((E.out.get (i := 0) rfl).seg (rqR_List l1))) rfl ?_; (try simp only [Act.put, List.setIfInBounds_toArray, List.set_cons_zero, List.set_cons_succ])
  refine wpList_callR (run_call2 enters_wlst rfl rfl rfl rfl) rfl (wlst_any w p _ _ m.ls c1 _ hls F1.out (by have h := HB.out; simp only [List.length_append] at h ⊢; omega) E.out) (fun v16 a15 hR => ?_); (try simp only [Act.put, List.setIfInBounds_toArray, List.set_cons_zero, List.set_cons_succ])
  replace E := Lib.hid hR
  clear hR
  refine wpList_end ?_
  go_upto_region 8 with fail; refine wp_region_lit ?_
  refine wpList_val (run_mv (v := .pointer (some ⟨p, 0, none⟩)) rfl rfl) rfl ?_; (try simp only [Act.put, List.setIfInBounds_toArray, List.set_cons_zero, List.set_cons_succ])
  refine wpList_val (run_fad (s := 31) (k := 105) rfl Try.underlying46 rfl (by kernel_rfl) rfl rfl) rfl ?_; (try simp only [Act.put, List.setIfInBounds_toArray, List.set_cons_zero, List.set_cons_succ])
  refine wpList_val (run_ldM (vs := m.token.map b8) rfl Try.underlying35 rfl (szR (by rw [List.length_map, k1]) (by kernel_rfl)) rfl ((E.out.get (i := 0) rfl).seg (rqR_Token l1 (by rw [List.length_map, k1])))) rfl ?_; (try simp only [Act.put, List.setIfInBounds_toArray, List.set_cons_zero, List.set_cons_succ])
  refine wpList_callR (run_call2 enters_wkey rfl rfl rfl rfl) rfl (wkey_any w p _ _ m.token _ k1 (by have h := HB.out; simp only [List.length_append] at h ⊢; omega) E.out) (fun v18 a17 hR => ?_); (try simp only [Act.put, List.setIfInBounds_toArray, List.set_cons_zero, List.set_cons_succ])
  replace E := Lib.hid hR
  clear hR
  refine wpList_end ?_
  go_upto_region 9 with fail; refine wp_region_lit ?_
  refine wpList_val (run_mv (v := .pointer (some ⟨p, 0, none⟩)) rfl rfl) rfl ?_; (try simp only [Act.put, List.setIfInBounds_toArray, List.set_cons_zero, List.set_cons_succ])
  refine wpList_val (run_fad (s := 32) (k := 137) rfl Try.underlying46 rfl (by kernel_rfl) rfl rfl) rfl ?_; (try simp only [Act.put, List.setIfInBounds_toArray, List.set_cons_zero, List.set_cons_succ])
  refine wpList_val (run_ldM (vs := pkC m.signed) rfl Try.underlying42 rfl (szR (pkC_len' k2) (by kernel_rfl)) rfl ((E.out.get (i := 0) rfl).seg (rqR_Signed l1 (by rw [List.length_map, k1]) (pkC_len' k2)))) rfl ?_; (try simp only [Act.put, List.setIfInBounds_toArray, List.set_cons_zero, List.set_cons_succ])
  refine wpList_callR (run_call2 enters_wpre rfl rfl rfl rfl) rfl (wpre_any w p _ _ m.signed _ k2 (by have h := HB.out; simp only [List.length_append] at h ⊢; omega) E.out) (fun v20 a19 hR => ?_); (try simp only [Act.put, List.setIfInBounds_toArray, List.set_cons_zero, List.set_cons_succ])
  replace E := Lib.hid hR
  clear hR
  refine wpList_end ?_
  go_upto_region 10 with fail; refine wp_region_lit ?_
  refine wpList_val (run_mv (v := .pointer (some ⟨p, 0, none⟩)) rfl rfl) rfl ?_; (try simp only [Act.put, List.setIfInBounds_toArray, List.set_cons_zero, List.set_cons_succ])
  refine wpList_val (run_fad (s := 63) (k := 170) rfl Try.underlying46 rfl (by kernel_rfl) rfl rfl) rfl ?_; (try simp only [Act.put, List.setIfInBounds_toArray, List.set_cons_zero, List.set_cons_succ])
  refine wpList_val (run_ldM (vs := m.sig.map b8) rfl Try.underlying38 rfl (szR (by rw [List.length_map, k3]) (by kernel_rfl)) rfl ((E.out.get (i := 0) rfl).seg (rqR_Sig l1 (by rw [List.length_map, k1]) (pkC_len' k2) (by rw [List.length_map, k3])))) rfl ?_; (try simp only [Act.put, List.setIfInBounds_toArray, List.set_cons_zero, List.set_cons_succ])
  refine wpList_callR (run_call2 enters_wsig rfl rfl rfl rfl) rfl (wsig_any w p _ _ m.sig _ k3 (by have h := HB.out; simp only [List.length_append] at h ⊢; omega) E.out) (fun v22 a21 hR => ?_); (try simp only [Act.put, List.setIfInBounds_toArray, List.set_cons_zero, List.set_cons_succ])
  replace E := Lib.hid hR
  clear hR
  refine wpList_end ?_
  go_upto_region 11 with fail; refine wp_region_lit ?_
  refine wpList_val (run_mv (v := .pointer (some ⟨p, 0, none⟩)) rfl rfl) rfl ?_; (try simp only [Act.put, List.setIfInBounds_toArray, List.set_cons_zero, List.set_cons_succ])
  refine wpList_val (run_fad (s := 0) (k := 234) rfl Try.underlying46 rfl (by kernel_rfl) rfl rfl) rfl ?_; (try simp only [Act.put, List.setIfInBounds_toArray, List.set_cons_zero, List.set_cons_succ])
  refine wpList_val (run_ldc rfl Try.underlying43 rfl rfl ((E.out.get (i := 0) rfl).c 234 _ (rqR_Ones l1 (by rw [List.length_map, k1]) (pkC_len' k2) (by rw [List.length_map, k3])))) rfl ?_; (try simp only [Act.put, List.setIfInBounds_toArray, List.set_cons_zero, List.set_cons_succ])
  refine wpList_callR (run_call3 enters_walP rfl rfl rfl rfl rfl) rfl (walP_any w p _ _ m.ones a0 c0 _ (by omega) K4.out F2.out (by have h := HB.out; simp only [List.length_append] at h ⊢; omega) E.out) (fun v24 a23 hR => ?_); (try simp only [Act.put, List.setIfInBounds_toArray, List.set_cons_zero, List.set_cons_succ])
  replace E := Lib.hid hR
  clear hR
  refine wpList_end ?_
  go_upto_region 12 with fail; refine wp_region_lit ?_
  refine wpList_val (run_mv (v := .pointer (some ⟨p, 0, none⟩)) rfl rfl) rfl ?_; (try simp only [Act.put, List.setIfInBounds_toArray, List.set_cons_zero, List.set_cons_succ])
  refine wpList_val (run_fad (s := 0) (k := 235) rfl Try.underlying46 rfl (by kernel_rfl) rfl rfl) rfl ?_; (try simp only [Act.put, List.setIfInBounds_toArray, List.set_cons_zero, List.set_cons_succ])
  refine wpList_val (run_ldc rfl Try.underlying3 rfl rfl ((E.out.get (i := 0) rfl).c 235 _ (rqR_Version l1 (by rw [List.length_map, k1]) (pkC_len' k2) (by rw [List.length_map, k3])))) rfl ?_; (try simp only [Act.put, List.setIfInBounds_toArray, List.set_cons_zero, List.set_cons_succ])
  refine wpList_callR (run_call2 enters_wnum rfl rfl rfl rfl) rfl (wnum_any w p _ _ (m.ver) _ (by have h := HB.out; simp only [List.length_append] at h ⊢; omega) E.out) (fun v26 a25 hR => ?_); (try simp only [Act.put, List.setIfInBounds_toArray, List.set_cons_zero, List.set_cons_succ])
  replace E := Lib.hid hR
  clear hR
  refine wpList_end ?_
  go_upto_region 13 with fail; refine wp_region_lit ?_
  refine wpList_val (run_mv (v := .pointer (some ⟨p, 0, none⟩)) rfl rfl) rfl ?_; (try simp only [Act.put, List.setIfInBounds_toArray, List.set_cons_zero, List.set_cons_succ])
  refine wpList_val (run_fad (s := 0) (k := 236) rfl Try.underlying46 rfl (by kernel_rfl) rfl rfl) rfl ?_; (try simp only [Act.put, List.setIfInBounds_toArray, List.set_cons_zero, List.set_cons_succ])
  refine wpList_val (run_ldc rfl Try.underlying44 rfl rfl ((E.out.get (i := 0) rfl).c 236 _ (rqR_Items l1 (by rw [List.length_map, k1]) (pkC_len' k2) (by rw [List.length_map, k3])))) rfl ?_; (try simp only [Act.put, List.setIfInBounds_toArray, List.set_cons_zero, List.set_cons_succ])
  refine wpList_callR (run_call3 enters_walI rfl rfl rfl rfl rfl) rfl (walI_any w p _ _ m.items a2 c2 _ (by omega) (fun p hp => ⟨K5.out p hp, HO.out p hp⟩) F3.out (by have h := HB.out; simp only [List.length_append] at h ⊢; omega) E.out) (fun v28 a27 hR => ?_); (try simp only [Act.put, List.setIfInBounds_toArray, List.set_cons_zero, List.set_cons_succ])
  replace E := Lib.hid hR
  clear hR
  refine wpList_end ?_
  have E2 := Lib.hid (E.out.drop.cast EB.out)
  go_wp2_with fail
  exact bodyPost_end (results_none Try.results40 _ _ _) rfl ⟨_, rfl, E2.out⟩
theorem enters_wrsp : Enters 68 := enters_of Try.func68 (by kernel_rfl) rfl
set_option maxHeartbeats 4000000 in
theorem wrsp_any (w : World) (p : Nat) (L : List (Nat × List Value)) (l : List (BitVec 8)) (m : MRp) (X : List Value) (u : World) (hm : m.Ok) (ho : ∀ p ∈ m.mail, -9223372036854775808 ≤ p.one) (hX : Fro 0 (rpAt m X) w) (hb : l.length + (rpB m).length ≤ 100000000000) (H : Ww w p L l u) : Calls Try.prog 68 #[.pointer (some ⟨p, 0, none⟩), .agg (X).toArray] u fun e u' => ∃ v', e = .returned v' ∧ Ww w p L (l ++ (rpB m)) u' := by
  obtain ⟨c1, c2, a0, c0, rfl, l1, l2, o1, o2, f1, f2, f3⟩ := rpAt_fix hm hX
  clear hX
  have F1 := Lib.hid f1
  have F2 := Lib.hid f2
  have F3 := Lib.hid f3
  have y1 := hm.err0
  have y2 := hm.err1
  have hls := hm.ls
  have hbu := hm.bu
  have K5 := Lib.hid hm.mail
  have n1 := hm.many
  have HO := Lib.hid ho
  clear f1 f2 f3 hm ho
  have EB : Hid (l ++ viB m.err ++ lsB m.ls ++ buB m.bu ++ alB evB m.mail = l ++ (rpB m)) := Lib.hid (by rw [rpB_al]; simp only [List.append_assoc])
  have HB : Hid ((l ++ viB m.err ++ lsB m.ls ++ buB m.bu ++ alB evB m.mail).length ≤ 100000000000) := Lib.hid (by rw [EB.out, List.length_append]; exact hb)
  have E := Lib.hid H
  clear hb H
  go_enter Try.func68, Try.ntmps68
  go_upto_region 0 with fail; refine wp_region_lit ?_
  refine wpList_val (run_boxL8 (vs := rpR (.int .u16 m.err) (c1) (c2) (.slice a0 m.mail.length c0)) rfl rfl) rfl ?_; (try simp only [Act.put, List.setIfInBounds_toArray, List.set_cons_zero, List.set_cons_succ])
  replace E := Lib.hid (E.out.new (rpR (.int .u16 m.err) (c1) (c2) (.slice a0 m.mail.length c0)) 75)
  generalize u.alloc (.cells (rpR (.int .u16 m.err) (c1) (c2) (.slice a0 m.mail.length c0)).toArray 75) = a1 at *
  generalize u.heap.size = g2 at *
  refine wpList_end ?_
  go_upto_region 1 with fail; refine wp_region_lit ?_
  refine wpList_val (run_mv (v := .pointer (some ⟨p, 0, none⟩)) rfl rfl) rfl ?_; (try simp only [Act.put, List.setIfInBounds_toArray, List.set_cons_zero, List.set_cons_succ])
  refine wpList_val (run_fad (s := 0) (k := 0) rfl Try.underlying75 rfl (by kernel_rfl) rfl rfl) rfl ?_; (try simp only [Act.put, List.setIfInBounds_toArray, List.set_cons_zero, List.set_cons_succ])
  refine wpList_val (run_ldc rfl Try.underlying28 rfl rfl ((E.out.get (i := 0) rfl).c 0 _ (rpR_Err ))) rfl ?_; (try simp only [Act.put, List.setIfInBounds_toArray, List.set_cons_zero, List.set_cons_succ])
  refine wpList_val (run_cv16i rfl rfl y1 y2) rfl ?_; (try simp only [Act.put, List.setIfInBounds_toArray, List.set_cons_zero, List.set_cons_succ])
  refine wpList_callR (run_call2 enters_wnum rfl rfl rfl rfl) rfl (wnum_any w p _ _ (m.err) _ (by have h := HB.out; simp only [List.length_append] at h ⊢; omega) E.out) (fun v4 a3 hR => ?_); (try simp only [Act.put, List.setIfInBounds_toArray, List.set_cons_zero, List.set_cons_succ])
  replace E := Lib.hid hR
  clear hR
  refine wpList_end ?_
  go_upto_region 2 with fail; refine wp_region_lit ?_
  refine wpList_val (run_mv (v := .pointer (some ⟨p, 0, none⟩)) rfl rfl) rfl ?_; (try simp only [Act.put, List.setIfInBounds_toArray, List.set_cons_zero, List.set_cons_succ])
  refine wpList_val (run_fad (s := 98) (k := 1) rfl Try.underlying75 rfl (by kernel_rfl) rfl rfl) rfl ?_; (try simp only [Act.put, List.setIfInBounds_toArray, List.set_cons_zero, List.set_cons_succ])
  refine wpList_val (run_ldM (vs := c1) rfl Try.underlying40 rfl (szR l1 (by kernel_rfl)) rfl ((E.out.get (i := 0) rfl).seg (rpR_List l1))) rfl ?_; (try simp only [Act.put, List.setIfInBounds_toArray, List.set_cons_zero, List.set_cons_succ])
  refine wpList_callR (run_call2 enters_wlst rfl rfl rfl rfl) rfl (wlst_any w p _ _ m.ls c1 _ hls F1.out (by have h := HB.out; simp only [List.length_append] at h ⊢; omega) E.out) (fun v6 a5 hR => ?_); (try simp only [Act.put, List.setIfInBounds_toArray, List.set_cons_zero, List.set_cons_succ])
  replace E := Lib.hid hR
  clear hR
  refine wpList_end ?_
  go_upto_region 3 with fail; refine wp_region_lit ?_
  refine wpList_val (run_mv (v := .pointer (some ⟨p, 0, none⟩)) rfl rfl) rfl ?_; (try simp only [Act.put, List.setIfInBounds_toArray, List.set_cons_zero, List.set_cons_succ])
  refine wpList_val (run_fad (s := 163) (k := 100) rfl Try.underlying75 rfl (by kernel_rfl) rfl rfl) rfl ?_; (try simp only [Act.put, List.setIfInBounds_toArray, List.set_cons_zero, List.set_cons_succ])
  refine wpList_val (run_ldM (vs := c2) rfl Try.underlying72 rfl (szR l2 (by kernel_rfl)) rfl ((E.out.get (i := 0) rfl).seg (rpR_Bundle l1 l2))) rfl ?_; (try simp only [Act.put, List.setIfInBounds_toArray, List.set_cons_zero, List.set_cons_succ])
  refine wpList_callR (run_call2 enters_wbun rfl rfl rfl rfl) rfl (wbun_any w p _ _ m.bu c2 _ hbu F2.out (by have h := HB.out; simp only [List.length_append] at h ⊢; omega) E.out) (fun v8 a7 hR => ?_); (try simp only [Act.put, List.setIfInBounds_toArray, List.set_cons_zero, List.set_cons_succ])
  replace E := Lib.hid hR
  clear hR
  refine wpList_end ?_
  go_upto_region 4 with fail; refine wp_region_lit ?_
  refine wpList_val (run_mv (v := .pointer (some ⟨p, 0, none⟩)) rfl rfl) rfl ?_; (try simp only [Act.put, List.setIfInBounds_toArray, List.set_cons_zero, List.set_cons_succ])
  refine wpList_val (run_fad (s := 0) (k := 264) rfl Try.underlying75 rfl (by kernel_rfl) rfl rfl) rfl ?_; (try simp only [Act.put, List.setIfInBounds_toArray, List.set_cons_zero, List.set_cons_succ])
  refine wpList_val (run_ldc rfl Try.underlying73 rfl rfl ((E.out.get (i := 0) rfl).c 264 _ (rpR_Mail l1 l2))) rfl ?_; (try simp only [Act.put, List.setIfInBounds_toArray, List.set_cons_zero, List.set_cons_succ])
  refine wpList_callR (run_call3 enters_walV rfl rfl rfl rfl rfl) rfl (walV_any w p _ _ m.mail a0 c0 _ (by omega) (fun p hp => ⟨K5.out p hp, HO.out p hp⟩) F3.out (by have h := HB.out; simp only [List.length_append] at h ⊢; omega) E.out) (fun v10 a9 hR => ?_); (try simp only [Act.put, List.setIfInBounds_toArray, List.set_cons_zero, List.set_cons_succ])
  replace E := Lib.hid hR
  clear hR
  refine wpList_end ?_
  have E2 := Lib.hid (E.out.drop.cast EB.out)
  go_wp2_with fail
  exact bodyPost_end (results_none Try.results68 _ _ _) rfl ⟨_, rfl, E2.out⟩
theorem enters_wslt : Enters 86 := enters_of Try.func86 (by kernel_rfl) rfl
set_option maxHeartbeats 4000000 in
theorem wslt_any (w : World) (p : Nat) (L : List (Nat × List Value)) (l : List (BitVec 8)) (m : MSlot) (X : List Value) (u : World) (hm : m.Ok) (ho : ∀ p ∈ m.mail, -9223372036854775808 ≤ p.one) (hX : Fro 0 (slAt m X) w) (hb : l.length + (slB m).length ≤ 100000000000) (H : Ww w p L l u) : Calls Try.prog 86 #[.pointer (some ⟨p, 0, none⟩), .agg (X).toArray] u fun e u' => ∃ v', e = .returned v' ∧ Ww w p L (l ++ (slB m)) u' := by
  obtain ⟨a0, c0, a2, c2, rfl, f1, f2⟩ := slAt_fix hm hX
  clear hX
  have F1 := Lib.hid f1
  have F2 := Lib.hid f2
  have k1 := hm.signed
  have k2 := hm.sig
  have K3 := Lib.hid hm.ones
  have K5 := Lib.hid hm.mail
  have n1 := hm.many
  have n2 := hm.much
  have HO := Lib.hid ho
  clear f1 f2 hm ho
  have EB : Hid (l ++ viB m.dev ++ pkB m.signed ++ m.sig ++ alB pkB m.ones ++ viB m.last ++ alB evB m.mail = l ++ (slB m)) := Lib.hid (by rw [slB_al]; simp only [List.append_assoc])
  have HB : Hid ((l ++ viB m.dev ++ pkB m.signed ++ m.sig ++ alB pkB m.ones ++ viB m.last ++ alB evB m.mail).length ≤ 100000000000) := Lib.hid (by rw [EB.out, List.length_append]; exact hb)
  have E := Lib.hid H
  clear hb H
  go_enter Try.func86, Try.ntmps86
  go_upto_region 0 with fail; refine wp_region_lit ?_
  refine wpList_val (run_boxL8 (vs := slR (.int .i64 m.dev) (pkC m.signed) (m.sig.map b8) (.slice a0 m.ones.length c0) (.int .i64 m.last) (.slice a2 m.mail.length c2)) rfl rfl) rfl ?_; (try simp only [Act.put, List.setIfInBounds_toArray, List.set_cons_zero, List.set_cons_succ])
  replace E := Lib.hid (E.out.new (slR (.int .i64 m.dev) (pkC m.signed) (m.sig.map b8) (.slice a0 m.ones.length c0) (.int .i64 m.last) (.slice a2 m.mail.length c2)) 103)
  generalize u.alloc (.cells (slR (.int .i64 m.dev) (pkC m.signed) (m.sig.map b8) (.slice a0 m.ones.length c0) (.int .i64 m.last) (.slice a2 m.mail.length c2)).toArray 103) = a1 at *
  generalize u.heap.size = g2 at *
  refine wpList_end ?_
  go_upto_region 1 with fail; refine wp_region_lit ?_
  refine wpList_val (run_mv (v := .pointer (some ⟨p, 0, none⟩)) rfl rfl) rfl ?_; (try simp only [Act.put, List.setIfInBounds_toArray, List.set_cons_zero, List.set_cons_succ])
  refine wpList_val (run_fad (s := 0) (k := 0) rfl Try.underlying103 rfl (by kernel_rfl) rfl rfl) rfl ?_; (try simp only [Act.put, List.setIfInBounds_toArray, List.set_cons_zero, List.set_cons_succ])
  refine wpList_val (run_ldc rfl Try.underlying3 rfl rfl ((E.out.get (i := 0) rfl).c 0 _ (slR_Device ))) rfl ?_; (try simp only [Act.put, List.setIfInBounds_toArray, List.set_cons_zero, List.set_cons_succ])
  refine wpList_callR (run_call2 enters_wnum rfl rfl rfl rfl) rfl (wnum_any w p _ _ (m.dev) _ (by have h := HB.out; simp only [List.length_append] at h ⊢; omega) E.out) (fun v4 a3 hR => ?_); (try simp only [Act.put, List.setIfInBounds_toArray, List.set_cons_zero, List.set_cons_succ])
  replace E := Lib.hid hR
  clear hR
  refine wpList_end ?_
  go_upto_region 2 with fail; refine wp_region_lit ?_
  refine wpList_val (run_mv (v := .pointer (some ⟨p, 0, none⟩)) rfl rfl) rfl ?_; (try simp only [Act.put, List.setIfInBounds_toArray, List.set_cons_zero, List.set_cons_succ])
  refine wpList_val (run_fad (s := 32) (k := 1) rfl Try.underlying103 rfl (by kernel_rfl) rfl rfl) rfl ?_; (try simp only [Act.put, List.setIfInBounds_toArray, List.set_cons_zero, List.set_cons_succ])
  refine wpList_val (run_ldM (vs := pkC m.signed) rfl Try.underlying42 rfl (szR (pkC_len' k1) (by kernel_rfl)) rfl ((E.out.get (i := 0) rfl).seg (slR_Signed (pkC_len' k1)))) rfl ?_; (try simp only [Act.put, List.setIfInBounds_toArray, List.set_cons_zero, List.set_cons_succ])
  refine wpList_callR (run_call2 enters_wpre rfl rfl rfl rfl) rfl (wpre_any w p _ _ m.signed _ k1 (by have h := HB.out; simp only [List.length_append] at h ⊢; omega) E.out) (fun v6 a5 hR => ?_); (try simp only [Act.put, List.setIfInBounds_toArray, List.set_cons_zero, List.set_cons_succ])
  replace E := Lib.hid hR
  clear hR
  refine wpList_end ?_
  go_upto_region 3 with fail; refine wp_region_lit ?_
  refine wpList_val (run_mv (v := .pointer (some ⟨p, 0, none⟩)) rfl rfl) rfl ?_; (try simp only [Act.put, List.setIfInBounds_toArray, List.set_cons_zero, List.set_cons_succ])
  refine wpList_val (run_fad (s := 63) (k := 34) rfl Try.underlying103 rfl (by kernel_rfl) rfl rfl) rfl ?_; (try simp only [Act.put, List.setIfInBounds_toArray, List.set_cons_zero, List.set_cons_succ])
  refine wpList_val (run_ldM (vs := m.sig.map b8) rfl Try.underlying38 rfl (szR (by rw [List.length_map, k2]) (by kernel_rfl)) rfl ((E.out.get (i := 0) rfl).seg (slR_Sig (pkC_len' k1) (by rw [List.length_map, k2])))) rfl ?_; (try simp only [Act.put, List.setIfInBounds_toArray, List.set_cons_zero, List.set_cons_succ])
  refine wpList_callR (run_call2 enters_wsig rfl rfl rfl rfl) rfl (wsig_any w p _ _ m.sig _ k2 (by have h := HB.out; simp only [List.length_append] at h ⊢; omega) E.out) (fun v8 a7 hR => ?_); (try simp only [Act.put, List.setIfInBounds_toArray, List.set_cons_zero, List.set_cons_succ])
  replace E := Lib.hid hR
  clear hR
  refine wpList_end ?_
  go_upto_region 4 with fail; refine wp_region_lit ?_
  refine wpList_val (run_mv (v := .pointer (some ⟨p, 0, none⟩)) rfl rfl) rfl ?_; (try simp only [Act.put, List.setIfInBounds_toArray, List.set_cons_zero, List.set_cons_succ])
  refine wpList_val (run_fad (s := 0) (k := 98) rfl Try.underlying103 rfl (by kernel_rfl) rfl rfl) rfl ?_; (try simp only [Act.put, List.setIfInBounds_toArray, List.set_cons_zero, List.set_cons_succ])
  refine wpList_val (run_ldc rfl Try.underlying43 rfl rfl ((E.out.get (i := 0) rfl).c 98 _ (slR_Ones (pkC_len' k1) (by rw [List.length_map, k2])))) rfl ?_; (try simp only [Act.put, List.setIfInBounds_toArray, List.set_cons_zero, List.set_cons_succ])
  refine wpList_callR (run_call3 enters_walP rfl rfl rfl rfl rfl) rfl (walP_any w p _ _ m.ones a0 c0 _ (by omega) K3.out F1.out (by have h := HB.out; simp only [List.length_append] at h ⊢; omega) E.out) (fun v10 a9 hR => ?_); (try simp only [Act.put, List.setIfInBounds_toArray, List.set_cons_zero, List.set_cons_succ])
  replace E := Lib.hid hR
  clear hR
  refine wpList_end ?_
  go_upto_region 5 with fail; refine wp_region_lit ?_
  refine wpList_val (run_mv (v := .pointer (some ⟨p, 0, none⟩)) rfl rfl) rfl ?_; (try simp only [Act.put, List.setIfInBounds_toArray, List.set_cons_zero, List.set_cons_succ])
  refine wpList_val (run_fad (s := 0) (k := 99) rfl Try.underlying103 rfl (by kernel_rfl) rfl rfl) rfl ?_; (try simp only [Act.put, List.setIfInBounds_toArray, List.set_cons_zero, List.set_cons_succ])
  refine wpList_val (run_ldc rfl Try.underlying3 rfl rfl ((E.out.get (i := 0) rfl).c 99 _ (slR_Last (pkC_len' k1) (by rw [List.length_map, k2])))) rfl ?_; (try simp only [Act.put, List.setIfInBounds_toArray, List.set_cons_zero, List.set_cons_succ])
  refine wpList_callR (run_call2 enters_wnum rfl rfl rfl rfl) rfl (wnum_any w p _ _ (m.last) _ (by have h := HB.out; simp only [List.length_append] at h ⊢; omega) E.out) (fun v12 a11 hR => ?_); (try simp only [Act.put, List.setIfInBounds_toArray, List.set_cons_zero, List.set_cons_succ])
  replace E := Lib.hid hR
  clear hR
  refine wpList_end ?_
  go_upto_region 6 with fail; refine wp_region_lit ?_
  refine wpList_val (run_mv (v := .pointer (some ⟨p, 0, none⟩)) rfl rfl) rfl ?_; (try simp only [Act.put, List.setIfInBounds_toArray, List.set_cons_zero, List.set_cons_succ])
  refine wpList_val (run_fad (s := 0) (k := 100) rfl Try.underlying103 rfl (by kernel_rfl) rfl rfl) rfl ?_; (try simp only [Act.put, List.setIfInBounds_toArray, List.set_cons_zero, List.set_cons_succ])
  refine wpList_val (run_ldc rfl Try.underlying73 rfl rfl ((E.out.get (i := 0) rfl).c 100 _ (slR_Mail (pkC_len' k1) (by rw [List.length_map, k2])))) rfl ?_; (try simp only [Act.put, List.setIfInBounds_toArray, List.set_cons_zero, List.set_cons_succ])
  refine wpList_callR (run_call3 enters_walV rfl rfl rfl rfl rfl) rfl (walV_any w p _ _ m.mail a2 c2 _ (by omega) (fun p hp => ⟨K5.out p hp, HO.out p hp⟩) F2.out (by have h := HB.out; simp only [List.length_append] at h ⊢; omega) E.out) (fun v14 a13 hR => ?_); (try simp only [Act.put, List.setIfInBounds_toArray, List.set_cons_zero, List.set_cons_succ])
  replace E := Lib.hid hR
  clear hR
  refine wpList_end ?_
  have E2 := Lib.hid (E.out.drop.cast EB.out)
  go_wp2_with fail
  exact bodyPost_end (results_none Try.results86 _ _ _) rfl ⟨_, rfl, E2.out⟩
theorem enters_walS : Enters 85 := enters_of Try.func85 (by kernel_rfl) rfl
set_option maxHeartbeats 4000000 in
theorem walS_any (w : World) (p : Nat) (L : List (Nat × List Value)) (l : List (BitVec 8)) (ms : List MSlot) (a : Option Addr) (c : Nat) (u : World) (hn : ms.length ≤ 100000000000) (hp : ∀ p ∈ ms, p.Ok ∧ ∀ q ∈ p.mail, -9223372036854775808 ≤ q.one) (hX : Fro 0 (SlR 101 slAt ms a c) w) (hb : l.length + (alB slB ms).length ≤ 100000000000) (H : Ww w p L l u) : Calls Try.prog 85 #[.pointer (some ⟨p, 0, none⟩), .slice a ms.length c, .func (.func 86) #[] #[]] u fun e u' => ∃ v', e = .returned v' ∧ Ww w p L (l ++ (alB slB ms)) u' := by
  have HE : Hid (∀ i, i < ms.length → ∃ g f cs x, a = some ⟨g, f, none⟩ ∧ alF slB ms (i + 1) = alF slB ms i ++ x ∧ (cs : List Value).length = 101 ∧ One cs ∧ (∀ u, Below w.heap.size w u → u.rangeAt g (f + i * 101) cs) ∧ (∀ (u : World) (L : List (Nat × List Value)) (y : List (BitVec 8)), y = l ++ alF slB ms i → Ww w p L y u → Calls Try.prog 86 #[.pointer (some ⟨p, 0, none⟩), .agg cs.toArray] u fun e u' => ∃ v', e = .returned v' ∧ Ww w p L (y ++ x) u')) := Lib.hid fun i hi => by
    obtain ⟨g, f, cs, h1, h2, h3, h4, h5⟩ := slR_get hX hi
    have hk := hp _ (List.getElem_mem hi)
    have hle := alF_le slB ms hi
    obtain ⟨q1, q2, q3, q4, e, -⟩ := slAt_fix hk.1 h5
    have hone : One cs := by rw [e]; exact slR_one rfl (pkC_one hk.1.signed) (One.b8 _) rfl rfl rfl
    exact ⟨g, f, cs, slB ms[i], h1, alF_succ hi, h3, hone, fun u hu => rangeAt_below h4 h2 hu, fun u L y hy H => wslt_any w p L y ms[i] cs u hk.1 hk.2 h5 (by rw [hy, List.length_append]; omega) H⟩
  have E0 : Hid (viB (ms.length : Int) = alF slB ms 0) := Lib.hid (alF_zero _ _)
  have EO : Hid (alF slB ms ms.length = alB slB ms) := Lib.hid (alF_all _ _)
  have HB : Hid (l.length + (viB (ms.length : Int)).length ≤ 100000000000) := Lib.hid (by have h := alF_head slB ms; omega)
  have E := Lib.hid H
  clear hb H hX hp
  obtain ⟨Gf, hGf⟩ : ∃ Gf, Gf = alF slB ms := ⟨_, rfl⟩
  rw [← hGf] at HE E0 EO
  clear hGf
  generalize alB slB ms = out at *
  generalize ms.length = n at *
  go_enter Try.func85, Try.ntmps85
  go_upto_region 0 with fail; refine wp_region_lit ?_
  refine wpList_val (run_mv (v := .pointer (some ⟨p, 0, none⟩)) rfl rfl) rfl ?_; (try simp only [Act.put, List.setIfInBounds_toArray, List.set_cons_zero, List.set_cons_succ])
  refine wpList_val (run_mv (v := .slice a n c) rfl rfl) rfl ?_; (try simp only [Act.put, List.setIfInBounds_toArray, List.set_cons_zero, List.set_cons_succ])
  refine wpList_val (run_len rfl Try.underlying49 rfl) rfl ?_; (try simp only [Act.put, List.setIfInBounds_toArray, List.set_cons_zero, List.set_cons_succ])
  refine wpList_callR (run_call2 enters_wnum rfl rfl rfl rfl) rfl (wnum_any w p L l (n : Int) u HB.out E.out) (fun v1 a1 hR => ?_); (try simp only [Act.put, List.setIfInBounds_toArray, List.set_cons_zero, List.set_cons_succ])
  replace E := Lib.hid hR
  clear hR
  rw [E0.out] at E
  refine wpList_end ?_
  go_upto_region 1 with fail; refine wp_region_lit ?_
  refine wpList_val (run_mv (v := .slice a n c) rfl rfl) rfl ?_; (try simp only [Act.put, List.setIfInBounds_toArray, List.set_cons_zero, List.set_cons_succ])
  refine wpList_val (run_len rfl Try.underlying49 rfl) rfl ?_; (try simp only [Act.put, List.setIfInBounds_toArray, List.set_cons_zero, List.set_cons_succ])
  refine wpList_val (run_mv (v := .int .i64 0) rfl rfl) rfl ?_; (try simp only [Act.put, List.setIfInBounds_toArray, List.set_cons_zero, List.set_cons_succ])
  refine wpList_end ?_
  go_wp2_with fail
  go_loopw [14] (fun s14 u => ∃ i : Nat, i ≤ n ∧ s14 = .int .i64 (i : Int) ∧ Ww w p L (l ++ Gf i) u) (fun s14 _ => ((n : Int) - intOf s14).toNat)
  case atStart => exact ⟨0, by omega, rfl, E.out⟩
  case round =>
    obtain ⟨i, hi, rfl, hJ⟩ := hrel
    replace E := Lib.hid hJ
    clear hJ
    by_cases hik : i = n
    · subst hik
      replace E := Lib.hid (E.out.cast (show _ = l ++ out by rw [EO.out]))
      go_upto_region 2 with fail; refine wp_region_lit ?_
      refine wpList_val (run_lssb (c := false) rfl rfl rfl (decide_eq_false (by omega))) rfl ?_; (try simp only [Act.put, List.setIfInBounds_toArray, List.set_cons_zero, List.set_cons_succ])
      refine wpList_end ?_
      go_wp2_with fail
      exact bodyPost_end (results_none Try.results85 _ _ _) rfl ⟨_, rfl, E.out⟩
    · obtain ⟨g, f, cs, x, rfl, hx, hz, hone, hr, hc⟩ := HE.out i (by omega)
      have HX := Lib.hid hx
      have HR1 := Lib.hid hr
      have HC1 := Lib.hid hc
      have HO1 := Lib.hid hone
      clear hx hr hc hone
      go_upto_region 2 with fail; refine wp_region_lit ?_
      refine wpList_val (run_lssb (c := true) rfl rfl rfl (decide_eq_true (by omega))) rfl ?_; (try simp only [Act.put, List.setIfInBounds_toArray, List.set_cons_zero, List.set_cons_succ])
      refine wpList_end ?_
      go_upto_region 3 with fail; refine wp_region_lit ?_
      refine wpList_val (run_ixZ (z := 101) (i := i) rfl Try.underlying49 (by kernel_rfl) rfl rfl (by omega)) rfl ?_; (try simp only [Act.put, List.setIfInBounds_toArray, List.set_cons_zero, List.set_cons_succ])
      refine wpList_val (run_ldM (vs := cs) rfl Try.underlying103 rfl (szR hz (by kernel_rfl)) rfl (HR1.out _ E.out.bl)) rfl ?_; (try simp only [Act.put, List.setIfInBounds_toArray, List.set_cons_zero, List.set_cons_succ])
      refine wpList_val (run_alc (vs := slR ((.int .i64 0)) (pkR ((.int .i64 0)) (z8 32)) (z8 64) ((.slice none 0 0)) ((.int .i64 0)) ((.slice none 0 0))) rfl (by kernel_rfl)) rfl ?_; (try simp only [Act.put, List.setIfInBounds_toArray, List.set_cons_zero, List.set_cons_succ])
      replace E := Lib.hid (E.out.new (slR ((.int .i64 0)) (pkR ((.int .i64 0)) (z8 32)) (z8 64) ((.slice none 0 0)) ((.int .i64 0)) ((.slice none 0 0))) 103)
      generalize wr.alloc (.cells (slR ((.int .i64 0)) (pkR ((.int .i64 0)) (z8 32)) (z8 64) ((.slice none 0 0)) ((.int .i64 0)) ((.slice none 0 0))).toArray 103) = a1 at *
      generalize wr.heap.size = g1 at *
      refine wpList_skip (run_stM (vs := cs) rfl (szR hz (by kernel_rfl)) rfl rfl (One.all HO1.out) ((E.out.get (i := 0) rfl).thereM (by have q2 : (slR ((.int .i64 0)) (pkR ((.int .i64 0)) (z8 32)) (z8 64) ((.slice none 0 0)) ((.int .i64 0)) ((.slice none 0 0))).length = 101 := (slR_len (pkR_len (z8_len' 32)) (z8_len' 64)); omega))) rfl rfl ?_
      replace E := Lib.hid (E.out.put 0 rfl (m' := cs) (hz.trans (show (slR ((.int .i64 0)) (pkR ((.int .i64 0)) (z8 32)) (z8 64) ((.slice none 0 0)) ((.int .i64 0)) ((.slice none 0 0))).length = 101 from (slR_len (pkR_len (z8_len' 32)) (z8_len' 64))).symm))
      replace E := Lib.hid (show Ww w p ((g1, cs) :: L) _ _ from E.out)
      generalize a1.setCells g1 0 cs = a2 at *
      refine wpList_end ?_
      go_upto_region 4 with fail; refine wp_region_lit ?_
      refine wpList_val (run_mv (v := .func (.func 86) #[] #[]) rfl rfl) rfl ?_; (try simp only [Act.put, List.setIfInBounds_toArray, List.set_cons_zero, List.set_cons_succ])
      refine wpList_val (run_mv (v := .pointer (some ⟨p, 0, none⟩)) rfl rfl) rfl ?_; (try simp only [Act.put, List.setIfInBounds_toArray, List.set_cons_zero, List.set_cons_succ])
      refine wpList_val (run_ldM (vs := cs) rfl Try.underlying103 rfl (szR hz (by kernel_rfl)) rfl (E.out.get (i := 0) rfl).range) rfl ?_; (try simp only [Act.put, List.setIfInBounds_toArray, List.set_cons_zero, List.set_cons_succ])
      refine wpList_callR (run_callv2 enters_wslt rfl rfl rfl rfl) rfl (HC1.out _ _ _ rfl E.out) (fun v3 a3 hR => ?_); (try simp only [Act.put, List.setIfInBounds_toArray, List.set_cons_zero, List.set_cons_succ])
      replace E := Lib.hid (hR.drop.cast (show _ = l ++ Gf (i + 1) by rw [HX.out, List.append_assoc]))
      clear hR
      refine wpList_end ?_
      go_upto_region 5 with fail; refine wp_region_lit ?_
      refine wpList_val (run_addN (a := i) (b := 1) rfl rfl rfl (by omega)) rfl ?_; (try simp only [Act.put, List.setIfInBounds_toArray, List.set_cons_zero, List.set_cons_succ])
      refine wpList_val (run_mv (v := .int .i64 ((i + 1 : Nat) : Int)) rfl rfl) rfl ?_; (try simp only [Act.put, List.setIfInBounds_toArray, List.set_cons_zero, List.set_cons_succ])
      refine wpList_end ?_
      go_wp2_with fail
      exact ⟨⟨i + 1, by omega, rfl, E.out⟩, by simp [intOf]; omega⟩
theorem enters_walK : Enters 87 := enters_of Try.func87 (by kernel_rfl) rfl
set_option maxHeartbeats 4000000 in
theorem walK_any (w : World) (p : Nat) (L : List (Nat × List Value)) (l : List (BitVec 8)) (ms : List (List (BitVec 8))) (a : Option Addr) (c : Nat) (u : World) (hn : ms.length ≤ 100000000000) (hp : ∀ p ∈ ms, p.length = 32) (hX : Fro 0 (SlR 32 tkAt ms a c) w) (hb : l.length + (alB (fun k => k) ms).length ≤ 100000000000) (H : Ww w p L l u) : Calls Try.prog 87 #[.pointer (some ⟨p, 0, none⟩), .slice a ms.length c, .func (.func 79) #[] #[]] u fun e u' => ∃ v', e = .returned v' ∧ Ww w p L (l ++ (alB (fun k => k) ms)) u' := by
  have HE : Hid (∀ i, i < ms.length → ∃ g f cs x, a = some ⟨g, f, none⟩ ∧ alF (fun k => k) ms (i + 1) = alF (fun k => k) ms i ++ x ∧ (cs : List Value).length = 32 ∧ One cs ∧ (∀ u, Below w.heap.size w u → u.rangeAt g (f + i * 32) cs) ∧ (∀ (u : World) (L : List (Nat × List Value)) (y : List (BitVec 8)), y = l ++ alF (fun k => k) ms i → Ww w p L y u → Calls Try.prog 79 #[.pointer (some ⟨p, 0, none⟩), .agg cs.toArray] u fun e u' => ∃ v', e = .returned v' ∧ Ww w p L (y ++ x) u')) := Lib.hid fun i hi => by
    obtain ⟨g, f, cs, h1, h2, h3, h4, h5⟩ := slR_get hX hi
    have hk := hp _ (List.getElem_mem hi)
    have hle := alF_le (fun k => k) ms hi
    have e : cs = ms[i].map b8 := h5.now
    have hone : One cs := by rw [e]; exact One.b8 _
    exact ⟨g, f, cs, ms[i], h1, alF_succ hi, h3, hone, fun u hu => rangeAt_below h4 h2 hu, fun u L y hy H => by rw [e]; exact wkey_any w p L y ms[i] u hk (by rw [hy, List.length_append]; omega) H⟩
  have E0 : Hid (viB (ms.length : Int) = alF (fun k => k) ms 0) := Lib.hid (alF_zero _ _)
  have EO : Hid (alF (fun k => k) ms ms.length = alB (fun k => k) ms) := Lib.hid (alF_all _ _)
  have HB : Hid (l.length + (viB (ms.length : Int)).length ≤ 100000000000) := Lib.hid (by have h := alF_head (fun k => k) ms; omega)
  have E := Lib.hid H
  clear hb H hX hp
  obtain ⟨Gf, hGf⟩ : ∃ Gf, Gf = alF (fun k => k) ms := ⟨_, rfl⟩
  rw [← hGf] at HE E0 EO
  clear hGf
  generalize alB (fun k => k) ms = out at *
  generalize ms.length = n at *
  go_enter Try.func87, Try.ntmps87
  go_upto_region 0 with fail; refine wp_region_lit ?_
  refine wpList_val (run_mv (v := .pointer (some ⟨p, 0, none⟩)) rfl rfl) rfl ?_; (try simp only [Act.put, List.setIfInBounds_toArray, List.set_cons_zero, List.set_cons_succ])
  refine wpList_val (run_mv (v := .slice a n c) rfl rfl) rfl ?_; (try simp only [Act.put, List.setIfInBounds_toArray, List.set_cons_zero, List.set_cons_succ])
  refine wpList_val (run_len rfl Try.underlying50 rfl) rfl ?_; (try simp only [Act.put, List.setIfInBounds_toArray, List.set_cons_zero, List.set_cons_succ])
  refine wpList_callR (run_call2 enters_wnum rfl rfl rfl rfl) rfl (wnum_any w p L l (n : Int) u HB.out E.out) (fun v1 a1 hR => ?_); (try simp only [Act.put, List.setIfInBounds_toArray, List.set_cons_zero, List.set_cons_succ])
  replace E := Lib.hid hR
  clear hR
  rw [E0.out] at E
  refine wpList_end ?_
  go_upto_region 1 with fail; refine wp_region_lit ?_
  refine wpList_val (run_mv (v := .slice a n c) rfl rfl) rfl ?_; (try simp only [Act.put, List.setIfInBounds_toArray, List.set_cons_zero, List.set_cons_succ])
  refine wpList_val (run_len rfl Try.underlying50 rfl) rfl ?_; (try simp only [Act.put, List.setIfInBounds_toArray, List.set_cons_zero, List.set_cons_succ])
  refine wpList_val (run_mv (v := .int .i64 0) rfl rfl) rfl ?_; (try simp only [Act.put, List.setIfInBounds_toArray, List.set_cons_zero, List.set_cons_succ])
  refine wpList_end ?_
  go_wp2_with fail
  go_loopw [14] (fun s14 u => ∃ i : Nat, i ≤ n ∧ s14 = .int .i64 (i : Int) ∧ Ww w p L (l ++ Gf i) u) (fun s14 _ => ((n : Int) - intOf s14).toNat)
  case atStart => exact ⟨0, by omega, rfl, E.out⟩
  case round =>
    obtain ⟨i, hi, rfl, hJ⟩ := hrel
    replace E := Lib.hid hJ
    clear hJ
    by_cases hik : i = n
    · subst hik
      replace E := Lib.hid (E.out.cast (show _ = l ++ out by rw [EO.out]))
      go_upto_region 2 with fail; refine wp_region_lit ?_
      refine wpList_val (run_lssb (c := false) rfl rfl rfl (decide_eq_false (by omega))) rfl ?_; (try simp only [Act.put, List.setIfInBounds_toArray, List.set_cons_zero, List.set_cons_succ])
      refine wpList_end ?_
      go_wp2_with fail
      exact bodyPost_end (results_none Try.results87 _ _ _) rfl ⟨_, rfl, E.out⟩
    · obtain ⟨g, f, cs, x, rfl, hx, hz, hone, hr, hc⟩ := HE.out i (by omega)
      have HX := Lib.hid hx
      have HR1 := Lib.hid hr
      have HC1 := Lib.hid hc
      have HO1 := Lib.hid hone
      clear hx hr hc hone
      go_upto_region 2 with fail; refine wp_region_lit ?_
      refine wpList_val (run_lssb (c := true) rfl rfl rfl (decide_eq_true (by omega))) rfl ?_; (try simp only [Act.put, List.setIfInBounds_toArray, List.set_cons_zero, List.set_cons_succ])
      refine wpList_end ?_
      go_upto_region 3 with fail; refine wp_region_lit ?_
      refine wpList_val (run_ixZ (z := 32) (i := i) rfl Try.underlying50 (by kernel_rfl) rfl rfl (by omega)) rfl ?_; (try simp only [Act.put, List.setIfInBounds_toArray, List.set_cons_zero, List.set_cons_succ])
      refine wpList_val (run_ldM (vs := cs) rfl Try.underlying35 rfl (szR hz (by kernel_rfl)) rfl (HR1.out _ E.out.bl)) rfl ?_; (try simp only [Act.put, List.setIfInBounds_toArray, List.set_cons_zero, List.set_cons_succ])
      refine wpList_val (run_alc (vs := z8 32) rfl (by kernel_rfl)) rfl ?_; (try simp only [Act.put, List.setIfInBounds_toArray, List.set_cons_zero, List.set_cons_succ])
      replace E := Lib.hid (E.out.new (z8 32) 35)
      generalize wr.alloc (.cells (z8 32).toArray 35) = a1 at *
      generalize wr.heap.size = g1 at *
      refine wpList_skip (run_stM (vs := cs) rfl (szR hz (by kernel_rfl)) rfl rfl (One.all HO1.out) ((E.out.get (i := 0) rfl).thereM (by have q2 : (z8 32).length = 32 := (z8_len' 32); omega))) rfl rfl ?_
      replace E := Lib.hid (E.out.put 0 rfl (m' := cs) (hz.trans (show (z8 32).length = 32 from (z8_len' 32)).symm))
      replace E := Lib.hid (show Ww w p ((g1, cs) :: L) _ _ from E.out)
      generalize a1.setCells g1 0 cs = a2 at *
      refine wpList_end ?_
      go_upto_region 4 with fail; refine wp_region_lit ?_
      refine wpList_val (run_mv (v := .func (.func 79) #[] #[]) rfl rfl) rfl ?_; (try simp only [Act.put, List.setIfInBounds_toArray, List.set_cons_zero, List.set_cons_succ])
      refine wpList_val (run_mv (v := .pointer (some ⟨p, 0, none⟩)) rfl rfl) rfl ?_; (try simp only [Act.put, List.setIfInBounds_toArray, List.set_cons_zero, List.set_cons_succ])
      refine wpList_val (run_ldM (vs := cs) rfl Try.underlying35 rfl (szR hz (by kernel_rfl)) rfl (E.out.get (i := 0) rfl).range) rfl ?_; (try simp only [Act.put, List.setIfInBounds_toArray, List.set_cons_zero, List.set_cons_succ])
      refine wpList_callR (run_callv2 enters_wkey rfl rfl rfl rfl) rfl (HC1.out _ _ _ rfl E.out) (fun v3 a3 hR => ?_); (try simp only [Act.put, List.setIfInBounds_toArray, List.set_cons_zero, List.set_cons_succ])
      replace E := Lib.hid (hR.drop.cast (show _ = l ++ Gf (i + 1) by rw [HX.out, List.append_assoc]))
      clear hR
      refine wpList_end ?_
      go_upto_region 5 with fail; refine wp_region_lit ?_
      refine wpList_val (run_addN (a := i) (b := 1) rfl rfl rfl (by omega)) rfl ?_; (try simp only [Act.put, List.setIfInBounds_toArray, List.set_cons_zero, List.set_cons_succ])
      refine wpList_val (run_mv (v := .int .i64 ((i + 1 : Nat) : Int)) rfl rfl) rfl ?_; (try simp only [Act.put, List.setIfInBounds_toArray, List.set_cons_zero, List.set_cons_succ])
      refine wpList_end ?_
      go_wp2_with fail
      exact ⟨⟨i + 1, by omega, rfl, E.out⟩, by simp [intOf]; omega⟩
theorem enters_wacc : Enters 46 := enters_of Try.func46 (by kernel_rfl) rfl
set_option maxHeartbeats 4000000 in
theorem wacc_any (w : World) (p : Nat) (L : List (Nat × List Value)) (l : List (BitVec 8)) (m : MAc) (X : List Value) (u : World) (hm : m.Ok) (ho : ∀ s ∈ m.slots, ∀ p ∈ s.mail, -9223372036854775808 ≤ p.one) (hX : Fro 0 (acAt m X) w) (hb : l.length + (acB m).length ≤ 100000000000) (H : Ww w p L l u) : Calls Try.prog 46 #[.pointer (some ⟨p, 0, none⟩), .agg (X).toArray] u fun e u' => ∃ v', e = .returned v' ∧ Ww w p L (l ++ (acB m)) u' := by
  obtain ⟨c1, a0, c0, a2, c2, rfl, l1, o1, f1, f2, f3⟩ := acAt_fix hm hX
  clear hX
  have F1 := Lib.hid f1
  have F2 := Lib.hid f2
  have F3 := Lib.hid f3
  have hls := hm.ls
  have K4 := Lib.hid hm.slots
  have K5 := Lib.hid hm.tokens
  have n1 := hm.many
  have n2 := hm.much
  have HO := Lib.hid ho
  clear f1 f2 f3 hm ho
  have EB : Hid (l ++ viB m.id ++ txB m.pin ++ viB m.wrong ++ viB m.till ++ lsB m.ls ++ alB slB m.slots ++ alB (fun k => k) m.tokens = l ++ (acB m)) := Lib.hid (by rw [acB_al]; simp only [List.append_assoc])
  have HB : Hid ((l ++ viB m.id ++ txB m.pin ++ viB m.wrong ++ viB m.till ++ lsB m.ls ++ alB slB m.slots ++ alB (fun k => k) m.tokens).length ≤ 100000000000) := Lib.hid (by rw [EB.out, List.length_append]; exact hb)
  have E := Lib.hid H
  clear hb H
  go_enter Try.func46, Try.ntmps46
  go_upto_region 0 with fail; refine wp_region_lit ?_
  refine wpList_val (run_boxL8 (vs := acR (.int .i64 m.id) (.string (strOf m.pin)) (.int .i64 m.wrong) (.int .i64 m.till) (c1) (.slice a0 m.slots.length c0) (.slice a2 m.tokens.length c2)) rfl rfl) rfl ?_; (try simp only [Act.put, List.setIfInBounds_toArray, List.set_cons_zero, List.set_cons_succ])
  replace E := Lib.hid (E.out.new (acR (.int .i64 m.id) (.string (strOf m.pin)) (.int .i64 m.wrong) (.int .i64 m.till) (c1) (.slice a0 m.slots.length c0) (.slice a2 m.tokens.length c2)) 52)
  generalize u.alloc (.cells (acR (.int .i64 m.id) (.string (strOf m.pin)) (.int .i64 m.wrong) (.int .i64 m.till) (c1) (.slice a0 m.slots.length c0) (.slice a2 m.tokens.length c2)).toArray 52) = a1 at *
  generalize u.heap.size = g2 at *
  refine wpList_end ?_
  go_upto_region 1 with fail; refine wp_region_lit ?_
  refine wpList_val (run_mv (v := .pointer (some ⟨p, 0, none⟩)) rfl rfl) rfl ?_; (try simp only [Act.put, List.setIfInBounds_toArray, List.set_cons_zero, List.set_cons_succ])
  refine wpList_val (run_fad (s := 0) (k := 0) rfl Try.underlying52 rfl (by kernel_rfl) rfl rfl) rfl ?_; (try simp only [Act.put, List.setIfInBounds_toArray, List.set_cons_zero, List.set_cons_succ])
  refine wpList_val (run_ldc rfl Try.underlying3 rfl rfl ((E.out.get (i := 0) rfl).c 0 _ (acR_ID ))) rfl ?_; (try simp only [Act.put, List.setIfInBounds_toArray, List.set_cons_zero, List.set_cons_succ])
  refine wpList_callR (run_call2 enters_wnum rfl rfl rfl rfl) rfl (wnum_any w p _ _ (m.id) _ (by have h := HB.out; simp only [List.length_append] at h ⊢; omega) E.out) (fun v4 a3 hR => ?_); (try simp only [Act.put, List.setIfInBounds_toArray, List.set_cons_zero, List.set_cons_succ])
  replace E := Lib.hid hR
  clear hR
  refine wpList_end ?_
  go_upto_region 2 with fail; refine wp_region_lit ?_
  refine wpList_val (run_mv (v := .pointer (some ⟨p, 0, none⟩)) rfl rfl) rfl ?_; (try simp only [Act.put, List.setIfInBounds_toArray, List.set_cons_zero, List.set_cons_succ])
  refine wpList_val (run_fad (s := 0) (k := 1) rfl Try.underlying52 rfl (by kernel_rfl) rfl rfl) rfl ?_; (try simp only [Act.put, List.setIfInBounds_toArray, List.set_cons_zero, List.set_cons_succ])
  refine wpList_val (run_ldc rfl Try.underlying9 rfl rfl ((E.out.get (i := 0) rfl).c 1 _ (acR_Pin ))) rfl ?_; (try simp only [Act.put, List.setIfInBounds_toArray, List.set_cons_zero, List.set_cons_succ])
  refine wpList_callR (run_call2 enters_wtxt rfl rfl rfl rfl) rfl (wtxt_any w p _ _ (m.pin) _ (by have h := HB.out; simp only [List.length_append] at h ⊢; omega) E.out) (fun v6 a5 hR => ?_); (try simp only [Act.put, List.setIfInBounds_toArray, List.set_cons_zero, List.set_cons_succ])
  replace E := Lib.hid hR
  clear hR
  refine wpList_end ?_
  go_upto_region 3 with fail; refine wp_region_lit ?_
  refine wpList_val (run_mv (v := .pointer (some ⟨p, 0, none⟩)) rfl rfl) rfl ?_; (try simp only [Act.put, List.setIfInBounds_toArray, List.set_cons_zero, List.set_cons_succ])
  refine wpList_val (run_fad (s := 0) (k := 2) rfl Try.underlying52 rfl (by kernel_rfl) rfl rfl) rfl ?_; (try simp only [Act.put, List.setIfInBounds_toArray, List.set_cons_zero, List.set_cons_succ])
  refine wpList_val (run_ldc rfl Try.underlying3 rfl rfl ((E.out.get (i := 0) rfl).c 2 _ (acR_Wrong ))) rfl ?_; (try simp only [Act.put, List.setIfInBounds_toArray, List.set_cons_zero, List.set_cons_succ])
  refine wpList_callR (run_call2 enters_wnum rfl rfl rfl rfl) rfl (wnum_any w p _ _ (m.wrong) _ (by have h := HB.out; simp only [List.length_append] at h ⊢; omega) E.out) (fun v8 a7 hR => ?_); (try simp only [Act.put, List.setIfInBounds_toArray, List.set_cons_zero, List.set_cons_succ])
  replace E := Lib.hid hR
  clear hR
  refine wpList_end ?_
  go_upto_region 4 with fail; refine wp_region_lit ?_
  refine wpList_val (run_mv (v := .pointer (some ⟨p, 0, none⟩)) rfl rfl) rfl ?_; (try simp only [Act.put, List.setIfInBounds_toArray, List.set_cons_zero, List.set_cons_succ])
  refine wpList_val (run_fad (s := 0) (k := 3) rfl Try.underlying52 rfl (by kernel_rfl) rfl rfl) rfl ?_; (try simp only [Act.put, List.setIfInBounds_toArray, List.set_cons_zero, List.set_cons_succ])
  refine wpList_val (run_ldc rfl Try.underlying3 rfl rfl ((E.out.get (i := 0) rfl).c 3 _ (acR_Until ))) rfl ?_; (try simp only [Act.put, List.setIfInBounds_toArray, List.set_cons_zero, List.set_cons_succ])
  refine wpList_callR (run_call2 enters_wnum rfl rfl rfl rfl) rfl (wnum_any w p _ _ (m.till) _ (by have h := HB.out; simp only [List.length_append] at h ⊢; omega) E.out) (fun v10 a9 hR => ?_); (try simp only [Act.put, List.setIfInBounds_toArray, List.set_cons_zero, List.set_cons_succ])
  replace E := Lib.hid hR
  clear hR
  refine wpList_end ?_
  go_upto_region 5 with fail; refine wp_region_lit ?_
  refine wpList_val (run_mv (v := .pointer (some ⟨p, 0, none⟩)) rfl rfl) rfl ?_; (try simp only [Act.put, List.setIfInBounds_toArray, List.set_cons_zero, List.set_cons_succ])
  refine wpList_val (run_fad (s := 98) (k := 4) rfl Try.underlying52 rfl (by kernel_rfl) rfl rfl) rfl ?_; (try simp only [Act.put, List.setIfInBounds_toArray, List.set_cons_zero, List.set_cons_succ])
  refine wpList_val (run_ldM (vs := c1) rfl Try.underlying40 rfl (szR l1 (by kernel_rfl)) rfl ((E.out.get (i := 0) rfl).seg (acR_List l1))) rfl ?_; (try simp only [Act.put, List.setIfInBounds_toArray, List.set_cons_zero, List.set_cons_succ])
  refine wpList_callR (run_call2 enters_wlst rfl rfl rfl rfl) rfl (wlst_any w p _ _ m.ls c1 _ hls F1.out (by have h := HB.out; simp only [List.length_append] at h ⊢; omega) E.out) (fun v12 a11 hR => ?_); (try simp only [Act.put, List.setIfInBounds_toArray, List.set_cons_zero, List.set_cons_succ])
  replace E := Lib.hid hR
  clear hR
  refine wpList_end ?_
  go_upto_region 6 with fail; refine wp_region_lit ?_
  refine wpList_val (run_mv (v := .pointer (some ⟨p, 0, none⟩)) rfl rfl) rfl ?_; (try simp only [Act.put, List.setIfInBounds_toArray, List.set_cons_zero, List.set_cons_succ])
  refine wpList_val (run_fad (s := 0) (k := 103) rfl Try.underlying52 rfl (by kernel_rfl) rfl rfl) rfl ?_; (try simp only [Act.put, List.setIfInBounds_toArray, List.set_cons_zero, List.set_cons_succ])
  refine wpList_val (run_ldc rfl Try.underlying49 rfl rfl ((E.out.get (i := 0) rfl).c 103 _ (acR_Slots l1))) rfl ?_; (try simp only [Act.put, List.setIfInBounds_toArray, List.set_cons_zero, List.set_cons_succ])
  refine wpList_callR (run_call3 enters_walS rfl rfl rfl rfl rfl) rfl (walS_any w p _ _ m.slots a0 c0 _ (by omega) (fun p hp => ⟨K4.out p hp, HO.out p hp⟩) F2.out (by have h := HB.out; simp only [List.length_append] at h ⊢; omega) E.out) (fun v14 a13 hR => ?_); (try simp only [Act.put, List.setIfInBounds_toArray, List.set_cons_zero, List.set_cons_succ])
  replace E := Lib.hid hR
  clear hR
  refine wpList_end ?_
  go_upto_region 7 with fail; refine wp_region_lit ?_
  refine wpList_val (run_mv (v := .pointer (some ⟨p, 0, none⟩)) rfl rfl) rfl ?_; (try simp only [Act.put, List.setIfInBounds_toArray, List.set_cons_zero, List.set_cons_succ])
  refine wpList_val (run_fad (s := 0) (k := 104) rfl Try.underlying52 rfl (by kernel_rfl) rfl rfl) rfl ?_; (try simp only [Act.put, List.setIfInBounds_toArray, List.set_cons_zero, List.set_cons_succ])
  refine wpList_val (run_ldc rfl Try.underlying50 rfl rfl ((E.out.get (i := 0) rfl).c 104 _ (acR_Tokens l1))) rfl ?_; (try simp only [Act.put, List.setIfInBounds_toArray, List.set_cons_zero, List.set_cons_succ])
  refine wpList_callR (run_call3 enters_walK rfl rfl rfl rfl rfl) rfl (walK_any w p _ _ m.tokens a2 c2 _ (by omega) K5.out F3.out (by have h := HB.out; simp only [List.length_append] at h ⊢; omega) E.out) (fun v16 a15 hR => ?_); (try simp only [Act.put, List.setIfInBounds_toArray, List.set_cons_zero, List.set_cons_succ])
  replace E := Lib.hid hR
  clear hR
  refine wpList_end ?_
  have E2 := Lib.hid (E.out.drop.cast EB.out)
  go_wp2_with fail
  exact bodyPost_end (results_none Try.results46 _ _ _) rfl ⟨_, rfl, E2.out⟩
end Go.Proofs.Ytgioojahadlmhaa
namespace Go.Proofs.Ytgioojahadlmhaa
open Go.RowKit
set_option maxRecDepth 20000
attribute [local irreducible] wpList

theorem Ww.start (w : World) (t : TypeId) : Ww w w.heap.size [] [] (w.alloc (.cells ([.slice none 0 0] : List Value).toArray t)) :=
  ⟨⟨_, (Gw.start (Ev.start (w := w) (F := fun _ => True) fun _ _ => trivial) 5 1).new [.slice none 0 0] t⟩⟩
theorem evAt_len {m : MEv} {X : List Value} {V : World} (hm : m.Ok) (h : evAt m X V) : X.length = 72 := by
  obtain ⟨_, _, rfl, -⟩ := h
  exact evC_len hm _
theorem rqAt_len {m : MRq} {X : List Value} {w : World} (hm : m.Ok) (h : Fro 0 (rqAt m X) w) : X.length = 237 := by
  obtain ⟨c1, a0, c0, a2, c2, rfl, l1, o1, f1, f2, f3⟩ := rqAt_fix hm h
  exact rqR_len l1 (by rw [List.length_map, hm.token]) (pkC_len' hm.signed) (by rw [List.length_map, hm.sig])
theorem rpAt_len {m : MRp} {X : List Value} {w : World} (hm : m.Ok) (h : Fro 0 (rpAt m X) w) : X.length = 265 := by
  obtain ⟨c1, c2, a0, c0, rfl, l1, l2, o1, o2, f1, f2, f3⟩ := rpAt_fix hm h
  exact rpR_len l1 l2
theorem acAt_len {m : MAc} {X : List Value} {w : World} (hm : m.Ok) (h : Fro 0 (acAt m X) w) : X.length = 105 := by
  obtain ⟨c1, a0, c0, a2, c2, rfl, l1, o1, f1, f2, f3⟩ := acAt_fix hm h
  exact acR_len l1
theorem enters_wrLst : Enters 55 := enters_of Try.func55 (by kernel_rfl) rfl
theorem enters_xLst : Enters 22 := enters_of Try.func22 (by kernel_rfl) rfl
set_option maxHeartbeats 4000000 in
theorem wrLst_any (w : World) (m : MLs) (X : List Value) (hm : m.Ok) (hX : Fro 0 (lsAt m X) w) (hb : (lsB m).length ≤ 100000000000) : Calls Try.prog 55 #[.agg X.toArray, .func (.func 56) #[] #[]] w fun e w' => ∃ v', e = .returned v' ∧ S5 w v' (lsB m) w' := by
  have HC : Hid (∀ (w1 : World) (p : Nat) (u : World), Below w.heap.size w w1 → Ww w1 p [] [] u → Calls Try.prog 56 #[.pointer (some ⟨p, 0, none⟩), .agg X.toArray] u fun e u' => ∃ v', e = .returned v' ∧ Ww w1 p [] (lsB m) u') := Lib.hid fun w1 p u hw H => (by have h := wlst_any w1 p [] [] m X u hm (hX.below hw) (by simpa using hb) H; rw [List.nil_append] at h; exact h)
  have hln : (X).length = 99 := lsAt_len hm hX.now
  clear hb hX hm
  generalize lsB m = out at *
  have HLN := Lib.hid hln
  clear hln
  go_enter Try.func55, Try.ntmps55
  go_upto_region 0 with fail; refine wp_region_lit ?_
  refine wpList_val (run_boxL8 (vs := X) rfl rfl) rfl ?_; (try simp only [Act.put, List.setIfInBounds_toArray, List.set_cons_zero, List.set_cons_succ])
  have HB : Hid (Below w.heap.size w (w.alloc (.cells X.toArray 40))) := Lib.hid ((Below.refl _ _).alloc (Nat.le_refl _) _)
  have HA := Lib.hid (Arr.new w X 40)
  generalize w.alloc (.cells X.toArray 40) = w1 at *
  generalize hg0 : w.heap.size = g0 at HA ⊢
  clear hg0
  refine wpList_val (run_asg (v := .slice none 0 0) rfl rfl) rfl ?_; (try simp only [Act.put, List.setIfInBounds_toArray, List.set_cons_zero, List.set_cons_succ])
  refine wpList_end ?_
  go_upto_region 1 with fail; refine wp_region_lit ?_
  refine wpList_val (run_alc (vs := [.slice none 0 0]) rfl (by kernel_rfl)) rfl ?_; (try simp only [Act.put, List.setIfInBounds_toArray, List.set_cons_zero, List.set_cons_succ])
  have E := Lib.hid (Ww.start w1 140)
  generalize hw1 : w1.alloc (.cells ([.slice none 0 0] : List Value).toArray 140) = a1 at E ⊢
  clear hw1
  generalize hg1 : w1.heap.size = g1 at E ⊢
  clear hg1
  refine wpList_end ?_
  go_upto_region 2 with fail; refine wp_region_lit ?_
  refine wpList_val (run_mv (v := .func (.func 56) #[] #[]) rfl rfl) rfl ?_; (try simp only [Act.put, List.setIfInBounds_toArray, List.set_cons_zero, List.set_cons_succ])
  refine wpList_val (run_ldM (vs := X) rfl Try.underlying40 rfl (szR HLN.out (by kernel_rfl)) rfl (HA.out.below E.out.bl).range) rfl ?_; (try simp only [Act.put, List.setIfInBounds_toArray, List.set_cons_zero, List.set_cons_succ])
  refine wpList_callR (run_callv2 enters_wlst rfl rfl rfl rfl) rfl (HC.out _ _ _ HB.out E.out) (fun v1 a2 hR => ?_); (try simp only [Act.put, List.setIfInBounds_toArray, List.set_cons_zero, List.set_cons_succ])
  obtain ⟨v, G⟩ := hR.ex
  have GG := Lib.hid G
  clear hR G E
  obtain ⟨xa, xn, xc, rfl⟩ := GG.out.isSlice
  refine wpList_end ?_
  go_upto_region 3 with fail; refine wp_region_lit ?_
  refine wpList_val (run_fad (s := 0) (k := 0) rfl Try.underlying140 rfl (by kernel_rfl) rfl rfl) rfl ?_; (try simp only [Act.put, List.setIfInBounds_toArray, List.set_cons_zero, List.set_cons_succ])
  refine wpList_val (run_ldc (v := .slice xa xn xc) rfl Try.underlying22 rfl rfl ((GG.out.get (i := 0) rfl).c 0 _ rfl)) rfl ?_; (try simp only [Act.put, List.setIfInBounds_toArray, List.set_cons_zero, List.set_cons_succ])
  refine wpList_val (run_asg (v := .slice xa xn xc) rfl rfl) rfl ?_; (try simp only [Act.put, List.setIfInBounds_toArray, List.set_cons_zero, List.set_cons_succ])
  refine wpList_end ?_
  go_wp2_with fail
  exact bodyPost_ret (results_tmp Try.results55 _ _ _) rfl ⟨_, rfl, (show S5 w1 _ out _ from ⟨GG.out.bl, GG.out.row⟩).mono HB.out⟩
set_option maxHeartbeats 4000000 in
theorem xLst_any (w : World) (m : MLs) (X : List Value) (hm : m.Ok) (hX : Fro 0 (lsAt m X) w) (hb : (lsB m).length ≤ 100000000000) : Calls Try.prog 22 #[.agg X.toArray] w fun e w' => ∃ v', e = .returned v' ∧ S5 w v' (lsB m) w' := by
  have HC : Hid (∀ w1 : World, Below w.heap.size w w1 → Calls Try.prog 55 #[.agg X.toArray, .func (.func 56) #[] #[]] w1 fun e w' => ∃ v', e = .returned v' ∧ S5 w1 v' (lsB m) w') := Lib.hid fun w1 hw => wrLst_any w1 m X hm (hX.below hw) hb
  have hln : (X).length = 99 := lsAt_len hm hX.now
  clear hb hX hm
  generalize lsB m = out at *
  have HLN := Lib.hid hln
  clear hln
  go_enter Try.func22, Try.ntmps22
  go_upto_region 0 with fail; refine wp_region_lit ?_
  refine wpList_val (run_boxL8 (vs := X) rfl rfl) rfl ?_; (try simp only [Act.put, List.setIfInBounds_toArray, List.set_cons_zero, List.set_cons_succ])
  have HB : Hid (Below w.heap.size w (w.alloc (.cells X.toArray 40))) := Lib.hid ((Below.refl _ _).alloc (Nat.le_refl _) _)
  have HA := Lib.hid (Arr.new w X 40)
  generalize w.alloc (.cells X.toArray 40) = w1 at *
  generalize hg0 : w.heap.size = g0 at HA ⊢
  clear hg0
  refine wpList_val (run_asg (v := .slice none 0 0) rfl rfl) rfl ?_; (try simp only [Act.put, List.setIfInBounds_toArray, List.set_cons_zero, List.set_cons_succ])
  refine wpList_end ?_
  go_upto_region 1 with fail; refine wp_region_lit ?_
  refine wpList_val (run_ldM (vs := X) rfl Try.underlying40 rfl (szR HLN.out (by kernel_rfl)) rfl (HA.out).range) rfl ?_; (try simp only [Act.put, List.setIfInBounds_toArray, List.set_cons_zero, List.set_cons_succ])
  refine wpList_callR (run_call2 enters_wrLst rfl rfl rfl rfl) rfl (HC.out _ HB.out) (fun v1 a2 hR => ?_); (try simp only [Act.put, List.setIfInBounds_toArray, List.set_cons_zero, List.set_cons_succ])
  have HR := Lib.hid hR
  clear hR
  obtain ⟨xa, xc, rfl, -, -⟩ := HR.out.sl
  refine wpList_val (run_asg (v := .slice xa out.length xc) rfl rfl) rfl ?_; (try simp only [Act.put, List.setIfInBounds_toArray, List.set_cons_zero, List.set_cons_succ])
  refine wpList_end ?_
  go_wp2_with fail
  exact bodyPost_ret (results_tmp Try.results22 _ _ _) rfl ⟨_, rfl, HR.out.mono HB.out⟩
theorem enters_wrBun : Enters 70 := enters_of Try.func70 (by kernel_rfl) rfl
theorem enters_xBun : Enters 30 := enters_of Try.func30 (by kernel_rfl) rfl
set_option maxHeartbeats 4000000 in
theorem wrBun_any (w : World) (m : MBu) (X : List Value) (hm : m.Ok) (hX : Fro 0 (buAt m X) w) (hb : (buB m).length ≤ 100000000000) : Calls Try.prog 70 #[.agg X.toArray, .func (.func 71) #[] #[]] w fun e w' => ∃ v', e = .returned v' ∧ S5 w v' (buB m) w' := by
  have HC : Hid (∀ (w1 : World) (p : Nat) (u : World), Below w.heap.size w w1 → Ww w1 p [] [] u → Calls Try.prog 71 #[.pointer (some ⟨p, 0, none⟩), .agg X.toArray] u fun e u' => ∃ v', e = .returned v' ∧ Ww w1 p [] (buB m) u') := Lib.hid fun w1 p u hw H => (by have h := wbun_any w1 p [] [] m X u hm (hX.below hw) (by simpa using hb) H; rw [List.nil_append] at h; exact h)
  have hln : (X).length = 164 := buAt_len hm hX.now
  clear hb hX hm
  generalize buB m = out at *
  have HLN := Lib.hid hln
  clear hln
  go_enter Try.func70, Try.ntmps70
  go_upto_region 0 with fail; refine wp_region_lit ?_
  refine wpList_val (run_boxL8 (vs := X) rfl rfl) rfl ?_; (try simp only [Act.put, List.setIfInBounds_toArray, List.set_cons_zero, List.set_cons_succ])
  have HB : Hid (Below w.heap.size w (w.alloc (.cells X.toArray 72))) := Lib.hid ((Below.refl _ _).alloc (Nat.le_refl _) _)
  have HA := Lib.hid (Arr.new w X 72)
  generalize w.alloc (.cells X.toArray 72) = w1 at *
  generalize hg0 : w.heap.size = g0 at HA ⊢
  clear hg0
  refine wpList_val (run_asg (v := .slice none 0 0) rfl rfl) rfl ?_; (try simp only [Act.put, List.setIfInBounds_toArray, List.set_cons_zero, List.set_cons_succ])
  refine wpList_end ?_
  go_upto_region 1 with fail; refine wp_region_lit ?_
  refine wpList_val (run_alc (vs := [.slice none 0 0]) rfl (by kernel_rfl)) rfl ?_; (try simp only [Act.put, List.setIfInBounds_toArray, List.set_cons_zero, List.set_cons_succ])
  have E := Lib.hid (Ww.start w1 140)
  generalize hw1 : w1.alloc (.cells ([.slice none 0 0] : List Value).toArray 140) = a1 at E ⊢
  clear hw1
  generalize hg1 : w1.heap.size = g1 at E ⊢
  clear hg1
  refine wpList_end ?_
  go_upto_region 2 with fail; refine wp_region_lit ?_
  refine wpList_val (run_mv (v := .func (.func 71) #[] #[]) rfl rfl) rfl ?_; (try simp only [Act.put, List.setIfInBounds_toArray, List.set_cons_zero, List.set_cons_succ])
  refine wpList_val (run_ldM (vs := X) rfl Try.underlying72 rfl (szR HLN.out (by kernel_rfl)) rfl (HA.out.below E.out.bl).range) rfl ?_; (try simp only [Act.put, List.setIfInBounds_toArray, List.set_cons_zero, List.set_cons_succ])
  refine wpList_callR (run_callv2 enters_wbun rfl rfl rfl rfl) rfl (HC.out _ _ _ HB.out E.out) (fun v1 a2 hR => ?_); (try simp only [Act.put, List.setIfInBounds_toArray, List.set_cons_zero, List.set_cons_succ])
  obtain ⟨v, G⟩ := hR.ex
  have GG := Lib.hid G
  clear hR G E
  obtain ⟨xa, xn, xc, rfl⟩ := GG.out.isSlice
  refine wpList_end ?_
  go_upto_region 3 with fail; refine wp_region_lit ?_
  refine wpList_val (run_fad (s := 0) (k := 0) rfl Try.underlying140 rfl (by kernel_rfl) rfl rfl) rfl ?_; (try simp only [Act.put, List.setIfInBounds_toArray, List.set_cons_zero, List.set_cons_succ])
  refine wpList_val (run_ldc (v := .slice xa xn xc) rfl Try.underlying22 rfl rfl ((GG.out.get (i := 0) rfl).c 0 _ rfl)) rfl ?_; (try simp only [Act.put, List.setIfInBounds_toArray, List.set_cons_zero, List.set_cons_succ])
  refine wpList_val (run_asg (v := .slice xa xn xc) rfl rfl) rfl ?_; (try simp only [Act.put, List.setIfInBounds_toArray, List.set_cons_zero, List.set_cons_succ])
  refine wpList_end ?_
  go_wp2_with fail
  exact bodyPost_ret (results_tmp Try.results70 _ _ _) rfl ⟨_, rfl, (show S5 w1 _ out _ from ⟨GG.out.bl, GG.out.row⟩).mono HB.out⟩
set_option maxHeartbeats 4000000 in
theorem xBun_any (w : World) (m : MBu) (X : List Value) (hm : m.Ok) (hX : Fro 0 (buAt m X) w) (hb : (buB m).length ≤ 100000000000) : Calls Try.prog 30 #[.agg X.toArray] w fun e w' => ∃ v', e = .returned v' ∧ S5 w v' (buB m) w' := by
  have HC : Hid (∀ w1 : World, Below w.heap.size w w1 → Calls Try.prog 70 #[.agg X.toArray, .func (.func 71) #[] #[]] w1 fun e w' => ∃ v', e = .returned v' ∧ S5 w1 v' (buB m) w') := Lib.hid fun w1 hw => wrBun_any w1 m X hm (hX.below hw) hb
  have hln : (X).length = 164 := buAt_len hm hX.now
  clear hb hX hm
  generalize buB m = out at *
  have HLN := Lib.hid hln
  clear hln
  go_enter Try.func30, Try.ntmps30
  go_upto_region 0 with fail; refine wp_region_lit ?_
  refine wpList_val (run_boxL8 (vs := X) rfl rfl) rfl ?_; (try simp only [Act.put, List.setIfInBounds_toArray, List.set_cons_zero, List.set_cons_succ])
  have HB : Hid (Below w.heap.size w (w.alloc (.cells X.toArray 72))) := Lib.hid ((Below.refl _ _).alloc (Nat.le_refl _) _)
  have HA := Lib.hid (Arr.new w X 72)
  generalize w.alloc (.cells X.toArray 72) = w1 at *
  generalize hg0 : w.heap.size = g0 at HA ⊢
  clear hg0
  refine wpList_val (run_asg (v := .slice none 0 0) rfl rfl) rfl ?_; (try simp only [Act.put, List.setIfInBounds_toArray, List.set_cons_zero, List.set_cons_succ])
  refine wpList_end ?_
  go_upto_region 1 with fail; refine wp_region_lit ?_
  refine wpList_val (run_ldM (vs := X) rfl Try.underlying72 rfl (szR HLN.out (by kernel_rfl)) rfl (HA.out).range) rfl ?_; (try simp only [Act.put, List.setIfInBounds_toArray, List.set_cons_zero, List.set_cons_succ])
  refine wpList_callR (run_call2 enters_wrBun rfl rfl rfl rfl) rfl (HC.out _ HB.out) (fun v1 a2 hR => ?_); (try simp only [Act.put, List.setIfInBounds_toArray, List.set_cons_zero, List.set_cons_succ])
  have HR := Lib.hid hR
  clear hR
  obtain ⟨xa, xc, rfl, -, -⟩ := HR.out.sl
  refine wpList_val (run_asg (v := .slice xa out.length xc) rfl rfl) rfl ?_; (try simp only [Act.put, List.setIfInBounds_toArray, List.set_cons_zero, List.set_cons_succ])
  refine wpList_end ?_
  go_wp2_with fail
  exact bodyPost_ret (results_tmp Try.results30 _ _ _) rfl ⟨_, rfl, HR.out.mono HB.out⟩
theorem enters_wrEnv : Enters 53 := enters_of Try.func53 (by kernel_rfl) rfl
theorem enters_xEnv : Enters 19 := enters_of Try.func19 (by kernel_rfl) rfl
set_option maxHeartbeats 4000000 in
theorem wrEnv_any (w : World) (m : MEv) (X : List Value) (hm : m.Ok) (ho : -9223372036854775808 ≤ m.one) (hX : Fro 0 (evAt m X) w) (hb : (evB m).length ≤ 100000000000) : Calls Try.prog 53 #[.agg X.toArray, .func (.func 54) #[] #[]] w fun e w' => ∃ v', e = .returned v' ∧ S5 w v' (evB m) w' := by
  have HC : Hid (∀ (w1 : World) (p : Nat) (u : World), Below w.heap.size w w1 → Ww w1 p [] [] u → Calls Try.prog 54 #[.pointer (some ⟨p, 0, none⟩), .agg X.toArray] u fun e u' => ∃ v', e = .returned v' ∧ Ww w1 p [] (evB m) u') := Lib.hid fun w1 p u hw H => (by have h := wenv_any w1 p [] [] m X u hm ho (hX.below hw) (by simpa using hb) H; rw [List.nil_append] at h; exact h)
  have hln : (X).length = 72 := evAt_len hm hX.now
  clear hb hX ho hm
  generalize evB m = out at *
  have HLN := Lib.hid hln
  clear hln
  go_enter Try.func53, Try.ntmps53
  go_upto_region 0 with fail; refine wp_region_lit ?_
  refine wpList_val (run_boxL8 (vs := X) rfl rfl) rfl ?_; (try simp only [Act.put, List.setIfInBounds_toArray, List.set_cons_zero, List.set_cons_succ])
  have HB : Hid (Below w.heap.size w (w.alloc (.cells X.toArray 64))) := Lib.hid ((Below.refl _ _).alloc (Nat.le_refl _) _)
  have HA := Lib.hid (Arr.new w X 64)
  generalize w.alloc (.cells X.toArray 64) = w1 at *
  generalize hg0 : w.heap.size = g0 at HA ⊢
  clear hg0
  refine wpList_val (run_asg (v := .slice none 0 0) rfl rfl) rfl ?_; (try simp only [Act.put, List.setIfInBounds_toArray, List.set_cons_zero, List.set_cons_succ])
  refine wpList_end ?_
  go_upto_region 1 with fail; refine wp_region_lit ?_
  refine wpList_val (run_alc (vs := [.slice none 0 0]) rfl (by kernel_rfl)) rfl ?_; (try simp only [Act.put, List.setIfInBounds_toArray, List.set_cons_zero, List.set_cons_succ])
  have E := Lib.hid (Ww.start w1 140)
  generalize hw1 : w1.alloc (.cells ([.slice none 0 0] : List Value).toArray 140) = a1 at E ⊢
  clear hw1
  generalize hg1 : w1.heap.size = g1 at E ⊢
  clear hg1
  refine wpList_end ?_
  go_upto_region 2 with fail; refine wp_region_lit ?_
  refine wpList_val (run_mv (v := .func (.func 54) #[] #[]) rfl rfl) rfl ?_; (try simp only [Act.put, List.setIfInBounds_toArray, List.set_cons_zero, List.set_cons_succ])
  refine wpList_val (run_ldM (vs := X) rfl Try.underlying64 rfl (szR HLN.out (by kernel_rfl)) rfl (HA.out.below E.out.bl).range) rfl ?_; (try simp only [Act.put, List.setIfInBounds_toArray, List.set_cons_zero, List.set_cons_succ])
  refine wpList_callR (run_callv2 enters_wenv rfl rfl rfl rfl) rfl (HC.out _ _ _ HB.out E.out) (fun v1 a2 hR => ?_); (try simp only [Act.put, List.setIfInBounds_toArray, List.set_cons_zero, List.set_cons_succ])
  obtain ⟨v, G⟩ := hR.ex
  have GG := Lib.hid G
  clear hR G E
  obtain ⟨xa, xn, xc, rfl⟩ := GG.out.isSlice
  refine wpList_end ?_
  go_upto_region 3 with fail; refine wp_region_lit ?_
  refine wpList_val (run_fad (s := 0) (k := 0) rfl Try.underlying140 rfl (by kernel_rfl) rfl rfl) rfl ?_; (try simp only [Act.put, List.setIfInBounds_toArray, List.set_cons_zero, List.set_cons_succ])
  refine wpList_val (run_ldc (v := .slice xa xn xc) rfl Try.underlying22 rfl rfl ((GG.out.get (i := 0) rfl).c 0 _ rfl)) rfl ?_; (try simp only [Act.put, List.setIfInBounds_toArray, List.set_cons_zero, List.set_cons_succ])
  refine wpList_val (run_asg (v := .slice xa xn xc) rfl rfl) rfl ?_; (try simp only [Act.put, List.setIfInBounds_toArray, List.set_cons_zero, List.set_cons_succ])
  refine wpList_end ?_
  go_wp2_with fail
  exact bodyPost_ret (results_tmp Try.results53 _ _ _) rfl ⟨_, rfl, (show S5 w1 _ out _ from ⟨GG.out.bl, GG.out.row⟩).mono HB.out⟩
set_option maxHeartbeats 4000000 in
theorem xEnv_any (w : World) (m : MEv) (X : List Value) (hm : m.Ok) (ho : -9223372036854775808 ≤ m.one) (hX : Fro 0 (evAt m X) w) (hb : (evB m).length ≤ 100000000000) : Calls Try.prog 19 #[.agg X.toArray] w fun e w' => ∃ v', e = .returned v' ∧ S5 w v' (evB m) w' := by
  have HC : Hid (∀ w1 : World, Below w.heap.size w w1 → Calls Try.prog 53 #[.agg X.toArray, .func (.func 54) #[] #[]] w1 fun e w' => ∃ v', e = .returned v' ∧ S5 w1 v' (evB m) w') := Lib.hid fun w1 hw => wrEnv_any w1 m X hm ho (hX.below hw) hb
  have hln : (X).length = 72 := evAt_len hm hX.now
  clear hb hX ho hm
  generalize evB m = out at *
  have HLN := Lib.hid hln
  clear hln
  go_enter Try.func19, Try.ntmps19
  go_upto_region 0 with fail; refine wp_region_lit ?_
  refine wpList_val (run_boxL8 (vs := X) rfl rfl) rfl ?_; (try simp only [Act.put, List.setIfInBounds_toArray, List.set_cons_zero, List.set_cons_succ])
  have HB : Hid (Below w.heap.size w (w.alloc (.cells X.toArray 64))) := Lib.hid ((Below.refl _ _).alloc (Nat.le_refl _) _)
  have HA := Lib.hid (Arr.new w X 64)
  generalize w.alloc (.cells X.toArray 64) = w1 at *
  generalize hg0 : w.heap.size = g0 at HA ⊢
  clear hg0
  refine wpList_val (run_asg (v := .slice none 0 0) rfl rfl) rfl ?_; (try simp only [Act.put, List.setIfInBounds_toArray, List.set_cons_zero, List.set_cons_succ])
  refine wpList_end ?_
  go_upto_region 1 with fail; refine wp_region_lit ?_
  refine wpList_val (run_ldM (vs := X) rfl Try.underlying64 rfl (szR HLN.out (by kernel_rfl)) rfl (HA.out).range) rfl ?_; (try simp only [Act.put, List.setIfInBounds_toArray, List.set_cons_zero, List.set_cons_succ])
  refine wpList_callR (run_call2 enters_wrEnv rfl rfl rfl rfl) rfl (HC.out _ HB.out) (fun v1 a2 hR => ?_); (try simp only [Act.put, List.setIfInBounds_toArray, List.set_cons_zero, List.set_cons_succ])
  have HR := Lib.hid hR
  clear hR
  obtain ⟨xa, xc, rfl, -, -⟩ := HR.out.sl
  refine wpList_val (run_asg (v := .slice xa out.length xc) rfl rfl) rfl ?_; (try simp only [Act.put, List.setIfInBounds_toArray, List.set_cons_zero, List.set_cons_succ])
  refine wpList_end ?_
  go_wp2_with fail
  exact bodyPost_ret (results_tmp Try.results19 _ _ _) rfl ⟨_, rfl, HR.out.mono HB.out⟩
theorem enters_wrReq : Enters 39 := enters_of Try.func39 (by kernel_rfl) rfl
theorem enters_xReq : Enters 11 := enters_of Try.func11 (by kernel_rfl) rfl
set_option maxHeartbeats 4000000 in
theorem wrReq_any (w : World) (m : MRq) (X : List Value) (hm : m.Ok) (ho : ∀ p ∈ m.items, -9223372036854775808 ≤ p.2.one) (hX : Fro 0 (rqAt m X) w) (hb : (rqB m).length ≤ 100000000000) : Calls Try.prog 39 #[.agg X.toArray, .func (.func 40) #[] #[]] w fun e w' => ∃ v', e = .returned v' ∧ S5 w v' (rqB m) w' := by
  have HC : Hid (∀ (w1 : World) (p : Nat) (u : World), Below w.heap.size w w1 → Ww w1 p [] [] u → Calls Try.prog 40 #[.pointer (some ⟨p, 0, none⟩), .agg X.toArray] u fun e u' => ∃ v', e = .returned v' ∧ Ww w1 p [] (rqB m) u') := Lib.hid fun w1 p u hw H => (by have h := wreq_any w1 p [] [] m X u hm ho (hX.below hw) (by simpa using hb) H; rw [List.nil_append] at h; exact h)
  have hln : (X).length = 237 := rqAt_len hm hX
  clear hb hX ho hm
  generalize rqB m = out at *
  have HLN := Lib.hid hln
  clear hln
  go_enter Try.func39, Try.ntmps39
  go_upto_region 0 with fail; refine wp_region_lit ?_
  refine wpList_val (run_boxL8 (vs := X) rfl rfl) rfl ?_; (try simp only [Act.put, List.setIfInBounds_toArray, List.set_cons_zero, List.set_cons_succ])
  have HB : Hid (Below w.heap.size w (w.alloc (.cells X.toArray 46))) := Lib.hid ((Below.refl _ _).alloc (Nat.le_refl _) _)
  have HA := Lib.hid (Arr.new w X 46)
  generalize w.alloc (.cells X.toArray 46) = w1 at *
  generalize hg0 : w.heap.size = g0 at HA ⊢
  clear hg0
  refine wpList_val (run_asg (v := .slice none 0 0) rfl rfl) rfl ?_; (try simp only [Act.put, List.setIfInBounds_toArray, List.set_cons_zero, List.set_cons_succ])
  refine wpList_end ?_
  go_upto_region 1 with fail; refine wp_region_lit ?_
  refine wpList_val (run_alc (vs := [.slice none 0 0]) rfl (by kernel_rfl)) rfl ?_; (try simp only [Act.put, List.setIfInBounds_toArray, List.set_cons_zero, List.set_cons_succ])
  have E := Lib.hid (Ww.start w1 140)
  generalize hw1 : w1.alloc (.cells ([.slice none 0 0] : List Value).toArray 140) = a1 at E ⊢
  clear hw1
  generalize hg1 : w1.heap.size = g1 at E ⊢
  clear hg1
  refine wpList_end ?_
  go_upto_region 2 with fail; refine wp_region_lit ?_
  refine wpList_val (run_mv (v := .func (.func 40) #[] #[]) rfl rfl) rfl ?_; (try simp only [Act.put, List.setIfInBounds_toArray, List.set_cons_zero, List.set_cons_succ])
  refine wpList_val (run_ldM (vs := X) rfl Try.underlying46 rfl (szR HLN.out (by kernel_rfl)) rfl (HA.out.below E.out.bl).range) rfl ?_; (try simp only [Act.put, List.setIfInBounds_toArray, List.set_cons_zero, List.set_cons_succ])
  refine wpList_callR (run_callv2 enters_wreq rfl rfl rfl rfl) rfl (HC.out _ _ _ HB.out E.out) (fun v1 a2 hR => ?_); (try simp only [Act.put, List.setIfInBounds_toArray, List.set_cons_zero, List.set_cons_succ])
  obtain ⟨v, G⟩ := hR.ex
  have GG := Lib.hid G
  clear hR G E
  obtain ⟨xa, xn, xc, rfl⟩ := GG.out.isSlice
  refine wpList_end ?_
  go_upto_region 3 with fail; refine wp_region_lit ?_
  refine wpList_val (run_fad (s := 0) (k := 0) rfl Try.underlying140 rfl (by kernel_rfl) rfl rfl) rfl ?_; (try simp only [Act.put, List.setIfInBounds_toArray, List.set_cons_zero, List.set_cons_succ])
  refine wpList_val (run_ldc (v := .slice xa xn xc) rfl Try.underlying22 rfl rfl ((GG.out.get (i := 0) rfl).c 0 _ rfl)) rfl ?_; (try simp only [Act.put, List.setIfInBounds_toArray, List.set_cons_zero, List.set_cons_succ])
  refine wpList_val (run_asg (v := .slice xa xn xc) rfl rfl) rfl ?_; (try simp only [Act.put, List.setIfInBounds_toArray, List.set_cons_zero, List.set_cons_succ])
  refine wpList_end ?_
  go_wp2_with fail
  exact bodyPost_ret (results_tmp Try.results39 _ _ _) rfl ⟨_, rfl, (show S5 w1 _ out _ from ⟨GG.out.bl, GG.out.row⟩).mono HB.out⟩
set_option maxHeartbeats 4000000 in
theorem xReq_any (w : World) (m : MRq) (X : List Value) (hm : m.Ok) (ho : ∀ p ∈ m.items, -9223372036854775808 ≤ p.2.one) (hX : Fro 0 (rqAt m X) w) (hb : (rqB m).length ≤ 100000000000) : Calls Try.prog 11 #[.agg X.toArray] w fun e w' => ∃ v', e = .returned v' ∧ S5 w v' (rqB m) w' := by
  have HC : Hid (∀ w1 : World, Below w.heap.size w w1 → Calls Try.prog 39 #[.agg X.toArray, .func (.func 40) #[] #[]] w1 fun e w' => ∃ v', e = .returned v' ∧ S5 w1 v' (rqB m) w') := Lib.hid fun w1 hw => wrReq_any w1 m X hm ho (hX.below hw) hb
  have hln : (X).length = 237 := rqAt_len hm hX
  clear hb hX ho hm
  generalize rqB m = out at *
  have HLN := Lib.hid hln
  clear hln
  go_enter Try.func11, Try.ntmps11
  go_upto_region 0 with fail; refine wp_region_lit ?_
  refine wpList_val (run_boxL8 (vs := X) rfl rfl) rfl ?_; (try simp only [Act.put, List.setIfInBounds_toArray, List.set_cons_zero, List.set_cons_succ])
  have HB : Hid (Below w.heap.size w (w.alloc (.cells X.toArray 46))) := Lib.hid ((Below.refl _ _).alloc (Nat.le_refl _) _)
  have HA := Lib.hid (Arr.new w X 46)
  generalize w.alloc (.cells X.toArray 46) = w1 at *
  generalize hg0 : w.heap.size = g0 at HA ⊢
  clear hg0
  refine wpList_val (run_asg (v := .slice none 0 0) rfl rfl) rfl ?_; (try simp only [Act.put, List.setIfInBounds_toArray, List.set_cons_zero, List.set_cons_succ])
  refine wpList_end ?_
  go_upto_region 1 with fail; refine wp_region_lit ?_
  refine wpList_val (run_ldM (vs := X) rfl Try.underlying46 rfl (szR HLN.out (by kernel_rfl)) rfl (HA.out).range) rfl ?_; (try simp only [Act.put, List.setIfInBounds_toArray, List.set_cons_zero, List.set_cons_succ])
  refine wpList_callR (run_call2 enters_wrReq rfl rfl rfl rfl) rfl (HC.out _ HB.out) (fun v1 a2 hR => ?_); (try simp only [Act.put, List.setIfInBounds_toArray, List.set_cons_zero, List.set_cons_succ])
  have HR := Lib.hid hR
  clear hR
  obtain ⟨xa, xc, rfl, -, -⟩ := HR.out.sl
  refine wpList_val (run_asg (v := .slice xa out.length xc) rfl rfl) rfl ?_; (try simp only [Act.put, List.setIfInBounds_toArray, List.set_cons_zero, List.set_cons_succ])
  refine wpList_end ?_
  go_wp2_with fail
  exact bodyPost_ret (results_tmp Try.results11 _ _ _) rfl ⟨_, rfl, HR.out.mono HB.out⟩
theorem enters_wrRsp : Enters 67 := enters_of Try.func67 (by kernel_rfl) rfl
theorem enters_xRsp : Enters 28 := enters_of Try.func28 (by kernel_rfl) rfl
set_option maxHeartbeats 4000000 in
theorem wrRsp_any (w : World) (m : MRp) (X : List Value) (hm : m.Ok) (ho : ∀ p ∈ m.mail, -9223372036854775808 ≤ p.one) (hX : Fro 0 (rpAt m X) w) (hb : (rpB m).length ≤ 100000000000) : Calls Try.prog 67 #[.agg X.toArray, .func (.func 68) #[] #[]] w fun e w' => ∃ v', e = .returned v' ∧ S5 w v' (rpB m) w' := by
  have HC : Hid (∀ (w1 : World) (p : Nat) (u : World), Below w.heap.size w w1 → Ww w1 p [] [] u → Calls Try.prog 68 #[.pointer (some ⟨p, 0, none⟩), .agg X.toArray] u fun e u' => ∃ v', e = .returned v' ∧ Ww w1 p [] (rpB m) u') := Lib.hid fun w1 p u hw H => (by have h := wrsp_any w1 p [] [] m X u hm ho (hX.below hw) (by simpa using hb) H; rw [List.nil_append] at h; exact h)
  have hln : (X).length = 265 := rpAt_len hm hX
  clear hb hX ho hm
  generalize rpB m = out at *
  have HLN := Lib.hid hln
  clear hln
  go_enter Try.func67, Try.ntmps67
  go_upto_region 0 with fail; refine wp_region_lit ?_
  refine wpList_val (run_boxL8 (vs := X) rfl rfl) rfl ?_; (try simp only [Act.put, List.setIfInBounds_toArray, List.set_cons_zero, List.set_cons_succ])
  have HB : Hid (Below w.heap.size w (w.alloc (.cells X.toArray 75))) := Lib.hid ((Below.refl _ _).alloc (Nat.le_refl _) _)
  have HA := Lib.hid (Arr.new w X 75)
  generalize w.alloc (.cells X.toArray 75) = w1 at *
  generalize hg0 : w.heap.size = g0 at HA ⊢
  clear hg0
  refine wpList_val (run_asg (v := .slice none 0 0) rfl rfl) rfl ?_; (try simp only [Act.put, List.setIfInBounds_toArray, List.set_cons_zero, List.set_cons_succ])
  refine wpList_end ?_
  go_upto_region 1 with fail; refine wp_region_lit ?_
  refine wpList_val (run_alc (vs := [.slice none 0 0]) rfl (by kernel_rfl)) rfl ?_; (try simp only [Act.put, List.setIfInBounds_toArray, List.set_cons_zero, List.set_cons_succ])
  have E := Lib.hid (Ww.start w1 140)
  generalize hw1 : w1.alloc (.cells ([.slice none 0 0] : List Value).toArray 140) = a1 at E ⊢
  clear hw1
  generalize hg1 : w1.heap.size = g1 at E ⊢
  clear hg1
  refine wpList_end ?_
  go_upto_region 2 with fail; refine wp_region_lit ?_
  refine wpList_val (run_mv (v := .func (.func 68) #[] #[]) rfl rfl) rfl ?_; (try simp only [Act.put, List.setIfInBounds_toArray, List.set_cons_zero, List.set_cons_succ])
  refine wpList_val (run_ldM (vs := X) rfl Try.underlying75 rfl (szR HLN.out (by kernel_rfl)) rfl (HA.out.below E.out.bl).range) rfl ?_; (try simp only [Act.put, List.setIfInBounds_toArray, List.set_cons_zero, List.set_cons_succ])
  refine wpList_callR (run_callv2 enters_wrsp rfl rfl rfl rfl) rfl (HC.out _ _ _ HB.out E.out) (fun v1 a2 hR => ?_); (try simp only [Act.put, List.setIfInBounds_toArray, List.set_cons_zero, List.set_cons_succ])
  obtain ⟨v, G⟩ := hR.ex
  have GG := Lib.hid G
  clear hR G E
  obtain ⟨xa, xn, xc, rfl⟩ := GG.out.isSlice
  refine wpList_end ?_
  go_upto_region 3 with fail; refine wp_region_lit ?_
  refine wpList_val (run_fad (s := 0) (k := 0) rfl Try.underlying140 rfl (by kernel_rfl) rfl rfl) rfl ?_; (try simp only [Act.put, List.setIfInBounds_toArray, List.set_cons_zero, List.set_cons_succ])
  refine wpList_val (run_ldc (v := .slice xa xn xc) rfl Try.underlying22 rfl rfl ((GG.out.get (i := 0) rfl).c 0 _ rfl)) rfl ?_; (try simp only [Act.put, List.setIfInBounds_toArray, List.set_cons_zero, List.set_cons_succ])
  refine wpList_val (run_asg (v := .slice xa xn xc) rfl rfl) rfl ?_; (try simp only [Act.put, List.setIfInBounds_toArray, List.set_cons_zero, List.set_cons_succ])
  refine wpList_end ?_
  go_wp2_with fail
  exact bodyPost_ret (results_tmp Try.results67 _ _ _) rfl ⟨_, rfl, (show S5 w1 _ out _ from ⟨GG.out.bl, GG.out.row⟩).mono HB.out⟩
set_option maxHeartbeats 4000000 in
theorem xRsp_any (w : World) (m : MRp) (X : List Value) (hm : m.Ok) (ho : ∀ p ∈ m.mail, -9223372036854775808 ≤ p.one) (hX : Fro 0 (rpAt m X) w) (hb : (rpB m).length ≤ 100000000000) : Calls Try.prog 28 #[.agg X.toArray] w fun e w' => ∃ v', e = .returned v' ∧ S5 w v' (rpB m) w' := by
  have HC : Hid (∀ w1 : World, Below w.heap.size w w1 → Calls Try.prog 67 #[.agg X.toArray, .func (.func 68) #[] #[]] w1 fun e w' => ∃ v', e = .returned v' ∧ S5 w1 v' (rpB m) w') := Lib.hid fun w1 hw => wrRsp_any w1 m X hm ho (hX.below hw) hb
  have hln : (X).length = 265 := rpAt_len hm hX
  clear hb hX ho hm
  generalize rpB m = out at *
  have HLN := Lib.hid hln
  clear hln
  go_enter Try.func28, Try.ntmps28
  go_upto_region 0 with fail; refine wp_region_lit ?_
  refine wpList_val (run_boxL8 (vs := X) rfl rfl) rfl ?_; (try simp only [Act.put, List.setIfInBounds_toArray, List.set_cons_zero, List.set_cons_succ])
  have HB : Hid (Below w.heap.size w (w.alloc (.cells X.toArray 75))) := Lib.hid ((Below.refl _ _).alloc (Nat.le_refl _) _)
  have HA := Lib.hid (Arr.new w X 75)
  generalize w.alloc (.cells X.toArray 75) = w1 at *
  generalize hg0 : w.heap.size = g0 at HA ⊢
  clear hg0
  refine wpList_val (run_asg (v := .slice none 0 0) rfl rfl) rfl ?_; (try simp only [Act.put, List.setIfInBounds_toArray, List.set_cons_zero, List.set_cons_succ])
  refine wpList_end ?_
  go_upto_region 1 with fail; refine wp_region_lit ?_
  refine wpList_val (run_ldM (vs := X) rfl Try.underlying75 rfl (szR HLN.out (by kernel_rfl)) rfl (HA.out).range) rfl ?_; (try simp only [Act.put, List.setIfInBounds_toArray, List.set_cons_zero, List.set_cons_succ])
  refine wpList_callR (run_call2 enters_wrRsp rfl rfl rfl rfl) rfl (HC.out _ HB.out) (fun v1 a2 hR => ?_); (try simp only [Act.put, List.setIfInBounds_toArray, List.set_cons_zero, List.set_cons_succ])
  have HR := Lib.hid hR
  clear hR
  obtain ⟨xa, xc, rfl, -, -⟩ := HR.out.sl
  refine wpList_val (run_asg (v := .slice xa out.length xc) rfl rfl) rfl ?_; (try simp only [Act.put, List.setIfInBounds_toArray, List.set_cons_zero, List.set_cons_succ])
  refine wpList_end ?_
  go_wp2_with fail
  exact bodyPost_ret (results_tmp Try.results28 _ _ _) rfl ⟨_, rfl, HR.out.mono HB.out⟩
theorem enters_wrAcc : Enters 45 := enters_of Try.func45 (by kernel_rfl) rfl
theorem enters_xAcc : Enters 13 := enters_of Try.func13 (by kernel_rfl) rfl
set_option maxHeartbeats 4000000 in
theorem wrAcc_any (w : World) (m : MAc) (X : List Value) (hm : m.Ok) (ho : ∀ s ∈ m.slots, ∀ p ∈ s.mail, -9223372036854775808 ≤ p.one) (hX : Fro 0 (acAt m X) w) (hb : (acB m).length ≤ 100000000000) : Calls Try.prog 45 #[.agg X.toArray, .func (.func 46) #[] #[]] w fun e w' => ∃ v', e = .returned v' ∧ S5 w v' (acB m) w' := by
  have HC : Hid (∀ (w1 : World) (p : Nat) (u : World), Below w.heap.size w w1 → Ww w1 p [] [] u → Calls Try.prog 46 #[.pointer (some ⟨p, 0, none⟩), .agg X.toArray] u fun e u' => ∃ v', e = .returned v' ∧ Ww w1 p [] (acB m) u') := Lib.hid fun w1 p u hw H => (by have h := wacc_any w1 p [] [] m X u hm ho (hX.below hw) (by simpa using hb) H; rw [List.nil_append] at h; exact h)
  have hln : (X).length = 105 := acAt_len hm hX
  clear hb hX ho hm
  generalize acB m = out at *
  have HLN := Lib.hid hln
  clear hln
  go_enter Try.func45, Try.ntmps45
  go_upto_region 0 with fail; refine wp_region_lit ?_
  refine wpList_val (run_boxL8 (vs := X) rfl rfl) rfl ?_; (try simp only [Act.put, List.setIfInBounds_toArray, List.set_cons_zero, List.set_cons_succ])
  have HB : Hid (Below w.heap.size w (w.alloc (.cells X.toArray 52))) := Lib.hid ((Below.refl _ _).alloc (Nat.le_refl _) _)
  have HA := Lib.hid (Arr.new w X 52)
  generalize w.alloc (.cells X.toArray 52) = w1 at *
  generalize hg0 : w.heap.size = g0 at HA ⊢
  clear hg0
  refine wpList_val (run_asg (v := .slice none 0 0) rfl rfl) rfl ?_; (try simp only [Act.put, List.setIfInBounds_toArray, List.set_cons_zero, List.set_cons_succ])
  refine wpList_end ?_
  go_upto_region 1 with fail; refine wp_region_lit ?_
  refine wpList_val (run_alc (vs := [.slice none 0 0]) rfl (by kernel_rfl)) rfl ?_; (try simp only [Act.put, List.setIfInBounds_toArray, List.set_cons_zero, List.set_cons_succ])
  have E := Lib.hid (Ww.start w1 140)
  generalize hw1 : w1.alloc (.cells ([.slice none 0 0] : List Value).toArray 140) = a1 at E ⊢
  clear hw1
  generalize hg1 : w1.heap.size = g1 at E ⊢
  clear hg1
  refine wpList_end ?_
  go_upto_region 2 with fail; refine wp_region_lit ?_
  refine wpList_val (run_mv (v := .func (.func 46) #[] #[]) rfl rfl) rfl ?_; (try simp only [Act.put, List.setIfInBounds_toArray, List.set_cons_zero, List.set_cons_succ])
  refine wpList_val (run_ldM (vs := X) rfl Try.underlying52 rfl (szR HLN.out (by kernel_rfl)) rfl (HA.out.below E.out.bl).range) rfl ?_; (try simp only [Act.put, List.setIfInBounds_toArray, List.set_cons_zero, List.set_cons_succ])
  refine wpList_callR (run_callv2 enters_wacc rfl rfl rfl rfl) rfl (HC.out _ _ _ HB.out E.out) (fun v1 a2 hR => ?_); (try simp only [Act.put, List.setIfInBounds_toArray, List.set_cons_zero, List.set_cons_succ])
  obtain ⟨v, G⟩ := hR.ex
  have GG := Lib.hid G
  clear hR G E
  obtain ⟨xa, xn, xc, rfl⟩ := GG.out.isSlice
  refine wpList_end ?_
  go_upto_region 3 with fail; refine wp_region_lit ?_
  refine wpList_val (run_fad (s := 0) (k := 0) rfl Try.underlying140 rfl (by kernel_rfl) rfl rfl) rfl ?_; (try simp only [Act.put, List.setIfInBounds_toArray, List.set_cons_zero, List.set_cons_succ])
  refine wpList_val (run_ldc (v := .slice xa xn xc) rfl Try.underlying22 rfl rfl ((GG.out.get (i := 0) rfl).c 0 _ rfl)) rfl ?_; (try simp only [Act.put, List.setIfInBounds_toArray, List.set_cons_zero, List.set_cons_succ])
  refine wpList_val (run_asg (v := .slice xa xn xc) rfl rfl) rfl ?_; (try simp only [Act.put, List.setIfInBounds_toArray, List.set_cons_zero, List.set_cons_succ])
  refine wpList_end ?_
  go_wp2_with fail
  exact bodyPost_ret (results_tmp Try.results45 _ _ _) rfl ⟨_, rfl, (show S5 w1 _ out _ from ⟨GG.out.bl, GG.out.row⟩).mono HB.out⟩
set_option maxHeartbeats 4000000 in
theorem xAcc_any (w : World) (m : MAc) (X : List Value) (hm : m.Ok) (ho : ∀ s ∈ m.slots, ∀ p ∈ s.mail, -9223372036854775808 ≤ p.one) (hX : Fro 0 (acAt m X) w) (hb : (acB m).length ≤ 100000000000) : Calls Try.prog 13 #[.agg X.toArray] w fun e w' => ∃ v', e = .returned v' ∧ S5 w v' (acB m) w' := by
  have HC : Hid (∀ w1 : World, Below w.heap.size w w1 → Calls Try.prog 45 #[.agg X.toArray, .func (.func 46) #[] #[]] w1 fun e w' => ∃ v', e = .returned v' ∧ S5 w1 v' (acB m) w') := Lib.hid fun w1 hw => wrAcc_any w1 m X hm ho (hX.below hw) hb
  have hln : (X).length = 105 := acAt_len hm hX
  clear hb hX ho hm
  generalize acB m = out at *
  have HLN := Lib.hid hln
  clear hln
  go_enter Try.func13, Try.ntmps13
  go_upto_region 0 with fail; refine wp_region_lit ?_
  refine wpList_val (run_boxL8 (vs := X) rfl rfl) rfl ?_; (try simp only [Act.put, List.setIfInBounds_toArray, List.set_cons_zero, List.set_cons_succ])
  have HB : Hid (Below w.heap.size w (w.alloc (.cells X.toArray 52))) := Lib.hid ((Below.refl _ _).alloc (Nat.le_refl _) _)
  have HA := Lib.hid (Arr.new w X 52)
  generalize w.alloc (.cells X.toArray 52) = w1 at *
  generalize hg0 : w.heap.size = g0 at HA ⊢
  clear hg0
  refine wpList_val (run_asg (v := .slice none 0 0) rfl rfl) rfl ?_; (try simp only [Act.put, List.setIfInBounds_toArray, List.set_cons_zero, List.set_cons_succ])
  refine wpList_end ?_
  go_upto_region 1 with fail; refine wp_region_lit ?_
  refine wpList_val (run_ldM (vs := X) rfl Try.underlying52 rfl (szR HLN.out (by kernel_rfl)) rfl (HA.out).range) rfl ?_; (try simp only [Act.put, List.setIfInBounds_toArray, List.set_cons_zero, List.set_cons_succ])
  refine wpList_callR (run_call2 enters_wrAcc rfl rfl rfl rfl) rfl (HC.out _ HB.out) (fun v1 a2 hR => ?_); (try simp only [Act.put, List.setIfInBounds_toArray, List.set_cons_zero, List.set_cons_succ])
  have HR := Lib.hid hR
  clear hR
  obtain ⟨xa, xc, rfl, -, -⟩ := HR.out.sl
  refine wpList_val (run_asg (v := .slice xa out.length xc) rfl rfl) rfl ?_; (try simp only [Act.put, List.setIfInBounds_toArray, List.set_cons_zero, List.set_cons_succ])
  refine wpList_end ?_
  go_wp2_with fail
  exact bodyPost_ret (results_tmp Try.results13 _ _ _) rfl ⟨_, rfl, HR.out.mono HB.out⟩
theorem enters_wrHdr : Enters 65 := enters_of Try.func65 (by kernel_rfl) rfl
theorem enters_xHdr : Enters 26 := enters_of Try.func26 (by kernel_rfl) rfl
set_option maxHeartbeats 4000000 in
theorem wrHdr_any (w : World) (m : MHd) (hm : m.r.length = 32) (hb : (hdB m).length ≤ 100000000000) : Calls Try.prog 65 #[.agg (hdC m).toArray, .func (.func 66) #[] #[]] w fun e w' => ∃ v', e = .returned v' ∧ S5 w v' (hdB m) w' := by
  have HC : Hid (∀ (w1 : World) (p : Nat) (u : World), Below w.heap.size w w1 → Ww w1 p [] [] u → Calls Try.prog 66 #[.pointer (some ⟨p, 0, none⟩), .agg (hdC m).toArray] u fun e u' => ∃ v', e = .returned v' ∧ Ww w1 p [] (hdB m) u') := Lib.hid fun w1 p u hw H => (by have h := whdr_any w1 p [] [] m u hm (by simpa using hb) H; rw [List.nil_append] at h; exact h)
  have hln : (hdC m).length = 34 := hdC_len hm
  clear hb hm
  generalize hdC m = X at *
  generalize hdB m = out at *
  have HLN := Lib.hid hln
  clear hln
  go_enter Try.func65, Try.ntmps65
  go_upto_region 0 with fail; refine wp_region_lit ?_
  refine wpList_val (run_boxL8 (vs := X) rfl rfl) rfl ?_; (try simp only [Act.put, List.setIfInBounds_toArray, List.set_cons_zero, List.set_cons_succ])
  have HB : Hid (Below w.heap.size w (w.alloc (.cells X.toArray 62))) := Lib.hid ((Below.refl _ _).alloc (Nat.le_refl _) _)
  have HA := Lib.hid (Arr.new w X 62)
  generalize w.alloc (.cells X.toArray 62) = w1 at *
  generalize hg0 : w.heap.size = g0 at HA ⊢
  clear hg0
  refine wpList_val (run_asg (v := .slice none 0 0) rfl rfl) rfl ?_; (try simp only [Act.put, List.setIfInBounds_toArray, List.set_cons_zero, List.set_cons_succ])
  refine wpList_end ?_
  go_upto_region 1 with fail; refine wp_region_lit ?_
  refine wpList_val (run_alc (vs := [.slice none 0 0]) rfl (by kernel_rfl)) rfl ?_; (try simp only [Act.put, List.setIfInBounds_toArray, List.set_cons_zero, List.set_cons_succ])
  have E := Lib.hid (Ww.start w1 140)
  generalize hw1 : w1.alloc (.cells ([.slice none 0 0] : List Value).toArray 140) = a1 at E ⊢
  clear hw1
  generalize hg1 : w1.heap.size = g1 at E ⊢
  clear hg1
  refine wpList_end ?_
  go_upto_region 2 with fail; refine wp_region_lit ?_
  refine wpList_val (run_mv (v := .func (.func 66) #[] #[]) rfl rfl) rfl ?_; (try simp only [Act.put, List.setIfInBounds_toArray, List.set_cons_zero, List.set_cons_succ])
  refine wpList_val (run_ldM (vs := X) rfl Try.underlying62 rfl (szR HLN.out (by kernel_rfl)) rfl (HA.out.below E.out.bl).range) rfl ?_; (try simp only [Act.put, List.setIfInBounds_toArray, List.set_cons_zero, List.set_cons_succ])
  refine wpList_callR (run_callv2 enters_whdr rfl rfl rfl rfl) rfl (HC.out _ _ _ HB.out E.out) (fun v1 a2 hR => ?_); (try simp only [Act.put, List.setIfInBounds_toArray, List.set_cons_zero, List.set_cons_succ])
  obtain ⟨v, G⟩ := hR.ex
  have GG := Lib.hid G
  clear hR G E
  obtain ⟨xa, xn, xc, rfl⟩ := GG.out.isSlice
  refine wpList_end ?_
  go_upto_region 3 with fail; refine wp_region_lit ?_
  refine wpList_val (run_fad (s := 0) (k := 0) rfl Try.underlying140 rfl (by kernel_rfl) rfl rfl) rfl ?_; (try simp only [Act.put, List.setIfInBounds_toArray, List.set_cons_zero, List.set_cons_succ])
  refine wpList_val (run_ldc (v := .slice xa xn xc) rfl Try.underlying22 rfl rfl ((GG.out.get (i := 0) rfl).c 0 _ rfl)) rfl ?_; (try simp only [Act.put, List.setIfInBounds_toArray, List.set_cons_zero, List.set_cons_succ])
  refine wpList_val (run_asg (v := .slice xa xn xc) rfl rfl) rfl ?_; (try simp only [Act.put, List.setIfInBounds_toArray, List.set_cons_zero, List.set_cons_succ])
  refine wpList_end ?_
  go_wp2_with fail
  exact bodyPost_ret (results_tmp Try.results65 _ _ _) rfl ⟨_, rfl, (show S5 w1 _ out _ from ⟨GG.out.bl, GG.out.row⟩).mono HB.out⟩
set_option maxHeartbeats 4000000 in
theorem xHdr_any (w : World) (m : MHd) (hm : m.r.length = 32) (hb : (hdB m).length ≤ 100000000000) : Calls Try.prog 26 #[.agg (hdC m).toArray] w fun e w' => ∃ v', e = .returned v' ∧ S5 w v' (hdB m) w' := by
  have HC : Hid (∀ w1 : World, Below w.heap.size w w1 → Calls Try.prog 65 #[.agg (hdC m).toArray, .func (.func 66) #[] #[]] w1 fun e w' => ∃ v', e = .returned v' ∧ S5 w1 v' (hdB m) w') := Lib.hid fun w1 hw => wrHdr_any w1 m hm hb
  have hln : (hdC m).length = 34 := hdC_len hm
  clear hb hm
  generalize hdC m = X at *
  generalize hdB m = out at *
  have HLN := Lib.hid hln
  clear hln
  go_enter Try.func26, Try.ntmps26
  go_upto_region 0 with fail; refine wp_region_lit ?_
  refine wpList_val (run_boxL8 (vs := X) rfl rfl) rfl ?_; (try simp only [Act.put, List.setIfInBounds_toArray, List.set_cons_zero, List.set_cons_succ])
  have HB : Hid (Below w.heap.size w (w.alloc (.cells X.toArray 62))) := Lib.hid ((Below.refl _ _).alloc (Nat.le_refl _) _)
  have HA := Lib.hid (Arr.new w X 62)
  generalize w.alloc (.cells X.toArray 62) = w1 at *
  generalize hg0 : w.heap.size = g0 at HA ⊢
  clear hg0
  refine wpList_val (run_asg (v := .slice none 0 0) rfl rfl) rfl ?_; (try simp only [Act.put, List.setIfInBounds_toArray, List.set_cons_zero, List.set_cons_succ])
  refine wpList_end ?_
  go_upto_region 1 with fail; refine wp_region_lit ?_
  refine wpList_val (run_ldM (vs := X) rfl Try.underlying62 rfl (szR HLN.out (by kernel_rfl)) rfl (HA.out).range) rfl ?_; (try simp only [Act.put, List.setIfInBounds_toArray, List.set_cons_zero, List.set_cons_succ])
  refine wpList_callR (run_call2 enters_wrHdr rfl rfl rfl rfl) rfl (HC.out _ HB.out) (fun v1 a2 hR => ?_); (try simp only [Act.put, List.setIfInBounds_toArray, List.set_cons_zero, List.set_cons_succ])
  have HR := Lib.hid hR
  clear hR
  obtain ⟨xa, xc, rfl, -, -⟩ := HR.out.sl
  refine wpList_val (run_asg (v := .slice xa out.length xc) rfl rfl) rfl ?_; (try simp only [Act.put, List.setIfInBounds_toArray, List.set_cons_zero, List.set_cons_succ])
  refine wpList_end ?_
  go_wp2_with fail
  exact bodyPost_ret (results_tmp Try.results26 _ _ _) rfl ⟨_, rfl, HR.out.mono HB.out⟩
theorem enters_wrUss : Enters 35 := enters_of Try.func35 (by kernel_rfl) rfl
theorem enters_xUss : Enters 8 := enters_of Try.func8 (by kernel_rfl) rfl
set_option maxHeartbeats 4000000 in
theorem wrUss_any (w : World) (ms : List MUs) (a : Option Addr) (c : Nat) (hn : ms.length ≤ 100000000000) (hX : Fro 0 (SlR 3 usAt ms a c) w) (hb : (alB usB ms).length ≤ 100000000000) : Calls Try.prog 35 #[.slice a ms.length c, .func (.func 36) #[] #[]] w fun e w' => ∃ v', e = .returned v' ∧ S5 w v' (alB usB ms) w' := by
  have HC : Hid (∀ (w1 : World) (p : Nat) (u : World), Below w.heap.size w w1 → Ww w1 p [] [] u → Calls Try.prog 36 #[.pointer (some ⟨p, 0, none⟩), .slice a ms.length c] u fun e u' => ∃ v', e = .returned v' ∧ Ww w1 p [] (alB usB ms) u') := Lib.hid fun w1 p u hw H => (by have h := wuss_any w1 p [] [] ms a c u hn (hX.below hw) (by simpa using hb) H; rw [List.nil_append] at h; exact h)
  clear hb hX hn
  generalize ms.length = n at *
  generalize alB usB ms = out at *
  go_enter Try.func35, Try.ntmps35
  go_upto_region 0 with fail; refine wp_region_lit ?_
  have HB : Hid (Below w.heap.size w w) := Lib.hid (Below.refl _ _)
  refine wpList_val (run_asg (v := .slice none 0 0) rfl rfl) rfl ?_; (try simp only [Act.put, List.setIfInBounds_toArray, List.set_cons_zero, List.set_cons_succ])
  refine wpList_end ?_
  go_upto_region 1 with fail; refine wp_region_lit ?_
  refine wpList_val (run_alc (vs := [.slice none 0 0]) rfl (by kernel_rfl)) rfl ?_; (try simp only [Act.put, List.setIfInBounds_toArray, List.set_cons_zero, List.set_cons_succ])
  have E := Lib.hid (Ww.start w 140)
  generalize hw1 : w.alloc (.cells ([.slice none 0 0] : List Value).toArray 140) = a1 at E ⊢
  clear hw1
  generalize hg1 : w.heap.size = g1 at E ⊢
  clear hg1
  refine wpList_end ?_
  go_upto_region 2 with fail; refine wp_region_lit ?_
  refine wpList_val (run_mv (v := .func (.func 36) #[] #[]) rfl rfl) rfl ?_; (try simp only [Act.put, List.setIfInBounds_toArray, List.set_cons_zero, List.set_cons_succ])
  refine wpList_val (run_mv (v := .slice a n c) rfl rfl) rfl ?_; (try simp only [Act.put, List.setIfInBounds_toArray, List.set_cons_zero, List.set_cons_succ])
  refine wpList_callR (run_callv2 enters_wuss rfl rfl rfl rfl) rfl (HC.out _ _ _ HB.out E.out) (fun v1 a2 hR => ?_); (try simp only [Act.put, List.setIfInBounds_toArray, List.set_cons_zero, List.set_cons_succ])
  obtain ⟨v, G⟩ := hR.ex
  have GG := Lib.hid G
  clear hR G E
  obtain ⟨xa, xn, xc, rfl⟩ := GG.out.isSlice
  refine wpList_end ?_
  go_upto_region 3 with fail; refine wp_region_lit ?_
  refine wpList_val (run_fad (s := 0) (k := 0) rfl Try.underlying140 rfl (by kernel_rfl) rfl rfl) rfl ?_; (try simp only [Act.put, List.setIfInBounds_toArray, List.set_cons_zero, List.set_cons_succ])
  refine wpList_val (run_ldc (v := .slice xa xn xc) rfl Try.underlying22 rfl rfl ((GG.out.get (i := 0) rfl).c 0 _ rfl)) rfl ?_; (try simp only [Act.put, List.setIfInBounds_toArray, List.set_cons_zero, List.set_cons_succ])
  refine wpList_val (run_asg (v := .slice xa xn xc) rfl rfl) rfl ?_; (try simp only [Act.put, List.setIfInBounds_toArray, List.set_cons_zero, List.set_cons_succ])
  refine wpList_end ?_
  go_wp2_with fail
  exact bodyPost_ret (results_tmp Try.results35 _ _ _) rfl ⟨_, rfl, (show S5 w _ out _ from ⟨GG.out.bl, GG.out.row⟩).mono HB.out⟩
set_option maxHeartbeats 4000000 in
theorem xUss_any (w : World) (ms : List MUs) (a : Option Addr) (c : Nat) (hn : ms.length ≤ 100000000000) (hX : Fro 0 (SlR 3 usAt ms a c) w) (hb : (alB usB ms).length ≤ 100000000000) : Calls Try.prog 8 #[.slice a ms.length c] w fun e w' => ∃ v', e = .returned v' ∧ S5 w v' (alB usB ms) w' := by
  have HC : Hid (∀ w1 : World, Below w.heap.size w w1 → Calls Try.prog 35 #[.slice a ms.length c, .func (.func 36) #[] #[]] w1 fun e w' => ∃ v', e = .returned v' ∧ S5 w1 v' (alB usB ms) w') := Lib.hid fun w1 hw => wrUss_any w1 ms a c hn (hX.below hw) hb
  clear hb hX hn
  generalize ms.length = n at *
  generalize alB usB ms = out at *
  go_enter Try.func8, Try.ntmps8
  go_upto_region 0 with fail; refine wp_region_lit ?_
  have HB : Hid (Below w.heap.size w w) := Lib.hid (Below.refl _ _)
  refine wpList_val (run_asg (v := .slice none 0 0) rfl rfl) rfl ?_; (try simp only [Act.put, List.setIfInBounds_toArray, List.set_cons_zero, List.set_cons_succ])
  refine wpList_end ?_
  go_upto_region 1 with fail; refine wp_region_lit ?_
  refine wpList_val (run_mv (v := .slice a n c) rfl rfl) rfl ?_; (try simp only [Act.put, List.setIfInBounds_toArray, List.set_cons_zero, List.set_cons_succ])
  refine wpList_callR (run_call2 enters_wrUss rfl rfl rfl rfl) rfl (HC.out _ HB.out) (fun v1 a2 hR => ?_); (try simp only [Act.put, List.setIfInBounds_toArray, List.set_cons_zero, List.set_cons_succ])
  have HR := Lib.hid hR
  clear hR
  obtain ⟨xa, xc, rfl, -, -⟩ := HR.out.sl
  refine wpList_val (run_asg (v := .slice xa out.length xc) rfl rfl) rfl ?_; (try simp only [Act.put, List.setIfInBounds_toArray, List.set_cons_zero, List.set_cons_succ])
  refine wpList_end ?_
  go_wp2_with fail
  exact bodyPost_ret (results_tmp Try.results8 _ _ _) rfl ⟨_, rfl, HR.out.mono HB.out⟩
end Go.Proofs.Ytgioojahadlmhaa
