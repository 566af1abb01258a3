import Derived.Test.YtcgbgmbnagmohaaGreatLy
import Derived.Test.YtcgbgmbnagmohaaGreatPw3
import Derived.Test.YtcgbgmbnagmohaaGreatWrF
namespace Go.Proofs.YtcgbgmbnagmohaaGreat
open Go.RowKit
set_option maxRecDepth 20000
attribute [local irreducible] wpList
def itB (p : Int × MEv) : List (BitVec 8) := viB p.1 ++ evB p.2
theorem itAt_fix {m : Int × MEv} {X : List Value} {w : World} (hm : m.2.Ok) (h : Fro 0 (itAt m X) w) : ∃ cs, X = itR (.int .i64 m.1) cs ∧ cs.length = 72 ∧ One cs ∧ Fro 0 (evAt m.2 cs) w := by
  obtain ⟨cs, hq, h2⟩ := h.now
  obtain ⟨a0, c0, e0, -⟩ := id h2
  have l0 : cs.length = 72 := by rw [e0]; exact evC_len hm _
  have o0 : One cs := by rw [e0]; exact by rw [evC_row]; exact evR_one rfl rfl rfl (One.b8 _) rfl rfl hdC_one rfl
  refine ⟨cs, hq, l0, o0, fun V hV => ?_⟩
  obtain ⟨cs2, h3, h4⟩ := h V hV
  have l2 : cs2.length = 72 := by obtain ⟨a, c, e, -⟩ := h4; rw [e]; exact evC_len hm _
  rw [hq] at h3
  have h5 : (_ : List Value) = (_ : List Value) := congrArg (fun l : List Value => (l.drop 1).take 72) h3
  rw [itR_Env l0, itR_Env l2] at h5
  subst h5
  exact h4
theorem enters_walV : Enters 137 := qan Tryz.func137 (by kernel_rfl) rfl
set_option maxHeartbeats 4000000 in
theorem walV_any (w : World) (p : Nat) (L : List (Nat × List Value)) (l : List (BitVec 8)) (ms : List MEv) (a : Option Addr) (c : Nat) (u : World) (hn : ms.length ≤ 100000000000) (hp : ∀ p ∈ ms, p.Ok ∧ -9223372036854775808 ≤ p.one) (hX : Fro 0 (SlR 72 evAt ms a c) w) (hb : l.length + (alB evB ms).length ≤ 100000000000) (H : Ww w p L l u) : Calls Tryz.prog 137 #[.pointer (some ⟨p, 0, none⟩), .slice a ms.length c, .func (.func 64) #[] #[]] u fun e u' => ∃ v', e = .returned v' ∧ Ww w p L (l ++ (alB evB ms)) u' := by
  have HE : Hid (∀ i, i < ms.length → ∃ g f cs x, a = some ⟨g, f, none⟩ ∧ alF evB ms (i + 1) = alF evB ms i ++ x ∧ (cs : List Value).length = 72 ∧ One cs ∧ (∀ u, Below w.heap.size w u → u.rangeAt g (f + i * 72) cs) ∧ (∀ (u : World) (L : List (Nat × List Value)) (y : List (BitVec 8)), y = l ++ alF evB ms i → Ww w p L y u → Calls Tryz.prog 64 #[.pointer (some ⟨p, 0, none⟩), .agg cs.toArray] u fun e u' => ∃ v', e = .returned v' ∧ Ww w p L (y ++ x) u')) := Lib.hid fun i hi => by
    obtain ⟨g, f, cs, h1, h2, h3, h4, h5⟩ := slR_get hX hi
    have hk := hp _ (List.getElem_mem hi)
    have hle := alF_le evB ms hi
    obtain ⟨q1, q2, e, -⟩ := evAt_fix hk.1 h5
    have hone : One cs := by rw [e, evC_row]; exact evR_one rfl rfl rfl (One.b8 _) rfl rfl hdC_one rfl
    exact ⟨g, f, cs, evB ms[i], h1, alF_succ hi, h3, hone, fun u hu => qbw h4 h2 hu, fun u L y hy H => wenv_any w p L y ms[i] cs u hk.1 hk.2 h5 (by rw [hy, List.length_append]; omega) H⟩
  have E0 : Hid (viB (ms.length : Int) = alF evB ms 0) := Lib.hid (alF_zero _ _)
  have EO : Hid (alF evB ms ms.length = alB evB ms) := Lib.hid (alF_all _ _)
  have HB : Hid (l.length + (viB (ms.length : Int)).length ≤ 100000000000) := Lib.hid (by have h := alF_head evB ms; omega)
  have E := Lib.hid H
  clear hb H hX hp
  obtain ⟨Gf, hGf⟩ : ∃ Gf, Gf = alF evB ms := ⟨_, rfl⟩
  rw [← hGf] at HE E0 EO
  clear hGf
  generalize alB evB ms = out at *
  generalize ms.length = n at *
  go_enter Tryz.func137, Tryz.ntmps137
  go_upto_region 0 with fail; refine wp_region_lit ?_
  refine qaa (qad (v := .pointer (some ⟨p, 0, none⟩)) rfl rfl) rfl ?_; (try simp only [Act.put, lyy])
  refine qaa (qad (v := .slice a n c) rfl rfl) rfl ?_; (try simp only [Act.put, lyy])
  refine qaa (qa4 rfl Tryz.underlying52 rfl) rfl ?_; (try simp only [Act.put, lyy])
  refine qag (qaf qa5 rfl rfl rfl rfl) rfl (qbn w p L l (n : Int) u HB.out E.out) (fun v1 a1 hR => ?_); (try simp only [Act.put, lyy])
  replace E := Lib.hid hR
  clear hR
  rw [E0.out] at E
  refine qab ?_
  go_upto_region 1 with fail; refine wp_region_lit ?_
  refine qaa (qad (v := .slice a n c) rfl rfl) rfl ?_; (try simp only [Act.put, lyy])
  refine qaa (qa4 rfl Tryz.underlying52 rfl) rfl ?_; (try simp only [Act.put, lyy])
  refine qaa (qad (v := .int .i64 0) rfl rfl) rfl ?_; (try simp only [Act.put, lyy])
  refine qab ?_
  go_wp2_with fail
  go_loopw [14] (fun s14 u => ∃ i : Nat, i ≤ n ∧ s14 = .int .i64 (i : Int) ∧ Ww w p L (l ++ Gf i) u) (fun s14 _ => ((n : Int) - intOf s14).toNat)
  case atStart => exact ⟨0, by omega, rfl, E.out⟩
  case round =>
    obtain ⟨i, hi, rfl, hJ⟩ := hrel
    replace E := Lib.hid hJ
    clear hJ
    by_cases hik : i = n
    · subst hik
      replace E := Lib.hid (E.out.cast (show _ = l ++ out by rw [EO.out]))
      go_upto_region 2 with fail; refine wp_region_lit ?_
      refine qaa (qay (c := false) rfl rfl rfl (decide_eq_false (by omega))) rfl ?_; (try simp only [Act.put, lyy])
      refine qab ?_
      go_wp2_with fail
      exact bodyPost_end (results_none Tryz.results137 _ _ _) rfl ⟨_, rfl, E.out⟩
    · obtain ⟨g, f, cs, x, rfl, hx, hz, hone, hr, hc⟩ := HE.out i (by omega)
      have HX := Lib.hid hx
      have HR1 := Lib.hid hr
      have HC1 := Lib.hid hc
      have HO1 := Lib.hid hone
      clear hx hr hc hone
      go_upto_region 2 with fail; refine wp_region_lit ?_
      refine qaa (qay (c := true) rfl rfl rfl (decide_eq_true (by omega))) rfl ?_; (try simp only [Act.put, lyy])
      refine qab ?_
      go_upto_region 3 with fail; refine wp_region_lit ?_
      refine qaa (qca (z := 72) (i := i) rfl Tryz.underlying52 (by kernel_rfl) rfl rfl (by omega)) rfl ?_; (try simp only [Act.put, lyy])
      refine qaa (qat (vs := cs) rfl Tryz.underlying38 rfl (szR hz (by kernel_rfl)) rfl (HR1.out _ E.out.bl)) rfl ?_; (try simp only [Act.put, lyy])
      refine qaa (qa3 (vs := evR ((.int .i64 0)) ((.int .i64 0)) ((.bool false)) (z8 32) ((.int .i64 0)) ((.int .i64 0)) (hdR (z8 32) ((.int .i64 0)) ((.int .i64 0))) ((.slice none 0 0))) rfl (by kernel_rfl)) rfl ?_; (try simp only [Act.put, lyy])
      replace E := Lib.hid (E.out.new (evR ((.int .i64 0)) ((.int .i64 0)) ((.bool false)) (z8 32) ((.int .i64 0)) ((.int .i64 0)) (hdR (z8 32) ((.int .i64 0)) ((.int .i64 0))) ((.slice none 0 0))) 38)
      generalize wr.alloc (.cells (evR ((.int .i64 0)) ((.int .i64 0)) ((.bool false)) (z8 32) ((.int .i64 0)) ((.int .i64 0)) (hdR (z8 32) ((.int .i64 0)) ((.int .i64 0))) ((.slice none 0 0))).toArray 38) = a1 at *
      generalize wr.heap.size = g1 at *
      refine qal (qa0 (vs := cs) rfl (szR hz (by kernel_rfl)) rfl rfl (One.all HO1.out) ((E.out.get (i := 0) rfl).thereM (by have q2 : (evR ((.int .i64 0)) ((.int .i64 0)) ((.bool false)) (z8 32) ((.int .i64 0)) ((.int .i64 0)) (hdR (z8 32) ((.int .i64 0)) ((.int .i64 0))) ((.slice none 0 0))).length = 72 := (qbk (z8_len' 32) (qa9 (z8_len' 32))); omega))) rfl rfl ?_
      replace E := Lib.hid (E.out.put 0 rfl (m' := cs) (hz.trans (show (evR ((.int .i64 0)) ((.int .i64 0)) ((.bool false)) (z8 32) ((.int .i64 0)) ((.int .i64 0)) (hdR (z8 32) ((.int .i64 0)) ((.int .i64 0))) ((.slice none 0 0))).length = 72 from (qbk (z8_len' 32) (qa9 (z8_len' 32)))).symm))
      replace E := Lib.hid (show Ww w p ((g1, cs) :: L) _ _ from E.out)
      generalize a1.setCells g1 0 cs = a2 at *
      refine qab ?_
      go_upto_region 4 with fail; refine wp_region_lit ?_
      refine qaa (qad (v := .func (.func 64) #[] #[]) rfl rfl) rfl ?_; (try simp only [Act.put, lyy])
      refine qaa (qad (v := .pointer (some ⟨p, 0, none⟩)) rfl rfl) rfl ?_; (try simp only [Act.put, lyy])
      refine qaa (qat (vs := cs) rfl Tryz.underlying38 rfl (szR hz (by kernel_rfl)) rfl (E.out.get (i := 0) rfl).range) rfl ?_; (try simp only [Act.put, lyy])
      refine qag (qcb enters_wenv rfl rfl rfl rfl) rfl (HC1.out _ _ _ rfl E.out) (fun v3 a3 hR => ?_); (try simp only [Act.put, lyy])
      replace E := Lib.hid (hR.drop.cast (show _ = l ++ Gf (i + 1) by rw [HX.out, List.append_assoc]))
      clear hR
      refine qab ?_
      go_upto_region 5 with fail; refine wp_region_lit ?_
      refine qaa (qa6 (a := i) (b := 1) rfl rfl rfl (by omega)) rfl ?_; (try simp only [Act.put, lyy])
      refine qaa (qad (v := .int .i64 ((i + 1 : Nat) : Int)) rfl rfl) rfl ?_; (try simp only [Act.put, lyy])
      refine qab ?_
      go_wp2_with fail
      exact ⟨⟨i + 1, by omega, rfl, E.out⟩, by simp [intOf]; omega⟩
theorem enters_witm : Enters 132 := qan Tryz.func132 (by kernel_rfl) rfl
set_option maxHeartbeats 4000000 in
theorem witm_any (w : World) (p : Nat) (L : List (Nat × List Value)) (l : List (BitVec 8)) (m : Int × MEv) (X : List Value) (u : World) (hm : m.2.Ok) (ho : -9223372036854775808 ≤ m.2.one) (hX : Fro 0 (itAt m X) w) (hb : l.length + (itB m).length ≤ 100000000000) (H : Ww w p L l u) : Calls Tryz.prog 132 #[.pointer (some ⟨p, 0, none⟩), .agg (X).toArray] u fun e u' => ∃ v', e = .returned v' ∧ Ww w p L (l ++ (itB m)) u' := by
  obtain ⟨c1, rfl, l1, o1, HF⟩ := itAt_fix hm hX
  clear hX
  have HF2 := Lib.hid HF
  clear HF
  have EB : Hid (l ++ viB m.1 ++ evB m.2 = l ++ (itB m)) := Lib.hid (by unfold itB; simp only [List.append_assoc])
  have HB : Hid ((l ++ viB m.1 ++ evB m.2).length ≤ 100000000000) := Lib.hid (by rw [EB.out, List.length_append]; exact hb)
  have E := Lib.hid H
  clear hb H
  go_enter Tryz.func132, Tryz.ntmps132
  go_upto_region 0 with fail; refine wp_region_lit ?_
  refine qaa (qa8 (vs := itR (.int .i64 m.1) (c1)) rfl rfl) rfl ?_; (try simp only [Act.put, lyy])
  replace E := Lib.hid (E.out.new (itR (.int .i64 m.1) (c1)) 102)
  generalize u.alloc (.cells (itR (.int .i64 m.1) (c1)).toArray 102) = a1 at *
  generalize u.heap.size = g2 at *
  refine qab ?_
  go_upto_region 1 with fail; refine wp_region_lit ?_
  refine qaa (qad (v := .pointer (some ⟨p, 0, none⟩)) rfl rfl) rfl ?_; (try simp only [Act.put, lyy])
  refine qaa (qai (s := 0) (k := 0) rfl Tryz.underlying102 rfl (by kernel_rfl) rfl rfl) rfl ?_; (try simp only [Act.put, lyy])
  refine qaa (qam rfl Tryz.underlying3 rfl rfl ((E.out.get (i := 0) rfl).c 0 _ (itR_Device ))) rfl ?_; (try simp only [Act.put, lyy])
  refine qag (qaf qa5 rfl rfl rfl rfl) rfl (qbn w p _ _ (m.1) _ (by have h := HB.out; simp only [List.length_append] at h ⊢; omega) E.out) (fun v4 a3 hR => ?_); (try simp only [Act.put, lyy])
  replace E := Lib.hid hR
  clear hR
  refine qab ?_
  go_upto_region 2 with fail; refine wp_region_lit ?_
  refine qaa (qad (v := .pointer (some ⟨p, 0, none⟩)) rfl rfl) rfl ?_; (try simp only [Act.put, lyy])
  refine qaa (qai (s := 71) (k := 1) rfl Tryz.underlying102 rfl (by kernel_rfl) rfl rfl) rfl ?_; (try simp only [Act.put, lyy])
  refine qaa (qat (vs := c1) rfl Tryz.underlying38 rfl (szR l1 (by kernel_rfl)) rfl ((E.out.get (i := 0) rfl).seg (itR_Env l1))) rfl ?_; (try simp only [Act.put, lyy])
  refine qag (qaf enters_wenv rfl rfl rfl rfl) rfl (wenv_any w p _ _ m.2 c1 _ hm ho HF2.out (by have h := HB.out; simp only [List.length_append] at h ⊢; omega) E.out) (fun v6 a5 hR => ?_); (try simp only [Act.put, lyy])
  replace E := Lib.hid hR
  clear hR
  refine qab ?_
  have E2 := Lib.hid (E.out.drop.cast EB.out)
  go_wp2_with fail
  exact bodyPost_end (results_none Tryz.results132 _ _ _) rfl ⟨_, rfl, E2.out⟩
theorem enters_walI : Enters 131 := qan Tryz.func131 (by kernel_rfl) rfl
set_option maxHeartbeats 4000000 in
theorem walI_any (w : World) (p : Nat) (L : List (Nat × List Value)) (l : List (BitVec 8)) (ms : List (Int × MEv)) (a : Option Addr) (c : Nat) (u : World) (hn : ms.length ≤ 100000000000) (hp : ∀ p ∈ ms, p.2.Ok ∧ -9223372036854775808 ≤ p.2.one) (hX : Fro 0 (SlR 73 itAt ms a c) w) (hb : l.length + (alB itB ms).length ≤ 100000000000) (H : Ww w p L l u) : Calls Tryz.prog 131 #[.pointer (some ⟨p, 0, none⟩), .slice a ms.length c, .func (.func 132) #[] #[]] u fun e u' => ∃ v', e = .returned v' ∧ Ww w p L (l ++ (alB itB ms)) u' := by
  have HE : Hid (∀ i, i < ms.length → ∃ g f cs x, a = some ⟨g, f, none⟩ ∧ alF itB ms (i + 1) = alF itB ms i ++ x ∧ (cs : List Value).length = 73 ∧ One cs ∧ (∀ u, Below w.heap.size w u → u.rangeAt g (f + i * 73) cs) ∧ (∀ (u : World) (L : List (Nat × List Value)) (y : List (BitVec 8)), y = l ++ alF itB ms i → Ww w p L y u → Calls Tryz.prog 132 #[.pointer (some ⟨p, 0, none⟩), .agg cs.toArray] u fun e u' => ∃ v', e = .returned v' ∧ Ww w p L (y ++ x) u')) := Lib.hid fun i hi => by
    obtain ⟨g, f, cs, h1, h2, h3, h4, h5⟩ := slR_get hX hi
    have hk := hp _ (List.getElem_mem hi)
    have hle := alF_le itB ms hi
    obtain ⟨c1, e, l1, o1, -⟩ := itAt_fix hk.1 h5
    have hone : One cs := by rw [e]; exact itR_one rfl o1
    exact ⟨g, f, cs, itB ms[i], h1, alF_succ hi, h3, hone, fun u hu => qbw h4 h2 hu, fun u L y hy H => witm_any w p L y ms[i] cs u hk.1 hk.2 h5 (by rw [hy, List.length_append]; omega) H⟩
  have E0 : Hid (viB (ms.length : Int) = alF itB ms 0) := Lib.hid (alF_zero _ _)
  have EO : Hid (alF itB ms ms.length = alB itB ms) := Lib.hid (alF_all _ _)
  have HB : Hid (l.length + (viB (ms.length : Int)).length ≤ 100000000000) := Lib.hid (by have h := alF_head itB ms; omega)
  have E := Lib.hid H
  clear hb H hX hp
  obtain ⟨Gf, hGf⟩ : ∃ Gf, Gf = alF itB ms := ⟨_, rfl⟩
  rw [← hGf] at HE E0 EO
  clear hGf
  generalize alB itB ms = out at *
  generalize ms.length = n at *
  go_enter Tryz.func131, Tryz.ntmps131
  go_upto_region 0 with fail; refine wp_region_lit ?_
  refine qaa (qad (v := .pointer (some ⟨p, 0, none⟩)) rfl rfl) rfl ?_; (try simp only [Act.put, lyy])
  refine qaa (qad (v := .slice a n c) rfl rfl) rfl ?_; (try simp only [Act.put, lyy])
  refine qaa (qa4 rfl Tryz.underlying44 rfl) rfl ?_; (try simp only [Act.put, lyy])
  refine qag (qaf qa5 rfl rfl rfl rfl) rfl (qbn w p L l (n : Int) u HB.out E.out) (fun v1 a1 hR => ?_); (try simp only [Act.put, lyy])
  replace E := Lib.hid hR
  clear hR
  rw [E0.out] at E
  refine qab ?_
  go_upto_region 1 with fail; refine wp_region_lit ?_
  refine qaa (qad (v := .slice a n c) rfl rfl) rfl ?_; (try simp only [Act.put, lyy])
  refine qaa (qa4 rfl Tryz.underlying44 rfl) rfl ?_; (try simp only [Act.put, lyy])
  refine qaa (qad (v := .int .i64 0) rfl rfl) rfl ?_; (try simp only [Act.put, lyy])
  refine qab ?_
  go_wp2_with fail
  go_loopw [14] (fun s14 u => ∃ i : Nat, i ≤ n ∧ s14 = .int .i64 (i : Int) ∧ Ww w p L (l ++ Gf i) u) (fun s14 _ => ((n : Int) - intOf s14).toNat)
  case atStart => exact ⟨0, by omega, rfl, E.out⟩
  case round =>
    obtain ⟨i, hi, rfl, hJ⟩ := hrel
    replace E := Lib.hid hJ
    clear hJ
    by_cases hik : i = n
    · subst hik
      replace E := Lib.hid (E.out.cast (show _ = l ++ out by rw [EO.out]))
      go_upto_region 2 with fail; refine wp_region_lit ?_
      refine qaa (qay (c := false) rfl rfl rfl (decide_eq_false (by omega))) rfl ?_; (try simp only [Act.put, lyy])
      refine qab ?_
      go_wp2_with fail
      exact bodyPost_end (results_none Tryz.results131 _ _ _) rfl ⟨_, rfl, E.out⟩
    · obtain ⟨g, f, cs, x, rfl, hx, hz, hone, hr, hc⟩ := HE.out i (by omega)
      have HX := Lib.hid hx
      have HR1 := Lib.hid hr
      have HC1 := Lib.hid hc
      have HO1 := Lib.hid hone
      clear hx hr hc hone
      go_upto_region 2 with fail; refine wp_region_lit ?_
      refine qaa (qay (c := true) rfl rfl rfl (decide_eq_true (by omega))) rfl ?_; (try simp only [Act.put, lyy])
      refine qab ?_
      go_upto_region 3 with fail; refine wp_region_lit ?_
      refine qaa (qca (z := 73) (i := i) rfl Tryz.underlying44 (by kernel_rfl) rfl rfl (by omega)) rfl ?_; (try simp only [Act.put, lyy])
      refine qaa (qat (vs := cs) rfl Tryz.underlying102 rfl (szR hz (by kernel_rfl)) rfl (HR1.out _ E.out.bl)) rfl ?_; (try simp only [Act.put, lyy])
      refine qaa (qa3 (vs := itR ((.int .i64 0)) (evR ((.int .i64 0)) ((.int .i64 0)) ((.bool false)) (z8 32) ((.int .i64 0)) ((.int .i64 0)) (hdR (z8 32) ((.int .i64 0)) ((.int .i64 0))) ((.slice none 0 0)))) rfl (by kernel_rfl)) rfl ?_; (try simp only [Act.put, lyy])
      replace E := Lib.hid (E.out.new (itR ((.int .i64 0)) (evR ((.int .i64 0)) ((.int .i64 0)) ((.bool false)) (z8 32) ((.int .i64 0)) ((.int .i64 0)) (hdR (z8 32) ((.int .i64 0)) ((.int .i64 0))) ((.slice none 0 0)))) 102)
      generalize wr.alloc (.cells (itR ((.int .i64 0)) (evR ((.int .i64 0)) ((.int .i64 0)) ((.bool false)) (z8 32) ((.int .i64 0)) ((.int .i64 0)) (hdR (z8 32) ((.int .i64 0)) ((.int .i64 0))) ((.slice none 0 0)))).toArray 102) = a1 at *
      generalize wr.heap.size = g1 at *
      refine qal (qa0 (vs := cs) rfl (szR hz (by kernel_rfl)) rfl rfl (One.all HO1.out) ((E.out.get (i := 0) rfl).thereM (by have q2 : (itR ((.int .i64 0)) (evR ((.int .i64 0)) ((.int .i64 0)) ((.bool false)) (z8 32) ((.int .i64 0)) ((.int .i64 0)) (hdR (z8 32) ((.int .i64 0)) ((.int .i64 0))) ((.slice none 0 0)))).length = 73 := (itR_len (qbk (z8_len' 32) (qa9 (z8_len' 32)))); omega))) rfl rfl ?_
      replace E := Lib.hid (E.out.put 0 rfl (m' := cs) (hz.trans (show (itR ((.int .i64 0)) (evR ((.int .i64 0)) ((.int .i64 0)) ((.bool false)) (z8 32) ((.int .i64 0)) ((.int .i64 0)) (hdR (z8 32) ((.int .i64 0)) ((.int .i64 0))) ((.slice none 0 0)))).length = 73 from (itR_len (qbk (z8_len' 32) (qa9 (z8_len' 32))))).symm))
      replace E := Lib.hid (show Ww w p ((g1, cs) :: L) _ _ from E.out)
      generalize a1.setCells g1 0 cs = a2 at *
      refine qab ?_
      go_upto_region 4 with fail; refine wp_region_lit ?_
      refine qaa (qad (v := .func (.func 132) #[] #[]) rfl rfl) rfl ?_; (try simp only [Act.put, lyy])
      refine qaa (qad (v := .pointer (some ⟨p, 0, none⟩)) rfl rfl) rfl ?_; (try simp only [Act.put, lyy])
      refine qaa (qat (vs := cs) rfl Tryz.underlying102 rfl (szR hz (by kernel_rfl)) rfl (E.out.get (i := 0) rfl).range) rfl ?_; (try simp only [Act.put, lyy])
      refine qag (qcb enters_witm rfl rfl rfl rfl) rfl (HC1.out _ _ _ rfl E.out) (fun v3 a3 hR => ?_); (try simp only [Act.put, lyy])
      replace E := Lib.hid (hR.drop.cast (show _ = l ++ Gf (i + 1) by rw [HX.out, List.append_assoc]))
      clear hR
      refine qab ?_
      go_upto_region 5 with fail; refine wp_region_lit ?_
      refine qaa (qa6 (a := i) (b := 1) rfl rfl rfl (by omega)) rfl ?_; (try simp only [Act.put, lyy])
      refine qaa (qad (v := .int .i64 ((i + 1 : Nat) : Int)) rfl rfl) rfl ?_; (try simp only [Act.put, lyy])
      refine qab ?_
      go_wp2_with fail
      exact ⟨⟨i + 1, by omega, rfl, E.out⟩, by simp [intOf]; omega⟩
theorem enters_wusr : Enters 149 := qan Tryz.func149 (by kernel_rfl) rfl
set_option maxHeartbeats 4000000 in
theorem wusr_any (w : World) (p : Nat) (L : List (Nat × List Value)) (l : List (BitVec 8)) (m : MUs) (u : World)  (hb : l.length + (usB m).length ≤ 100000000000) (H : Ww w p L l u) : Calls Tryz.prog 149 #[.pointer (some ⟨p, 0, none⟩), .agg (usR (.string (strOf m.name)) (.int .i64 m.acc) (.bool m.sure)).toArray] u fun e u' => ∃ v', e = .returned v' ∧ Ww w p L (l ++ (usB m)) u' := by
  have EB : Hid (l ++ txB m.name ++ viB m.acc ++ trB m.sure = l ++ (usB m)) := Lib.hid (by unfold usB; simp only [List.append_assoc])
  have HB : Hid ((l ++ txB m.name ++ viB m.acc ++ trB m.sure).length ≤ 100000000000) := Lib.hid (by rw [EB.out, List.length_append]; exact hb)
  have E := Lib.hid H
  clear hb H
  go_enter Tryz.func149, Tryz.ntmps149
  go_upto_region 0 with fail; refine wp_region_lit ?_
  refine qaa (qa8 (vs := usR (.string (strOf m.name)) (.int .i64 m.acc) (.bool m.sure)) rfl rfl) rfl ?_; (try simp only [Act.put, lyy])
  replace E := Lib.hid (E.out.new (usR (.string (strOf m.name)) (.int .i64 m.acc) (.bool m.sure)) 88)
  generalize u.alloc (.cells (usR (.string (strOf m.name)) (.int .i64 m.acc) (.bool m.sure)).toArray 88) = a1 at *
  generalize u.heap.size = g2 at *
  refine qab ?_
  go_upto_region 1 with fail; refine wp_region_lit ?_
  refine qaa (qad (v := .pointer (some ⟨p, 0, none⟩)) rfl rfl) rfl ?_; (try simp only [Act.put, lyy])
  refine qaa (qai (s := 0) (k := 0) rfl Tryz.underlying88 rfl (by kernel_rfl) rfl rfl) rfl ?_; (try simp only [Act.put, lyy])
  refine qaa (qam rfl Tryz.underlying9 rfl rfl ((E.out.get (i := 0) rfl).c 0 _ (usR_Name ))) rfl ?_; (try simp only [Act.put, lyy])
  refine qag (qaf enters_wtxt rfl rfl rfl rfl) rfl (wtxt_any w p _ _ (m.name) _ (by have h := HB.out; simp only [List.length_append] at h ⊢; omega) E.out) (fun v4 a3 hR => ?_); (try simp only [Act.put, lyy])
  replace E := Lib.hid hR
  clear hR
  refine qab ?_
  go_upto_region 2 with fail; refine wp_region_lit ?_
  refine qaa (qad (v := .pointer (some ⟨p, 0, none⟩)) rfl rfl) rfl ?_; (try simp only [Act.put, lyy])
  refine qaa (qai (s := 0) (k := 1) rfl Tryz.underlying88 rfl (by kernel_rfl) rfl rfl) rfl ?_; (try simp only [Act.put, lyy])
  refine qaa (qam rfl Tryz.underlying3 rfl rfl ((E.out.get (i := 0) rfl).c 1 _ (usR_Account ))) rfl ?_; (try simp only [Act.put, lyy])
  refine qag (qaf qa5 rfl rfl rfl rfl) rfl (qbn w p _ _ (m.acc) _ (by have h := HB.out; simp only [List.length_append] at h ⊢; omega) E.out) (fun v6 a5 hR => ?_); (try simp only [Act.put, lyy])
  replace E := Lib.hid hR
  clear hR
  refine qab ?_
  go_upto_region 3 with fail; refine wp_region_lit ?_
  refine qaa (qad (v := .pointer (some ⟨p, 0, none⟩)) rfl rfl) rfl ?_; (try simp only [Act.put, lyy])
  refine qaa (qai (s := 0) (k := 2) rfl Tryz.underlying88 rfl (by kernel_rfl) rfl rfl) rfl ?_; (try simp only [Act.put, lyy])
  refine qaa (qam rfl Tryz.underlying4 rfl rfl ((E.out.get (i := 0) rfl).c 2 _ (usR_Sure ))) rfl ?_; (try simp only [Act.put, lyy])
  refine qag (qaf enters_wtru rfl rfl rfl rfl) rfl (wtru_any w p _ _ (m.sure) _ (by have h := HB.out; simp only [List.length_append] at h ⊢; omega) E.out) (fun v8 a7 hR => ?_); (try simp only [Act.put, lyy])
  replace E := Lib.hid hR
  clear hR
  refine qab ?_
  have E2 := Lib.hid (E.out.drop.cast EB.out)
  go_wp2_with fail
  exact bodyPost_end (results_none Tryz.results149 _ _ _) rfl ⟨_, rfl, E2.out⟩
theorem enters_walU : Enters 148 := qan Tryz.func148 (by kernel_rfl) rfl
set_option maxHeartbeats 4000000 in
theorem walU_any (w : World) (p : Nat) (L : List (Nat × List Value)) (l : List (BitVec 8)) (ms : List MUs) (a : Option Addr) (c : Nat) (u : World) (hn : ms.length ≤ 100000000000) (hp : ∀ p ∈ ms, True) (hX : Fro 0 (SlR 3 usAt ms a c) w) (hb : l.length + (alB usB ms).length ≤ 100000000000) (H : Ww w p L l u) : Calls Tryz.prog 148 #[.pointer (some ⟨p, 0, none⟩), .slice a ms.length c, .func (.func 149) #[] #[]] u fun e u' => ∃ v', e = .returned v' ∧ Ww w p L (l ++ (alB usB ms)) u' := by
  have HE : Hid (∀ i, i < ms.length → ∃ g f cs x, a = some ⟨g, f, none⟩ ∧ alF usB ms (i + 1) = alF usB ms i ++ x ∧ (cs : List Value).length = 3 ∧ One cs ∧ (∀ u, Below w.heap.size w u → u.rangeAt g (f + i * 3) cs) ∧ (∀ (u : World) (L : List (Nat × List Value)) (y : List (BitVec 8)), y = l ++ alF usB ms i → Ww w p L y u → Calls Tryz.prog 149 #[.pointer (some ⟨p, 0, none⟩), .agg cs.toArray] u fun e u' => ∃ v', e = .returned v' ∧ Ww w p L (y ++ x) u')) := Lib.hid fun i hi => by
    obtain ⟨g, f, cs, h1, h2, h3, h4, h5⟩ := slR_get hX hi
    have hk := hp _ (List.getElem_mem hi)
    have hle := alF_le usB ms hi
    have e : cs = usR (.string (strOf ms[i].name)) (.int .i64 ms[i].acc) (.bool ms[i].sure) := h5.now
    have hone : One cs := by rw [e]; exact usR_one rfl rfl rfl
    clear hk
    exact ⟨g, f, cs, usB ms[i], h1, alF_succ hi, h3, hone, fun u hu => qbw h4 h2 hu, fun u L y hy H => by rw [e]; exact wusr_any w p L y ms[i] u (by rw [hy, List.length_append]; omega) H⟩
  have E0 : Hid (viB (ms.length : Int) = alF usB ms 0) := Lib.hid (alF_zero _ _)
  have EO : Hid (alF usB ms ms.length = alB usB ms) := Lib.hid (alF_all _ _)
  have HB : Hid (l.length + (viB (ms.length : Int)).length ≤ 100000000000) := Lib.hid (by have h := alF_head usB ms; omega)
  have E := Lib.hid H
  clear hb H hX hp
  obtain ⟨Gf, hGf⟩ : ∃ Gf, Gf = alF usB ms := ⟨_, rfl⟩
  rw [← hGf] at HE E0 EO
  clear hGf
  generalize alB usB ms = out at *
  generalize ms.length = n at *
  go_enter Tryz.func148, Tryz.ntmps148
  go_upto_region 0 with fail; refine wp_region_lit ?_
  refine qaa (qad (v := .pointer (some ⟨p, 0, none⟩)) rfl rfl) rfl ?_; (try simp only [Act.put, lyy])
  refine qaa (qad (v := .slice a n c) rfl rfl) rfl ?_; (try simp only [Act.put, lyy])
  refine qaa (qa4 rfl Tryz.underlying63 rfl) rfl ?_; (try simp only [Act.put, lyy])
  refine qag (qaf qa5 rfl rfl rfl rfl) rfl (qbn w p L l (n : Int) u HB.out E.out) (fun v1 a1 hR => ?_); (try simp only [Act.put, lyy])
  replace E := Lib.hid hR
  clear hR
  rw [E0.out] at E
  refine qab ?_
  go_upto_region 1 with fail; refine wp_region_lit ?_
  refine qaa (qad (v := .slice a n c) rfl rfl) rfl ?_; (try simp only [Act.put, lyy])
  refine qaa (qa4 rfl Tryz.underlying63 rfl) rfl ?_; (try simp only [Act.put, lyy])
  refine qaa (qad (v := .int .i64 0) rfl rfl) rfl ?_; (try simp only [Act.put, lyy])
  refine qab ?_
  go_wp2_with fail
  go_loopw [14] (fun s14 u => ∃ i : Nat, i ≤ n ∧ s14 = .int .i64 (i : Int) ∧ Ww w p L (l ++ Gf i) u) (fun s14 _ => ((n : Int) - intOf s14).toNat)
  case atStart => exact ⟨0, by omega, rfl, E.out⟩
  case round =>
    obtain ⟨i, hi, rfl, hJ⟩ := hrel
    replace E := Lib.hid hJ
    clear hJ
    by_cases hik : i = n
    · subst hik
      replace E := Lib.hid (E.out.cast (show _ = l ++ out by rw [EO.out]))
      go_upto_region 2 with fail; refine wp_region_lit ?_
      refine qaa (qay (c := false) rfl rfl rfl (decide_eq_false (by omega))) rfl ?_; (try simp only [Act.put, lyy])
      refine qab ?_
      go_wp2_with fail
      exact bodyPost_end (results_none Tryz.results148 _ _ _) rfl ⟨_, rfl, E.out⟩
    · obtain ⟨g, f, cs, x, rfl, hx, hz, hone, hr, hc⟩ := HE.out i (by omega)
      have HX := Lib.hid hx
      have HR1 := Lib.hid hr
      have HC1 := Lib.hid hc
      have HO1 := Lib.hid hone
      clear hx hr hc hone
      go_upto_region 2 with fail; refine wp_region_lit ?_
      refine qaa (qay (c := true) rfl rfl rfl (decide_eq_true (by omega))) rfl ?_; (try simp only [Act.put, lyy])
      refine qab ?_
      go_upto_region 3 with fail; refine wp_region_lit ?_
      refine qaa (qca (z := 3) (i := i) rfl Tryz.underlying63 (by kernel_rfl) rfl rfl (by omega)) rfl ?_; (try simp only [Act.put, lyy])
      refine qaa (qat (vs := cs) rfl Tryz.underlying88 rfl (szR hz (by kernel_rfl)) rfl (HR1.out _ E.out.bl)) rfl ?_; (try simp only [Act.put, lyy])
      refine qaa (qa3 (vs := usR ((.string ⟨#[]⟩)) ((.int .i64 0)) ((.bool false))) rfl (by kernel_rfl)) rfl ?_; (try simp only [Act.put, lyy])
      replace E := Lib.hid (E.out.new (usR ((.string ⟨#[]⟩)) ((.int .i64 0)) ((.bool false))) 88)
      generalize wr.alloc (.cells (usR ((.string ⟨#[]⟩)) ((.int .i64 0)) ((.bool false))).toArray 88) = a1 at *
      generalize wr.heap.size = g1 at *
      refine qal (qa0 (vs := cs) rfl (szR hz (by kernel_rfl)) rfl rfl (One.all HO1.out) ((E.out.get (i := 0) rfl).thereM (by have q2 : (usR ((.string ⟨#[]⟩)) ((.int .i64 0)) ((.bool false))).length = 3 := qcx; omega))) rfl rfl ?_
      replace E := Lib.hid (E.out.put 0 rfl (m' := cs) (hz.trans (show (usR ((.string ⟨#[]⟩)) ((.int .i64 0)) ((.bool false))).length = 3 from qcx).symm))
      replace E := Lib.hid (show Ww w p ((g1, cs) :: L) _ _ from E.out)
      generalize a1.setCells g1 0 cs = a2 at *
      refine qab ?_
      go_upto_region 4 with fail; refine wp_region_lit ?_
      refine qaa (qad (v := .func (.func 149) #[] #[]) rfl rfl) rfl ?_; (try simp only [Act.put, lyy])
      refine qaa (qad (v := .pointer (some ⟨p, 0, none⟩)) rfl rfl) rfl ?_; (try simp only [Act.put, lyy])
      refine qaa (qat (vs := cs) rfl Tryz.underlying88 rfl (szR hz (by kernel_rfl)) rfl (E.out.get (i := 0) rfl).range) rfl ?_; (try simp only [Act.put, lyy])
      refine qag (qcb enters_wusr rfl rfl rfl rfl) rfl (HC1.out _ _ _ rfl E.out) (fun v3 a3 hR => ?_); (try simp only [Act.put, lyy])
      replace E := Lib.hid (hR.drop.cast (show _ = l ++ Gf (i + 1) by rw [HX.out, List.append_assoc]))
      clear hR
      refine qab ?_
      go_upto_region 5 with fail; refine wp_region_lit ?_
      refine qaa (qa6 (a := i) (b := 1) rfl rfl rfl (by omega)) rfl ?_; (try simp only [Act.put, lyy])
      refine qaa (qad (v := .int .i64 ((i + 1 : Nat) : Int)) rfl rfl) rfl ?_; (try simp only [Act.put, lyy])
      refine qab ?_
      go_wp2_with fail
      exact ⟨⟨i + 1, by omega, rfl, E.out⟩, by simp [intOf]; omega⟩
theorem enters_wuss : Enters 80 := qan Tryz.func80 (by kernel_rfl) rfl
set_option maxHeartbeats 4000000 in
theorem wuss_any (w : World) (p : Nat) (L : List (Nat × List Value)) (l : List (BitVec 8)) (ms : List MUs) (a : Option Addr) (c : Nat) (u : World) (hn : ms.length ≤ 100000000000) (hX : Fro 0 (SlR 3 usAt ms a c) w) (hb : l.length + (alB usB ms).length ≤ 100000000000) (H : Ww w p L l u) : Calls Tryz.prog 80 #[.pointer (some ⟨p, 0, none⟩), .slice a ms.length c] u fun e u' => ∃ v', e = .returned v' ∧ Ww w p L (l ++ (alB usB ms)) u' := by
  have HC := Lib.hid (walU_any w p L l ms a c u hn (fun _ _ => trivial) hX hb H)
  clear hX hb H
  generalize alB usB ms = out at *
  generalize ms.length = n at *
  go_enter Tryz.func80, Tryz.ntmps80
  go_upto_region 0 with fail; refine wp_region_lit ?_
  refine qaa (qad (v := .pointer (some ⟨p, 0, none⟩)) rfl rfl) rfl ?_; (try simp only [Act.put, lyy])
  refine qaa (qad (v := .slice a n c) rfl rfl) rfl ?_; (try simp only [Act.put, lyy])
  refine qag (qc3 enters_walU rfl rfl rfl rfl rfl) rfl HC.out (fun v1 a1 hR => ?_); (try simp only [Act.put, lyy])
  have E := Lib.hid hR
  clear hR
  refine qab ?_
  go_wp2_with fail
  exact bodyPost_end (results_none Tryz.results80 _ _ _) rfl ⟨_, rfl, E.out⟩
end Go.Proofs.YtcgbgmbnagmohaaGreat
