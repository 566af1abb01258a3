import Derived.Test.YtcgbgmbnagmohaaPw3
import Derived.Test.YtcgbgmbnagmohaaLy
import Derived.Test.YtcgbgmbnagmohaaPw5
namespace Go.Proofs.Ytcgbgmbnagmohaa
open Go.RowKit
set_option maxRecDepth 20000
attribute [local irreducible] wpList
theorem Ww.start (w : World) (t : TypeId) : Ww w w.heap.size [] [] (w.alloc (.cells ([.slice none 0 0] : List Value).toArray t)) :=
  ⟨⟨_, (Gw.start (Ev.start (w := w) (F := fun _ => True) fun _ _ => trivial) 5 1).new [.slice none 0 0] t⟩⟩
end Go.Proofs.Ytcgbgmbnagmohaa
namespace Go.Proofs.Ytcgbgmbnagmohaa
open Go.RowKit
set_option maxRecDepth 20000
attribute [local irreducible] wpList
theorem rqAt_len {m : MRq} {X : List Value} {w : World} (hm : m.Ok) (h : Fro 0 (rqAt m X) w) : X.length = 237 := by
  obtain ⟨c1, a0, c0, a2, c2, rfl, l1, o1, f1, f2, f3⟩ := rqAt_fix hm h
  exact qas l1 (by rw [List.length_map, hm.token]) (pkC_len' hm.signed) (by rw [List.length_map, hm.sig])
theorem acAt_len {m : MAc} {X : List Value} {w : World} (hm : m.Ok) (h : Fro 0 (acAt m X) w) : X.length = 105 := by
  obtain ⟨c1, a0, c0, a2, c2, rfl, l1, o1, f1, f2, f3⟩ := acAt_fix hm h
  exact qa8 l1
theorem enters_wrReq : Enters 30 := qak Try.func30 (by kernel_rfl) rfl
theorem enters_xReq : Enters 6 := qak Try.func6 (by kernel_rfl) rfl
set_option maxHeartbeats 4000000 in
theorem wrReq_any (w : World) (m : MRq) (X : List Value) (hm : m.Ok) (ho : ∀ p ∈ m.items, -9223372036854775808 ≤ p.2.one) (hX : Fro 0 (rqAt m X) w) (hb : (rqB m).length ≤ 100000000000) : Calls Try.prog 30 #[.agg X.toArray, .func (.func 31) #[] #[]] w fun e w' => ∃ v', e = .returned v' ∧ S5 w v' (rqB m) w' := by
  have HC : Hid (∀ (w1 : World) (p : Nat) (u : World), Below w.heap.size w w1 → Ww w1 p [] [] u → Calls Try.prog 31 #[.pointer (some ⟨p, 0, none⟩), .agg X.toArray] u fun e u' => ∃ v', e = .returned v' ∧ Ww w1 p [] (rqB m) u') := Lib.hid fun w1 p u hw H => (by have h := wreq_any w1 p [] [] m X u hm ho (hX.below hw) (by simpa using hb) H; rw [List.nil_append] at h; exact h)
  have hln : (X).length = 237 := rqAt_len hm hX
  clear hb hX ho hm
  generalize rqB m = out at *
  have HLN := Lib.hid hln
  clear hln
  go_enter Try.func30, Try.ntmps30
  go_upto_region 0 with fail; refine wp_region_lit ?_
  refine qaa (qbv (vs := X) rfl rfl) rfl ?_; (try simp only [Act.put, lyy])
  have HB : Hid (Below w.heap.size w (w.alloc (.cells X.toArray 38))) := Lib.hid ((Below.refl _ _).alloc (Nat.le_refl _) _)
  have HA := Lib.hid (Arr.new w X 38)
  generalize w.alloc (.cells X.toArray 38) = w1 at *
  generalize hg0 : w.heap.size = g0 at HA ⊢
  clear hg0
  refine qaa (qai (v := .slice none 0 0) rfl rfl) rfl ?_; (try simp only [Act.put, lyy])
  refine qab ?_
  go_upto_region 1 with fail; refine wp_region_lit ?_
  refine qaa (qay (vs := [.slice none 0 0]) rfl (by kernel_rfl)) rfl ?_; (try simp only [Act.put, lyy])
  have E := Lib.hid (Ww.start w1 136)
  generalize hw1 : w1.alloc (.cells ([.slice none 0 0] : List Value).toArray 136) = a1 at E ⊢
  clear hw1
  generalize hg1 : w1.heap.size = g1 at E ⊢
  clear hg1
  refine qab ?_
  go_upto_region 2 with fail; refine wp_region_lit ?_
  refine qaa (qad (v := .func (.func 31) #[] #[]) rfl rfl) rfl ?_; (try simp only [Act.put, lyy])
  refine qaa (qa2 (vs := X) rfl Try.underlying38 rfl (szR HLN.out (by kernel_rfl)) rfl (HA.out.below E.out.bl).range) rfl ?_; (try simp only [Act.put, lyy])
  refine qaf (qcc enters_wreq rfl rfl rfl rfl) rfl (HC.out _ _ _ HB.out E.out) (fun v1 a2 hR => ?_); (try simp only [Act.put, lyy])
  obtain ⟨v, G⟩ := hR.ex
  have GG := Lib.hid G
  clear hR G E
  obtain ⟨xa, xn, xc, rfl⟩ := GG.out.isSlice
  refine qab ?_
  go_upto_region 3 with fail; refine wp_region_lit ?_
  refine qaa (qar (s := 0) (k := 0) rfl Try.underlying136 rfl (by kernel_rfl) rfl rfl) rfl ?_; (try simp only [Act.put, lyy])
  refine qaa (qav (v := .slice xa xn xc) rfl Try.underlying22 rfl rfl ((GG.out.get (i := 0) rfl).c 0 _ rfl)) rfl ?_; (try simp only [Act.put, lyy])
  refine qaa (qai (v := .slice xa xn xc) rfl rfl) rfl ?_; (try simp only [Act.put, lyy])
  refine qab ?_
  go_wp2_with fail
  exact bodyPost_ret (results_tmp Try.results30 _ _ _) rfl ⟨_, rfl, (show S5 w1 _ out _ from ⟨GG.out.bl, GG.out.row⟩).mono HB.out⟩
set_option maxHeartbeats 4000000 in
theorem xReq_any (w : World) (m : MRq) (X : List Value) (hm : m.Ok) (ho : ∀ p ∈ m.items, -9223372036854775808 ≤ p.2.one) (hX : Fro 0 (rqAt m X) w) (hb : (rqB m).length ≤ 100000000000) : Calls Try.prog 6 #[.agg X.toArray] w fun e w' => ∃ v', e = .returned v' ∧ S5 w v' (rqB m) w' := by
  have HC : Hid (∀ w1 : World, Below w.heap.size w w1 → Calls Try.prog 30 #[.agg X.toArray, .func (.func 31) #[] #[]] w1 fun e w' => ∃ v', e = .returned v' ∧ S5 w1 v' (rqB m) w') := Lib.hid fun w1 hw => wrReq_any w1 m X hm ho (hX.below hw) hb
  have hln : (X).length = 237 := rqAt_len hm hX
  clear hb hX ho hm
  generalize rqB m = out at *
  have HLN := Lib.hid hln
  clear hln
  go_enter Try.func6, Try.ntmps6
  go_upto_region 0 with fail; refine wp_region_lit ?_
  refine qaa (qbv (vs := X) rfl rfl) rfl ?_; (try simp only [Act.put, lyy])
  have HB : Hid (Below w.heap.size w (w.alloc (.cells X.toArray 38))) := Lib.hid ((Below.refl _ _).alloc (Nat.le_refl _) _)
  have HA := Lib.hid (Arr.new w X 38)
  generalize w.alloc (.cells X.toArray 38) = w1 at *
  generalize hg0 : w.heap.size = g0 at HA ⊢
  clear hg0
  refine qaa (qai (v := .slice none 0 0) rfl rfl) rfl ?_; (try simp only [Act.put, lyy])
  refine qab ?_
  go_upto_region 1 with fail; refine wp_region_lit ?_
  refine qaa (qa2 (vs := X) rfl Try.underlying38 rfl (szR HLN.out (by kernel_rfl)) rfl (HA.out).range) rfl ?_; (try simp only [Act.put, lyy])
  refine qaf (qae enters_wrReq rfl rfl rfl rfl) rfl (HC.out _ HB.out) (fun v1 a2 hR => ?_); (try simp only [Act.put, lyy])
  have HR := Lib.hid hR
  clear hR
  obtain ⟨xa, xc, rfl, -, -⟩ := HR.out.sl
  refine qaa (qai (v := .slice xa out.length xc) rfl rfl) rfl ?_; (try simp only [Act.put, lyy])
  refine qab ?_
  go_wp2_with fail
  exact bodyPost_ret (results_tmp Try.results6 _ _ _) rfl ⟨_, rfl, HR.out.mono HB.out⟩
theorem enters_wrAcc : Enters 37 := qak Try.func37 (by kernel_rfl) rfl
theorem enters_xAcc : Enters 8 := qak Try.func8 (by kernel_rfl) rfl
set_option maxHeartbeats 4000000 in
theorem wrAcc_any (w : World) (m : MAc) (X : List Value) (hm : m.Ok) (ho : ∀ s ∈ m.slots, ∀ p ∈ s.mail, -9223372036854775808 ≤ p.one) (hX : Fro 0 (acAt m X) w) (hb : (acB m).length ≤ 100000000000) : Calls Try.prog 37 #[.agg X.toArray, .func (.func 38) #[] #[]] w fun e w' => ∃ v', e = .returned v' ∧ S5 w v' (acB m) w' := by
  have HC : Hid (∀ (w1 : World) (p : Nat) (u : World), Below w.heap.size w w1 → Ww w1 p [] [] u → Calls Try.prog 38 #[.pointer (some ⟨p, 0, none⟩), .agg X.toArray] u fun e u' => ∃ v', e = .returned v' ∧ Ww w1 p [] (acB m) u') := Lib.hid fun w1 p u hw H => (by have h := wacc_any w1 p [] [] m X u hm ho (hX.below hw) (by simpa using hb) H; rw [List.nil_append] at h; exact h)
  have hln : (X).length = 105 := acAt_len hm hX
  clear hb hX ho hm
  generalize acB m = out at *
  have HLN := Lib.hid hln
  clear hln
  go_enter Try.func37, Try.ntmps37
  go_upto_region 0 with fail; refine wp_region_lit ?_
  refine qaa (qbv (vs := X) rfl rfl) rfl ?_; (try simp only [Act.put, lyy])
  have HB : Hid (Below w.heap.size w (w.alloc (.cells X.toArray 44))) := Lib.hid ((Below.refl _ _).alloc (Nat.le_refl _) _)
  have HA := Lib.hid (Arr.new w X 44)
  generalize w.alloc (.cells X.toArray 44) = w1 at *
  generalize hg0 : w.heap.size = g0 at HA ⊢
  clear hg0
  refine qaa (qai (v := .slice none 0 0) rfl rfl) rfl ?_; (try simp only [Act.put, lyy])
  refine qab ?_
  go_upto_region 1 with fail; refine wp_region_lit ?_
  refine qaa (qay (vs := [.slice none 0 0]) rfl (by kernel_rfl)) rfl ?_; (try simp only [Act.put, lyy])
  have E := Lib.hid (Ww.start w1 136)
  generalize hw1 : w1.alloc (.cells ([.slice none 0 0] : List Value).toArray 136) = a1 at E ⊢
  clear hw1
  generalize hg1 : w1.heap.size = g1 at E ⊢
  clear hg1
  refine qab ?_
  go_upto_region 2 with fail; refine wp_region_lit ?_
  refine qaa (qad (v := .func (.func 38) #[] #[]) rfl rfl) rfl ?_; (try simp only [Act.put, lyy])
  refine qaa (qa2 (vs := X) rfl Try.underlying44 rfl (szR HLN.out (by kernel_rfl)) rfl (HA.out.below E.out.bl).range) rfl ?_; (try simp only [Act.put, lyy])
  refine qaf (qcc enters_wacc rfl rfl rfl rfl) rfl (HC.out _ _ _ HB.out E.out) (fun v1 a2 hR => ?_); (try simp only [Act.put, lyy])
  obtain ⟨v, G⟩ := hR.ex
  have GG := Lib.hid G
  clear hR G E
  obtain ⟨xa, xn, xc, rfl⟩ := GG.out.isSlice
  refine qab ?_
  go_upto_region 3 with fail; refine wp_region_lit ?_
  refine qaa (qar (s := 0) (k := 0) rfl Try.underlying136 rfl (by kernel_rfl) rfl rfl) rfl ?_; (try simp only [Act.put, lyy])
  refine qaa (qav (v := .slice xa xn xc) rfl Try.underlying22 rfl rfl ((GG.out.get (i := 0) rfl).c 0 _ rfl)) rfl ?_; (try simp only [Act.put, lyy])
  refine qaa (qai (v := .slice xa xn xc) rfl rfl) rfl ?_; (try simp only [Act.put, lyy])
  refine qab ?_
  go_wp2_with fail
  exact bodyPost_ret (results_tmp Try.results37 _ _ _) rfl ⟨_, rfl, (show S5 w1 _ out _ from ⟨GG.out.bl, GG.out.row⟩).mono HB.out⟩
set_option maxHeartbeats 4000000 in
theorem xAcc_any (w : World) (m : MAc) (X : List Value) (hm : m.Ok) (ho : ∀ s ∈ m.slots, ∀ p ∈ s.mail, -9223372036854775808 ≤ p.one) (hX : Fro 0 (acAt m X) w) (hb : (acB m).length ≤ 100000000000) : Calls Try.prog 8 #[.agg X.toArray] w fun e w' => ∃ v', e = .returned v' ∧ S5 w v' (acB m) w' := by
  have HC : Hid (∀ w1 : World, Below w.heap.size w w1 → Calls Try.prog 37 #[.agg X.toArray, .func (.func 38) #[] #[]] w1 fun e w' => ∃ v', e = .returned v' ∧ S5 w1 v' (acB m) w') := Lib.hid fun w1 hw => wrAcc_any w1 m X hm ho (hX.below hw) hb
  have hln : (X).length = 105 := acAt_len hm hX
  clear hb hX ho hm
  generalize acB m = out at *
  have HLN := Lib.hid hln
  clear hln
  go_enter Try.func8, Try.ntmps8
  go_upto_region 0 with fail; refine wp_region_lit ?_
  refine qaa (qbv (vs := X) rfl rfl) rfl ?_; (try simp only [Act.put, lyy])
  have HB : Hid (Below w.heap.size w (w.alloc (.cells X.toArray 44))) := Lib.hid ((Below.refl _ _).alloc (Nat.le_refl _) _)
  have HA := Lib.hid (Arr.new w X 44)
  generalize w.alloc (.cells X.toArray 44) = w1 at *
  generalize hg0 : w.heap.size = g0 at HA ⊢
  clear hg0
  refine qaa (qai (v := .slice none 0 0) rfl rfl) rfl ?_; (try simp only [Act.put, lyy])
  refine qab ?_
  go_upto_region 1 with fail; refine wp_region_lit ?_
  refine qaa (qa2 (vs := X) rfl Try.underlying44 rfl (szR HLN.out (by kernel_rfl)) rfl (HA.out).range) rfl ?_; (try simp only [Act.put, lyy])
  refine qaf (qae enters_wrAcc rfl rfl rfl rfl) rfl (HC.out _ HB.out) (fun v1 a2 hR => ?_); (try simp only [Act.put, lyy])
  have HR := Lib.hid hR
  clear hR
  obtain ⟨xa, xc, rfl, -, -⟩ := HR.out.sl
  refine qaa (qai (v := .slice xa out.length xc) rfl rfl) rfl ?_; (try simp only [Act.put, lyy])
  refine qab ?_
  go_wp2_with fail
  exact bodyPost_ret (results_tmp Try.results8 _ _ _) rfl ⟨_, rfl, HR.out.mono HB.out⟩
theorem enters_wrUss : Enters 64 := qak Try.func64 (by kernel_rfl) rfl
theorem enters_xUss : Enters 26 := qak Try.func26 (by kernel_rfl) rfl
set_option maxHeartbeats 4000000 in
theorem wrUss_any (w : World) (ms : List MUs) (a : Option Addr) (c : Nat) (hn : ms.length ≤ 100000000000) (hX : Fro 0 (SlR 3 usAt ms a c) w) (hb : (alB usB ms).length ≤ 100000000000) : Calls Try.prog 64 #[.slice a ms.length c, .func (.func 65) #[] #[]] w fun e w' => ∃ v', e = .returned v' ∧ S5 w v' (alB usB ms) w' := by
  have HC : Hid (∀ (w1 : World) (p : Nat) (u : World), Below w.heap.size w w1 → Ww w1 p [] [] u → Calls Try.prog 65 #[.pointer (some ⟨p, 0, none⟩), .slice a ms.length c] u fun e u' => ∃ v', e = .returned v' ∧ Ww w1 p [] (alB usB ms) u') := Lib.hid fun w1 p u hw H => (by have h := wuss_any w1 p [] [] ms a c u hn (hX.below hw) (by simpa using hb) H; rw [List.nil_append] at h; exact h)
  clear hb hX hn
  generalize ms.length = n at *
  generalize alB usB ms = out at *
  go_enter Try.func64, Try.ntmps64
  go_upto_region 0 with fail; refine wp_region_lit ?_
  have HB : Hid (Below w.heap.size w w) := Lib.hid (Below.refl _ _)
  refine qaa (qai (v := .slice none 0 0) rfl rfl) rfl ?_; (try simp only [Act.put, lyy])
  refine qab ?_
  go_upto_region 1 with fail; refine wp_region_lit ?_
  refine qaa (qay (vs := [.slice none 0 0]) rfl (by kernel_rfl)) rfl ?_; (try simp only [Act.put, lyy])
  have E := Lib.hid (Ww.start w 136)
  generalize hw1 : w.alloc (.cells ([.slice none 0 0] : List Value).toArray 136) = a1 at E ⊢
  clear hw1
  generalize hg1 : w.heap.size = g1 at E ⊢
  clear hg1
  refine qab ?_
  go_upto_region 2 with fail; refine wp_region_lit ?_
  refine qaa (qad (v := .func (.func 65) #[] #[]) rfl rfl) rfl ?_; (try simp only [Act.put, lyy])
  refine qaa (qad (v := .slice a n c) rfl rfl) rfl ?_; (try simp only [Act.put, lyy])
  refine qaf (qcc enters_wuss rfl rfl rfl rfl) rfl (HC.out _ _ _ HB.out E.out) (fun v1 a2 hR => ?_); (try simp only [Act.put, lyy])
  obtain ⟨v, G⟩ := hR.ex
  have GG := Lib.hid G
  clear hR G E
  obtain ⟨xa, xn, xc, rfl⟩ := GG.out.isSlice
  refine qab ?_
  go_upto_region 3 with fail; refine wp_region_lit ?_
  refine qaa (qar (s := 0) (k := 0) rfl Try.underlying136 rfl (by kernel_rfl) rfl rfl) rfl ?_; (try simp only [Act.put, lyy])
  refine qaa (qav (v := .slice xa xn xc) rfl Try.underlying22 rfl rfl ((GG.out.get (i := 0) rfl).c 0 _ rfl)) rfl ?_; (try simp only [Act.put, lyy])
  refine qaa (qai (v := .slice xa xn xc) rfl rfl) rfl ?_; (try simp only [Act.put, lyy])
  refine qab ?_
  go_wp2_with fail
  exact bodyPost_ret (results_tmp Try.results64 _ _ _) rfl ⟨_, rfl, (show S5 w _ out _ from ⟨GG.out.bl, GG.out.row⟩).mono HB.out⟩
set_option maxHeartbeats 4000000 in
theorem xUss_any (w : World) (ms : List MUs) (a : Option Addr) (c : Nat) (hn : ms.length ≤ 100000000000) (hX : Fro 0 (SlR 3 usAt ms a c) w) (hb : (alB usB ms).length ≤ 100000000000) : Calls Try.prog 26 #[.slice a ms.length c] w fun e w' => ∃ v', e = .returned v' ∧ S5 w v' (alB usB ms) w' := by
  have HC : Hid (∀ w1 : World, Below w.heap.size w w1 → Calls Try.prog 64 #[.slice a ms.length c, .func (.func 65) #[] #[]] w1 fun e w' => ∃ v', e = .returned v' ∧ S5 w1 v' (alB usB ms) w') := Lib.hid fun w1 hw => wrUss_any w1 ms a c hn (hX.below hw) hb
  clear hb hX hn
  generalize ms.length = n at *
  generalize alB usB ms = out at *
  go_enter Try.func26, Try.ntmps26
  go_upto_region 0 with fail; refine wp_region_lit ?_
  have HB : Hid (Below w.heap.size w w) := Lib.hid (Below.refl _ _)
  refine qaa (qai (v := .slice none 0 0) rfl rfl) rfl ?_; (try simp only [Act.put, lyy])
  refine qab ?_
  go_upto_region 1 with fail; refine wp_region_lit ?_
  refine qaa (qad (v := .slice a n c) rfl rfl) rfl ?_; (try simp only [Act.put, lyy])
  refine qaf (qae enters_wrUss rfl rfl rfl rfl) rfl (HC.out _ HB.out) (fun v1 a2 hR => ?_); (try simp only [Act.put, lyy])
  have HR := Lib.hid hR
  clear hR
  obtain ⟨xa, xc, rfl, -, -⟩ := HR.out.sl
  refine qaa (qai (v := .slice xa out.length xc) rfl rfl) rfl ?_; (try simp only [Act.put, lyy])
  refine qab ?_
  go_wp2_with fail
  exact bodyPost_ret (results_tmp Try.results26 _ _ _) rfl ⟨_, rfl, HR.out.mono HB.out⟩
end Go.Proofs.Ytcgbgmbnagmohaa
