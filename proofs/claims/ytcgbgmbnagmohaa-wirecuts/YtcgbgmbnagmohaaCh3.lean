import Derived.Test.YtcgbgmbnagmohaaLy
import Derived.Test.YtcgbgmbnagmohaaCh2
namespace Go.Proofs.Ytcgbgmbnagmohaa
open Go.RowKit
set_option maxRecDepth 20000
attribute [local irreducible] wpList
theorem Sl.takeC {ao : Option Addr} {c : List (BitVec 8)} {cc n : Nat} {V : World} (h : Sl (.slice ao c.length cc) c V) (hn : n ≤ c.length) : Sl (.slice ao (c.take n).length cc) (c.take n) V := by
  obtain ⟨ao', c', hv, h1, h2⟩ := h
  simp only [Value.slice.injEq] at hv
  obtain ⟨rfl, -, rfl⟩ := hv
  refine ⟨ao, cc, rfl, by rw [List.length_take]; omega, fun hne => ?_⟩
  obtain ⟨g, f, h3, h4, h5⟩ := h2 (fun h => hne (by rw [h]; exact List.take_nil))
  exact ⟨g, f, h3, h4, by rw [List.map_take]; exact qch h5⟩
def chE (c : List (BitVec 8)) (k : Nat) : MEv := ⟨(chN c k : Int), (chN c (k + 1) : Int), decide (chN c (k + 2) % 2 = 1), chK c (k + 3), (chN c (k + 4) : Int), ((min (chN c (k + 5)) 1099511627775 : Nat) : Int) - 1, ⟨chK c (k + 6), (chN c (k + 7) : Int), (chN c (k + 8) : Int)⟩, c.take (min c.length (chN c (k + 9) % 10))⟩
theorem enters_cv10 : Enters 36 := qak Try.func36 (by kernel_rfl) rfl
set_option maxHeartbeats 16000000 in
theorem chE_anyC (ao : Option Addr) (c : List (BitVec 8)) (cc k : Nat) (w : World) (hc : Sl (.slice ao c.length cc) c w) (hk : k ≤ 100000) : Calls Try.prog 36 #[.slice ao c.length cc, .int .i64 (k : Int)] w fun r w' => ∃ v', r = .returned v' ∧ ((∃ X : List Value, v' = .agg X.toArray ∧ X.length = 72 ∧ One X ∧ ∀ V, Sl (.slice ao c.length cc) c V → evAt (chE c k) X V) ∧ Below w.heap.size w w') := by
  have CN := chKC c w ao cc hc
  have CK := chKK c w ao cc hc
  have hcc : c.length ≤ cc := by obtain ⟨_, _, h1, h2, _⟩ := hc; simp only [Value.slice.injEq] at h1; omega
  have E := Lib.hid (Ev.start (w := w) (F := fun V => Sl (.slice ao c.length cc) c V) fun V hV => hc.ext hV)
  clear hc
  have BE : Hid (Try.prog.built 57 [(0, .int .i64 (chN c k : Int)), (1, .int .i64 (chN c (k + 1) : Int)), (2, .bool (decide (chN c (k + 2) % 2 = 1))), (3, .agg ((chK c (k + 3)).map b8).toArray), (4, .int .i64 (chN c (k + 4) : Int)), (5, .int .i64 (((min (chN c (k + 5)) 1099511627775 : Nat) : Int) - 1))] = some (evR (.int .i64 (chN c k : Int)) (.int .i64 (chN c (k + 1) : Int)) (.bool (decide (chN c (k + 2) % 2 = 1))) ((chK c (k + 3)).map b8) (.int .i64 (chN c (k + 4) : Int)) (.int .i64 (((min (chN c (k + 5)) 1099511627775 : Nat) : Int) - 1)) (hdR (z8 32) ((.int .i64 0)) ((.int .i64 0))) (.slice none 0 0)).toArray) := Lib.hid (by kernel_rfl)
  go_enter Try.func36, Try.ntmps36
  go_upto_region 0 with fail; refine wp_region_lit ?_
  refine qaa (qay (vs := evR ((.int .i64 0)) ((.int .i64 0)) ((.bool false)) (z8 32) ((.int .i64 0)) ((.int .i64 0)) (hdR (z8 32) ((.int .i64 0)) ((.int .i64 0))) ((.slice none 0 0))) rfl (by kernel_rfl)) rfl ?_; (try simp only [Act.put, lyy])
  replace E := Lib.hid (E.out.new (evR ((.int .i64 0)) ((.int .i64 0)) ((.bool false)) (z8 32) ((.int .i64 0)) ((.int .i64 0)) (hdR (z8 32) ((.int .i64 0)) ((.int .i64 0))) ((.slice none 0 0))) 57)
  generalize w.alloc (.cells (evR ((.int .i64 0)) ((.int .i64 0)) ((.bool false)) (z8 32) ((.int .i64 0)) ((.int .i64 0)) (hdR (z8 32) ((.int .i64 0)) ((.int .i64 0))) ((.slice none 0 0))).toArray 57) = a1 at *
  generalize w.heap.size = g2 at *
  refine qab ?_
  go_upto_region 1 with fail; refine wp_region_lit ?_
  refine qaa (qad (v := .slice ao c.length cc) rfl rfl) rfl ?_; (try simp only [Act.put, lyy])
  refine qaa (qad (v := .int .i64 (k : Int)) rfl rfl) rfl ?_; (try simp only [Act.put, lyy])
  refine qat (qae qap rfl rfl rfl rfl) rfl (CN.out _ k E.out.bl) (fun a3 hb => ?_); (try simp only [Act.put, lyy])
  replace E := Lib.hid (E.out.below hb)
  clear hb
  refine qaa (qad (v := .slice ao c.length cc) rfl rfl) rfl ?_; (try simp only [Act.put, lyy])
  refine qaa (qad (v := .int .i64 (k : Int)) rfl rfl) rfl ?_; (try simp only [Act.put, lyy])
  refine qaa (qaz (a := k) (b := 1) rfl rfl rfl (by omega)) rfl ?_; (try simp only [Act.put, lyy])
  refine qat (qae qap rfl rfl rfl rfl) rfl (CN.out _ ((k + 1 : Nat)) E.out.bl) (fun a4 hb => ?_); (try simp only [Act.put, lyy])
  replace E := Lib.hid (E.out.below hb)
  clear hb
  refine qaa (qad (v := .slice ao c.length cc) rfl rfl) rfl ?_; (try simp only [Act.put, lyy])
  refine qaa (qad (v := .int .i64 (k : Int)) rfl rfl) rfl ?_; (try simp only [Act.put, lyy])
  refine qaa (qaz (a := k) (b := 2) rfl rfl rfl (by omega)) rfl ?_; (try simp only [Act.put, lyy])
  refine qat (qae qap rfl rfl rfl rfl) rfl (CN.out _ ((k + 2 : Nat)) E.out.bl) (fun a5 hb => ?_); (try simp only [Act.put, lyy])
  replace E := Lib.hid (E.out.below hb)
  clear hb
  refine qaa (qbw (a := chN c (k + 2)) (b := 2) rfl rfl rfl (by omega)) rfl ?_; (try simp only [Act.put, lyy])
  refine qaa (qbx (c := decide (chN c (k + 2) % 2 = 1)) rfl rfl rfl (by rw [Bool.eq_iff_iff, beq_iff_eq, decide_eq_true_iff]; omega)) rfl ?_; (try simp only [Act.put, lyy])
  refine qaa (qad (v := .slice ao c.length cc) rfl rfl) rfl ?_; (try simp only [Act.put, lyy])
  refine qaa (qad (v := .int .i64 (k : Int)) rfl rfl) rfl ?_; (try simp only [Act.put, lyy])
  refine qaa (qaz (a := k) (b := 3) rfl rfl rfl (by omega)) rfl ?_; (try simp only [Act.put, lyy])
  refine qat (qae qbo rfl rfl rfl rfl) rfl (CK.out _ ((k + 3 : Nat)) E.out.bl) (fun a6 hb => ?_); (try simp only [Act.put, lyy])
  replace E := Lib.hid (E.out.below hb)
  clear hb
  refine qaa (qad (v := .slice ao c.length cc) rfl rfl) rfl ?_; (try simp only [Act.put, lyy])
  refine qaa (qad (v := .int .i64 (k : Int)) rfl rfl) rfl ?_; (try simp only [Act.put, lyy])
  refine qaa (qaz (a := k) (b := 4) rfl rfl rfl (by omega)) rfl ?_; (try simp only [Act.put, lyy])
  refine qat (qae qap rfl rfl rfl rfl) rfl (CN.out _ ((k + 4 : Nat)) E.out.bl) (fun a7 hb => ?_); (try simp only [Act.put, lyy])
  replace E := Lib.hid (E.out.below hb)
  clear hb
  refine qaa (qad (v := .slice ao c.length cc) rfl rfl) rfl ?_; (try simp only [Act.put, lyy])
  refine qaa (qad (v := .int .i64 (k : Int)) rfl rfl) rfl ?_; (try simp only [Act.put, lyy])
  refine qaa (qaz (a := k) (b := 5) rfl rfl rfl (by omega)) rfl ?_; (try simp only [Act.put, lyy])
  refine qat (qae qap rfl rfl rfl rfl) rfl (CN.out _ ((k + 5 : Nat)) E.out.bl) (fun a8 hb => ?_); (try simp only [Act.put, lyy])
  replace E := Lib.hid (E.out.below hb)
  clear hb
  refine qaa (run_min (b := 1099511627775) _ rfl rfl rfl) rfl ?_; (try simp only [Act.put, lyy])
  refine qaa (run_sub rfl rfl rfl (by omega) (by omega)) rfl ?_; (try simp only [Act.put, lyy])
  refine qaa (qa4 (ps := [(0, .int .i64 (chN c k : Int)), (1, .int .i64 (chN c (k + 1) : Int)), (2, .bool (decide (chN c (k + 2) % 2 = 1))), (3, .agg ((chK c (k + 3)).map b8).toArray), (4, .int .i64 (chN c (k + 4) : Int)), (5, .int .i64 (((min (chN c (k + 5)) 1099511627775 : Nat) : Int) - 1))]) rfl rfl BE.out) rfl ?_; (try simp only [Act.put, lyy])
  refine qaa (qay (vs := evR ((.int .i64 0)) ((.int .i64 0)) ((.bool false)) (z8 32) ((.int .i64 0)) ((.int .i64 0)) (hdR (z8 32) ((.int .i64 0)) ((.int .i64 0))) ((.slice none 0 0))) rfl (by kernel_rfl)) rfl ?_; (try simp only [Act.put, lyy])
  replace E := Lib.hid (E.out.new (evR ((.int .i64 0)) ((.int .i64 0)) ((.bool false)) (z8 32) ((.int .i64 0)) ((.int .i64 0)) (hdR (z8 32) ((.int .i64 0)) ((.int .i64 0))) ((.slice none 0 0))) 57)
  generalize a8.alloc (.cells (evR ((.int .i64 0)) ((.int .i64 0)) ((.bool false)) (z8 32) ((.int .i64 0)) ((.int .i64 0)) (hdR (z8 32) ((.int .i64 0)) ((.int .i64 0))) ((.slice none 0 0))).toArray 57) = a9 at *
  generalize a8.heap.size = g10 at *
  refine qah (qax (vs := evR (.int .i64 (chN c k : Int)) (.int .i64 (chN c (k + 1) : Int)) (.bool (decide (chN c (k + 2) % 2 = 1))) ((chK c (k + 3)).map b8) (.int .i64 (chN c (k + 4) : Int)) (.int .i64 (((min (chN c (k + 5)) 1099511627775 : Nat) : Int) - 1)) (hdR (z8 32) ((.int .i64 0)) ((.int .i64 0))) (.slice none 0 0)) rfl (szR (qbk (by rw [List.length_map]; exact qaj _ _) (qbc (qac 32))) (by kernel_rfl)) rfl rfl (One.all (evR_one rfl rfl rfl (One.b8 _) rfl rfl (hdR_one (One.b8 _) rfl rfl) rfl)) ((E.out.get (i := 0) rfl).thereM (by have q1 : (evR (.int .i64 (chN c k : Int)) (.int .i64 (chN c (k + 1) : Int)) (.bool (decide (chN c (k + 2) % 2 = 1))) ((chK c (k + 3)).map b8) (.int .i64 (chN c (k + 4) : Int)) (.int .i64 (((min (chN c (k + 5)) 1099511627775 : Nat) : Int) - 1)) (hdR (z8 32) ((.int .i64 0)) ((.int .i64 0))) (.slice none 0 0)).length = 72 := (qbk (by rw [List.length_map]; exact qaj _ _) (qbc (qac 32))); have q2 : (evR ((.int .i64 0)) ((.int .i64 0)) ((.bool false)) (z8 32) ((.int .i64 0)) ((.int .i64 0)) (hdR (z8 32) ((.int .i64 0)) ((.int .i64 0))) ((.slice none 0 0))).length = 72 := (qbk (qac 32) (qbc (qac 32))); omega))) rfl rfl ?_
  replace E := Lib.hid (E.out.put 0 rfl (m := evR (.int .i64 (chN c k : Int)) (.int .i64 (chN c (k + 1) : Int)) (.bool (decide (chN c (k + 2) % 2 = 1))) ((chK c (k + 3)).map b8) (.int .i64 (chN c (k + 4) : Int)) (.int .i64 (((min (chN c (k + 5)) 1099511627775 : Nat) : Int) - 1)) (hdR (z8 32) ((.int .i64 0)) ((.int .i64 0))) (.slice none 0 0)) ((show (evR (.int .i64 (chN c k : Int)) (.int .i64 (chN c (k + 1) : Int)) (.bool (decide (chN c (k + 2) % 2 = 1))) ((chK c (k + 3)).map b8) (.int .i64 (chN c (k + 4) : Int)) (.int .i64 (((min (chN c (k + 5)) 1099511627775 : Nat) : Int) - 1)) (hdR (z8 32) ((.int .i64 0)) ((.int .i64 0))) (.slice none 0 0)).length = 72 from (qbk (by rw [List.length_map]; exact qaj _ _) (qbc (qac 32)))).trans (show (evR ((.int .i64 0)) ((.int .i64 0)) ((.bool false)) (z8 32) ((.int .i64 0)) ((.int .i64 0)) (hdR (z8 32) ((.int .i64 0)) ((.int .i64 0))) ((.slice none 0 0))).length = 72 from (qbk (qac 32) (qbc (qac 32)))).symm))
  generalize a9.setCells g10 0 (evR (.int .i64 (chN c k : Int)) (.int .i64 (chN c (k + 1) : Int)) (.bool (decide (chN c (k + 2) % 2 = 1))) ((chK c (k + 3)).map b8) (.int .i64 (chN c (k + 4) : Int)) (.int .i64 (((min (chN c (k + 5)) 1099511627775 : Nat) : Int) - 1)) (hdR (z8 32) ((.int .i64 0)) ((.int .i64 0))) (.slice none 0 0)) = a11 at *
  replace E := Lib.hid (show Ev _ [(g10, evR (.int .i64 (chN c k : Int)) (.int .i64 (chN c (k + 1) : Int)) (.bool (decide (chN c (k + 2) % 2 = 1))) ((chK c (k + 3)).map b8) (.int .i64 (chN c (k + 4) : Int)) (.int .i64 (((min (chN c (k + 5)) 1099511627775 : Nat) : Int) - 1)) (hdR (z8 32) ((.int .i64 0)) ((.int .i64 0))) (.slice none 0 0)), (g2, evR ((.int .i64 0)) ((.int .i64 0)) ((.bool false)) (z8 32) ((.int .i64 0)) ((.int .i64 0)) (hdR (z8 32) ((.int .i64 0)) ((.int .i64 0))) ((.slice none 0 0)))] _ _ _ a11 from E.out)
  refine qab ?_
  go_upto_region 2 with fail; refine wp_region_lit ?_
  refine qaa (qad (v := .slice ao c.length cc) rfl rfl) rfl ?_; (try simp only [Act.put, lyy])
  refine qaa (qad (v := .int .i64 (k : Int)) rfl rfl) rfl ?_; (try simp only [Act.put, lyy])
  refine qaa (qaz (a := k) (b := 6) rfl rfl rfl (by omega)) rfl ?_; (try simp only [Act.put, lyy])
  refine qat (qae qbo rfl rfl rfl rfl) rfl (CK.out _ ((k + 6 : Nat)) E.out.bl) (fun a12 hb => ?_); (try simp only [Act.put, lyy])
  replace E := Lib.hid (E.out.below hb)
  clear hb
  refine qaa (qad (v := .slice ao c.length cc) rfl rfl) rfl ?_; (try simp only [Act.put, lyy])
  refine qaa (qad (v := .int .i64 (k : Int)) rfl rfl) rfl ?_; (try simp only [Act.put, lyy])
  refine qaa (qaz (a := k) (b := 7) rfl rfl rfl (by omega)) rfl ?_; (try simp only [Act.put, lyy])
  refine qat (qae qap rfl rfl rfl rfl) rfl (CN.out _ ((k + 7 : Nat)) E.out.bl) (fun a13 hb => ?_); (try simp only [Act.put, lyy])
  replace E := Lib.hid (E.out.below hb)
  clear hb
  refine qaa (qad (v := .slice ao c.length cc) rfl rfl) rfl ?_; (try simp only [Act.put, lyy])
  refine qaa (qad (v := .int .i64 (k : Int)) rfl rfl) rfl ?_; (try simp only [Act.put, lyy])
  refine qaa (qaz (a := k) (b := 8) rfl rfl rfl (by omega)) rfl ?_; (try simp only [Act.put, lyy])
  refine qat (qae qap rfl rfl rfl rfl) rfl (CN.out _ ((k + 8 : Nat)) E.out.bl) (fun a14 hb => ?_); (try simp only [Act.put, lyy])
  replace E := Lib.hid (E.out.below hb)
  clear hb
  refine qaa (qa4 (cells := (hdR ((chK c ((k + 6 : Nat))).map b8) (.int .i64 (chN c ((k + 7 : Nat)) : Int)) (.int .i64 (chN c ((k + 8 : Nat)) : Int))).toArray) (ps := [(0, .agg ((chK c ((k + 6 : Nat))).map b8).toArray), (1, .int .i64 (chN c ((k + 7 : Nat)) : Int)), (2, .int .i64 (chN c ((k + 8 : Nat)) : Int))]) rfl rfl (hdR_all (by rw [List.length_map]; exact qaj _ _) rfl rfl)) rfl ?_; (try simp only [Act.put, lyy])
  refine qaa (qar (s := 33) (k := 37) rfl Try.underlying57 rfl (by kernel_rfl) rfl rfl) rfl ?_; (try simp only [Act.put, lyy])
  refine qah (qax (vs := hdR ((chK c ((k + 6 : Nat))).map b8) (.int .i64 (chN c ((k + 7 : Nat)) : Int)) (.int .i64 (chN c ((k + 8 : Nat)) : Int))) rfl (szR (qbc (by rw [List.length_map]; exact qaj _ _)) (by kernel_rfl)) rfl rfl (One.all (hdR_one (One.b8 _) rfl rfl)) ((E.out.get (i := 0) rfl).thereM (by have q1 : (hdR ((chK c ((k + 6 : Nat))).map b8) (.int .i64 (chN c ((k + 7 : Nat)) : Int)) (.int .i64 (chN c ((k + 8 : Nat)) : Int))).length = 34 := (qbc (by rw [List.length_map]; exact qaj _ _)); have q2 : (evR (.int .i64 (chN c k : Int)) (.int .i64 (chN c (k + 1) : Int)) (.bool (decide (chN c (k + 2) % 2 = 1))) ((chK c (k + 3)).map b8) (.int .i64 (chN c (k + 4) : Int)) (.int .i64 (((min (chN c (k + 5)) 1099511627775 : Nat) : Int) - 1)) (hdR (z8 32) ((.int .i64 0)) ((.int .i64 0))) (.slice none 0 0)).length = 72 := (qbk (by rw [List.length_map]; exact qaj _ _) (qbc (qac 32))); omega))) rfl rfl ?_
  replace E := Lib.hid (E.out.mid 0 rfl (f := 37) (m := hdR ((chK c ((k + 6 : Nat))).map b8) (.int .i64 (chN c ((k + 7 : Nat)) : Int)) (.int .i64 (chN c ((k + 8 : Nat)) : Int))) (by have q1 : (hdR ((chK c ((k + 6 : Nat))).map b8) (.int .i64 (chN c ((k + 7 : Nat)) : Int)) (.int .i64 (chN c ((k + 8 : Nat)) : Int))).length = 34 := (qbc (by rw [List.length_map]; exact qaj _ _)); have q2 : (evR (.int .i64 (chN c k : Int)) (.int .i64 (chN c (k + 1) : Int)) (.bool (decide (chN c (k + 2) % 2 = 1))) ((chK c (k + 3)).map b8) (.int .i64 (chN c (k + 4) : Int)) (.int .i64 (((min (chN c (k + 5)) 1099511627775 : Nat) : Int) - 1)) (hdR (z8 32) ((.int .i64 0)) ((.int .i64 0))) (.slice none 0 0)).length = 72 := (qbk (by rw [List.length_map]; exact qaj _ _) (qbc (qac 32))); omega))
  rw [show (evR (.int .i64 (chN c k : Int)) (.int .i64 (chN c (k + 1) : Int)) (.bool (decide (chN c (k + 2) % 2 = 1))) ((chK c (k + 3)).map b8) (.int .i64 (chN c (k + 4) : Int)) (.int .i64 (((min (chN c (k + 5)) 1099511627775 : Nat) : Int) - 1)) (hdR (z8 32) ((.int .i64 0)) ((.int .i64 0))) (.slice none 0 0)).take 37 ++ (hdR ((chK c ((k + 6 : Nat))).map b8) (.int .i64 (chN c ((k + 7 : Nat)) : Int)) (.int .i64 (chN c ((k + 8 : Nat)) : Int)) ++ (evR (.int .i64 (chN c k : Int)) (.int .i64 (chN c (k + 1) : Int)) (.bool (decide (chN c (k + 2) % 2 = 1))) ((chK c (k + 3)).map b8) (.int .i64 (chN c (k + 4) : Int)) (.int .i64 (((min (chN c (k + 5)) 1099511627775 : Nat) : Int) - 1)) (hdR (z8 32) ((.int .i64 0)) ((.int .i64 0))) (.slice none 0 0)).drop (37 + (hdR ((chK c ((k + 6 : Nat))).map b8) (.int .i64 (chN c ((k + 7 : Nat)) : Int)) (.int .i64 (chN c ((k + 8 : Nat)) : Int))).length)) = evR (.int .i64 (chN c k : Int)) (.int .i64 (chN c (k + 1) : Int)) (.bool (decide (chN c (k + 2) % 2 = 1))) ((chK c (k + 3)).map b8) (.int .i64 (chN c (k + 4) : Int)) (.int .i64 (((min (chN c (k + 5)) 1099511627775 : Nat) : Int) - 1)) (hdR ((chK c ((k + 6 : Nat))).map b8) (.int .i64 (chN c ((k + 7 : Nat)) : Int)) (.int .i64 (chN c ((k + 8 : Nat)) : Int))) (.slice none 0 0) from (evR_setHead (by rw [List.length_map]; exact qaj _ _) (qbc (qac 32)) (qbc (by rw [List.length_map]; exact qaj _ _)))] at E
  generalize a14.setCells g10 37 (hdR ((chK c ((k + 6 : Nat))).map b8) (.int .i64 (chN c ((k + 7 : Nat)) : Int)) (.int .i64 (chN c ((k + 8 : Nat)) : Int))) = a15 at *
  replace E := Lib.hid (show Ev _ [(g10, evR (.int .i64 (chN c k : Int)) (.int .i64 (chN c (k + 1) : Int)) (.bool (decide (chN c (k + 2) % 2 = 1))) ((chK c (k + 3)).map b8) (.int .i64 (chN c (k + 4) : Int)) (.int .i64 (((min (chN c (k + 5)) 1099511627775 : Nat) : Int) - 1)) (hdR ((chK c ((k + 6 : Nat))).map b8) (.int .i64 (chN c ((k + 7 : Nat)) : Int)) (.int .i64 (chN c ((k + 8 : Nat)) : Int))) (.slice none 0 0)), (g2, evR ((.int .i64 0)) ((.int .i64 0)) ((.bool false)) (z8 32) ((.int .i64 0)) ((.int .i64 0)) (hdR (z8 32) ((.int .i64 0)) ((.int .i64 0))) ((.slice none 0 0)))] _ _ _ a15 from E.out)
  refine qab ?_
  go_upto_region 3 with fail; refine wp_region_lit ?_
  refine qaa (qad (v := .slice ao c.length cc) rfl rfl) rfl ?_; (try simp only [Act.put, lyy])
  refine qaa (qad (v := .slice ao c.length cc) rfl rfl) rfl ?_; (try simp only [Act.put, lyy])
  refine qaa (qba rfl Try.underlying22 rfl) rfl ?_; (try simp only [Act.put, lyy])
  refine qaa (qad (v := .slice ao c.length cc) rfl rfl) rfl ?_; (try simp only [Act.put, lyy])
  refine qaa (qad (v := .int .i64 (k : Int)) rfl rfl) rfl ?_; (try simp only [Act.put, lyy])
  refine qaa (qaz (a := k) (b := 9) rfl rfl rfl (by omega)) rfl ?_; (try simp only [Act.put, lyy])
  refine qat (qae qap rfl rfl rfl rfl) rfl (CN.out _ ((k + 9 : Nat)) E.out.bl) (fun a16 hb => ?_); (try simp only [Act.put, lyy])
  replace E := Lib.hid (E.out.below hb)
  clear hb
  refine qaa (qbw (a := chN c (k + 9)) (b := 10) rfl rfl rfl (by omega)) rfl ?_; (try simp only [Act.put, lyy])
  refine qaa (run_min (a := c.length) (b := chN c (k + 9) % 10) _ rfl rfl rfl) rfl ?_; (try simp only [Act.put, lyy])
  refine qaa (run_slo rfl Try.underlying22 (by kernel_rfl) rfl rfl (Nat.le_trans (Nat.min_le_left _ _) hcc)) rfl ?_; (try simp only [Act.put, lyy])
  refine qaa (qar (s := 0) (k := 71) rfl Try.underlying57 rfl (by kernel_rfl) rfl rfl) rfl ?_; (try simp only [Act.put, lyy])
  refine qah (qb1 (v := .slice ao (min c.length (chN c (k + 9) % 10)) cc) rfl (by kernel_rfl) rfl rfl rfl rfl ((E.out.get (i := 0) rfl).c 71 _ (evR_Body (by rw [List.length_map]; exact qaj _ _) (qbc (by rw [List.length_map]; exact qaj _ _)))) ((E.out.get (i := 0) rfl).f _)) rfl rfl ?_
  replace E := Lib.hid (E.out.set 0 rfl (j := 71) (by have q2 : (evR (.int .i64 (chN c k : Int)) (.int .i64 (chN c (k + 1) : Int)) (.bool (decide (chN c (k + 2) % 2 = 1))) ((chK c (k + 3)).map b8) (.int .i64 (chN c (k + 4) : Int)) (.int .i64 (((min (chN c (k + 5)) 1099511627775 : Nat) : Int) - 1)) (hdR ((chK c ((k + 6 : Nat))).map b8) (.int .i64 (chN c ((k + 7 : Nat)) : Int)) (.int .i64 (chN c ((k + 8 : Nat)) : Int))) (.slice none 0 0)).length = 72 := (qbk (by rw [List.length_map]; exact qaj _ _) (qbc (by rw [List.length_map]; exact qaj _ _))); omega) (.slice ao (min c.length (chN c (k + 9) % 10)) cc))
  rw [show (evR (.int .i64 (chN c k : Int)) (.int .i64 (chN c (k + 1) : Int)) (.bool (decide (chN c (k + 2) % 2 = 1))) ((chK c (k + 3)).map b8) (.int .i64 (chN c (k + 4) : Int)) (.int .i64 (((min (chN c (k + 5)) 1099511627775 : Nat) : Int) - 1)) (hdR ((chK c ((k + 6 : Nat))).map b8) (.int .i64 (chN c ((k + 7 : Nat)) : Int)) (.int .i64 (chN c ((k + 8 : Nat)) : Int))) (.slice none 0 0)).set 71 (.slice ao (min c.length (chN c (k + 9) % 10)) cc) = evR (.int .i64 (chN c k : Int)) (.int .i64 (chN c (k + 1) : Int)) (.bool (decide (chN c (k + 2) % 2 = 1))) ((chK c (k + 3)).map b8) (.int .i64 (chN c (k + 4) : Int)) (.int .i64 (((min (chN c (k + 5)) 1099511627775 : Nat) : Int) - 1)) (hdR ((chK c ((k + 6 : Nat))).map b8) (.int .i64 (chN c ((k + 7 : Nat)) : Int)) (.int .i64 (chN c ((k + 8 : Nat)) : Int))) (.slice ao (min c.length (chN c (k + 9) % 10)) cc) from (evR_setBody (by rw [List.length_map]; exact qaj _ _) (qbc (by rw [List.length_map]; exact qaj _ _)) _)] at E
  generalize a16.setCell ⟨g10, 71, none⟩ (.slice ao (min c.length (chN c (k + 9) % 10)) cc) = a17 at *
  replace E := Lib.hid (show Ev _ [(g10, evR (.int .i64 (chN c k : Int)) (.int .i64 (chN c (k + 1) : Int)) (.bool (decide (chN c (k + 2) % 2 = 1))) ((chK c (k + 3)).map b8) (.int .i64 (chN c (k + 4) : Int)) (.int .i64 (((min (chN c (k + 5)) 1099511627775 : Nat) : Int) - 1)) (hdR ((chK c ((k + 6 : Nat))).map b8) (.int .i64 (chN c ((k + 7 : Nat)) : Int)) (.int .i64 (chN c ((k + 8 : Nat)) : Int))) (.slice ao (min c.length (chN c (k + 9) % 10)) cc)), (g2, evR ((.int .i64 0)) ((.int .i64 0)) ((.bool false)) (z8 32) ((.int .i64 0)) ((.int .i64 0)) (hdR (z8 32) ((.int .i64 0)) ((.int .i64 0))) ((.slice none 0 0)))] _ _ _ a17 from E.out)
  refine qab ?_
  go_upto_region 4 with fail; refine wp_region_lit ?_
  refine qaa (qa2 (vs := evR (.int .i64 (chN c k : Int)) (.int .i64 (chN c (k + 1) : Int)) (.bool (decide (chN c (k + 2) % 2 = 1))) ((chK c (k + 3)).map b8) (.int .i64 (chN c (k + 4) : Int)) (.int .i64 (((min (chN c (k + 5)) 1099511627775 : Nat) : Int) - 1)) (hdR ((chK c ((k + 6 : Nat))).map b8) (.int .i64 (chN c ((k + 7 : Nat)) : Int)) (.int .i64 (chN c ((k + 8 : Nat)) : Int))) (.slice ao (min c.length (chN c (k + 9) % 10)) cc)) rfl Try.underlying57 rfl (szR (qbk (by rw [List.length_map]; exact qaj _ _) (qbc (by rw [List.length_map]; exact qaj _ _))) (by kernel_rfl)) rfl (E.out.get (i := 0) rfl).range) rfl ?_; (try simp only [Act.put, lyy])
  refine qah (qax (vs := evR (.int .i64 (chN c k : Int)) (.int .i64 (chN c (k + 1) : Int)) (.bool (decide (chN c (k + 2) % 2 = 1))) ((chK c (k + 3)).map b8) (.int .i64 (chN c (k + 4) : Int)) (.int .i64 (((min (chN c (k + 5)) 1099511627775 : Nat) : Int) - 1)) (hdR ((chK c ((k + 6 : Nat))).map b8) (.int .i64 (chN c ((k + 7 : Nat)) : Int)) (.int .i64 (chN c ((k + 8 : Nat)) : Int))) (.slice ao (min c.length (chN c (k + 9) % 10)) cc)) rfl (szR (qbk (by rw [List.length_map]; exact qaj _ _) (qbc (by rw [List.length_map]; exact qaj _ _))) (by kernel_rfl)) rfl rfl (One.all (evR_one rfl rfl rfl (One.b8 _) rfl rfl (hdR_one (One.b8 _) rfl rfl) rfl)) ((E.out.get (i := 1) rfl).thereM (by have q1 : (evR (.int .i64 (chN c k : Int)) (.int .i64 (chN c (k + 1) : Int)) (.bool (decide (chN c (k + 2) % 2 = 1))) ((chK c (k + 3)).map b8) (.int .i64 (chN c (k + 4) : Int)) (.int .i64 (((min (chN c (k + 5)) 1099511627775 : Nat) : Int) - 1)) (hdR ((chK c ((k + 6 : Nat))).map b8) (.int .i64 (chN c ((k + 7 : Nat)) : Int)) (.int .i64 (chN c ((k + 8 : Nat)) : Int))) (.slice ao (min c.length (chN c (k + 9) % 10)) cc)).length = 72 := (qbk (by rw [List.length_map]; exact qaj _ _) (qbc (by rw [List.length_map]; exact qaj _ _))); have q2 : (evR ((.int .i64 0)) ((.int .i64 0)) ((.bool false)) (z8 32) ((.int .i64 0)) ((.int .i64 0)) (hdR (z8 32) ((.int .i64 0)) ((.int .i64 0))) ((.slice none 0 0))).length = 72 := (qbk (qac 32) (qbc (qac 32))); omega))) rfl rfl ?_
  replace E := Lib.hid (E.out.put 1 rfl (m := evR (.int .i64 (chN c k : Int)) (.int .i64 (chN c (k + 1) : Int)) (.bool (decide (chN c (k + 2) % 2 = 1))) ((chK c (k + 3)).map b8) (.int .i64 (chN c (k + 4) : Int)) (.int .i64 (((min (chN c (k + 5)) 1099511627775 : Nat) : Int) - 1)) (hdR ((chK c ((k + 6 : Nat))).map b8) (.int .i64 (chN c ((k + 7 : Nat)) : Int)) (.int .i64 (chN c ((k + 8 : Nat)) : Int))) (.slice ao (min c.length (chN c (k + 9) % 10)) cc)) ((show (evR (.int .i64 (chN c k : Int)) (.int .i64 (chN c (k + 1) : Int)) (.bool (decide (chN c (k + 2) % 2 = 1))) ((chK c (k + 3)).map b8) (.int .i64 (chN c (k + 4) : Int)) (.int .i64 (((min (chN c (k + 5)) 1099511627775 : Nat) : Int) - 1)) (hdR ((chK c ((k + 6 : Nat))).map b8) (.int .i64 (chN c ((k + 7 : Nat)) : Int)) (.int .i64 (chN c ((k + 8 : Nat)) : Int))) (.slice ao (min c.length (chN c (k + 9) % 10)) cc)).length = 72 from (qbk (by rw [List.length_map]; exact qaj _ _) (qbc (by rw [List.length_map]; exact qaj _ _)))).trans (show (evR ((.int .i64 0)) ((.int .i64 0)) ((.bool false)) (z8 32) ((.int .i64 0)) ((.int .i64 0)) (hdR (z8 32) ((.int .i64 0)) ((.int .i64 0))) ((.slice none 0 0))).length = 72 from (qbk (qac 32) (qbc (qac 32)))).symm))
  generalize a17.setCells g2 0 (evR (.int .i64 (chN c k : Int)) (.int .i64 (chN c (k + 1) : Int)) (.bool (decide (chN c (k + 2) % 2 = 1))) ((chK c (k + 3)).map b8) (.int .i64 (chN c (k + 4) : Int)) (.int .i64 (((min (chN c (k + 5)) 1099511627775 : Nat) : Int) - 1)) (hdR ((chK c ((k + 6 : Nat))).map b8) (.int .i64 (chN c ((k + 7 : Nat)) : Int)) (.int .i64 (chN c ((k + 8 : Nat)) : Int))) (.slice ao (min c.length (chN c (k + 9) % 10)) cc)) = a18 at *
  replace E := Lib.hid (show Ev _ [(g10, evR (.int .i64 (chN c k : Int)) (.int .i64 (chN c (k + 1) : Int)) (.bool (decide (chN c (k + 2) % 2 = 1))) ((chK c (k + 3)).map b8) (.int .i64 (chN c (k + 4) : Int)) (.int .i64 (((min (chN c (k + 5)) 1099511627775 : Nat) : Int) - 1)) (hdR ((chK c ((k + 6 : Nat))).map b8) (.int .i64 (chN c ((k + 7 : Nat)) : Int)) (.int .i64 (chN c ((k + 8 : Nat)) : Int))) (.slice ao (min c.length (chN c (k + 9) % 10)) cc)), (g2, evR (.int .i64 (chN c k : Int)) (.int .i64 (chN c (k + 1) : Int)) (.bool (decide (chN c (k + 2) % 2 = 1))) ((chK c (k + 3)).map b8) (.int .i64 (chN c (k + 4) : Int)) (.int .i64 (((min (chN c (k + 5)) 1099511627775 : Nat) : Int) - 1)) (hdR ((chK c ((k + 6 : Nat))).map b8) (.int .i64 (chN c ((k + 7 : Nat)) : Int)) (.int .i64 (chN c ((k + 8 : Nat)) : Int))) (.slice ao (min c.length (chN c (k + 9) % 10)) cc))] _ _ _ a18 from E.out)
  refine qab ?_
  go_wp2_with fail
  refine bodyPost_ret (v := .agg (evR (.int .i64 (chN c k : Int)) (.int .i64 (chN c (k + 1) : Int)) (.bool (decide (chN c (k + 2) % 2 = 1))) ((chK c (k + 3)).map b8) (.int .i64 (chN c (k + 4) : Int)) (.int .i64 (((min (chN c (k + 5)) 1099511627775 : Nat) : Int) - 1)) (hdR ((chK c ((k + 6 : Nat))).map b8) (.int .i64 (chN c ((k + 7 : Nat)) : Int)) (.int .i64 (chN c ((k + 8 : Nat)) : Int))) (.slice ao (min c.length (chN c (k + 9) % 10)) cc)).toArray) (qa9 Try.results36 rfl Try.underlying57 rfl (szR (qbk (by rw [List.length_map]; exact qaj _ _) (qbc (by rw [List.length_map]; exact qaj _ _))) (by kernel_rfl)) (E.out.get (i := 1) rfl).range) rfl ⟨_, rfl, ⟨_, rfl, (qbk (by rw [List.length_map]; exact qaj _ _) (qbc (by rw [List.length_map]; exact qaj _ _))), (evR_one rfl rfl rfl (One.b8 _) rfl rfl (hdR_one (One.b8 _) rfl rfl) rfl), fun V h => ?_⟩, E.out.bl⟩
  have h2 := h.takeC (Nat.min_le_left c.length (chN c (k + 9) % 10))
  refine ⟨ao, cc, ?_, h2⟩
  rw [evC_row, hdC_row, show (chE c k).body.length = min c.length (chN c (k + 9) % 10) by simp only [chE, List.length_take]; omega]
  rfl
end Go.Proofs.Ytcgbgmbnagmohaa
