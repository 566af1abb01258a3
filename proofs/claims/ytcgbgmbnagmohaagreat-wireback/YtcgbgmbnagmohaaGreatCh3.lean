import Derived.Test.YtcgbgmbnagmohaaGreatLy
import Derived.Test.YtcgbgmbnagmohaaGreatCh1
namespace Go.Proofs.YtcgbgmbnagmohaaGreat
open Go.RowKit
set_option maxRecDepth 20000
attribute [local irreducible] wpList
theorem chKK (c : List (BitVec 8)) (w : World) (ao : Option Addr) (cc : Nat) (hc : Sl (.slice ao c.length cc) c w) : Hid (∀ (u : World) (i : Nat), Since w u → Calls Tryz.prog 42 #[.slice ao c.length cc, .int .i64 (i : Int)] u fun r w' => r = .returned (.agg ((chK c i).map b8).toArray) ∧ Below u.heap.size u w') := Lib.hid fun u i hu => chK_any ao c cc i u (hc.below hu)
def chP (c : List (BitVec 8)) (k i : Nat) : MPk := ⟨chN c (k + i + 1), chK c (k + i + 2)⟩
def chPs (c : List (BitVec 8)) (k n : Nat) : List MPk := (List.range n).map (chP c k)
theorem chPs_len (c : List (BitVec 8)) (k n : Nat) : (chPs c k n).length = n := by simp [chPs]
theorem chPs_succ (c : List (BitVec 8)) (k n : Nat) : chPs c k (n + 1) = chPs c k n ++ [chP c k n] := by simp [chPs, List.range_succ]
theorem enters_cp10 : Enters 48 := qan Tryz.func48 (by kernel_rfl) rfl
set_option maxHeartbeats 8000000 in
theorem chPs_any (ao : Option Addr) (c : List (BitVec 8)) (cc k : Nat) (w : World) (hc : Sl (.slice ao c.length cc) c w) (hk : k ≤ 100000) : Calls Tryz.prog 48 #[.slice ao c.length cc, .int .i64 (k : Int)] w fun r w' => ∃ v', r = .returned v' ∧ ((∃ a' c', v' = .slice a' (chPs c k (chN c k % 4)).length c' ∧ Fro w.heap.size (SlR 33 pkAt (chPs c k (chN c k % 4)) a' c') w') ∧ Below w.heap.size w w') := by
  have CN := chKC c w ao cc hc
  have CK := chKK c w ao cc hc
  have hN : chN c k % 4 ≤ 3 := by omega
  have E := Lib.hid (Ev.start (w := w) (F := fun _ => True) fun _ _ => trivial)
  clear hc
  generalize c.length = m at *
  go_enter Tryz.func48, Tryz.ntmps48
  go_upto_region 0 with fail; refine wp_region_lit ?_
  refine qaa (qak (v := .slice none 0 0) rfl rfl) rfl ?_; (try simp only [Act.put, lyy])
  refine qab ?_
  go_upto_region 1 with fail; refine wp_region_lit ?_
  refine qaa (qak (v := .slice none 0 0) rfl rfl) rfl ?_; (try simp only [Act.put, lyy])
  refine qab ?_
  go_upto_region 2 with fail; refine wp_region_lit ?_
  refine qaa (qak (v := .int .i64 0) rfl rfl) rfl ?_; (try simp only [Act.put, lyy])
  refine qab ?_
  replace E := Lib.hid ((Gw.start E.out 42 33).know (H0 := LR pkAt [] []) fun V _ => LR.nil V)
  go_wp2_with fail
  go_loopw [5, 6] (fun s5 s6 u => ∃ (j : Nat) (l : List MPk) (css : List (List Value)), s6 = .int .i64 (j : Int) ∧ l = chPs c k j ∧ j = l.length ∧ j ≤ chN c k % 4 ∧ (∀ p ∈ css, p.length = 33) ∧ Gw w [] 42 33 s5 j css.flatten (fun _ => True) (LR pkAt l css) u) (fun _ s6 _ => (((chN c k % 4 : Nat) : Int) - intOf s6).toNat)
  case atStart => exact ⟨0, [], [], rfl, rfl, rfl, by omega, (fun _ h => by cases h), E.out⟩
  case round =>
    obtain ⟨j, l, css, rfl, hl, hjl, hj, hq, hJ⟩ := hrel
    replace E := Lib.hid hJ
    have HK := Lib.hid hq
    clear hJ hq
    by_cases hjn : j = chN c k % 4
    · go_upto_region 3 with fail; refine wp_region_lit ?_
      refine qaa (qad (v := .int .i64 (j : Int)) rfl rfl) rfl ?_; (try simp only [Act.put, lyy])
      refine qaa (qad (v := .slice ao m cc) rfl rfl) rfl ?_; (try simp only [Act.put, lyy])
      refine qaa (qad (v := .int .i64 (k : Int)) rfl rfl) rfl ?_; (try simp only [Act.put, lyy])
      refine qav (qaf qau rfl rfl rfl rfl) rfl (CN.out _ k E.out.ev.bl) (fun a1 hb => ?_); (try simp only [Act.put, lyy])
      replace E := Lib.hid (E.out.below hb)
      clear hb
      refine qaa (qb9 (a := chN c k) (b := 4) rfl rfl rfl (by omega)) rfl ?_; (try simp only [Act.put, lyy])
      refine qaa (qay (c := false) rfl rfl rfl (decide_eq_false (by omega))) rfl ?_; (try simp only [Act.put, lyy])
      refine qab ?_
      have E1 := Lib.hid E.out.done
      clear E
      have E := E1
      clear E1
      go_upto_region 6 with fail; refine wp_region_lit ?_
      refine qaa (qad (v := u5) rfl rfl) rfl ?_; (try simp only [Act.put, lyy])
      refine qaa (qak (v := u5) rfl rfl) rfl ?_; (try simp only [Act.put, lyy])
      refine qab ?_
      have HF : Hid (Fro w.heap.size (fun V => ∃ a' c', u5 = .slice a' l.length c' ∧ SlR 33 pkAt l a' c' V) a1) := Lib.hid fun V hV => qc5 (E.out.tell V hV).1 hjl (E.out.tell V hV).2.1 HK.out (E.out.tell V hV).2.2
      obtain ⟨a', c', hv6, hS0⟩ := HF.out.now
      subst hv6
      have HF2 : Hid (Fro w.heap.size (SlR 33 pkAt l a' c') a1) := Lib.hid fun V hV => by
        obtain ⟨a2, c2, h1, h2⟩ := HF.out V hV
        simp only [Value.slice.injEq] at h1
        obtain ⟨rfl, _, rfl⟩ := h1
        exact h2
      have hL : chPs c k (chN c k % 4) = l := by rw [← hjn]; exact hl.symm
      go_wp2_with fail
      exact bodyPost_ret (results_tmp Tryz.results48 _ _ _) rfl ⟨_, rfl, ⟨a', c', by rw [hL]; rfl, by rw [hL]; exact HF2.out⟩, E.out.bl⟩
    · go_upto_region 3 with fail; refine wp_region_lit ?_
      refine qaa (qad (v := .int .i64 (j : Int)) rfl rfl) rfl ?_; (try simp only [Act.put, lyy])
      refine qaa (qad (v := .slice ao m cc) rfl rfl) rfl ?_; (try simp only [Act.put, lyy])
      refine qaa (qad (v := .int .i64 (k : Int)) rfl rfl) rfl ?_; (try simp only [Act.put, lyy])
      refine qav (qaf qau rfl rfl rfl rfl) rfl (CN.out _ k E.out.ev.bl) (fun a1 hb => ?_); (try simp only [Act.put, lyy])
      replace E := Lib.hid (E.out.below hb)
      clear hb
      refine qaa (qb9 (a := chN c k) (b := 4) rfl rfl rfl (by omega)) rfl ?_; (try simp only [Act.put, lyy])
      refine qaa (qay (c := true) rfl rfl rfl (decide_eq_true (by omega))) rfl ?_; (try simp only [Act.put, lyy])
      refine qab ?_
      go_upto_region 5 with fail; refine wp_region_lit ?_
      refine qaa (qad (v := u5) rfl rfl) rfl ?_; (try simp only [Act.put, lyy])
      refine qaa (qad (v := .slice ao m cc) rfl rfl) rfl ?_; (try simp only [Act.put, lyy])
      refine qaa (qad (v := .int .i64 (k : Int)) rfl rfl) rfl ?_; (try simp only [Act.put, lyy])
      refine qaa (qad (v := .int .i64 (j : Int)) rfl rfl) rfl ?_; (try simp only [Act.put, lyy])
      refine qaa (qa6 (a := k) (b := j) rfl rfl rfl (by omega)) rfl ?_; (try simp only [Act.put, lyy])
      refine qaa (qa6 (a := k + j) (b := 1) rfl rfl rfl (by omega)) rfl ?_; (try simp only [Act.put, lyy])
      refine qav (qaf qau rfl rfl rfl rfl) rfl (CN.out _ ((k + j + 1 : Nat)) E.out.ev.bl) (fun a2 hb => ?_); (try simp only [Act.put, lyy])
      replace E := Lib.hid (E.out.below hb)
      clear hb
      refine qaa (qad (v := .slice ao m cc) rfl rfl) rfl ?_; (try simp only [Act.put, lyy])
      refine qaa (qad (v := .int .i64 (k : Int)) rfl rfl) rfl ?_; (try simp only [Act.put, lyy])
      refine qaa (qad (v := .int .i64 (j : Int)) rfl rfl) rfl ?_; (try simp only [Act.put, lyy])
      refine qaa (qa6 (a := k) (b := j) rfl rfl rfl (by omega)) rfl ?_; (try simp only [Act.put, lyy])
      refine qaa (qa6 (a := k + j) (b := 2) rfl rfl rfl (by omega)) rfl ?_; (try simp only [Act.put, lyy])
      refine qav (qaf qbx rfl rfl rfl rfl) rfl (CK.out _ ((k + j + 2 : Nat)) E.out.ev.bl) (fun a3 hb => ?_); (try simp only [Act.put, lyy])
      replace E := Lib.hid (E.out.below hb)
      clear hb
      refine qaa (qa7 (cells := (pkR (.int .i64 (chN c ((k + j + 1 : Nat)) : Int)) ((chK c ((k + j + 2 : Nat))).map b8)).toArray) (ps := [(0, .int .i64 (chN c ((k + j + 1 : Nat)) : Int)), (1, .agg ((chK c ((k + j + 2 : Nat))).map b8).toArray)]) rfl rfl (pkR_all rfl (by rw [List.length_map]; exact qap _ _))) rfl ?_; (try simp only [Act.put, lyy])
      have hml : (pkR (.int .i64 (chN c ((k + j + 1 : Nat)) : Int)) ((chK c ((k + j + 2 : Nat))).map b8)).length = 33 := (qar (by rw [List.length_map]; exact qap _ _))
      have hmo : One (pkR (.int .i64 (chN c ((k + j + 1 : Nat)) : Int)) ((chK c ((k + j + 2 : Nat))).map b8)) := (qb8 rfl (One.b8 _))
      refine qaa (qcg (m := pkR (.int .i64 (chN c ((k + j + 1 : Nat)) : Int)) ((chK c ((k + j + 2 : Nat))).map b8)) (z := 33) (zv := .agg ([.int .i64 0] ++ List.replicate 32 (.int .u8 0) : List Value).toArray) rfl Tryz.underlying43 (by kernel_rfl) rfl hml (by omega) (by omega)) rfl ?_; (try simp only [Act.put, lyy])
      have A2 := Lib.hid (Arr.new a3 (pkR (.int .i64 (chN c ((k + j + 1 : Nat)) : Int)) ((chK c ((k + j + 2 : Nat))).map b8)) 42)
      replace E := Lib.hid (E.out.below ((Below.refl a3.heap.size a3).alloc (Nat.le_refl _) (.cells (pkR (.int .i64 (chN c ((k + j + 1 : Nat)) : Int)) ((chK c ((k + j + 2 : Nat))).map b8)).toArray 42)))
      generalize a3.alloc (.cells (pkR (.int .i64 (chN c ((k + j + 1 : Nat)) : Int)) ((chK c ((k + j + 2 : Nat))).map b8)).toArray 42) = b1 at *
      generalize a3.heap.size = g0 at *
      refine wpList_grow (t := 43) (bw := 40) (zv := .agg ([.int .i64 0] ++ List.replicate 32 (.int .u8 0) : List Value).toArray) (z := 33) rfl rfl Tryz.underlying43 (by kernel_rfl) rfl (by omega) rfl rfl A2.out.range hml hmo (by omega) (by omega) E.out (fun v7 b2 hG => ?_); (try simp only [Act.put, lyy])
      replace E := Lib.hid hG
      clear hG A2
      refine qaa (qak (v := v7) rfl rfl) rfl ?_; (try simp only [Act.put, lyy])
      refine qab ?_
      have E9 := Lib.hid (E.out.know (H0 := LR pkAt (l ++ [chP c k j]) (css ++ [pkR (.int .i64 (chN c ((k + j + 1 : Nat)) : Int)) ((chK c ((k + j + 2 : Nat))).map b8)])) fun V h => h.snoc (by show _ = pkC _; rw [pkC_row]; rfl))
      clear E
      have E := E9
      clear E9
      go_upto_region 4 with fail; refine wp_region_lit ?_
      refine qaa (qad (v := .int .i64 (j : Int)) rfl rfl) rfl ?_; (try simp only [Act.put, lyy])
      refine qaa (qa6 (a := j) (b := 1) rfl rfl rfl (by omega)) rfl ?_; (try simp only [Act.put, lyy])
      refine qaa (qak (v := .int .i64 ((j + 1 : Nat) : Int)) rfl rfl) rfl ?_; (try simp only [Act.put, lyy])
      refine qab ?_
      go_wp2_with fail
      exact ⟨⟨j + 1, l ++ [chP c k j], css ++ [pkR (.int .i64 (chN c ((k + j + 1 : Nat)) : Int)) ((chK c ((k + j + 2 : Nat))).map b8)], rfl, by rw [chPs_succ, hl], by rw [List.length_append, ← hjl]; rfl, by omega, (fun p hp => by rcases List.mem_append.1 hp with hp | hp; exact HK.out p hp; obtain rfl := List.mem_singleton.1 hp; exact hml), by rw [List.flatten_append]; simpa using E.out⟩, by simp [intOf]; omega⟩
end Go.Proofs.YtcgbgmbnagmohaaGreat
namespace Go.Proofs.YtcgbgmbnagmohaaGreat
open Go.RowKit
set_option maxRecDepth 20000
attribute [local irreducible] wpList
theorem Sl.takeC {ao : Option Addr} {c : List (BitVec 8)} {cc n : Nat} {V : World} (h : Sl (.slice ao c.length cc) c V) (hn : n ≤ c.length) : Sl (.slice ao (c.take n).length cc) (c.take n) V := by
  obtain ⟨ao', c', hv, h1, h2⟩ := h
  simp only [Value.slice.injEq] at hv
  obtain ⟨rfl, -, rfl⟩ := hv
  refine ⟨ao, cc, rfl, by rw [List.length_take]; omega, fun hne => ?_⟩
  obtain ⟨g, f, h3, h4, h5⟩ := h2 (fun h => hne (by rw [h]; exact List.take_nil))
  exact ⟨g, f, h3, h4, by rw [List.map_take]; exact qck h5⟩
def chE (c : List (BitVec 8)) (k : Nat) : MEv := ⟨(chN c k : Int), (chN c (k + 1) : Int), decide (chN c (k + 2) % 2 = 1), chK c (k + 3), (chN c (k + 4) : Int), ((min (chN c (k + 5)) 1099511627775 : Nat) : Int) - 1, ⟨chK c (k + 6), (chN c (k + 7) : Int), (chN c (k + 8) : Int)⟩, c.take (min c.length (chN c (k + 9) % 10))⟩
theorem enters_cv10 : Enters 9 := qan Tryz.func9 (by kernel_rfl) rfl
set_option maxHeartbeats 16000000 in
theorem chE_anyC (ao : Option Addr) (c : List (BitVec 8)) (cc k : Nat) (w : World) (hc : Sl (.slice ao c.length cc) c w) (hk : k ≤ 100000) : Calls Tryz.prog 9 #[.slice ao c.length cc, .int .i64 (k : Int)] w fun r w' => ∃ v', r = .returned v' ∧ ((∃ X : List Value, v' = .agg X.toArray ∧ X.length = 72 ∧ One X ∧ ∀ V, Sl (.slice ao c.length cc) c V → evAt (chE c k) X V) ∧ Below w.heap.size w w') := by
  have CN := chKC c w ao cc hc
  have CK := chKK c w ao cc hc
  have hcc : c.length ≤ cc := by obtain ⟨_, _, h1, h2, _⟩ := hc; simp only [Value.slice.injEq] at h1; omega
  have E := Lib.hid (Ev.start (w := w) (F := fun V => Sl (.slice ao c.length cc) c V) fun V hV => hc.ext hV)
  clear hc
  have BE : Hid (Tryz.prog.built 38 [(0, .int .i64 (chN c k : Int)), (1, .int .i64 (chN c (k + 1) : Int)), (2, .bool (decide (chN c (k + 2) % 2 = 1))), (3, .agg ((chK c (k + 3)).map b8).toArray), (4, .int .i64 (chN c (k + 4) : Int)), (5, .int .i64 (((min (chN c (k + 5)) 1099511627775 : Nat) : Int) - 1))] = some (evR (.int .i64 (chN c k : Int)) (.int .i64 (chN c (k + 1) : Int)) (.bool (decide (chN c (k + 2) % 2 = 1))) ((chK c (k + 3)).map b8) (.int .i64 (chN c (k + 4) : Int)) (.int .i64 (((min (chN c (k + 5)) 1099511627775 : Nat) : Int) - 1)) (hdR (z8 32) ((.int .i64 0)) ((.int .i64 0))) (.slice none 0 0)).toArray) := Lib.hid (by kernel_rfl)
  go_enter Tryz.func9, Tryz.ntmps9
  go_upto_region 0 with fail; refine wp_region_lit ?_
  refine qaa (qa3 (vs := evR ((.int .i64 0)) ((.int .i64 0)) ((.bool false)) (z8 32) ((.int .i64 0)) ((.int .i64 0)) (hdR (z8 32) ((.int .i64 0)) ((.int .i64 0))) ((.slice none 0 0))) rfl (by kernel_rfl)) rfl ?_; (try simp only [Act.put, lyy])
  replace E := Lib.hid (E.out.new (evR ((.int .i64 0)) ((.int .i64 0)) ((.bool false)) (z8 32) ((.int .i64 0)) ((.int .i64 0)) (hdR (z8 32) ((.int .i64 0)) ((.int .i64 0))) ((.slice none 0 0))) 38)
  generalize w.alloc (.cells (evR ((.int .i64 0)) ((.int .i64 0)) ((.bool false)) (z8 32) ((.int .i64 0)) ((.int .i64 0)) (hdR (z8 32) ((.int .i64 0)) ((.int .i64 0))) ((.slice none 0 0))).toArray 38) = a1 at *
  generalize w.heap.size = g2 at *
  refine qab ?_
  go_upto_region 1 with fail; refine wp_region_lit ?_
  refine qaa (qad (v := .slice ao c.length cc) rfl rfl) rfl ?_; (try simp only [Act.put, lyy])
  refine qaa (qad (v := .int .i64 (k : Int)) rfl rfl) rfl ?_; (try simp only [Act.put, lyy])
  refine qav (qaf qau rfl rfl rfl rfl) rfl (CN.out _ k E.out.bl) (fun a3 hb => ?_); (try simp only [Act.put, lyy])
  replace E := Lib.hid (E.out.below hb)
  clear hb
  refine qaa (qad (v := .slice ao c.length cc) rfl rfl) rfl ?_; (try simp only [Act.put, lyy])
  refine qaa (qad (v := .int .i64 (k : Int)) rfl rfl) rfl ?_; (try simp only [Act.put, lyy])
  refine qaa (qa6 (a := k) (b := 1) rfl rfl rfl (by omega)) rfl ?_; (try simp only [Act.put, lyy])
  refine qav (qaf qau rfl rfl rfl rfl) rfl (CN.out _ ((k + 1 : Nat)) E.out.bl) (fun a4 hb => ?_); (try simp only [Act.put, lyy])
  replace E := Lib.hid (E.out.below hb)
  clear hb
  refine qaa (qad (v := .slice ao c.length cc) rfl rfl) rfl ?_; (try simp only [Act.put, lyy])
  refine qaa (qad (v := .int .i64 (k : Int)) rfl rfl) rfl ?_; (try simp only [Act.put, lyy])
  refine qaa (qa6 (a := k) (b := 2) rfl rfl rfl (by omega)) rfl ?_; (try simp only [Act.put, lyy])
  refine qav (qaf qau rfl rfl rfl rfl) rfl (CN.out _ ((k + 2 : Nat)) E.out.bl) (fun a5 hb => ?_); (try simp only [Act.put, lyy])
  replace E := Lib.hid (E.out.below hb)
  clear hb
  refine qaa (qb9 (a := chN c (k + 2)) (b := 2) rfl rfl rfl (by omega)) rfl ?_; (try simp only [Act.put, lyy])
  refine qaa (qbp (c := decide (chN c (k + 2) % 2 = 1)) rfl rfl rfl (by rw [Bool.eq_iff_iff, beq_iff_eq, decide_eq_true_iff]; omega)) rfl ?_; (try simp only [Act.put, lyy])
  refine qaa (qad (v := .slice ao c.length cc) rfl rfl) rfl ?_; (try simp only [Act.put, lyy])
  refine qaa (qad (v := .int .i64 (k : Int)) rfl rfl) rfl ?_; (try simp only [Act.put, lyy])
  refine qaa (qa6 (a := k) (b := 3) rfl rfl rfl (by omega)) rfl ?_; (try simp only [Act.put, lyy])
  refine qav (qaf qbx rfl rfl rfl rfl) rfl (CK.out _ ((k + 3 : Nat)) E.out.bl) (fun a6 hb => ?_); (try simp only [Act.put, lyy])
  replace E := Lib.hid (E.out.below hb)
  clear hb
  refine qaa (qad (v := .slice ao c.length cc) rfl rfl) rfl ?_; (try simp only [Act.put, lyy])
  refine qaa (qad (v := .int .i64 (k : Int)) rfl rfl) rfl ?_; (try simp only [Act.put, lyy])
  refine qaa (qa6 (a := k) (b := 4) rfl rfl rfl (by omega)) rfl ?_; (try simp only [Act.put, lyy])
  refine qav (qaf qau rfl rfl rfl rfl) rfl (CN.out _ ((k + 4 : Nat)) E.out.bl) (fun a7 hb => ?_); (try simp only [Act.put, lyy])
  replace E := Lib.hid (E.out.below hb)
  clear hb
  refine qaa (qad (v := .slice ao c.length cc) rfl rfl) rfl ?_; (try simp only [Act.put, lyy])
  refine qaa (qad (v := .int .i64 (k : Int)) rfl rfl) rfl ?_; (try simp only [Act.put, lyy])
  refine qaa (qa6 (a := k) (b := 5) rfl rfl rfl (by omega)) rfl ?_; (try simp only [Act.put, lyy])
  refine qav (qaf qau rfl rfl rfl rfl) rfl (CN.out _ ((k + 5 : Nat)) E.out.bl) (fun a8 hb => ?_); (try simp only [Act.put, lyy])
  replace E := Lib.hid (E.out.below hb)
  clear hb
  refine qaa (run_min (b := 1099511627775) _ rfl rfl rfl) rfl ?_; (try simp only [Act.put, lyy])
  refine qaa (run_sub rfl rfl rfl (by omega) (by omega)) rfl ?_; (try simp only [Act.put, lyy])
  refine qaa (qa7 (ps := [(0, .int .i64 (chN c k : Int)), (1, .int .i64 (chN c (k + 1) : Int)), (2, .bool (decide (chN c (k + 2) % 2 = 1))), (3, .agg ((chK c (k + 3)).map b8).toArray), (4, .int .i64 (chN c (k + 4) : Int)), (5, .int .i64 (((min (chN c (k + 5)) 1099511627775 : Nat) : Int) - 1))]) rfl rfl BE.out) rfl ?_; (try simp only [Act.put, lyy])
  refine qaa (qa3 (vs := evR ((.int .i64 0)) ((.int .i64 0)) ((.bool false)) (z8 32) ((.int .i64 0)) ((.int .i64 0)) (hdR (z8 32) ((.int .i64 0)) ((.int .i64 0))) ((.slice none 0 0))) rfl (by kernel_rfl)) rfl ?_; (try simp only [Act.put, lyy])
  replace E := Lib.hid (E.out.new (evR ((.int .i64 0)) ((.int .i64 0)) ((.bool false)) (z8 32) ((.int .i64 0)) ((.int .i64 0)) (hdR (z8 32) ((.int .i64 0)) ((.int .i64 0))) ((.slice none 0 0))) 38)
  generalize a8.alloc (.cells (evR ((.int .i64 0)) ((.int .i64 0)) ((.bool false)) (z8 32) ((.int .i64 0)) ((.int .i64 0)) (hdR (z8 32) ((.int .i64 0)) ((.int .i64 0))) ((.slice none 0 0))).toArray 38) = a9 at *
  generalize a8.heap.size = g10 at *
  refine qal (qa0 (vs := evR (.int .i64 (chN c k : Int)) (.int .i64 (chN c (k + 1) : Int)) (.bool (decide (chN c (k + 2) % 2 = 1))) ((chK c (k + 3)).map b8) (.int .i64 (chN c (k + 4) : Int)) (.int .i64 (((min (chN c (k + 5)) 1099511627775 : Nat) : Int) - 1)) (hdR (z8 32) ((.int .i64 0)) ((.int .i64 0))) (.slice none 0 0)) rfl (szR (qbk (by rw [List.length_map]; exact qap _ _) (qa9 (qac 32))) (by kernel_rfl)) rfl rfl (One.all (evR_one rfl rfl rfl (One.b8 _) rfl rfl (hdR_one (One.b8 _) rfl rfl) rfl)) ((E.out.get (i := 0) rfl).thereM (by have q1 : (evR (.int .i64 (chN c k : Int)) (.int .i64 (chN c (k + 1) : Int)) (.bool (decide (chN c (k + 2) % 2 = 1))) ((chK c (k + 3)).map b8) (.int .i64 (chN c (k + 4) : Int)) (.int .i64 (((min (chN c (k + 5)) 1099511627775 : Nat) : Int) - 1)) (hdR (z8 32) ((.int .i64 0)) ((.int .i64 0))) (.slice none 0 0)).length = 72 := (qbk (by rw [List.length_map]; exact qap _ _) (qa9 (qac 32))); have q2 : (evR ((.int .i64 0)) ((.int .i64 0)) ((.bool false)) (z8 32) ((.int .i64 0)) ((.int .i64 0)) (hdR (z8 32) ((.int .i64 0)) ((.int .i64 0))) ((.slice none 0 0))).length = 72 := (qbk (qac 32) (qa9 (qac 32))); omega))) rfl rfl ?_
  replace E := Lib.hid (E.out.put 0 rfl (m := evR (.int .i64 (chN c k : Int)) (.int .i64 (chN c (k + 1) : Int)) (.bool (decide (chN c (k + 2) % 2 = 1))) ((chK c (k + 3)).map b8) (.int .i64 (chN c (k + 4) : Int)) (.int .i64 (((min (chN c (k + 5)) 1099511627775 : Nat) : Int) - 1)) (hdR (z8 32) ((.int .i64 0)) ((.int .i64 0))) (.slice none 0 0)) ((show (evR (.int .i64 (chN c k : Int)) (.int .i64 (chN c (k + 1) : Int)) (.bool (decide (chN c (k + 2) % 2 = 1))) ((chK c (k + 3)).map b8) (.int .i64 (chN c (k + 4) : Int)) (.int .i64 (((min (chN c (k + 5)) 1099511627775 : Nat) : Int) - 1)) (hdR (z8 32) ((.int .i64 0)) ((.int .i64 0))) (.slice none 0 0)).length = 72 from (qbk (by rw [List.length_map]; exact qap _ _) (qa9 (qac 32)))).trans (show (evR ((.int .i64 0)) ((.int .i64 0)) ((.bool false)) (z8 32) ((.int .i64 0)) ((.int .i64 0)) (hdR (z8 32) ((.int .i64 0)) ((.int .i64 0))) ((.slice none 0 0))).length = 72 from (qbk (qac 32) (qa9 (qac 32)))).symm))
  generalize a9.setCells g10 0 (evR (.int .i64 (chN c k : Int)) (.int .i64 (chN c (k + 1) : Int)) (.bool (decide (chN c (k + 2) % 2 = 1))) ((chK c (k + 3)).map b8) (.int .i64 (chN c (k + 4) : Int)) (.int .i64 (((min (chN c (k + 5)) 1099511627775 : Nat) : Int) - 1)) (hdR (z8 32) ((.int .i64 0)) ((.int .i64 0))) (.slice none 0 0)) = a11 at *
  replace E := Lib.hid (show Ev _ [(g10, evR (.int .i64 (chN c k : Int)) (.int .i64 (chN c (k + 1) : Int)) (.bool (decide (chN c (k + 2) % 2 = 1))) ((chK c (k + 3)).map b8) (.int .i64 (chN c (k + 4) : Int)) (.int .i64 (((min (chN c (k + 5)) 1099511627775 : Nat) : Int) - 1)) (hdR (z8 32) ((.int .i64 0)) ((.int .i64 0))) (.slice none 0 0)), (g2, evR ((.int .i64 0)) ((.int .i64 0)) ((.bool false)) (z8 32) ((.int .i64 0)) ((.int .i64 0)) (hdR (z8 32) ((.int .i64 0)) ((.int .i64 0))) ((.slice none 0 0)))] _ _ _ a11 from E.out)
  refine qab ?_
  go_upto_region 2 with fail; refine wp_region_lit ?_
  refine qaa (qad (v := .slice ao c.length cc) rfl rfl) rfl ?_; (try simp only [Act.put, lyy])
  refine qaa (qad (v := .int .i64 (k : Int)) rfl rfl) rfl ?_; (try simp only [Act.put, lyy])
  refine qaa (qa6 (a := k) (b := 6) rfl rfl rfl (by omega)) rfl ?_; (try simp only [Act.put, lyy])
  refine qav (qaf qbx rfl rfl rfl rfl) rfl (CK.out _ ((k + 6 : Nat)) E.out.bl) (fun a12 hb => ?_); (try simp only [Act.put, lyy])
  replace E := Lib.hid (E.out.below hb)
  clear hb
  refine qaa (qad (v := .slice ao c.length cc) rfl rfl) rfl ?_; (try simp only [Act.put, lyy])
  refine qaa (qad (v := .int .i64 (k : Int)) rfl rfl) rfl ?_; (try simp only [Act.put, lyy])
  refine qaa (qa6 (a := k) (b := 7) rfl rfl rfl (by omega)) rfl ?_; (try simp only [Act.put, lyy])
  refine qav (qaf qau rfl rfl rfl rfl) rfl (CN.out _ ((k + 7 : Nat)) E.out.bl) (fun a13 hb => ?_); (try simp only [Act.put, lyy])
  replace E := Lib.hid (E.out.below hb)
  clear hb
  refine qaa (qad (v := .slice ao c.length cc) rfl rfl) rfl ?_; (try simp only [Act.put, lyy])
  refine qaa (qad (v := .int .i64 (k : Int)) rfl rfl) rfl ?_; (try simp only [Act.put, lyy])
  refine qaa (qa6 (a := k) (b := 8) rfl rfl rfl (by omega)) rfl ?_; (try simp only [Act.put, lyy])
  refine qav (qaf qau rfl rfl rfl rfl) rfl (CN.out _ ((k + 8 : Nat)) E.out.bl) (fun a14 hb => ?_); (try simp only [Act.put, lyy])
  replace E := Lib.hid (E.out.below hb)
  clear hb
  refine qaa (qa7 (cells := (hdR ((chK c ((k + 6 : Nat))).map b8) (.int .i64 (chN c ((k + 7 : Nat)) : Int)) (.int .i64 (chN c ((k + 8 : Nat)) : Int))).toArray) (ps := [(0, .agg ((chK c ((k + 6 : Nat))).map b8).toArray), (1, .int .i64 (chN c ((k + 7 : Nat)) : Int)), (2, .int .i64 (chN c ((k + 8 : Nat)) : Int))]) rfl rfl (hdR_all (by rw [List.length_map]; exact qap _ _) rfl rfl)) rfl ?_; (try simp only [Act.put, lyy])
  refine qaa (qai (s := 33) (k := 37) rfl Tryz.underlying38 rfl (by kernel_rfl) rfl rfl) rfl ?_; (try simp only [Act.put, lyy])
  refine qal (qa0 (vs := hdR ((chK c ((k + 6 : Nat))).map b8) (.int .i64 (chN c ((k + 7 : Nat)) : Int)) (.int .i64 (chN c ((k + 8 : Nat)) : Int))) rfl (szR (qa9 (by rw [List.length_map]; exact qap _ _)) (by kernel_rfl)) rfl rfl (One.all (hdR_one (One.b8 _) rfl rfl)) ((E.out.get (i := 0) rfl).thereM (by have q1 : (hdR ((chK c ((k + 6 : Nat))).map b8) (.int .i64 (chN c ((k + 7 : Nat)) : Int)) (.int .i64 (chN c ((k + 8 : Nat)) : Int))).length = 34 := (qa9 (by rw [List.length_map]; exact qap _ _)); have q2 : (evR (.int .i64 (chN c k : Int)) (.int .i64 (chN c (k + 1) : Int)) (.bool (decide (chN c (k + 2) % 2 = 1))) ((chK c (k + 3)).map b8) (.int .i64 (chN c (k + 4) : Int)) (.int .i64 (((min (chN c (k + 5)) 1099511627775 : Nat) : Int) - 1)) (hdR (z8 32) ((.int .i64 0)) ((.int .i64 0))) (.slice none 0 0)).length = 72 := (qbk (by rw [List.length_map]; exact qap _ _) (qa9 (qac 32))); omega))) rfl rfl ?_
  replace E := Lib.hid (E.out.mid 0 rfl (f := 37) (m := hdR ((chK c ((k + 6 : Nat))).map b8) (.int .i64 (chN c ((k + 7 : Nat)) : Int)) (.int .i64 (chN c ((k + 8 : Nat)) : Int))) (by have q1 : (hdR ((chK c ((k + 6 : Nat))).map b8) (.int .i64 (chN c ((k + 7 : Nat)) : Int)) (.int .i64 (chN c ((k + 8 : Nat)) : Int))).length = 34 := (qa9 (by rw [List.length_map]; exact qap _ _)); have q2 : (evR (.int .i64 (chN c k : Int)) (.int .i64 (chN c (k + 1) : Int)) (.bool (decide (chN c (k + 2) % 2 = 1))) ((chK c (k + 3)).map b8) (.int .i64 (chN c (k + 4) : Int)) (.int .i64 (((min (chN c (k + 5)) 1099511627775 : Nat) : Int) - 1)) (hdR (z8 32) ((.int .i64 0)) ((.int .i64 0))) (.slice none 0 0)).length = 72 := (qbk (by rw [List.length_map]; exact qap _ _) (qa9 (qac 32))); omega))
  rw [show (evR (.int .i64 (chN c k : Int)) (.int .i64 (chN c (k + 1) : Int)) (.bool (decide (chN c (k + 2) % 2 = 1))) ((chK c (k + 3)).map b8) (.int .i64 (chN c (k + 4) : Int)) (.int .i64 (((min (chN c (k + 5)) 1099511627775 : Nat) : Int) - 1)) (hdR (z8 32) ((.int .i64 0)) ((.int .i64 0))) (.slice none 0 0)).take 37 ++ (hdR ((chK c ((k + 6 : Nat))).map b8) (.int .i64 (chN c ((k + 7 : Nat)) : Int)) (.int .i64 (chN c ((k + 8 : Nat)) : Int)) ++ (evR (.int .i64 (chN c k : Int)) (.int .i64 (chN c (k + 1) : Int)) (.bool (decide (chN c (k + 2) % 2 = 1))) ((chK c (k + 3)).map b8) (.int .i64 (chN c (k + 4) : Int)) (.int .i64 (((min (chN c (k + 5)) 1099511627775 : Nat) : Int) - 1)) (hdR (z8 32) ((.int .i64 0)) ((.int .i64 0))) (.slice none 0 0)).drop (37 + (hdR ((chK c ((k + 6 : Nat))).map b8) (.int .i64 (chN c ((k + 7 : Nat)) : Int)) (.int .i64 (chN c ((k + 8 : Nat)) : Int))).length)) = evR (.int .i64 (chN c k : Int)) (.int .i64 (chN c (k + 1) : Int)) (.bool (decide (chN c (k + 2) % 2 = 1))) ((chK c (k + 3)).map b8) (.int .i64 (chN c (k + 4) : Int)) (.int .i64 (((min (chN c (k + 5)) 1099511627775 : Nat) : Int) - 1)) (hdR ((chK c ((k + 6 : Nat))).map b8) (.int .i64 (chN c ((k + 7 : Nat)) : Int)) (.int .i64 (chN c ((k + 8 : Nat)) : Int))) (.slice none 0 0) from (evR_setHead (by rw [List.length_map]; exact qap _ _) (qa9 (qac 32)) (qa9 (by rw [List.length_map]; exact qap _ _)))] at E
  generalize a14.setCells g10 37 (hdR ((chK c ((k + 6 : Nat))).map b8) (.int .i64 (chN c ((k + 7 : Nat)) : Int)) (.int .i64 (chN c ((k + 8 : Nat)) : Int))) = a15 at *
  replace E := Lib.hid (show Ev _ [(g10, evR (.int .i64 (chN c k : Int)) (.int .i64 (chN c (k + 1) : Int)) (.bool (decide (chN c (k + 2) % 2 = 1))) ((chK c (k + 3)).map b8) (.int .i64 (chN c (k + 4) : Int)) (.int .i64 (((min (chN c (k + 5)) 1099511627775 : Nat) : Int) - 1)) (hdR ((chK c ((k + 6 : Nat))).map b8) (.int .i64 (chN c ((k + 7 : Nat)) : Int)) (.int .i64 (chN c ((k + 8 : Nat)) : Int))) (.slice none 0 0)), (g2, evR ((.int .i64 0)) ((.int .i64 0)) ((.bool false)) (z8 32) ((.int .i64 0)) ((.int .i64 0)) (hdR (z8 32) ((.int .i64 0)) ((.int .i64 0))) ((.slice none 0 0)))] _ _ _ a15 from E.out)
  refine qab ?_
  go_upto_region 3 with fail; refine wp_region_lit ?_
  refine qaa (qad (v := .slice ao c.length cc) rfl rfl) rfl ?_; (try simp only [Act.put, lyy])
  refine qaa (qad (v := .slice ao c.length cc) rfl rfl) rfl ?_; (try simp only [Act.put, lyy])
  refine qaa (qa4 rfl Tryz.underlying22 rfl) rfl ?_; (try simp only [Act.put, lyy])
  refine qaa (qad (v := .slice ao c.length cc) rfl rfl) rfl ?_; (try simp only [Act.put, lyy])
  refine qaa (qad (v := .int .i64 (k : Int)) rfl rfl) rfl ?_; (try simp only [Act.put, lyy])
  refine qaa (qa6 (a := k) (b := 9) rfl rfl rfl (by omega)) rfl ?_; (try simp only [Act.put, lyy])
  refine qav (qaf qau rfl rfl rfl rfl) rfl (CN.out _ ((k + 9 : Nat)) E.out.bl) (fun a16 hb => ?_); (try simp only [Act.put, lyy])
  replace E := Lib.hid (E.out.below hb)
  clear hb
  refine qaa (qb9 (a := chN c (k + 9)) (b := 10) rfl rfl rfl (by omega)) rfl ?_; (try simp only [Act.put, lyy])
  refine qaa (run_min (a := c.length) (b := chN c (k + 9) % 10) _ rfl rfl rfl) rfl ?_; (try simp only [Act.put, lyy])
  refine qaa (run_slo rfl Tryz.underlying22 (by kernel_rfl) rfl rfl (Nat.le_trans (Nat.min_le_left _ _) hcc)) rfl ?_; (try simp only [Act.put, lyy])
  refine qaa (qai (s := 0) (k := 71) rfl Tryz.underlying38 rfl (by kernel_rfl) rfl rfl) rfl ?_; (try simp only [Act.put, lyy])
  refine qal (qb5 (v := .slice ao (min c.length (chN c (k + 9) % 10)) cc) rfl (by kernel_rfl) rfl rfl rfl rfl ((E.out.get (i := 0) rfl).c 71 _ (evR_Body (by rw [List.length_map]; exact qap _ _) (qa9 (by rw [List.length_map]; exact qap _ _)))) ((E.out.get (i := 0) rfl).f _)) rfl rfl ?_
  replace E := Lib.hid (E.out.set 0 rfl (j := 71) (by have q2 : (evR (.int .i64 (chN c k : Int)) (.int .i64 (chN c (k + 1) : Int)) (.bool (decide (chN c (k + 2) % 2 = 1))) ((chK c (k + 3)).map b8) (.int .i64 (chN c (k + 4) : Int)) (.int .i64 (((min (chN c (k + 5)) 1099511627775 : Nat) : Int) - 1)) (hdR ((chK c ((k + 6 : Nat))).map b8) (.int .i64 (chN c ((k + 7 : Nat)) : Int)) (.int .i64 (chN c ((k + 8 : Nat)) : Int))) (.slice none 0 0)).length = 72 := (qbk (by rw [List.length_map]; exact qap _ _) (qa9 (by rw [List.length_map]; exact qap _ _))); omega) (.slice ao (min c.length (chN c (k + 9) % 10)) cc))
  rw [show (evR (.int .i64 (chN c k : Int)) (.int .i64 (chN c (k + 1) : Int)) (.bool (decide (chN c (k + 2) % 2 = 1))) ((chK c (k + 3)).map b8) (.int .i64 (chN c (k + 4) : Int)) (.int .i64 (((min (chN c (k + 5)) 1099511627775 : Nat) : Int) - 1)) (hdR ((chK c ((k + 6 : Nat))).map b8) (.int .i64 (chN c ((k + 7 : Nat)) : Int)) (.int .i64 (chN c ((k + 8 : Nat)) : Int))) (.slice none 0 0)).set 71 (.slice ao (min c.length (chN c (k + 9) % 10)) cc) = evR (.int .i64 (chN c k : Int)) (.int .i64 (chN c (k + 1) : Int)) (.bool (decide (chN c (k + 2) % 2 = 1))) ((chK c (k + 3)).map b8) (.int .i64 (chN c (k + 4) : Int)) (.int .i64 (((min (chN c (k + 5)) 1099511627775 : Nat) : Int) - 1)) (hdR ((chK c ((k + 6 : Nat))).map b8) (.int .i64 (chN c ((k + 7 : Nat)) : Int)) (.int .i64 (chN c ((k + 8 : Nat)) : Int))) (.slice ao (min c.length (chN c (k + 9) % 10)) cc) from (evR_setBody (by rw [List.length_map]; exact qap _ _) (qa9 (by rw [List.length_map]; exact qap _ _)) _)] at E
  generalize a16.setCell ⟨g10, 71, none⟩ (.slice ao (min c.length (chN c (k + 9) % 10)) cc) = a17 at *
  replace E := Lib.hid (show Ev _ [(g10, evR (.int .i64 (chN c k : Int)) (.int .i64 (chN c (k + 1) : Int)) (.bool (decide (chN c (k + 2) % 2 = 1))) ((chK c (k + 3)).map b8) (.int .i64 (chN c (k + 4) : Int)) (.int .i64 (((min (chN c (k + 5)) 1099511627775 : Nat) : Int) - 1)) (hdR ((chK c ((k + 6 : Nat))).map b8) (.int .i64 (chN c ((k + 7 : Nat)) : Int)) (.int .i64 (chN c ((k + 8 : Nat)) : Int))) (.slice ao (min c.length (chN c (k + 9) % 10)) cc)), (g2, evR ((.int .i64 0)) ((.int .i64 0)) ((.bool false)) (z8 32) ((.int .i64 0)) ((.int .i64 0)) (hdR (z8 32) ((.int .i64 0)) ((.int .i64 0))) ((.slice none 0 0)))] _ _ _ a17 from E.out)
  refine qab ?_
  go_upto_region 4 with fail; refine wp_region_lit ?_
  refine qaa (qat (vs := evR (.int .i64 (chN c k : Int)) (.int .i64 (chN c (k + 1) : Int)) (.bool (decide (chN c (k + 2) % 2 = 1))) ((chK c (k + 3)).map b8) (.int .i64 (chN c (k + 4) : Int)) (.int .i64 (((min (chN c (k + 5)) 1099511627775 : Nat) : Int) - 1)) (hdR ((chK c ((k + 6 : Nat))).map b8) (.int .i64 (chN c ((k + 7 : Nat)) : Int)) (.int .i64 (chN c ((k + 8 : Nat)) : Int))) (.slice ao (min c.length (chN c (k + 9) % 10)) cc)) rfl Tryz.underlying38 rfl (szR (qbk (by rw [List.length_map]; exact qap _ _) (qa9 (by rw [List.length_map]; exact qap _ _))) (by kernel_rfl)) rfl (E.out.get (i := 0) rfl).range) rfl ?_; (try simp only [Act.put, lyy])
  refine qal (qa0 (vs := evR (.int .i64 (chN c k : Int)) (.int .i64 (chN c (k + 1) : Int)) (.bool (decide (chN c (k + 2) % 2 = 1))) ((chK c (k + 3)).map b8) (.int .i64 (chN c (k + 4) : Int)) (.int .i64 (((min (chN c (k + 5)) 1099511627775 : Nat) : Int) - 1)) (hdR ((chK c ((k + 6 : Nat))).map b8) (.int .i64 (chN c ((k + 7 : Nat)) : Int)) (.int .i64 (chN c ((k + 8 : Nat)) : Int))) (.slice ao (min c.length (chN c (k + 9) % 10)) cc)) rfl (szR (qbk (by rw [List.length_map]; exact qap _ _) (qa9 (by rw [List.length_map]; exact qap _ _))) (by kernel_rfl)) rfl rfl (One.all (evR_one rfl rfl rfl (One.b8 _) rfl rfl (hdR_one (One.b8 _) rfl rfl) rfl)) ((E.out.get (i := 1) rfl).thereM (by have q1 : (evR (.int .i64 (chN c k : Int)) (.int .i64 (chN c (k + 1) : Int)) (.bool (decide (chN c (k + 2) % 2 = 1))) ((chK c (k + 3)).map b8) (.int .i64 (chN c (k + 4) : Int)) (.int .i64 (((min (chN c (k + 5)) 1099511627775 : Nat) : Int) - 1)) (hdR ((chK c ((k + 6 : Nat))).map b8) (.int .i64 (chN c ((k + 7 : Nat)) : Int)) (.int .i64 (chN c ((k + 8 : Nat)) : Int))) (.slice ao (min c.length (chN c (k + 9) % 10)) cc)).length = 72 := (qbk (by rw [List.length_map]; exact qap _ _) (qa9 (by rw [List.length_map]; exact qap _ _))); have q2 : (evR ((.int .i64 0)) ((.int .i64 0)) ((.bool false)) (z8 32) ((.int .i64 0)) ((.int .i64 0)) (hdR (z8 32) ((.int .i64 0)) ((.int .i64 0))) ((.slice none 0 0))).length = 72 := (qbk (qac 32) (qa9 (qac 32))); omega))) rfl rfl ?_
  replace E := Lib.hid (E.out.put 1 rfl (m := evR (.int .i64 (chN c k : Int)) (.int .i64 (chN c (k + 1) : Int)) (.bool (decide (chN c (k + 2) % 2 = 1))) ((chK c (k + 3)).map b8) (.int .i64 (chN c (k + 4) : Int)) (.int .i64 (((min (chN c (k + 5)) 1099511627775 : Nat) : Int) - 1)) (hdR ((chK c ((k + 6 : Nat))).map b8) (.int .i64 (chN c ((k + 7 : Nat)) : Int)) (.int .i64 (chN c ((k + 8 : Nat)) : Int))) (.slice ao (min c.length (chN c (k + 9) % 10)) cc)) ((show (evR (.int .i64 (chN c k : Int)) (.int .i64 (chN c (k + 1) : Int)) (.bool (decide (chN c (k + 2) % 2 = 1))) ((chK c (k + 3)).map b8) (.int .i64 (chN c (k + 4) : Int)) (.int .i64 (((min (chN c (k + 5)) 1099511627775 : Nat) : Int) - 1)) (hdR ((chK c ((k + 6 : Nat))).map b8) (.int .i64 (chN c ((k + 7 : Nat)) : Int)) (.int .i64 (chN c ((k + 8 : Nat)) : Int))) (.slice ao (min c.length (chN c (k + 9) % 10)) cc)).length = 72 from (qbk (by rw [List.length_map]; exact qap _ _) (qa9 (by rw [List.length_map]; exact qap _ _)))).trans (show (evR ((.int .i64 0)) ((.int .i64 0)) ((.bool false)) (z8 32) ((.int .i64 0)) ((.int .i64 0)) (hdR (z8 32) ((.int .i64 0)) ((.int .i64 0))) ((.slice none 0 0))).length = 72 from (qbk (qac 32) (qa9 (qac 32)))).symm))
  generalize a17.setCells g2 0 (evR (.int .i64 (chN c k : Int)) (.int .i64 (chN c (k + 1) : Int)) (.bool (decide (chN c (k + 2) % 2 = 1))) ((chK c (k + 3)).map b8) (.int .i64 (chN c (k + 4) : Int)) (.int .i64 (((min (chN c (k + 5)) 1099511627775 : Nat) : Int) - 1)) (hdR ((chK c ((k + 6 : Nat))).map b8) (.int .i64 (chN c ((k + 7 : Nat)) : Int)) (.int .i64 (chN c ((k + 8 : Nat)) : Int))) (.slice ao (min c.length (chN c (k + 9) % 10)) cc)) = a18 at *
  replace E := Lib.hid (show Ev _ [(g10, evR (.int .i64 (chN c k : Int)) (.int .i64 (chN c (k + 1) : Int)) (.bool (decide (chN c (k + 2) % 2 = 1))) ((chK c (k + 3)).map b8) (.int .i64 (chN c (k + 4) : Int)) (.int .i64 (((min (chN c (k + 5)) 1099511627775 : Nat) : Int) - 1)) (hdR ((chK c ((k + 6 : Nat))).map b8) (.int .i64 (chN c ((k + 7 : Nat)) : Int)) (.int .i64 (chN c ((k + 8 : Nat)) : Int))) (.slice ao (min c.length (chN c (k + 9) % 10)) cc)), (g2, evR (.int .i64 (chN c k : Int)) (.int .i64 (chN c (k + 1) : Int)) (.bool (decide (chN c (k + 2) % 2 = 1))) ((chK c (k + 3)).map b8) (.int .i64 (chN c (k + 4) : Int)) (.int .i64 (((min (chN c (k + 5)) 1099511627775 : Nat) : Int) - 1)) (hdR ((chK c ((k + 6 : Nat))).map b8) (.int .i64 (chN c ((k + 7 : Nat)) : Int)) (.int .i64 (chN c ((k + 8 : Nat)) : Int))) (.slice ao (min c.length (chN c (k + 9) % 10)) cc))] _ _ _ a18 from E.out)
  refine qab ?_
  go_wp2_with fail
  refine bodyPost_ret (v := .agg (evR (.int .i64 (chN c k : Int)) (.int .i64 (chN c (k + 1) : Int)) (.bool (decide (chN c (k + 2) % 2 = 1))) ((chK c (k + 3)).map b8) (.int .i64 (chN c (k + 4) : Int)) (.int .i64 (((min (chN c (k + 5)) 1099511627775 : Nat) : Int) - 1)) (hdR ((chK c ((k + 6 : Nat))).map b8) (.int .i64 (chN c ((k + 7 : Nat)) : Int)) (.int .i64 (chN c ((k + 8 : Nat)) : Int))) (.slice ao (min c.length (chN c (k + 9) % 10)) cc)).toArray) (qbj Tryz.results9 rfl Tryz.underlying38 rfl (szR (qbk (by rw [List.length_map]; exact qap _ _) (qa9 (by rw [List.length_map]; exact qap _ _))) (by kernel_rfl)) (E.out.get (i := 1) rfl).range) rfl ⟨_, rfl, ⟨_, rfl, (qbk (by rw [List.length_map]; exact qap _ _) (qa9 (by rw [List.length_map]; exact qap _ _))), (evR_one rfl rfl rfl (One.b8 _) rfl rfl (hdR_one (One.b8 _) rfl rfl) rfl), fun V h => ?_⟩, E.out.bl⟩
  have h2 := h.takeC (Nat.min_le_left c.length (chN c (k + 9) % 10))
  refine ⟨ao, cc, ?_, h2⟩
  rw [evC_row, hdC_row, show (chE c k).body.length = min c.length (chN c (k + 9) % 10) by simp only [chE, List.length_take]; omega]
  rfl
theorem chE_any (ao : Option Addr) (c : List (BitVec 8)) (cc k : Nat) (w : World) (hc : Sl (.slice ao c.length cc) c w) (hk : k ≤ 100000) : Calls Tryz.prog 9 #[.slice ao c.length cc, .int .i64 (k : Int)] w fun r w' => ∃ v', r = .returned v' ∧ ((∃ X : List Value, v' = .agg X.toArray ∧ X.length = 72 ∧ One X ∧ Fro 0 (evAt (chE c k) X) w') ∧ Below w.heap.size w w') :=
  (chE_anyC ao c cc k w hc hk).mono fun _ _ ⟨v', h1, ⟨X, h2, h3, h4, h5⟩, h6⟩ => ⟨v', h1, ⟨X, h2, h3, h4, fun V hV => h5 V ((hc.below h6).ext hV)⟩, h6⟩
end Go.Proofs.YtcgbgmbnagmohaaGreat
