import Derived.Test.YtcgbgmbnagmohaaLy
import Derived.Test.YtcgbgmbnagmohaaRdC
namespace Go.Proofs.Ytcgbgmbnagmohaa
open Go.RowKit
set_option maxRecDepth 20000
attribute [local irreducible] wpList
def chT : List Nat := [127, 128, 16383, 16384, 1099511627775, 1099511627776]
def chN (c : List (BitVec 8)) (i : Nat) : Nat := if c.length = 0 then i else if 200 < (c.getD (i % c.length) 0).toNat then chT.getD ((c.getD (i % c.length) 0).toNat % 6) 0 else (c.getD (i % c.length) 0).toNat % 20
theorem chT_row (k : Nat) : ([.int .i64 127, .int .i64 128, .int .i64 16383, .int .i64 16384, .int .i64 1099511627775, .int .i64 1099511627776] : List Value)[0 + k % 6]? = some (.int .i64 ((chT.getD (k % 6) 0 : Nat) : Int)) := by
  have h : k % 6 < 6 := Nat.mod_lt _ (by omega)
  generalize k % 6 = j at *
  match j, h with
  | 0, _ => rfl
  | 1, _ => rfl
  | 2, _ => rfl
  | 3, _ => rfl
  | 4, _ => rfl
  | 5, _ => rfl
theorem qap : Enters 32 := qak Try.func32 (by kernel_rfl) rfl
set_option maxHeartbeats 4000000 in
theorem chN_any (ao : Option Addr) (c : List (BitVec 8)) (cc i : Nat) (w : World) (hc : Sl (.slice ao c.length cc) c w) : Calls Try.prog 32 #[.slice ao c.length cc, .int .i64 (i : Int)] w fun r w' => r = .returned (.int .i64 (chN c i : Int)) ∧ Below w.heap.size w w' := by
  have E := Lib.hid (Ev.start (w := w) (F := fun _ => True) fun _ _ => trivial)
  by_cases h0 : c.length = 0
  · have EX : Hid (chN c i = i) := Lib.hid (by unfold chN; rw [if_pos h0])
    generalize chN c i = xx at *
    clear hc
    generalize c.length = m at *
    go_enter Try.func32, Try.ntmps32
    go_upto_region 0 with fail; refine wp_region_lit ?_
    refine qaa (qai (v := .int .i64 0) rfl rfl) rfl ?_; (try simp only [Act.put, lyy])
    refine qab ?_
    go_upto_region 1 with fail; refine wp_region_lit ?_
    refine qaa (qad (v := .slice ao m cc) rfl rfl) rfl ?_; (try simp only [Act.put, lyy])
    refine qaa (qba rfl Try.underlying22 rfl) rfl ?_; (try simp only [Act.put, lyy])
    refine qaa (qbx (c := true) rfl rfl rfl (by simp [h0])) rfl ?_; (try simp only [Act.put, lyy])
    refine qab ?_
    go_upto_region 2 with fail; refine wp_region_lit ?_
    refine qaa (qad (v := .int .i64 (i : Int)) rfl rfl) rfl ?_; (try simp only [Act.put, lyy])
    refine qaa (qai (v := .int .i64 (i : Int)) rfl rfl) rfl ?_; (try simp only [Act.put, lyy])
    refine qab ?_
    go_wp2_with fail
    go_ret
    exact ⟨by rw [EX.out]; rfl, E.out.bl⟩
  · obtain ⟨ao', c', hv, -, h9⟩ := hc
    obtain ⟨g, f, rfl, hg, hr⟩ := h9 (by intro h; rw [h] at h0; exact h0 rfl)
    simp only [Value.slice.injEq] at hv
    obtain ⟨rfl, -, rfl⟩ := hv
    have HR : Hid (∀ V, Below w.heap.size w V → V.cell? ⟨g, f + i % c.length, none⟩ = some (b8 (c.getD (i % c.length) 0))) := Lib.hid fun V hV => qbj hr hg hV _ _ (get_map b8 0 (Nat.mod_lt _ (by omega)))
    have e0 : chN c i = if 200 < (c.getD (i % c.length) 0).toNat then chT.getD ((c.getD (i % c.length) 0).toNat % 6) 0 else (c.getD (i % c.length) 0).toNat % 20 := by unfold chN; rw [if_neg h0]
    clear hr h9
    generalize c.getD (i % c.length) 0 = B at *
    generalize chN c i = xx at *
    generalize c.length = m at *
    by_cases h1 : 200 < B.toNat
    · have EX : Hid (xx = chT.getD (B.toNat % 6) 0) := Lib.hid (by rw [e0, if_pos h1])
      clear e0
      go_enter Try.func32, Try.ntmps32
      go_upto_region 0 with fail; refine wp_region_lit ?_
      refine qaa (qai (v := .int .i64 0) rfl rfl) rfl ?_; (try simp only [Act.put, lyy])
      refine qab ?_
      go_upto_region 1 with fail; refine wp_region_lit ?_
      refine qaa (qad (v := .slice (some ⟨g, f, none⟩) m cc) rfl rfl) rfl ?_; (try simp only [Act.put, lyy])
      refine qaa (qba rfl Try.underlying22 rfl) rfl ?_; (try simp only [Act.put, lyy])
      refine qaa (qbx (c := false) rfl rfl rfl (by simp [h0])) rfl ?_; (try simp only [Act.put, lyy])
      refine qab ?_
      go_upto_region 3 with fail; refine wp_region_lit ?_
      refine qaa (qad (v := .slice (some ⟨g, f, none⟩) m cc) rfl rfl) rfl ?_; (try simp only [Act.put, lyy])
      refine qaa (qad (v := .int .i64 (i : Int)) rfl rfl) rfl ?_; (try simp only [Act.put, lyy])
      refine qaa (qad (v := .slice (some ⟨g, f, none⟩) m cc) rfl rfl) rfl ?_; (try simp only [Act.put, lyy])
      refine qaa (qba rfl Try.underlying22 rfl) rfl ?_; (try simp only [Act.put, lyy])
      refine qaa (qbw (a := i) (b := m) rfl rfl rfl (by omega)) rfl ?_; (try simp only [Act.put, lyy])
      refine qaa (run_ixs rfl Try.underlying22 (by kernel_rfl) rfl rfl (Nat.mod_lt _ (by omega))) rfl ?_; (try simp only [Act.put, lyy])
      refine qaa (qav rfl Try.underlying5 rfl rfl (HR.out _ E.out.bl)) rfl ?_; (try simp only [Act.put, lyy])
      refine qaa (run_cv8i rfl rfl) rfl ?_; (try simp only [Act.put, lyy])
      refine qaa (qai (v := .int .i64 (B.toNat : Int)) rfl rfl) rfl ?_; (try simp only [Act.put, lyy])
      refine qab ?_
      go_upto_region 4 with fail; refine wp_region_lit ?_
      refine qaa (qad (v := .int .i64 (B.toNat : Int)) rfl rfl) rfl ?_; (try simp only [Act.put, lyy])
      refine qaa (qbd (c := true) rfl rfl rfl (decide_eq_true (by omega))) rfl ?_; (try simp only [Act.put, lyy])
      refine qab ?_
      go_upto_region 5 with fail; refine wp_region_lit ?_
      refine qaa (run_bsl (cells := ([.int .i64 127, .int .i64 128, .int .i64 16383, .int .i64 16384, .int .i64 1099511627775, .int .i64 1099511627776] : List Value).toArray) (z := .int .i64 0) rfl Try.underlying147 (by kernel_rfl) (by omega) (by omega) (by kernel_rfl)) rfl ?_; (try simp only [Act.put, lyy])
      replace E := Lib.hid (E.out.new (([.int .i64 127, .int .i64 128, .int .i64 16383, .int .i64 16384, .int .i64 1099511627775, .int .i64 1099511627776] : List Value)) 3)
      generalize w.alloc (.cells (([.int .i64 127, .int .i64 128, .int .i64 16383, .int .i64 16384, .int .i64 1099511627775, .int .i64 1099511627776] : List Value)).toArray 3) = a1 at *
      generalize w.heap.size = g2 at *
      refine qaa (qad (v := .int .i64 (B.toNat : Int)) rfl rfl) rfl ?_; (try simp only [Act.put, lyy])
      refine qaa (qbw (a := B.toNat) (b := 6) rfl rfl rfl (by omega)) rfl ?_; (try simp only [Act.put, lyy])
      refine qaa (run_ixs rfl Try.underlying147 (by kernel_rfl) rfl rfl (Nat.mod_lt _ (by omega))) rfl ?_; (try simp only [Act.put, lyy])
      refine qaa (qav rfl Try.underlying3 rfl rfl ((E.out.get (i := 0) rfl).c (0 + B.toNat % 6) _ (chT_row B.toNat))) rfl ?_; (try simp only [Act.put, lyy])
      refine qaa (qai (v := .int .i64 ((chT.getD (B.toNat % 6) 0 : Nat) : Int)) rfl rfl) rfl ?_; (try simp only [Act.put, lyy])
      refine qab ?_
      go_wp2_with fail
      go_ret
      exact ⟨by rw [EX.out]; rfl, E.out.bl⟩
    · have EX : Hid (xx = B.toNat % 20) := Lib.hid (by rw [e0, if_neg h1])
      clear e0
      go_enter Try.func32, Try.ntmps32
      go_upto_region 0 with fail; refine wp_region_lit ?_
      refine qaa (qai (v := .int .i64 0) rfl rfl) rfl ?_; (try simp only [Act.put, lyy])
      refine qab ?_
      go_upto_region 1 with fail; refine wp_region_lit ?_
      refine qaa (qad (v := .slice (some ⟨g, f, none⟩) m cc) rfl rfl) rfl ?_; (try simp only [Act.put, lyy])
      refine qaa (qba rfl Try.underlying22 rfl) rfl ?_; (try simp only [Act.put, lyy])
      refine qaa (qbx (c := false) rfl rfl rfl (by simp [h0])) rfl ?_; (try simp only [Act.put, lyy])
      refine qab ?_
      go_upto_region 3 with fail; refine wp_region_lit ?_
      refine qaa (qad (v := .slice (some ⟨g, f, none⟩) m cc) rfl rfl) rfl ?_; (try simp only [Act.put, lyy])
      refine qaa (qad (v := .int .i64 (i : Int)) rfl rfl) rfl ?_; (try simp only [Act.put, lyy])
      refine qaa (qad (v := .slice (some ⟨g, f, none⟩) m cc) rfl rfl) rfl ?_; (try simp only [Act.put, lyy])
      refine qaa (qba rfl Try.underlying22 rfl) rfl ?_; (try simp only [Act.put, lyy])
      refine qaa (qbw (a := i) (b := m) rfl rfl rfl (by omega)) rfl ?_; (try simp only [Act.put, lyy])
      refine qaa (run_ixs rfl Try.underlying22 (by kernel_rfl) rfl rfl (Nat.mod_lt _ (by omega))) rfl ?_; (try simp only [Act.put, lyy])
      refine qaa (qav rfl Try.underlying5 rfl rfl (HR.out _ E.out.bl)) rfl ?_; (try simp only [Act.put, lyy])
      refine qaa (run_cv8i rfl rfl) rfl ?_; (try simp only [Act.put, lyy])
      refine qaa (qai (v := .int .i64 (B.toNat : Int)) rfl rfl) rfl ?_; (try simp only [Act.put, lyy])
      refine qab ?_
      go_upto_region 4 with fail; refine wp_region_lit ?_
      refine qaa (qad (v := .int .i64 (B.toNat : Int)) rfl rfl) rfl ?_; (try simp only [Act.put, lyy])
      refine qaa (qbd (c := false) rfl rfl rfl (decide_eq_false (by omega))) rfl ?_; (try simp only [Act.put, lyy])
      refine qab ?_
      go_upto_region 6 with fail; refine wp_region_lit ?_
      refine qaa (qad (v := .int .i64 (B.toNat : Int)) rfl rfl) rfl ?_; (try simp only [Act.put, lyy])
      refine qaa (qbw (a := B.toNat) (b := 20) rfl rfl rfl (by omega)) rfl ?_; (try simp only [Act.put, lyy])
      refine qaa (qai (v := .int .i64 ((B.toNat % 20 : Nat) : Int)) rfl rfl) rfl ?_; (try simp only [Act.put, lyy])
      refine qab ?_
      go_wp2_with fail
      go_ret
      exact ⟨by rw [EX.out]; rfl, E.out.bl⟩
def chK (c : List (BitVec 8)) (i : Nat) : List (BitVec 8) := BitVec.ofNat 8 (chN c i) :: BitVec.ofNat 8 i :: List.replicate 30 0
theorem qaj (c : List (BitVec 8)) (i : Nat) : (chK c i).length = 32 := rfl
theorem qbo : Enters 34 := qak Try.func34 (by kernel_rfl) rfl
theorem chKC (c : List (BitVec 8)) (w : World) (ao : Option Addr) (cc : Nat) (hc : Sl (.slice ao c.length cc) c w) : Hid (∀ (u : World) (i : Nat), Since w u → Calls Try.prog 32 #[.slice ao c.length cc, .int .i64 (i : Int)] u fun r w' => r = .returned (.int .i64 (chN c i : Int)) ∧ Below u.heap.size u w') := Lib.hid fun u i hu => chN_any ao c cc i u (hc.below hu)
set_option maxHeartbeats 4000000 in
theorem chK_any (ao : Option Addr) (c : List (BitVec 8)) (cc i : Nat) (w : World) (hc : Sl (.slice ao c.length cc) c w) : Calls Try.prog 34 #[.slice ao c.length cc, .int .i64 (i : Int)] w fun r w' => r = .returned (.agg ((chK c i).map b8).toArray) ∧ Below w.heap.size w w' := by
  have CN := chKC c w ao cc hc
  have E := Lib.hid (Ev.start (w := w) (F := fun _ => True) fun _ _ => trivial)
  have BK : Hid (Try.prog.built 27 [(0, b8 (BitVec.ofNat 8 (chN c i))), (1, b8 (BitVec.ofNat 8 i))] = some ((chK c i).map b8).toArray) := Lib.hid (by kernel_rfl)
  have hl := qaj c i
  generalize chK c i = kk at *
  generalize hm : c.length = m at *
  go_enter Try.func34, Try.ntmps34
  go_upto_region 0 with fail; refine wp_region_lit ?_
  refine qaa (qay (vs := z8 32) rfl (by kernel_rfl)) rfl ?_; (try simp only [Act.put, lyy])
  replace E := Lib.hid (E.out.new (z8 32) 27)
  generalize w.alloc (.cells (z8 32).toArray 27) = a1 at *
  generalize w.heap.size = g2 at *
  refine qab ?_
  go_upto_region 1 with fail; refine wp_region_lit ?_
  refine qaa (qad (v := .slice ao m cc) rfl rfl) rfl ?_; (try simp only [Act.put, lyy])
  refine qaa (qad (v := .int .i64 (i : Int)) rfl rfl) rfl ?_; (try simp only [Act.put, lyy])
  refine qat (qae qap rfl rfl rfl rfl) rfl (CN.out _ i E.out.bl) (fun a3 hb => ?_); (try simp only [Act.put, lyy])
  replace E := Lib.hid (E.out.below hb)
  clear hb
  refine qaa (run_cvi_8 rfl rfl) rfl ?_; (try simp only [Act.put, lyy])
  refine qaa (qad (v := .int .i64 (i : Int)) rfl rfl) rfl ?_; (try simp only [Act.put, lyy])
  refine qaa (run_cvi_8 rfl rfl) rfl ?_; (try simp only [Act.put, lyy])
  refine qaa (qa4 (ps := [(0, b8 (BitVec.ofNat 8 (chN c i))), (1, b8 (BitVec.ofNat 8 i))]) rfl rfl BK.out) rfl ?_; (try simp only [Act.put, lyy])
  refine qah (qax (vs := kk.map b8) rfl (szR (by rw [List.length_map, hl]) (by kernel_rfl)) rfl rfl (One.all (One.b8 _)) ((E.out.get (i := 0) rfl).thereM (by have q1 : (kk.map b8).length = 32 := (by rw [List.length_map, hl]); have q2 : (z8 32).length = 32 := (qac 32); omega))) rfl rfl ?_
  replace E := Lib.hid (E.out.put 0 rfl (m := kk.map b8) ((show (kk.map b8).length = 32 from (by rw [List.length_map, hl])).trans (show (z8 32).length = 32 from (qac 32)).symm))
  generalize a3.setCells g2 0 (kk.map b8) = a4 at *
  replace E := Lib.hid (show Ev _ [(g2, kk.map b8)] _ _ _ a4 from E.out)
  refine qab ?_
  go_wp2_with fail
  refine bodyPost_ret (v := .agg (kk.map b8).toArray) (qa9 Try.results34 rfl Try.underlying27 rfl (szR (by rw [List.length_map, hl]) (by kernel_rfl)) (E.out.get (i := 0) rfl).range) rfl ⟨rfl, E.out.bl⟩
end Go.Proofs.Ytcgbgmbnagmohaa
namespace Go.Proofs.Ytcgbgmbnagmohaa
open Go.RowKit
set_option maxRecDepth 20000
attribute [local irreducible] wpList
theorem chKK (c : List (BitVec 8)) (w : World) (ao : Option Addr) (cc : Nat) (hc : Sl (.slice ao c.length cc) c w) : Hid (∀ (u : World) (i : Nat), Since w u → Calls Try.prog 34 #[.slice ao c.length cc, .int .i64 (i : Int)] u fun r w' => r = .returned (.agg ((chK c i).map b8).toArray) ∧ Below u.heap.size u w') := Lib.hid fun u i hu => chK_any ao c cc i u (hc.below hu)
def chP (c : List (BitVec 8)) (k i : Nat) : MPk := ⟨chN c (k + i + 1), chK c (k + i + 2)⟩
def chPs (c : List (BitVec 8)) (k n : Nat) : List MPk := (List.range n).map (chP c k)
theorem chPs_len (c : List (BitVec 8)) (k n : Nat) : (chPs c k n).length = n := by simp [chPs]
theorem chPs_succ (c : List (BitVec 8)) (k n : Nat) : chPs c k (n + 1) = chPs c k n ++ [chP c k n] := by simp [chPs, List.range_succ]
theorem enters_cp10 : Enters 35 := qak Try.func35 (by kernel_rfl) rfl
set_option maxHeartbeats 8000000 in
theorem chPs_any (ao : Option Addr) (c : List (BitVec 8)) (cc k : Nat) (w : World) (hc : Sl (.slice ao c.length cc) c w) (hk : k ≤ 100000) : Calls Try.prog 35 #[.slice ao c.length cc, .int .i64 (k : Int)] w fun r w' => ∃ v', r = .returned v' ∧ ((∃ a' c', v' = .slice a' (chPs c k (chN c k % 4)).length c' ∧ Fro w.heap.size (SlR 33 pkAt (chPs c k (chN c k % 4)) a' c') w') ∧ Below w.heap.size w w') := by
  have CN := chKC c w ao cc hc
  have CK := chKK c w ao cc hc
  have hN : chN c k % 4 ≤ 3 := by omega
  have E := Lib.hid (Ev.start (w := w) (F := fun _ => True) fun _ _ => trivial)
  clear hc
  generalize c.length = m at *
  go_enter Try.func35, Try.ntmps35
  go_upto_region 0 with fail; refine wp_region_lit ?_
  refine qaa (qai (v := .slice none 0 0) rfl rfl) rfl ?_; (try simp only [Act.put, lyy])
  refine qab ?_
  go_upto_region 1 with fail; refine wp_region_lit ?_
  refine qaa (qai (v := .slice none 0 0) rfl rfl) rfl ?_; (try simp only [Act.put, lyy])
  refine qab ?_
  go_upto_region 2 with fail; refine wp_region_lit ?_
  refine qaa (qai (v := .int .i64 0) rfl rfl) rfl ?_; (try simp only [Act.put, lyy])
  refine qab ?_
  replace E := Lib.hid ((Gw.start E.out 34 33).know (H0 := LR pkAt [] []) fun V _ => LR.nil V)
  go_wp2_with fail
  go_loopw [5, 6] (fun s5 s6 u => ∃ (j : Nat) (l : List MPk) (css : List (List Value)), s6 = .int .i64 (j : Int) ∧ l = chPs c k j ∧ j = l.length ∧ j ≤ chN c k % 4 ∧ (∀ p ∈ css, p.length = 33) ∧ Gw w [] 34 33 s5 j css.flatten (fun _ => True) (LR pkAt l css) u) (fun _ s6 _ => (((chN c k % 4 : Nat) : Int) - intOf s6).toNat)
  case atStart => exact ⟨0, [], [], rfl, rfl, rfl, by omega, (fun _ h => by cases h), E.out⟩
  case round =>
    obtain ⟨j, l, css, rfl, hl, hjl, hj, hq, hJ⟩ := hrel
    replace E := Lib.hid hJ
    have HK := Lib.hid hq
    clear hJ hq
    by_cases hjn : j = chN c k % 4
    · go_upto_region 3 with fail; refine wp_region_lit ?_
      refine qaa (qad (v := .int .i64 (j : Int)) rfl rfl) rfl ?_; (try simp only [Act.put, lyy])
      refine qaa (qad (v := .slice ao m cc) rfl rfl) rfl ?_; (try simp only [Act.put, lyy])
      refine qaa (qad (v := .int .i64 (k : Int)) rfl rfl) rfl ?_; (try simp only [Act.put, lyy])
      refine qat (qae qap rfl rfl rfl rfl) rfl (CN.out _ k E.out.ev.bl) (fun a1 hb => ?_); (try simp only [Act.put, lyy])
      replace E := Lib.hid (E.out.below hb)
      clear hb
      refine qaa (qbw (a := chN c k) (b := 4) rfl rfl rfl (by omega)) rfl ?_; (try simp only [Act.put, lyy])
      refine qaa (qa0 (c := false) rfl rfl rfl (decide_eq_false (by omega))) rfl ?_; (try simp only [Act.put, lyy])
      refine qab ?_
      have E1 := Lib.hid E.out.done
      clear E
      have E := E1
      clear E1
      go_upto_region 6 with fail; refine wp_region_lit ?_
      refine qaa (qad (v := u5) rfl rfl) rfl ?_; (try simp only [Act.put, lyy])
      refine qaa (qai (v := u5) rfl rfl) rfl ?_; (try simp only [Act.put, lyy])
      refine qab ?_
      have HF : Hid (Fro w.heap.size (fun V => ∃ a' c', u5 = .slice a' l.length c' ∧ SlR 33 pkAt l a' c' V) a1) := Lib.hid fun V hV => slR_own (E.out.tell V hV).1 hjl (E.out.tell V hV).2.1 HK.out (E.out.tell V hV).2.2
      obtain ⟨a', c', hv6, hS0⟩ := HF.out.now
      subst hv6
      have HF2 : Hid (Fro w.heap.size (SlR 33 pkAt l a' c') a1) := Lib.hid fun V hV => by
        obtain ⟨a2, c2, h1, h2⟩ := HF.out V hV
        simp only [Value.slice.injEq] at h1
        obtain ⟨rfl, _, rfl⟩ := h1
        exact h2
      have hL : chPs c k (chN c k % 4) = l := by rw [← hjn]; exact hl.symm
      go_wp2_with fail
      exact bodyPost_ret (results_tmp Try.results35 _ _ _) rfl ⟨_, rfl, ⟨a', c', by rw [hL]; rfl, by rw [hL]; exact HF2.out⟩, E.out.bl⟩
    · go_upto_region 3 with fail; refine wp_region_lit ?_
      refine qaa (qad (v := .int .i64 (j : Int)) rfl rfl) rfl ?_; (try simp only [Act.put, lyy])
      refine qaa (qad (v := .slice ao m cc) rfl rfl) rfl ?_; (try simp only [Act.put, lyy])
      refine qaa (qad (v := .int .i64 (k : Int)) rfl rfl) rfl ?_; (try simp only [Act.put, lyy])
      refine qat (qae qap rfl rfl rfl rfl) rfl (CN.out _ k E.out.ev.bl) (fun a1 hb => ?_); (try simp only [Act.put, lyy])
      replace E := Lib.hid (E.out.below hb)
      clear hb
      refine qaa (qbw (a := chN c k) (b := 4) rfl rfl rfl (by omega)) rfl ?_; (try simp only [Act.put, lyy])
      refine qaa (qa0 (c := true) rfl rfl rfl (decide_eq_true (by omega))) rfl ?_; (try simp only [Act.put, lyy])
      refine qab ?_
      go_upto_region 5 with fail; refine wp_region_lit ?_
      refine qaa (qad (v := u5) rfl rfl) rfl ?_; (try simp only [Act.put, lyy])
      refine qaa (qad (v := .slice ao m cc) rfl rfl) rfl ?_; (try simp only [Act.put, lyy])
      refine qaa (qad (v := .int .i64 (k : Int)) rfl rfl) rfl ?_; (try simp only [Act.put, lyy])
      refine qaa (qad (v := .int .i64 (j : Int)) rfl rfl) rfl ?_; (try simp only [Act.put, lyy])
      refine qaa (qaz (a := k) (b := j) rfl rfl rfl (by omega)) rfl ?_; (try simp only [Act.put, lyy])
      refine qaa (qaz (a := k + j) (b := 1) rfl rfl rfl (by omega)) rfl ?_; (try simp only [Act.put, lyy])
      refine qat (qae qap rfl rfl rfl rfl) rfl (CN.out _ ((k + j + 1 : Nat)) E.out.ev.bl) (fun a2 hb => ?_); (try simp only [Act.put, lyy])
      replace E := Lib.hid (E.out.below hb)
      clear hb
      refine qaa (qad (v := .slice ao m cc) rfl rfl) rfl ?_; (try simp only [Act.put, lyy])
      refine qaa (qad (v := .int .i64 (k : Int)) rfl rfl) rfl ?_; (try simp only [Act.put, lyy])
      refine qaa (qad (v := .int .i64 (j : Int)) rfl rfl) rfl ?_; (try simp only [Act.put, lyy])
      refine qaa (qaz (a := k) (b := j) rfl rfl rfl (by omega)) rfl ?_; (try simp only [Act.put, lyy])
      refine qaa (qaz (a := k + j) (b := 2) rfl rfl rfl (by omega)) rfl ?_; (try simp only [Act.put, lyy])
      refine qat (qae qbo rfl rfl rfl rfl) rfl (CK.out _ ((k + j + 2 : Nat)) E.out.ev.bl) (fun a3 hb => ?_); (try simp only [Act.put, lyy])
      replace E := Lib.hid (E.out.below hb)
      clear hb
      refine qaa (qa4 (cells := (pkR (.int .i64 (chN c ((k + j + 1 : Nat)) : Int)) ((chK c ((k + j + 2 : Nat))).map b8)).toArray) (ps := [(0, .int .i64 (chN c ((k + j + 1 : Nat)) : Int)), (1, .agg ((chK c ((k + j + 2 : Nat))).map b8).toArray)]) rfl rfl (pkR_all rfl (by rw [List.length_map]; exact qaj _ _))) rfl ?_; (try simp only [Act.put, lyy])
      have hml : (pkR (.int .i64 (chN c ((k + j + 1 : Nat)) : Int)) ((chK c ((k + j + 2 : Nat))).map b8)).length = 33 := (qao (by rw [List.length_map]; exact qaj _ _))
      have hmo : One (pkR (.int .i64 (chN c ((k + j + 1 : Nat)) : Int)) ((chK c ((k + j + 2 : Nat))).map b8)) := (qcd rfl (One.b8 _))
      refine qaa (qcf (m := pkR (.int .i64 (chN c ((k + j + 1 : Nat)) : Int)) ((chK c ((k + j + 2 : Nat))).map b8)) (z := 33) (zv := .agg ([.int .i64 0] ++ List.replicate 32 (.int .u8 0) : List Value).toArray) rfl Try.underlying35 (by kernel_rfl) rfl hml (by omega) (by omega)) rfl ?_; (try simp only [Act.put, lyy])
      have A2 := Lib.hid (Arr.new a3 (pkR (.int .i64 (chN c ((k + j + 1 : Nat)) : Int)) ((chK c ((k + j + 2 : Nat))).map b8)) 34)
      replace E := Lib.hid (E.out.below ((Below.refl a3.heap.size a3).alloc (Nat.le_refl _) (.cells (pkR (.int .i64 (chN c ((k + j + 1 : Nat)) : Int)) ((chK c ((k + j + 2 : Nat))).map b8)).toArray 34)))
      generalize a3.alloc (.cells (pkR (.int .i64 (chN c ((k + j + 1 : Nat)) : Int)) ((chK c ((k + j + 2 : Nat))).map b8)).toArray 34) = b1 at *
      generalize a3.heap.size = g0 at *
      refine wpList_grow (t := 35) (bw := 40) (zv := .agg ([.int .i64 0] ++ List.replicate 32 (.int .u8 0) : List Value).toArray) (z := 33) rfl rfl Try.underlying35 (by kernel_rfl) rfl (by omega) rfl rfl A2.out.range hml hmo (by omega) (by omega) E.out (fun v7 b2 hG => ?_); (try simp only [Act.put, lyy])
      replace E := Lib.hid hG
      clear hG A2
      refine qaa (qai (v := v7) rfl rfl) rfl ?_; (try simp only [Act.put, lyy])
      refine qab ?_
      have E9 := Lib.hid (E.out.know (H0 := LR pkAt (l ++ [chP c k j]) (css ++ [pkR (.int .i64 (chN c ((k + j + 1 : Nat)) : Int)) ((chK c ((k + j + 2 : Nat))).map b8)])) fun V h => h.snoc (by show _ = pkC _; rw [pkC_row]; rfl))
      clear E
      have E := E9
      clear E9
      go_upto_region 4 with fail; refine wp_region_lit ?_
      refine qaa (qad (v := .int .i64 (j : Int)) rfl rfl) rfl ?_; (try simp only [Act.put, lyy])
      refine qaa (qaz (a := j) (b := 1) rfl rfl rfl (by omega)) rfl ?_; (try simp only [Act.put, lyy])
      refine qaa (qai (v := .int .i64 ((j + 1 : Nat) : Int)) rfl rfl) rfl ?_; (try simp only [Act.put, lyy])
      refine qab ?_
      go_wp2_with fail
      exact ⟨⟨j + 1, l ++ [chP c k j], css ++ [pkR (.int .i64 (chN c ((k + j + 1 : Nat)) : Int)) ((chK c ((k + j + 2 : Nat))).map b8)], rfl, by rw [chPs_succ, hl], by rw [List.length_append, ← hjl]; rfl, by omega, (fun p hp => by rcases List.mem_append.1 hp with hp | hp; exact HK.out p hp; obtain rfl := List.mem_singleton.1 hp; exact hml), by rw [List.flatten_append]; simpa using E.out⟩, by simp [intOf]; omega⟩
end Go.Proofs.Ytcgbgmbnagmohaa
