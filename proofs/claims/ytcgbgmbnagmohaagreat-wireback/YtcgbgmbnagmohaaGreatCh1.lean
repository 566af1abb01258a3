import Derived.Test.YtcgbgmbnagmohaaGreatLy
import Derived.Test.YtcgbgmbnagmohaaGreatRdC
namespace Go.Proofs.YtcgbgmbnagmohaaGreat
open Go.RowKit
set_option maxRecDepth 20000
attribute [local irreducible] wpList
def chT : List Nat := [127, 128, 16383, 16384, 1099511627775, 1099511627776]
def chN (c : List (BitVec 8)) (i : Nat) : Nat := if c.length = 0 then i else if 200 < (c.getD (i % c.length) 0).toNat then chT.getD ((c.getD (i % c.length) 0).toNat % 6) 0 else (c.getD (i % c.length) 0).toNat % 20
theorem chT_row (k : Nat) : ([.int .i64 127, .int .i64 128, .int .i64 16383, .int .i64 16384, .int .i64 1099511627775, .int .i64 1099511627776] : List Value)[0 + k % 6]? = some (.int .i64 ((chT.getD (k % 6) 0 : Nat) : Int)) := by
  have h : k % 6 < 6 := Nat.mod_lt _ (by omega)
  generalize k % 6 = j at *
  match j, h with
  | 0, _ => rfl
  | 1, _ => rfl
  | 2, _ => rfl
  | 3, _ => rfl
  | 4, _ => rfl
  | 5, _ => rfl
theorem qau : Enters 41 := qan Tryz.func41 (by kernel_rfl) rfl
set_option maxHeartbeats 4000000 in
theorem chN_any (ao : Option Addr) (c : List (BitVec 8)) (cc i : Nat) (w : World) (hc : Sl (.slice ao c.length cc) c w) : Calls Tryz.prog 41 #[.slice ao c.length cc, .int .i64 (i : Int)] w fun r w' => r = .returned (.int .i64 (chN c i : Int)) ∧ Below w.heap.size w w' := by
  have E := Lib.hid (Ev.start (w := w) (F := fun _ => True) fun _ _ => trivial)
  by_cases h0 : c.length = 0
  · have EX : Hid (chN c i = i) := Lib.hid (by unfold chN; rw [if_pos h0])
    generalize chN c i = xx at *
    clear hc
    generalize c.length = m at *
    go_enter Tryz.func41, Tryz.ntmps41
    go_upto_region 0 with fail; refine wp_region_lit ?_
    refine qaa (qak (v := .int .i64 0) rfl rfl) rfl ?_; (try simp only [Act.put, lyy])
    refine qab ?_
    go_upto_region 1 with fail; refine wp_region_lit ?_
    refine qaa (qad (v := .slice ao m cc) rfl rfl) rfl ?_; (try simp only [Act.put, lyy])
    refine qaa (qa4 rfl Tryz.underlying22 rfl) rfl ?_; (try simp only [Act.put, lyy])
    refine qaa (qbp (c := true) rfl rfl rfl (by simp [h0])) rfl ?_; (try simp only [Act.put, lyy])
    refine qab ?_
    go_upto_region 2 with fail; refine wp_region_lit ?_
    refine qaa (qad (v := .int .i64 (i : Int)) rfl rfl) rfl ?_; (try simp only [Act.put, lyy])
    refine qaa (qak (v := .int .i64 (i : Int)) rfl rfl) rfl ?_; (try simp only [Act.put, lyy])
    refine qab ?_
    go_wp2_with fail
    go_ret
    exact ⟨by rw [EX.out]; rfl, E.out.bl⟩
  · obtain ⟨ao', c', hv, -, h9⟩ := hc
    obtain ⟨g, f, rfl, hg, hr⟩ := h9 (by intro h; rw [h] at h0; exact h0 rfl)
    simp only [Value.slice.injEq] at hv
    obtain ⟨rfl, -, rfl⟩ := hv
    have HR : Hid (∀ V, Below w.heap.size w V → V.cell? ⟨g, f + i % c.length, none⟩ = some (b8 (c.getD (i % c.length) 0))) := Lib.hid fun V hV => qbw hr hg hV _ _ (get_map b8 0 (Nat.mod_lt _ (by omega)))
    have e0 : chN c i = if 200 < (c.getD (i % c.length) 0).toNat then chT.getD ((c.getD (i % c.length) 0).toNat % 6) 0 else (c.getD (i % c.length) 0).toNat % 20 := by unfold chN; rw [if_neg h0]
    clear hr h9
    generalize c.getD (i % c.length) 0 = B at *
    generalize chN c i = xx at *
    generalize c.length = m at *
    by_cases h1 : 200 < B.toNat
    · have EX : Hid (xx = chT.getD (B.toNat % 6) 0) := Lib.hid (by rw [e0, if_pos h1])
      clear e0
      go_enter Tryz.func41, Tryz.ntmps41
      go_upto_region 0 with fail; refine wp_region_lit ?_
      refine qaa (qak (v := .int .i64 0) rfl rfl) rfl ?_; (try simp only [Act.put, lyy])
      refine qab ?_
      go_upto_region 1 with fail; refine wp_region_lit ?_
      refine qaa (qad (v := .slice (some ⟨g, f, none⟩) m cc) rfl rfl) rfl ?_; (try simp only [Act.put, lyy])
      refine qaa (qa4 rfl Tryz.underlying22 rfl) rfl ?_; (try simp only [Act.put, lyy])
      refine qaa (qbp (c := false) rfl rfl rfl (by simp [h0])) rfl ?_; (try simp only [Act.put, lyy])
      refine qab ?_
      go_upto_region 3 with fail; refine wp_region_lit ?_
      refine qaa (qad (v := .slice (some ⟨g, f, none⟩) m cc) rfl rfl) rfl ?_; (try simp only [Act.put, lyy])
      refine qaa (qad (v := .int .i64 (i : Int)) rfl rfl) rfl ?_; (try simp only [Act.put, lyy])
      refine qaa (qad (v := .slice (some ⟨g, f, none⟩) m cc) rfl rfl) rfl ?_; (try simp only [Act.put, lyy])
      refine qaa (qa4 rfl Tryz.underlying22 rfl) rfl ?_; (try simp only [Act.put, lyy])
      refine qaa (qb9 (a := i) (b := m) rfl rfl rfl (by omega)) rfl ?_; (try simp only [Act.put, lyy])
      refine qaa (run_ixs rfl Tryz.underlying22 (by kernel_rfl) rfl rfl (Nat.mod_lt _ (by omega))) rfl ?_; (try simp only [Act.put, lyy])
      refine qaa (qam rfl Tryz.underlying5 rfl rfl (HR.out _ E.out.bl)) rfl ?_; (try simp only [Act.put, lyy])
      refine qaa (run_cv8i rfl rfl) rfl ?_; (try simp only [Act.put, lyy])
      refine qaa (qak (v := .int .i64 (B.toNat : Int)) rfl rfl) rfl ?_; (try simp only [Act.put, lyy])
      refine qab ?_
      go_upto_region 4 with fail; refine wp_region_lit ?_
      refine qaa (qad (v := .int .i64 (B.toNat : Int)) rfl rfl) rfl ?_; (try simp only [Act.put, lyy])
      refine qaa (qbi (c := true) rfl rfl rfl (decide_eq_true (by omega))) rfl ?_; (try simp only [Act.put, lyy])
      refine qab ?_
      go_upto_region 5 with fail; refine wp_region_lit ?_
      refine qaa (run_bsl (cells := ([.int .i64 127, .int .i64 128, .int .i64 16383, .int .i64 16384, .int .i64 1099511627775, .int .i64 1099511627776] : List Value).toArray) (z := .int .i64 0) rfl Tryz.underlying163 (by kernel_rfl) (by omega) (by omega) (by kernel_rfl)) rfl ?_; (try simp only [Act.put, lyy])
      replace E := Lib.hid (E.out.new (([.int .i64 127, .int .i64 128, .int .i64 16383, .int .i64 16384, .int .i64 1099511627775, .int .i64 1099511627776] : List Value)) 3)
      generalize w.alloc (.cells (([.int .i64 127, .int .i64 128, .int .i64 16383, .int .i64 16384, .int .i64 1099511627775, .int .i64 1099511627776] : List Value)).toArray 3) = a1 at *
      generalize w.heap.size = g2 at *
      refine qaa (qad (v := .int .i64 (B.toNat : Int)) rfl rfl) rfl ?_; (try simp only [Act.put, lyy])
      refine qaa (qb9 (a := B.toNat) (b := 6) rfl rfl rfl (by omega)) rfl ?_; (try simp only [Act.put, lyy])
      refine qaa (run_ixs rfl Tryz.underlying163 (by kernel_rfl) rfl rfl (Nat.mod_lt _ (by omega))) rfl ?_; (try simp only [Act.put, lyy])
      refine qaa (qam rfl Tryz.underlying3 rfl rfl ((E.out.get (i := 0) rfl).c (0 + B.toNat % 6) _ (chT_row B.toNat))) rfl ?_; (try simp only [Act.put, lyy])
      refine qaa (qak (v := .int .i64 ((chT.getD (B.toNat % 6) 0 : Nat) : Int)) rfl rfl) rfl ?_; (try simp only [Act.put, lyy])
      refine qab ?_
      go_wp2_with fail
      go_ret
      exact ⟨by rw [EX.out]; rfl, E.out.bl⟩
    · have EX : Hid (xx = B.toNat % 20) := Lib.hid (by rw [e0, if_neg h1])
      clear e0
      go_enter Tryz.func41, Tryz.ntmps41
      go_upto_region 0 with fail; refine wp_region_lit ?_
      refine qaa (qak (v := .int .i64 0) rfl rfl) rfl ?_; (try simp only [Act.put, lyy])
      refine qab ?_
      go_upto_region 1 with fail; refine wp_region_lit ?_
      refine qaa (qad (v := .slice (some ⟨g, f, none⟩) m cc) rfl rfl) rfl ?_; (try simp only [Act.put, lyy])
      refine qaa (qa4 rfl Tryz.underlying22 rfl) rfl ?_; (try simp only [Act.put, lyy])
      refine qaa (qbp (c := false) rfl rfl rfl (by simp [h0])) rfl ?_; (try simp only [Act.put, lyy])
      refine qab ?_
      go_upto_region 3 with fail; refine wp_region_lit ?_
      refine qaa (qad (v := .slice (some ⟨g, f, none⟩) m cc) rfl rfl) rfl ?_; (try simp only [Act.put, lyy])
      refine qaa (qad (v := .int .i64 (i : Int)) rfl rfl) rfl ?_; (try simp only [Act.put, lyy])
      refine qaa (qad (v := .slice (some ⟨g, f, none⟩) m cc) rfl rfl) rfl ?_; (try simp only [Act.put, lyy])
      refine qaa (qa4 rfl Tryz.underlying22 rfl) rfl ?_; (try simp only [Act.put, lyy])
      refine qaa (qb9 (a := i) (b := m) rfl rfl rfl (by omega)) rfl ?_; (try simp only [Act.put, lyy])
      refine qaa (run_ixs rfl Tryz.underlying22 (by kernel_rfl) rfl rfl (Nat.mod_lt _ (by omega))) rfl ?_; (try simp only [Act.put, lyy])
      refine qaa (qam rfl Tryz.underlying5 rfl rfl (HR.out _ E.out.bl)) rfl ?_; (try simp only [Act.put, lyy])
      refine qaa (run_cv8i rfl rfl) rfl ?_; (try simp only [Act.put, lyy])
      refine qaa (qak (v := .int .i64 (B.toNat : Int)) rfl rfl) rfl ?_; (try simp only [Act.put, lyy])
      refine qab ?_
      go_upto_region 4 with fail; refine wp_region_lit ?_
      refine qaa (qad (v := .int .i64 (B.toNat : Int)) rfl rfl) rfl ?_; (try simp only [Act.put, lyy])
      refine qaa (qbi (c := false) rfl rfl rfl (decide_eq_false (by omega))) rfl ?_; (try simp only [Act.put, lyy])
      refine qab ?_
      go_upto_region 6 with fail; refine wp_region_lit ?_
      refine qaa (qad (v := .int .i64 (B.toNat : Int)) rfl rfl) rfl ?_; (try simp only [Act.put, lyy])
      refine qaa (qb9 (a := B.toNat) (b := 20) rfl rfl rfl (by omega)) rfl ?_; (try simp only [Act.put, lyy])
      refine qaa (qak (v := .int .i64 ((B.toNat % 20 : Nat) : Int)) rfl rfl) rfl ?_; (try simp only [Act.put, lyy])
      refine qab ?_
      go_wp2_with fail
      go_ret
      exact ⟨by rw [EX.out]; rfl, E.out.bl⟩
def chK (c : List (BitVec 8)) (i : Nat) : List (BitVec 8) := BitVec.ofNat 8 (chN c i) :: BitVec.ofNat 8 i :: List.replicate 30 0
theorem qap (c : List (BitVec 8)) (i : Nat) : (chK c i).length = 32 := rfl
theorem qbx : Enters 42 := qan Tryz.func42 (by kernel_rfl) rfl
theorem chKC (c : List (BitVec 8)) (w : World) (ao : Option Addr) (cc : Nat) (hc : Sl (.slice ao c.length cc) c w) : Hid (∀ (u : World) (i : Nat), Since w u → Calls Tryz.prog 41 #[.slice ao c.length cc, .int .i64 (i : Int)] u fun r w' => r = .returned (.int .i64 (chN c i : Int)) ∧ Below u.heap.size u w') := Lib.hid fun u i hu => chN_any ao c cc i u (hc.below hu)
set_option maxHeartbeats 4000000 in
theorem chK_any (ao : Option Addr) (c : List (BitVec 8)) (cc i : Nat) (w : World) (hc : Sl (.slice ao c.length cc) c w) : Calls Tryz.prog 42 #[.slice ao c.length cc, .int .i64 (i : Int)] w fun r w' => r = .returned (.agg ((chK c i).map b8).toArray) ∧ Below w.heap.size w w' := by
  have CN := chKC c w ao cc hc
  have E := Lib.hid (Ev.start (w := w) (F := fun _ => True) fun _ _ => trivial)
  have BK : Hid (Tryz.prog.built 27 [(0, b8 (BitVec.ofNat 8 (chN c i))), (1, b8 (BitVec.ofNat 8 i))] = some ((chK c i).map b8).toArray) := Lib.hid (by kernel_rfl)
  have hl := qap c i
  generalize chK c i = kk at *
  generalize hm : c.length = m at *
  go_enter Tryz.func42, Tryz.ntmps42
  go_upto_region 0 with fail; refine wp_region_lit ?_
  refine qaa (qa3 (vs := z8 32) rfl (by kernel_rfl)) rfl ?_; (try simp only [Act.put, lyy])
  replace E := Lib.hid (E.out.new (z8 32) 27)
  generalize w.alloc (.cells (z8 32).toArray 27) = a1 at *
  generalize w.heap.size = g2 at *
  refine qab ?_
  go_upto_region 1 with fail; refine wp_region_lit ?_
  refine qaa (qad (v := .slice ao m cc) rfl rfl) rfl ?_; (try simp only [Act.put, lyy])
  refine qaa (qad (v := .int .i64 (i : Int)) rfl rfl) rfl ?_; (try simp only [Act.put, lyy])
  refine qav (qaf qau rfl rfl rfl rfl) rfl (CN.out _ i E.out.bl) (fun a3 hb => ?_); (try simp only [Act.put, lyy])
  replace E := Lib.hid (E.out.below hb)
  clear hb
  refine qaa (run_cvi_8 rfl rfl) rfl ?_; (try simp only [Act.put, lyy])
  refine qaa (qad (v := .int .i64 (i : Int)) rfl rfl) rfl ?_; (try simp only [Act.put, lyy])
  refine qaa (run_cvi_8 rfl rfl) rfl ?_; (try simp only [Act.put, lyy])
  refine qaa (qa7 (ps := [(0, b8 (BitVec.ofNat 8 (chN c i))), (1, b8 (BitVec.ofNat 8 i))]) rfl rfl BK.out) rfl ?_; (try simp only [Act.put, lyy])
  refine qal (qa0 (vs := kk.map b8) rfl (szR (by rw [List.length_map, hl]) (by kernel_rfl)) rfl rfl (One.all (One.b8 _)) ((E.out.get (i := 0) rfl).thereM (by have q1 : (kk.map b8).length = 32 := (by rw [List.length_map, hl]); have q2 : (z8 32).length = 32 := (qac 32); omega))) rfl rfl ?_
  replace E := Lib.hid (E.out.put 0 rfl (m := kk.map b8) ((show (kk.map b8).length = 32 from (by rw [List.length_map, hl])).trans (show (z8 32).length = 32 from (qac 32)).symm))
  generalize a3.setCells g2 0 (kk.map b8) = a4 at *
  replace E := Lib.hid (show Ev _ [(g2, kk.map b8)] _ _ _ a4 from E.out)
  refine qab ?_
  go_wp2_with fail
  refine bodyPost_ret (v := .agg (kk.map b8).toArray) (qbj Tryz.results42 rfl Tryz.underlying27 rfl (szR (by rw [List.length_map, hl]) (by kernel_rfl)) (E.out.get (i := 0) rfl).range) rfl ⟨rfl, E.out.bl⟩
end Go.Proofs.YtcgbgmbnagmohaaGreat
