/- What keywardref08's key, Order, Canon and Reduce answer. -/
import Derived.Test.YtefaihdhnnldmaaDoorRefSc4
import Derived.Test.YtefaihdhnnldmaaDoorFlB
namespace Go.Proofs.YtefaihdhnnldmaaDoor
open Go.RowKit
set_option maxRecDepth 20000

set_option maxHeartbeats 8000000 in
theorem rkey8_any (v : Value) (l : List Nat) (w : World) (hv : Rd v l w) (hl : l.length = 33) : Calls Tryd.prog 27 #[v] w fun e w' => e = .returned (.agg (((l.take 32).map (BitVec.ofNat 8)).map b8).toArray) ∧ Below w.heap.size w w' := by
  obtain ⟨g, f, c, rfl, hg, hr⟩ := hv
  have HC : Hid (∀ V, Below w.heap.size w V → ∀ i, i < 33 → V.cell? ⟨g, f + i, none⟩ = some (iN (l.getD i 0))) := Lib.hid fun V hV i hi => rd_cell (rangeAt_below hr hg hV) (by omega)
  obtain ⟨kb, hkb⟩ : ∃ kb, kb = (l.take 32).map (BitVec.ofNat 8) := ⟨_, rfl⟩
  have hkl : kb.length = 32 := by rw [hkb, List.length_map, List.length_take, hl]; rfl
  have HK : Hid (∀ i, i < 32 → BitVec.ofNat 8 (l.getD i 0) = kb.getD i 0) := Lib.hid fun i hi => by
    rw [hkb, List.getD_eq_getElem?_getD, List.getD_eq_getElem?_getD, List.getElem?_map, List.getElem?_take_of_lt hi, List.getElem?_eq_getElem (by omega)]
    rfl
  rw [← hkb]
  clear hkb hr
  have hM := Lib.hid (Mv.nil w)
  rw [hl]
  go_enter Tryd.func27, Tryd.ntmps27
  go_upto_region 0 with fail; refine wp_region_lit ?_
  refine wpList_val (run_alc (vs := z8 32) rfl (by kernel_rfl)) rfl ?_; (try simp only [Act.put, List.setIfInBounds_toArray, List.set_cons_zero, List.set_cons_succ])
  replace hM := Lib.hid (hM.out.new (z8 32) 24)
  generalize w.alloc (.cells (z8 32).toArray 24) = a1 at *
  generalize hg1 : w.heap.size = g1 at *
  rw [← hg1] at HC
  have EW := Lib.hid hg1
  clear hg1
  refine wpList_end ?_
  go_upto_region 1 with fail; refine wp_region_lit ?_
  refine wpList_val (run_bld (cells := (z8 32).toArray) rfl (by kernel_rfl)) rfl ?_; (try simp only [Act.put, List.setIfInBounds_toArray, List.set_cons_zero, List.set_cons_succ])
  refine wpList_val (run_alc (vs := z8 32) rfl (by kernel_rfl)) rfl ?_; (try simp only [Act.put, List.setIfInBounds_toArray, List.set_cons_zero, List.set_cons_succ])
  replace hM := Lib.hid (hM.out.new (z8 32) 24)
  generalize a1.alloc (.cells (z8 32).toArray 24) = a2 at *
  generalize a1.heap.size = g2 at *
  refine wpList_skip (run_stM (vs := z8 32) rfl szZ rfl rfl (one8s (List.replicate 32 0)) ((hM.out.get (i := 0) rfl).there)) rfl rfl ?_
  replace hM := Lib.hid (hM.out.put 0 rfl (m := z8 32) rfl)
  generalize a2.setCells g2 0 (z8 32) = a3 at *
  refine wpList_end ?_
  go_upto_region 2 with fail; refine wp_region_lit ?_
  (repeat ((first | refine wpList_val (run_mv (v := b32 _) rfl rfl) rfl ?_ | refine wpList_val (run_mv (v := b64 _) rfl rfl) rfl ?_ | refine wpList_val (run_mv (v := b8 _) rfl rfl) rfl ?_ | refine wpList_val (run_mv (v := .int _ _) rfl rfl) rfl ?_ | refine wpList_val (run_mv (v := .bool _) rfl rfl) rfl ?_ | refine wpList_val (run_mv (v := .slice (some _) _ _) rfl rfl) rfl ?_ | refine wpList_val (run_mv (v := .slice _ _ _) rfl rfl) rfl ?_ | refine wpList_val (run_mv (v := .pointer (some _)) rfl rfl) rfl ?_ | refine wpList_val (run_mv (v := .agg _) rfl rfl) rfl ?_ | refine wpList_val (run_asg (v := b32 _) rfl rfl) rfl ?_ | refine wpList_val (run_asg (v := b64 _) rfl rfl) rfl ?_ | refine wpList_val (run_asg (v := b8 _) rfl rfl) rfl ?_ | refine wpList_val (run_asg (v := .int _ _) rfl rfl) rfl ?_ | refine wpList_val (run_asg (v := .bool _) rfl rfl) rfl ?_ | refine wpList_val (run_asg (v := .slice (some _) _ _) rfl rfl) rfl ?_ | refine wpList_val (run_asg (v := .slice _ _ _) rfl rfl) rfl ?_ | refine wpList_val (run_asg (v := .pointer (some _)) rfl rfl) rfl ?_ | refine wpList_val (run_asg (v := .agg _) rfl rfl) rfl ?_ | refine wpList_val (run_mv rfl rfl) rfl ?_ | refine wpList_val (run_asg rfl rfl) rfl ?_ | refine wpList_val (run_xor32 rfl rfl rfl) rfl ?_ | refine wpList_val (run_and32 rfl rfl rfl) rfl ?_ | refine wpList_val (run_or32 rfl rfl rfl) rfl ?_ | refine wpList_val (run_add32 rfl rfl rfl) rfl ?_ | refine wpList_val (run_not32 rfl rfl) rfl ?_ | refine wpList_val (run_xor64 rfl rfl rfl) rfl ?_ | refine wpList_val (run_and64 rfl rfl rfl) rfl ?_ | refine wpList_val (run_or64 rfl rfl rfl) rfl ?_ | refine wpList_val (run_add64 rfl rfl rfl) rfl ?_ | refine wpList_val (run_not64 rfl rfl) rfl ?_ | refine wpList_val (run_xor8 rfl rfl rfl) rfl ?_ | refine wpList_val (run_and8 rfl rfl rfl) rfl ?_ | refine wpList_val (run_or8 rfl rfl rfl) rfl ?_ | refine wpList_val (run_add8 rfl rfl rfl) rfl ?_ | refine wpList_val (run_not8 rfl rfl) rfl ?_ | refine wpList_val (run_cv64_32 rfl rfl) rfl ?_ | refine wpList_val (run_cv8_32 rfl rfl) rfl ?_ | refine wpList_val (run_cv8_64 rfl rfl) rfl ?_ | refine wpList_val (run_cv32_8 rfl rfl) rfl ?_ | refine wpList_val (run_cv64_8 rfl rfl) rfl ?_); (try simp only [Act.put, List.setIfInBounds_toArray, List.set_cons_zero, List.set_cons_succ])))
  refine wpList_end ?_
  go_wp2_with fail
  go_loopw [4] (fun s u => ∃ n : Nat, n ≤ 32 ∧ s = .int .i64 (n : Int) ∧ Mv w [(g2, (flB kb n).map b8), (g1, z8 32)] u) (fun s _ => (32 - intOf s).toNat)
  case atStart => exact ⟨0, by omega, rfl, by rw [flB_zero]; exact hM.out⟩
  case round =>
    obtain ⟨n, hn, rfl, hJ⟩ := hrel
    replace hM := Lib.hid hJ
    clear hJ
    by_cases hlt : n = 32
    · subst hlt
      have hk1 : ¬ (((32 : Nat) : Int) < 32) := by omega
      rw [flB_all hkl] at hM
      have SZ := Lib.hid (szKy hkl)
      have L1 : Hid ((kb.map b8).length = (z8 32).length) := Lib.hid (by rw [z8_32, List.length_map, hkl])
      go_upto_region 6 with fail; refine wp_region_lit ?_
      refine wpList_val (run_ldM (vs := kb.map b8) rfl Tryd.underlying24 rfl SZ.out rfl (hM.out.get (i := 0) rfl).range) rfl ?_; (try simp only [Act.put, List.setIfInBounds_toArray, List.set_cons_zero, List.set_cons_succ])
      refine wpList_skip (run_stM (vs := kb.map b8) rfl SZ.out rfl rfl (one8s _) (by rw [L1.out]; exact (hM.out.get (i := 1) rfl).there)) rfl rfl ?_
      replace hM := Lib.hid (hM.out.put 1 rfl (m := kb.map b8) L1.out)
      refine wpList_end ?_
      go_wp2_with fail
      exact bodyPost_ret (v := .agg (kb.map b8).toArray) (results_rowB Tryd.results27 rfl Tryd.underlying24 rfl SZ.out (hM.out.get (i := 1) rfl).range) rfl ⟨rfl, hM.out.bl⟩
    · have hk1 : (n : Int) < 32 := by omega
      have HC2 : Hid (∀ V, Below w.heap.size w V → V.cell? ⟨g, f + n, none⟩ = some (iN (l.getD n 0))) := Lib.hid fun V hV => HC.out V hV n (by omega)
      have E1 := Lib.hid (HK.out n (by omega))
      have FS := Lib.hid (flB_set hkl (n := n) (by omega))
      have FL : Hid (n < ((flB kb n).map b8).length) := Lib.hid (by rw [List.length_map, flB_len hkl hn]; omega)
      have HG := Lib.hid (get_map b8 0 (l := flB kb n) (i := n) (by rw [flB_len hkl hn]; omega))
      go_upto_region 5 with fail; refine wp_region_lit ?_
      (repeat ((first | refine wpList_val (run_mv (v := b32 _) rfl rfl) rfl ?_ | refine wpList_val (run_mv (v := b64 _) rfl rfl) rfl ?_ | refine wpList_val (run_mv (v := b8 _) rfl rfl) rfl ?_ | refine wpList_val (run_mv (v := .int _ _) rfl rfl) rfl ?_ | refine wpList_val (run_mv (v := .bool _) rfl rfl) rfl ?_ | refine wpList_val (run_mv (v := .slice (some _) _ _) rfl rfl) rfl ?_ | refine wpList_val (run_mv (v := .slice _ _ _) rfl rfl) rfl ?_ | refine wpList_val (run_mv (v := .pointer (some _)) rfl rfl) rfl ?_ | refine wpList_val (run_mv (v := .agg _) rfl rfl) rfl ?_ | refine wpList_val (run_asg (v := b32 _) rfl rfl) rfl ?_ | refine wpList_val (run_asg (v := b64 _) rfl rfl) rfl ?_ | refine wpList_val (run_asg (v := b8 _) rfl rfl) rfl ?_ | refine wpList_val (run_asg (v := .int _ _) rfl rfl) rfl ?_ | refine wpList_val (run_asg (v := .bool _) rfl rfl) rfl ?_ | refine wpList_val (run_asg (v := .slice (some _) _ _) rfl rfl) rfl ?_ | refine wpList_val (run_asg (v := .slice _ _ _) rfl rfl) rfl ?_ | refine wpList_val (run_asg (v := .pointer (some _)) rfl rfl) rfl ?_ | refine wpList_val (run_asg (v := .agg _) rfl rfl) rfl ?_ | refine wpList_val (run_mv rfl rfl) rfl ?_ | refine wpList_val (run_asg rfl rfl) rfl ?_ | refine wpList_val (run_xor32 rfl rfl rfl) rfl ?_ | refine wpList_val (run_and32 rfl rfl rfl) rfl ?_ | refine wpList_val (run_or32 rfl rfl rfl) rfl ?_ | refine wpList_val (run_add32 rfl rfl rfl) rfl ?_ | refine wpList_val (run_not32 rfl rfl) rfl ?_ | refine wpList_val (run_xor64 rfl rfl rfl) rfl ?_ | refine wpList_val (run_and64 rfl rfl rfl) rfl ?_ | refine wpList_val (run_or64 rfl rfl rfl) rfl ?_ | refine wpList_val (run_add64 rfl rfl rfl) rfl ?_ | refine wpList_val (run_not64 rfl rfl) rfl ?_ | refine wpList_val (run_xor8 rfl rfl rfl) rfl ?_ | refine wpList_val (run_and8 rfl rfl rfl) rfl ?_ | refine wpList_val (run_or8 rfl rfl rfl) rfl ?_ | refine wpList_val (run_add8 rfl rfl rfl) rfl ?_ | refine wpList_val (run_not8 rfl rfl) rfl ?_ | refine wpList_val (run_cv64_32 rfl rfl) rfl ?_ | refine wpList_val (run_cv8_32 rfl rfl) rfl ?_ | refine wpList_val (run_cv8_64 rfl rfl) rfl ?_ | refine wpList_val (run_cv32_8 rfl rfl) rfl ?_ | refine wpList_val (run_cv64_8 rfl rfl) rfl ?_); (try simp only [Act.put, List.setIfInBounds_toArray, List.set_cons_zero, List.set_cons_succ])))
      refine wpList_val (run_ixs (i := n) rfl Tryd.underlying55 (by kernel_rfl) rfl rfl (by omega)) rfl ?_; (try simp only [Act.put, List.setIfInBounds_toArray, List.set_cons_zero, List.set_cons_succ])
      refine wpList_val (run_ldi rfl rfl (HC2.out _ hM.out.bl)) rfl ?_; (try simp only [Act.put, List.setIfInBounds_toArray, List.set_cons_zero, List.set_cons_succ])
      refine wpList_val (run_cvi_8 (n := l.getD n 0) rfl rfl) rfl ?_; (try simp only [Act.put, List.setIfInBounds_toArray, List.set_cons_zero, List.set_cons_succ])
      rw [E1.out]
      refine wpList_val (run_ix0 (i := n) rfl Tryd.underlying24 (by kernel_rfl) rfl rfl (by omega)) rfl ?_; (try simp only [Act.put, List.setIfInBounds_toArray, List.set_cons_zero, List.set_cons_succ])
      refine wpList_skip (run_st8 rfl rfl rfl ((hM.out.get (i := 0) rfl).c n _ HG.out) ((hM.out.get (i := 0) rfl).f n)) rfl rfl ?_
      refine wpList_end ?_
      have hM2 : Hid (Mv w [(g2, (flB kb (n + 1)).map b8), (g1, z8 32)] (wr.setCell ⟨g2, n, none⟩ (b8 (kb.getD n 0)))) := Lib.hid (by
        have h := hM.out.set 0 rfl FL.out (b8 (kb.getD n 0))
        rw [FS.out] at h
        exact h)
      generalize wr.setCell ⟨g2, n, none⟩ (b8 (kb.getD n 0)) = a8 at *
      clear hM HG FL FS HC2
      go_wp2_with fail
      exact ⟨⟨n + 1, by omega, by go_num, hM2.out⟩, by simp [intOf]; omega⟩
theorem enters_rkey8 : Enters 27 := enters_of Tryd.func27 (by kernel_rfl) rfl
/-- What is left, as 32 bytes. -/
theorem sk_left {m : List Nat} (hl : m.length = 33) (hd : Dg m) {x : Nat} (h : dv m = x % ell) : (m.take 32).map (BitVec.ofNat 8) = sk (x % ell) := by
  rw [take32 hl hd (by rw [h]; exact Nat.mod_lt _ ell_pos), h]; rfl
theorem take_map_snoc (s : List (BitVec 8)) (k : Nat) (h : k < s.length) : (s.take (k + 1)).map (·.toNat) = (s.take k).map (·.toNat) ++ [(s.getD k 0).toNat] := by
  rw [List.take_succ_eq_append_getElem h, List.map_append]
  simp [h]

set_option maxHeartbeats 8000000 in
theorem rreduce_any (s : List (BitVec 8)) (w : World) (hs : s.length = 64) : Calls Tryd.prog 12 #[.agg (s.map b8).toArray] w fun e w' => e = .returned (.agg ((sk (leB s % ell)).map b8).toArray) ∧ Below w.heap.size w w' := by
  have HR : Hid (∀ m : List Nat, m.length = 33 → Dg m → dv m = leB s % ell → (m.take 32).map (BitVec.ofNat 8) = sk (leB s % ell)) := Lib.hid fun m h1 h2 h3 => sk_left h1 h2 h3
  have HD : Hid (dv ((s.take 64).map (·.toNat)) = leB s) := Lib.hid (by rw [List.take_of_length_le (by omega), leB_dv])
  have hkl := sk_len (leB s % ell)
  generalize sk (leB s % ell) = kb at *
  have SZ := Lib.hid (szKy hkl)
  have L1 : Hid ((kb.map b8).length = (z8 32).length) := Lib.hid (by rw [z8_32, List.length_map, hkl])
  have hM := Lib.hid (Mv.nil w)
  go_enter Tryd.func12, Tryd.ntmps12
  go_upto_region 0 with fail; refine wp_region_lit ?_
  refine wpList_val (run_boxL8 (vs := s.map b8) rfl rfl) rfl ?_; (try simp only [Act.put, List.setIfInBounds_toArray, List.set_cons_zero, List.set_cons_succ])
  replace hM := Lib.hid (hM.out.new (s.map b8) 30)
  generalize w.alloc (.cells (s.map b8).toArray 30) = a1 at *
  generalize w.heap.size = g1 at *
  refine wpList_val (run_alc (vs := z8 32) rfl (by kernel_rfl)) rfl ?_; (try simp only [Act.put, List.setIfInBounds_toArray, List.set_cons_zero, List.set_cons_succ])
  replace hM := Lib.hid (hM.out.new (z8 32) 24)
  generalize a1.alloc (.cells (z8 32).toArray 24) = a2 at *
  generalize a1.heap.size = g2 at *
  refine wpList_end ?_
  have hI := Lib.hid (Io.none a2)
  go_upto_region 1 with fail; refine wp_region_lit ?_
  (repeat ((first | refine wpList_val (run_mv (v := b32 _) rfl rfl) rfl ?_ | refine wpList_val (run_mv (v := b64 _) rfl rfl) rfl ?_ | refine wpList_val (run_mv (v := b8 _) rfl rfl) rfl ?_ | refine wpList_val (run_mv (v := .int _ _) rfl rfl) rfl ?_ | refine wpList_val (run_mv (v := .bool _) rfl rfl) rfl ?_ | refine wpList_val (run_mv (v := .slice (some _) _ _) rfl rfl) rfl ?_ | refine wpList_val (run_mv (v := .slice _ _ _) rfl rfl) rfl ?_ | refine wpList_val (run_mv (v := .pointer (some _)) rfl rfl) rfl ?_ | refine wpList_val (run_mv (v := .agg _) rfl rfl) rfl ?_ | refine wpList_val (run_asg (v := b32 _) rfl rfl) rfl ?_ | refine wpList_val (run_asg (v := b64 _) rfl rfl) rfl ?_ | refine wpList_val (run_asg (v := b8 _) rfl rfl) rfl ?_ | refine wpList_val (run_asg (v := .int _ _) rfl rfl) rfl ?_ | refine wpList_val (run_asg (v := .bool _) rfl rfl) rfl ?_ | refine wpList_val (run_asg (v := .slice (some _) _ _) rfl rfl) rfl ?_ | refine wpList_val (run_asg (v := .slice _ _ _) rfl rfl) rfl ?_ | refine wpList_val (run_asg (v := .pointer (some _)) rfl rfl) rfl ?_ | refine wpList_val (run_asg (v := .agg _) rfl rfl) rfl ?_ | refine wpList_val (run_mv rfl rfl) rfl ?_ | refine wpList_val (run_asg rfl rfl) rfl ?_ | refine wpList_val (run_xor32 rfl rfl rfl) rfl ?_ | refine wpList_val (run_and32 rfl rfl rfl) rfl ?_ | refine wpList_val (run_or32 rfl rfl rfl) rfl ?_ | refine wpList_val (run_add32 rfl rfl rfl) rfl ?_ | refine wpList_val (run_not32 rfl rfl) rfl ?_ | refine wpList_val (run_xor64 rfl rfl rfl) rfl ?_ | refine wpList_val (run_and64 rfl rfl rfl) rfl ?_ | refine wpList_val (run_or64 rfl rfl rfl) rfl ?_ | refine wpList_val (run_add64 rfl rfl rfl) rfl ?_ | refine wpList_val (run_not64 rfl rfl) rfl ?_ | refine wpList_val (run_xor8 rfl rfl rfl) rfl ?_ | refine wpList_val (run_and8 rfl rfl rfl) rfl ?_ | refine wpList_val (run_or8 rfl rfl rfl) rfl ?_ | refine wpList_val (run_add8 rfl rfl rfl) rfl ?_ | refine wpList_val (run_not8 rfl rfl) rfl ?_ | refine wpList_val (run_cv64_32 rfl rfl) rfl ?_ | refine wpList_val (run_cv8_32 rfl rfl) rfl ?_ | refine wpList_val (run_cv8_64 rfl rfl) rfl ?_ | refine wpList_val (run_cv32_8 rfl rfl) rfl ?_ | refine wpList_val (run_cv64_8 rfl rfl) rfl ?_); (try simp only [Act.put, List.setIfInBounds_toArray, List.set_cons_zero, List.set_cons_succ])))
  refine wpList_end ?_
  go_upto_region 2 with fail; refine wp_region_lit ?_
  (repeat ((first | refine wpList_val (run_mv (v := b32 _) rfl rfl) rfl ?_ | refine wpList_val (run_mv (v := b64 _) rfl rfl) rfl ?_ | refine wpList_val (run_mv (v := b8 _) rfl rfl) rfl ?_ | refine wpList_val (run_mv (v := .int _ _) rfl rfl) rfl ?_ | refine wpList_val (run_mv (v := .bool _) rfl rfl) rfl ?_ | refine wpList_val (run_mv (v := .slice (some _) _ _) rfl rfl) rfl ?_ | refine wpList_val (run_mv (v := .slice _ _ _) rfl rfl) rfl ?_ | refine wpList_val (run_mv (v := .pointer (some _)) rfl rfl) rfl ?_ | refine wpList_val (run_mv (v := .agg _) rfl rfl) rfl ?_ | refine wpList_val (run_asg (v := b32 _) rfl rfl) rfl ?_ | refine wpList_val (run_asg (v := b64 _) rfl rfl) rfl ?_ | refine wpList_val (run_asg (v := b8 _) rfl rfl) rfl ?_ | refine wpList_val (run_asg (v := .int _ _) rfl rfl) rfl ?_ | refine wpList_val (run_asg (v := .bool _) rfl rfl) rfl ?_ | refine wpList_val (run_asg (v := .slice (some _) _ _) rfl rfl) rfl ?_ | refine wpList_val (run_asg (v := .slice _ _ _) rfl rfl) rfl ?_ | refine wpList_val (run_asg (v := .pointer (some _)) rfl rfl) rfl ?_ | refine wpList_val (run_asg (v := .agg _) rfl rfl) rfl ?_ | refine wpList_val (run_mv rfl rfl) rfl ?_ | refine wpList_val (run_asg rfl rfl) rfl ?_ | refine wpList_val (run_xor32 rfl rfl rfl) rfl ?_ | refine wpList_val (run_and32 rfl rfl rfl) rfl ?_ | refine wpList_val (run_or32 rfl rfl rfl) rfl ?_ | refine wpList_val (run_add32 rfl rfl rfl) rfl ?_ | refine wpList_val (run_not32 rfl rfl) rfl ?_ | refine wpList_val (run_xor64 rfl rfl rfl) rfl ?_ | refine wpList_val (run_and64 rfl rfl rfl) rfl ?_ | refine wpList_val (run_or64 rfl rfl rfl) rfl ?_ | refine wpList_val (run_add64 rfl rfl rfl) rfl ?_ | refine wpList_val (run_not64 rfl rfl) rfl ?_ | refine wpList_val (run_xor8 rfl rfl rfl) rfl ?_ | refine wpList_val (run_and8 rfl rfl rfl) rfl ?_ | refine wpList_val (run_or8 rfl rfl rfl) rfl ?_ | refine wpList_val (run_add8 rfl rfl rfl) rfl ?_ | refine wpList_val (run_not8 rfl rfl) rfl ?_ | refine wpList_val (run_cv64_32 rfl rfl) rfl ?_ | refine wpList_val (run_cv8_32 rfl rfl) rfl ?_ | refine wpList_val (run_cv8_64 rfl rfl) rfl ?_ | refine wpList_val (run_cv32_8 rfl rfl) rfl ?_ | refine wpList_val (run_cv64_8 rfl rfl) rfl ?_); (try simp only [Act.put, List.setIfInBounds_toArray, List.set_cons_zero, List.set_cons_succ])))
  refine wpList_end ?_
  go_wp2_with fail
  go_loopw [3, 4] (fun s3 s4 u => ∃ n : Nat, n ≤ 64 ∧ s4 = .int .i64 (n : Int) ∧ Io a2 s3 ((s.take n).map (·.toNat)) u) (fun _ s4 _ => (64 - intOf s4).toNat)
  case atStart => exact ⟨0, by omega, rfl, hI.out⟩
  case round =>
    obtain ⟨n, hn, rfl, hJ⟩ := hrel
    replace hI := Lib.hid hJ
    clear hJ
    have hml : ((s.take n).map (·.toNat)).length = n := by rw [List.length_map, List.length_take]; omega
    by_cases hlt : n = 64
    · subst hlt
      have hk1 : ¬ (((64 : Nat) : Int) < 64) := by omega
      have DG := Lib.hid (dg_bytes (s.take 64))
      generalize (s.take 64).map (·.toNat) = m at *
      replace hM := Lib.hid (hM.out.below hI.out.bl)
      have HRd := Lib.hid (hI.out.rd (by intro e; rw [e] at hml; cases hml))
      go_upto_region 6 with fail; refine wp_region_lit ?_
      refine wpList_val (run_mv (v := u3) rfl rfl) rfl ?_; (try simp only [Act.put, List.setIfInBounds_toArray, List.set_cons_zero, List.set_cons_succ])
      refine wpList_callR (run_call1 enters_rleft rfl rfl rfl) rfl (rleft_any _ m _ HRd.out (by omega) DG.out) (fun q1 q2 hR2 => ?_); (try simp only [Act.put, List.setIfInBounds_toArray, List.set_cons_zero, List.set_cons_succ])
      obtain ⟨m2, ⟨k1, k2, k3⟩, hIs⟩ := hR2
      have hE := HR.out m2 k1 k2 (by rw [k3, HD.out])
      have HRd2 := Lib.hid hIs.rd
      replace hM := Lib.hid (hM.out.below hIs.bl)
      clear hIs k2 k3
      refine wpList_enter (run_call1 enters_rkey8 rfl rfl rfl) rfl (rkey8_any _ m2 _ HRd2.out k1) (fun q3 hb => ?_); (try simp only [Act.put, List.setIfInBounds_toArray, List.set_cons_zero, List.set_cons_succ]); replace hM := Lib.hid (hM.out.below hb); clear hb
      rw [hE]
      refine wpList_skip (run_stM (vs := kb.map b8) rfl SZ.out rfl rfl (one8s _) (by rw [L1.out]; exact (hM.out.get (i := 0) rfl).there)) rfl rfl ?_
      replace hM := Lib.hid (hM.out.put 0 rfl (m := kb.map b8) L1.out)
      refine wpList_end ?_
      go_wp2_with fail
      exact bodyPost_ret (v := .agg (kb.map b8).toArray) (results_rowB Tryd.results12 rfl Tryd.underlying24 rfl SZ.out (hM.out.get (i := 0) rfl).range) rfl ⟨rfl, hM.out.bl⟩
    · have hk1 : (n : Int) < 64 := by omega
      have HS := Lib.hid (take_map_snoc s n (by omega))
      have HC := Lib.hid (((hM.out.below hI.out.bl).get (i := 1) rfl).c n _ (get_map b8 0 (l := s) (i := n) (by omega)))
      generalize (s.take n).map (·.toNat) = m at *
      generalize s.getD n 0 = x at *
      go_upto_region 5 with fail; refine wp_region_lit ?_
      refine wpList_val (run_mv (v := u3) rfl rfl) rfl ?_; (try simp only [Act.put, List.setIfInBounds_toArray, List.set_cons_zero, List.set_cons_succ])
      (repeat ((first | refine wpList_val (run_mv (v := b32 _) rfl rfl) rfl ?_ | refine wpList_val (run_mv (v := b64 _) rfl rfl) rfl ?_ | refine wpList_val (run_mv (v := b8 _) rfl rfl) rfl ?_ | refine wpList_val (run_mv (v := .int _ _) rfl rfl) rfl ?_ | refine wpList_val (run_mv (v := .bool _) rfl rfl) rfl ?_ | refine wpList_val (run_mv (v := .slice (some _) _ _) rfl rfl) rfl ?_ | refine wpList_val (run_mv (v := .slice _ _ _) rfl rfl) rfl ?_ | refine wpList_val (run_mv (v := .pointer (some _)) rfl rfl) rfl ?_ | refine wpList_val (run_mv (v := .agg _) rfl rfl) rfl ?_ | refine wpList_val (run_asg (v := b32 _) rfl rfl) rfl ?_ | refine wpList_val (run_asg (v := b64 _) rfl rfl) rfl ?_ | refine wpList_val (run_asg (v := b8 _) rfl rfl) rfl ?_ | refine wpList_val (run_asg (v := .int _ _) rfl rfl) rfl ?_ | refine wpList_val (run_asg (v := .bool _) rfl rfl) rfl ?_ | refine wpList_val (run_asg (v := .slice (some _) _ _) rfl rfl) rfl ?_ | refine wpList_val (run_asg (v := .slice _ _ _) rfl rfl) rfl ?_ | refine wpList_val (run_asg (v := .pointer (some _)) rfl rfl) rfl ?_ | refine wpList_val (run_asg (v := .agg _) rfl rfl) rfl ?_ | refine wpList_val (run_mv rfl rfl) rfl ?_ | refine wpList_val (run_asg rfl rfl) rfl ?_ | refine wpList_val (run_xor32 rfl rfl rfl) rfl ?_ | refine wpList_val (run_and32 rfl rfl rfl) rfl ?_ | refine wpList_val (run_or32 rfl rfl rfl) rfl ?_ | refine wpList_val (run_add32 rfl rfl rfl) rfl ?_ | refine wpList_val (run_not32 rfl rfl) rfl ?_ | refine wpList_val (run_xor64 rfl rfl rfl) rfl ?_ | refine wpList_val (run_and64 rfl rfl rfl) rfl ?_ | refine wpList_val (run_or64 rfl rfl rfl) rfl ?_ | refine wpList_val (run_add64 rfl rfl rfl) rfl ?_ | refine wpList_val (run_not64 rfl rfl) rfl ?_ | refine wpList_val (run_xor8 rfl rfl rfl) rfl ?_ | refine wpList_val (run_and8 rfl rfl rfl) rfl ?_ | refine wpList_val (run_or8 rfl rfl rfl) rfl ?_ | refine wpList_val (run_add8 rfl rfl rfl) rfl ?_ | refine wpList_val (run_not8 rfl rfl) rfl ?_ | refine wpList_val (run_cv64_32 rfl rfl) rfl ?_ | refine wpList_val (run_cv8_32 rfl rfl) rfl ?_ | refine wpList_val (run_cv8_64 rfl rfl) rfl ?_ | refine wpList_val (run_cv32_8 rfl rfl) rfl ?_ | refine wpList_val (run_cv64_8 rfl rfl) rfl ?_); (try simp only [Act.put, List.setIfInBounds_toArray, List.set_cons_zero, List.set_cons_succ])))
      refine wpList_val (run_ix0 (i := n) rfl Tryd.underlying30 (by kernel_rfl) rfl rfl (by omega)) rfl ?_; (try simp only [Act.put, List.setIfInBounds_toArray, List.set_cons_zero, List.set_cons_succ])
      refine wpList_val (run_ld8 rfl rfl HC.out) rfl ?_; (try simp only [Act.put, List.setIfInBounds_toArray, List.set_cons_zero, List.set_cons_succ])
      refine wpList_val (run_cv8i rfl rfl) rfl ?_; (try simp only [Act.put, List.setIfInBounds_toArray, List.set_cons_zero, List.set_cons_succ])
      refine wpList_val (run_bsl (cells := #[iN (x.toNat)]) (z := .int .i64 0) rfl Tryd.underlying55 (by kernel_rfl) (by omega) (by omega) (by kernel_rfl)) rfl ?_; (try simp only [Act.put, List.setIfInBounds_toArray, List.set_cons_zero, List.set_cons_succ]); have hb2 : Below wr.heap.size wr (wr.alloc (.cells #[iN (x.toNat)] 3)) := (Below.refl _ _).alloc (Nat.le_refl _) _; have A2 : Hid (Arr wr.heap.size ([x.toNat].map iN) (wr.alloc (.cells #[iN (x.toNat)] 3))) := Lib.hid (Arr.new wr _ _); replace hI := Lib.hid (hI.out.below hb2); clear hb2; generalize wr.alloc (.cells #[iN (x.toNat)] 3) = ua at *; refine wpList_app (f := iN) (fun _ => rfl) (l := m) (m := [x.toNat]) (bw := 8) (z := .int .i64 0) rfl rfl Tryd.underlying55 (by kernel_rfl) rfl (by omega) rfl hI.out.O rfl A2.out.range (by show m.length + 1 ≤ _; omega) hI.out.bl.size (fun q1 q2 h3 hb3 => ?_); (try simp only [Act.put, List.setIfInBounds_toArray, List.set_cons_zero, List.set_cons_succ]); replace hI : Hid (Io _ q1 (m ++ [x.toNat]) q2) := Lib.hid ⟨hI.out.bl.trans hb3, by rw [List.length_append]; exact h3⟩; clear h3 hb3 A2; clear ua; refine wpList_val (run_asg (v := q1) rfl rfl) rfl ?_; (try simp only [Act.put, List.setIfInBounds_toArray, List.set_cons_zero, List.set_cons_succ]); refine wpList_end ?_
      rw [← HS.out] at hI
      go_wp2_with fail
      exact ⟨⟨n + 1, by omega, by go_num, hI.out⟩, by simp [intOf]; omega⟩
theorem enters_rreduce : Enters 12 := enters_of Tryd.func12 (by kernel_rfl) rfl

set_option maxHeartbeats 8000000 in
theorem rcanon_any (s : List (BitVec 8)) (w : World) (hs : s.length = 32) : Calls Tryd.prog 14 #[.agg (s.map b8).toArray] w fun e w' => e = .returned (.bool (decide (leB s < ell))) ∧ Below w.heap.size w w' := by
  have HD : Hid (dv ((s.take 32).map (·.toNat) ++ [0]) = leB s) := Lib.hid (by rw [List.take_of_length_le (by omega), dv_append, leB_dv]; simp [dv])
  have hM := Lib.hid (Mv.nil w)
  obtain ⟨L, hL⟩ : ∃ L, L = leB s := ⟨_, rfl⟩
  rw [← hL] at HD ⊢
  clear hL
  obtain ⟨res, hres⟩ : ∃ r, r = decide (L < ell) := ⟨_, rfl⟩
  have HB : Hid (∀ (v : Value) (l : List Nat) (u : World), Rd v l u → l.length = 33 → Dg l → dv l = L → Calls Tryd.prog 30 #[v] u fun e w' => e = .returned (.bool res) ∧ Below u.heap.size u w') := Lib.hid fun v l u h1 h2 h3 h4 => by rw [hres, ← h4]; exact rbelow_any v l u h1 h2 h3
  rw [← hres]
  clear hres
  go_enter Tryd.func14, Tryd.ntmps14
  go_upto_region 0 with fail; refine wp_region_lit ?_
  refine wpList_val (run_boxL8 (vs := s.map b8) rfl rfl) rfl ?_; (try simp only [Act.put, List.setIfInBounds_toArray, List.set_cons_zero, List.set_cons_succ])
  replace hM := Lib.hid (hM.out.new (s.map b8) 24)
  generalize w.alloc (.cells (s.map b8).toArray 24) = a1 at *
  generalize w.heap.size = g1 at *
  (repeat ((first | refine wpList_val (run_mv (v := b32 _) rfl rfl) rfl ?_ | refine wpList_val (run_mv (v := b64 _) rfl rfl) rfl ?_ | refine wpList_val (run_mv (v := b8 _) rfl rfl) rfl ?_ | refine wpList_val (run_mv (v := .int _ _) rfl rfl) rfl ?_ | refine wpList_val (run_mv (v := .bool _) rfl rfl) rfl ?_ | refine wpList_val (run_mv (v := .slice (some _) _ _) rfl rfl) rfl ?_ | refine wpList_val (run_mv (v := .slice _ _ _) rfl rfl) rfl ?_ | refine wpList_val (run_mv (v := .pointer (some _)) rfl rfl) rfl ?_ | refine wpList_val (run_mv (v := .agg _) rfl rfl) rfl ?_ | refine wpList_val (run_asg (v := b32 _) rfl rfl) rfl ?_ | refine wpList_val (run_asg (v := b64 _) rfl rfl) rfl ?_ | refine wpList_val (run_asg (v := b8 _) rfl rfl) rfl ?_ | refine wpList_val (run_asg (v := .int _ _) rfl rfl) rfl ?_ | refine wpList_val (run_asg (v := .bool _) rfl rfl) rfl ?_ | refine wpList_val (run_asg (v := .slice (some _) _ _) rfl rfl) rfl ?_ | refine wpList_val (run_asg (v := .slice _ _ _) rfl rfl) rfl ?_ | refine wpList_val (run_asg (v := .pointer (some _)) rfl rfl) rfl ?_ | refine wpList_val (run_asg (v := .agg _) rfl rfl) rfl ?_ | refine wpList_val (run_mv rfl rfl) rfl ?_ | refine wpList_val (run_asg rfl rfl) rfl ?_ | refine wpList_val (run_xor32 rfl rfl rfl) rfl ?_ | refine wpList_val (run_and32 rfl rfl rfl) rfl ?_ | refine wpList_val (run_or32 rfl rfl rfl) rfl ?_ | refine wpList_val (run_add32 rfl rfl rfl) rfl ?_ | refine wpList_val (run_not32 rfl rfl) rfl ?_ | refine wpList_val (run_xor64 rfl rfl rfl) rfl ?_ | refine wpList_val (run_and64 rfl rfl rfl) rfl ?_ | refine wpList_val (run_or64 rfl rfl rfl) rfl ?_ | refine wpList_val (run_add64 rfl rfl rfl) rfl ?_ | refine wpList_val (run_not64 rfl rfl) rfl ?_ | refine wpList_val (run_xor8 rfl rfl rfl) rfl ?_ | refine wpList_val (run_and8 rfl rfl rfl) rfl ?_ | refine wpList_val (run_or8 rfl rfl rfl) rfl ?_ | refine wpList_val (run_add8 rfl rfl rfl) rfl ?_ | refine wpList_val (run_not8 rfl rfl) rfl ?_ | refine wpList_val (run_cv64_32 rfl rfl) rfl ?_ | refine wpList_val (run_cv8_32 rfl rfl) rfl ?_ | refine wpList_val (run_cv8_64 rfl rfl) rfl ?_ | refine wpList_val (run_cv32_8 rfl rfl) rfl ?_ | refine wpList_val (run_cv64_8 rfl rfl) rfl ?_); (try simp only [Act.put, List.setIfInBounds_toArray, List.set_cons_zero, List.set_cons_succ])))
  refine wpList_end ?_
  have hI := Lib.hid (Io.none a1)
  go_upto_region 1 with fail; refine wp_region_lit ?_
  (repeat ((first | refine wpList_val (run_mv (v := b32 _) rfl rfl) rfl ?_ | refine wpList_val (run_mv (v := b64 _) rfl rfl) rfl ?_ | refine wpList_val (run_mv (v := b8 _) rfl rfl) rfl ?_ | refine wpList_val (run_mv (v := .int _ _) rfl rfl) rfl ?_ | refine wpList_val (run_mv (v := .bool _) rfl rfl) rfl ?_ | refine wpList_val (run_mv (v := .slice (some _) _ _) rfl rfl) rfl ?_ | refine wpList_val (run_mv (v := .slice _ _ _) rfl rfl) rfl ?_ | refine wpList_val (run_mv (v := .pointer (some _)) rfl rfl) rfl ?_ | refine wpList_val (run_mv (v := .agg _) rfl rfl) rfl ?_ | refine wpList_val (run_asg (v := b32 _) rfl rfl) rfl ?_ | refine wpList_val (run_asg (v := b64 _) rfl rfl) rfl ?_ | refine wpList_val (run_asg (v := b8 _) rfl rfl) rfl ?_ | refine wpList_val (run_asg (v := .int _ _) rfl rfl) rfl ?_ | refine wpList_val (run_asg (v := .bool _) rfl rfl) rfl ?_ | refine wpList_val (run_asg (v := .slice (some _) _ _) rfl rfl) rfl ?_ | refine wpList_val (run_asg (v := .slice _ _ _) rfl rfl) rfl ?_ | refine wpList_val (run_asg (v := .pointer (some _)) rfl rfl) rfl ?_ | refine wpList_val (run_asg (v := .agg _) rfl rfl) rfl ?_ | refine wpList_val (run_mv rfl rfl) rfl ?_ | refine wpList_val (run_asg rfl rfl) rfl ?_ | refine wpList_val (run_xor32 rfl rfl rfl) rfl ?_ | refine wpList_val (run_and32 rfl rfl rfl) rfl ?_ | refine wpList_val (run_or32 rfl rfl rfl) rfl ?_ | refine wpList_val (run_add32 rfl rfl rfl) rfl ?_ | refine wpList_val (run_not32 rfl rfl) rfl ?_ | refine wpList_val (run_xor64 rfl rfl rfl) rfl ?_ | refine wpList_val (run_and64 rfl rfl rfl) rfl ?_ | refine wpList_val (run_or64 rfl rfl rfl) rfl ?_ | refine wpList_val (run_add64 rfl rfl rfl) rfl ?_ | refine wpList_val (run_not64 rfl rfl) rfl ?_ | refine wpList_val (run_xor8 rfl rfl rfl) rfl ?_ | refine wpList_val (run_and8 rfl rfl rfl) rfl ?_ | refine wpList_val (run_or8 rfl rfl rfl) rfl ?_ | refine wpList_val (run_add8 rfl rfl rfl) rfl ?_ | refine wpList_val (run_not8 rfl rfl) rfl ?_ | refine wpList_val (run_cv64_32 rfl rfl) rfl ?_ | refine wpList_val (run_cv8_32 rfl rfl) rfl ?_ | refine wpList_val (run_cv8_64 rfl rfl) rfl ?_ | refine wpList_val (run_cv32_8 rfl rfl) rfl ?_ | refine wpList_val (run_cv64_8 rfl rfl) rfl ?_); (try simp only [Act.put, List.setIfInBounds_toArray, List.set_cons_zero, List.set_cons_succ])))
  refine wpList_end ?_
  go_upto_region 2 with fail; refine wp_region_lit ?_
  (repeat ((first | refine wpList_val (run_mv (v := b32 _) rfl rfl) rfl ?_ | refine wpList_val (run_mv (v := b64 _) rfl rfl) rfl ?_ | refine wpList_val (run_mv (v := b8 _) rfl rfl) rfl ?_ | refine wpList_val (run_mv (v := .int _ _) rfl rfl) rfl ?_ | refine wpList_val (run_mv (v := .bool _) rfl rfl) rfl ?_ | refine wpList_val (run_mv (v := .slice (some _) _ _) rfl rfl) rfl ?_ | refine wpList_val (run_mv (v := .slice _ _ _) rfl rfl) rfl ?_ | refine wpList_val (run_mv (v := .pointer (some _)) rfl rfl) rfl ?_ | refine wpList_val (run_mv (v := .agg _) rfl rfl) rfl ?_ | refine wpList_val (run_asg (v := b32 _) rfl rfl) rfl ?_ | refine wpList_val (run_asg (v := b64 _) rfl rfl) rfl ?_ | refine wpList_val (run_asg (v := b8 _) rfl rfl) rfl ?_ | refine wpList_val (run_asg (v := .int _ _) rfl rfl) rfl ?_ | refine wpList_val (run_asg (v := .bool _) rfl rfl) rfl ?_ | refine wpList_val (run_asg (v := .slice (some _) _ _) rfl rfl) rfl ?_ | refine wpList_val (run_asg (v := .slice _ _ _) rfl rfl) rfl ?_ | refine wpList_val (run_asg (v := .pointer (some _)) rfl rfl) rfl ?_ | refine wpList_val (run_asg (v := .agg _) rfl rfl) rfl ?_ | refine wpList_val (run_mv rfl rfl) rfl ?_ | refine wpList_val (run_asg rfl rfl) rfl ?_ | refine wpList_val (run_xor32 rfl rfl rfl) rfl ?_ | refine wpList_val (run_and32 rfl rfl rfl) rfl ?_ | refine wpList_val (run_or32 rfl rfl rfl) rfl ?_ | refine wpList_val (run_add32 rfl rfl rfl) rfl ?_ | refine wpList_val (run_not32 rfl rfl) rfl ?_ | refine wpList_val (run_xor64 rfl rfl rfl) rfl ?_ | refine wpList_val (run_and64 rfl rfl rfl) rfl ?_ | refine wpList_val (run_or64 rfl rfl rfl) rfl ?_ | refine wpList_val (run_add64 rfl rfl rfl) rfl ?_ | refine wpList_val (run_not64 rfl rfl) rfl ?_ | refine wpList_val (run_xor8 rfl rfl rfl) rfl ?_ | refine wpList_val (run_and8 rfl rfl rfl) rfl ?_ | refine wpList_val (run_or8 rfl rfl rfl) rfl ?_ | refine wpList_val (run_add8 rfl rfl rfl) rfl ?_ | refine wpList_val (run_not8 rfl rfl) rfl ?_ | refine wpList_val (run_cv64_32 rfl rfl) rfl ?_ | refine wpList_val (run_cv8_32 rfl rfl) rfl ?_ | refine wpList_val (run_cv8_64 rfl rfl) rfl ?_ | refine wpList_val (run_cv32_8 rfl rfl) rfl ?_ | refine wpList_val (run_cv64_8 rfl rfl) rfl ?_); (try simp only [Act.put, List.setIfInBounds_toArray, List.set_cons_zero, List.set_cons_succ])))
  refine wpList_end ?_
  go_wp2_with fail
  go_loopw [3, 4] (fun s3 s4 u => ∃ n : Nat, n ≤ 32 ∧ s4 = .int .i64 (n : Int) ∧ Io a1 s3 ((s.take n).map (·.toNat)) u) (fun _ s4 _ => (32 - intOf s4).toNat)
  case atStart => exact ⟨0, by omega, rfl, hI.out⟩
  case round =>
    obtain ⟨n, hn, rfl, hJ⟩ := hrel
    replace hI := Lib.hid hJ
    clear hJ
    have hml : ((s.take n).map (·.toNat)).length = n := by rw [List.length_map, List.length_take]; omega
    by_cases hlt : n = 32
    · subst hlt
      have hk1 : ¬ (((32 : Nat) : Int) < 32) := by omega
      have DG : Hid (Dg ((s.take 32).map (·.toNat) ++ [0])) := Lib.hid fun a ha => by
        rcases List.mem_append.1 ha with h | h
        · exact dg_bytes _ a h
        · rw [List.mem_singleton.1 h]; decide
      generalize (s.take 32).map (·.toNat) = m at *
      go_upto_region 6 with fail; refine wp_region_lit ?_
      refine wpList_val (run_mv (v := u3) rfl rfl) rfl ?_; (try simp only [Act.put, List.setIfInBounds_toArray, List.set_cons_zero, List.set_cons_succ])
      refine wpList_val (run_bsl (cells := #[iN (0)]) (z := .int .i64 0) rfl Tryd.underlying55 (by kernel_rfl) (by omega) (by omega) (by kernel_rfl)) rfl ?_; (try simp only [Act.put, List.setIfInBounds_toArray, List.set_cons_zero, List.set_cons_succ]); have hb2 : Below wr.heap.size wr (wr.alloc (.cells #[iN (0)] 3)) := (Below.refl _ _).alloc (Nat.le_refl _) _; have A2 : Hid (Arr wr.heap.size ([0].map iN) (wr.alloc (.cells #[iN (0)] 3))) := Lib.hid (Arr.new wr _ _); replace hI := Lib.hid (hI.out.below hb2); clear hb2; generalize wr.alloc (.cells #[iN (0)] 3) = ua at *; refine wpList_app (f := iN) (fun _ => rfl) (l := m) (m := [0]) (bw := 8) (z := .int .i64 0) rfl rfl Tryd.underlying55 (by kernel_rfl) rfl (by omega) rfl hI.out.O rfl A2.out.range (by show m.length + 1 ≤ _; omega) hI.out.bl.size (fun q1 q2 h3 hb3 => ?_); (try simp only [Act.put, List.setIfInBounds_toArray, List.set_cons_zero, List.set_cons_succ]); replace hI : Hid (Io _ q1 (m ++ [0]) q2) := Lib.hid ⟨hI.out.bl.trans hb3, by rw [List.length_append]; exact h3⟩; clear h3 hb3 A2; clear ua; refine wpList_val (run_asg (v := q1) rfl rfl) rfl ?_; (try simp only [Act.put, List.setIfInBounds_toArray, List.set_cons_zero, List.set_cons_succ]); refine wpList_end ?_
      have hl2 : (m ++ [0]).length = 33 := by rw [List.length_append, hml]; rfl
      generalize m ++ [0] = m2 at *
      have HRd := Lib.hid (hI.out.rd (by intro e; rw [e] at hl2; cases hl2))
      go_upto_region 7 with fail; refine wp_region_lit ?_
      refine wpList_val (run_mv (v := q1) rfl rfl) rfl ?_; (try simp only [Act.put, List.setIfInBounds_toArray, List.set_cons_zero, List.set_cons_succ])
      refine wpList_enter (run_call1 enters_rbelow rfl rfl rfl) rfl (HB.out _ m2 _ HRd.out hl2 DG.out HD.out) (fun q3 hb => ?_); (try simp only [Act.put, List.setIfInBounds_toArray, List.set_cons_zero, List.set_cons_succ])
      (repeat ((first | refine wpList_val (run_mv (v := b32 _) rfl rfl) rfl ?_ | refine wpList_val (run_mv (v := b64 _) rfl rfl) rfl ?_ | refine wpList_val (run_mv (v := b8 _) rfl rfl) rfl ?_ | refine wpList_val (run_mv (v := .int _ _) rfl rfl) rfl ?_ | refine wpList_val (run_mv (v := .bool _) rfl rfl) rfl ?_ | refine wpList_val (run_mv (v := .slice (some _) _ _) rfl rfl) rfl ?_ | refine wpList_val (run_mv (v := .slice _ _ _) rfl rfl) rfl ?_ | refine wpList_val (run_mv (v := .pointer (some _)) rfl rfl) rfl ?_ | refine wpList_val (run_mv (v := .agg _) rfl rfl) rfl ?_ | refine wpList_val (run_asg (v := b32 _) rfl rfl) rfl ?_ | refine wpList_val (run_asg (v := b64 _) rfl rfl) rfl ?_ | refine wpList_val (run_asg (v := b8 _) rfl rfl) rfl ?_ | refine wpList_val (run_asg (v := .int _ _) rfl rfl) rfl ?_ | refine wpList_val (run_asg (v := .bool _) rfl rfl) rfl ?_ | refine wpList_val (run_asg (v := .slice (some _) _ _) rfl rfl) rfl ?_ | refine wpList_val (run_asg (v := .slice _ _ _) rfl rfl) rfl ?_ | refine wpList_val (run_asg (v := .pointer (some _)) rfl rfl) rfl ?_ | refine wpList_val (run_asg (v := .agg _) rfl rfl) rfl ?_ | refine wpList_val (run_mv rfl rfl) rfl ?_ | refine wpList_val (run_asg rfl rfl) rfl ?_ | refine wpList_val (run_xor32 rfl rfl rfl) rfl ?_ | refine wpList_val (run_and32 rfl rfl rfl) rfl ?_ | refine wpList_val (run_or32 rfl rfl rfl) rfl ?_ | refine wpList_val (run_add32 rfl rfl rfl) rfl ?_ | refine wpList_val (run_not32 rfl rfl) rfl ?_ | refine wpList_val (run_xor64 rfl rfl rfl) rfl ?_ | refine wpList_val (run_and64 rfl rfl rfl) rfl ?_ | refine wpList_val (run_or64 rfl rfl rfl) rfl ?_ | refine wpList_val (run_add64 rfl rfl rfl) rfl ?_ | refine wpList_val (run_not64 rfl rfl) rfl ?_ | refine wpList_val (run_xor8 rfl rfl rfl) rfl ?_ | refine wpList_val (run_and8 rfl rfl rfl) rfl ?_ | refine wpList_val (run_or8 rfl rfl rfl) rfl ?_ | refine wpList_val (run_add8 rfl rfl rfl) rfl ?_ | refine wpList_val (run_not8 rfl rfl) rfl ?_ | refine wpList_val (run_cv64_32 rfl rfl) rfl ?_ | refine wpList_val (run_cv8_32 rfl rfl) rfl ?_ | refine wpList_val (run_cv8_64 rfl rfl) rfl ?_ | refine wpList_val (run_cv32_8 rfl rfl) rfl ?_ | refine wpList_val (run_cv64_8 rfl rfl) rfl ?_); (try simp only [Act.put, List.setIfInBounds_toArray, List.set_cons_zero, List.set_cons_succ])))
      refine wpList_end ?_
      replace hM := Lib.hid ((hM.out.below hI.out.bl).below hb)
      go_wp2_with fail
      go_ret
      exact ⟨rfl, hM.out.bl⟩
    · have hk1 : (n : Int) < 32 := by omega
      have HS := Lib.hid (take_map_snoc s n (by omega))
      have HC := Lib.hid (((hM.out.below hI.out.bl).get (i := 0) rfl).c n _ (get_map b8 0 (l := s) (i := n) (by omega)))
      generalize (s.take n).map (·.toNat) = m at *
      generalize s.getD n 0 = x at *
      go_upto_region 5 with fail; refine wp_region_lit ?_
      refine wpList_val (run_mv (v := u3) rfl rfl) rfl ?_; (try simp only [Act.put, List.setIfInBounds_toArray, List.set_cons_zero, List.set_cons_succ])
      (repeat ((first | refine wpList_val (run_mv (v := b32 _) rfl rfl) rfl ?_ | refine wpList_val (run_mv (v := b64 _) rfl rfl) rfl ?_ | refine wpList_val (run_mv (v := b8 _) rfl rfl) rfl ?_ | refine wpList_val (run_mv (v := .int _ _) rfl rfl) rfl ?_ | refine wpList_val (run_mv (v := .bool _) rfl rfl) rfl ?_ | refine wpList_val (run_mv (v := .slice (some _) _ _) rfl rfl) rfl ?_ | refine wpList_val (run_mv (v := .slice _ _ _) rfl rfl) rfl ?_ | refine wpList_val (run_mv (v := .pointer (some _)) rfl rfl) rfl ?_ | refine wpList_val (run_mv (v := .agg _) rfl rfl) rfl ?_ | refine wpList_val (run_asg (v := b32 _) rfl rfl) rfl ?_ | refine wpList_val (run_asg (v := b64 _) rfl rfl) rfl ?_ | refine wpList_val (run_asg (v := b8 _) rfl rfl) rfl ?_ | refine wpList_val (run_asg (v := .int _ _) rfl rfl) rfl ?_ | refine wpList_val (run_asg (v := .bool _) rfl rfl) rfl ?_ | refine wpList_val (run_asg (v := .slice (some _) _ _) rfl rfl) rfl ?_ | refine wpList_val (run_asg (v := .slice _ _ _) rfl rfl) rfl ?_ | refine wpList_val (run_asg (v := .pointer (some _)) rfl rfl) rfl ?_ | refine wpList_val (run_asg (v := .agg _) rfl rfl) rfl ?_ | refine wpList_val (run_mv rfl rfl) rfl ?_ | refine wpList_val (run_asg rfl rfl) rfl ?_ | refine wpList_val (run_xor32 rfl rfl rfl) rfl ?_ | refine wpList_val (run_and32 rfl rfl rfl) rfl ?_ | refine wpList_val (run_or32 rfl rfl rfl) rfl ?_ | refine wpList_val (run_add32 rfl rfl rfl) rfl ?_ | refine wpList_val (run_not32 rfl rfl) rfl ?_ | refine wpList_val (run_xor64 rfl rfl rfl) rfl ?_ | refine wpList_val (run_and64 rfl rfl rfl) rfl ?_ | refine wpList_val (run_or64 rfl rfl rfl) rfl ?_ | refine wpList_val (run_add64 rfl rfl rfl) rfl ?_ | refine wpList_val (run_not64 rfl rfl) rfl ?_ | refine wpList_val (run_xor8 rfl rfl rfl) rfl ?_ | refine wpList_val (run_and8 rfl rfl rfl) rfl ?_ | refine wpList_val (run_or8 rfl rfl rfl) rfl ?_ | refine wpList_val (run_add8 rfl rfl rfl) rfl ?_ | refine wpList_val (run_not8 rfl rfl) rfl ?_ | refine wpList_val (run_cv64_32 rfl rfl) rfl ?_ | refine wpList_val (run_cv8_32 rfl rfl) rfl ?_ | refine wpList_val (run_cv8_64 rfl rfl) rfl ?_ | refine wpList_val (run_cv32_8 rfl rfl) rfl ?_ | refine wpList_val (run_cv64_8 rfl rfl) rfl ?_); (try simp only [Act.put, List.setIfInBounds_toArray, List.set_cons_zero, List.set_cons_succ])))
      refine wpList_val (run_ix0 (i := n) rfl Tryd.underlying24 (by kernel_rfl) rfl rfl (by omega)) rfl ?_; (try simp only [Act.put, List.setIfInBounds_toArray, List.set_cons_zero, List.set_cons_succ])
      refine wpList_val (run_ld8 rfl rfl HC.out) rfl ?_; (try simp only [Act.put, List.setIfInBounds_toArray, List.set_cons_zero, List.set_cons_succ])
      refine wpList_val (run_cv8i rfl rfl) rfl ?_; (try simp only [Act.put, List.setIfInBounds_toArray, List.set_cons_zero, List.set_cons_succ])
      refine wpList_val (run_bsl (cells := #[iN (x.toNat)]) (z := .int .i64 0) rfl Tryd.underlying55 (by kernel_rfl) (by omega) (by omega) (by kernel_rfl)) rfl ?_; (try simp only [Act.put, List.setIfInBounds_toArray, List.set_cons_zero, List.set_cons_succ]); have hb2 : Below wr.heap.size wr (wr.alloc (.cells #[iN (x.toNat)] 3)) := (Below.refl _ _).alloc (Nat.le_refl _) _; have A2 : Hid (Arr wr.heap.size ([x.toNat].map iN) (wr.alloc (.cells #[iN (x.toNat)] 3))) := Lib.hid (Arr.new wr _ _); replace hI := Lib.hid (hI.out.below hb2); clear hb2; generalize wr.alloc (.cells #[iN (x.toNat)] 3) = ua at *; refine wpList_app (f := iN) (fun _ => rfl) (l := m) (m := [x.toNat]) (bw := 8) (z := .int .i64 0) rfl rfl Tryd.underlying55 (by kernel_rfl) rfl (by omega) rfl hI.out.O rfl A2.out.range (by show m.length + 1 ≤ _; omega) hI.out.bl.size (fun q1 q2 h3 hb3 => ?_); (try simp only [Act.put, List.setIfInBounds_toArray, List.set_cons_zero, List.set_cons_succ]); replace hI : Hid (Io _ q1 (m ++ [x.toNat]) q2) := Lib.hid ⟨hI.out.bl.trans hb3, by rw [List.length_append]; exact h3⟩; clear h3 hb3 A2; clear ua; refine wpList_val (run_asg (v := q1) rfl rfl) rfl ?_; (try simp only [Act.put, List.setIfInBounds_toArray, List.set_cons_zero, List.set_cons_succ]); refine wpList_end ?_
      rw [← HS.out] at hI
      go_wp2_with fail
      exact ⟨⟨n + 1, by omega, by go_num, hI.out⟩, by simp [intOf]; omega⟩
theorem enters_rcanon : Enters 14 := enters_of Tryd.func14 (by kernel_rfl) rfl
end Go.Proofs.YtefaihdhnnldmaaDoor
