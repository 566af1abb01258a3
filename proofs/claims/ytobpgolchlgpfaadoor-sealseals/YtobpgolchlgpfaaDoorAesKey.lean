/- What aes.schedule and makeCipher do. -/
import Derived.Test.YtobpgolchlgpfaaDoorAesB1
import Derived.Test.YtobpgolchlgpfaaDoorAesBox
import Derived.Test.YtobpgolchlgpfaaDoorAesMath
import Derived.Deep.CutBlock
namespace Go.Proofs.YtobpgolchlgpfaaDoor
open Go.RowKit
set_option maxRecDepth 20000

/-- The bytes of all words. -/
def kF (key : List (BitVec 8)) (j : Nat) : BitVec 8 := (sched key).getD j 0
theorem getD_app2 {l m : List (BitVec 8)} {i : Nat} (h : l.length ≤ i) : (l ++ m).getD i 0 = m.getD (i - l.length) 0 := by
  rw [List.getD_eq_getElem?_getD, List.getElem?_append_right h, ← List.getD_eq_getElem?_getD]
theorem sch_pre {key : List (BitVec 8)} (h : key.length = 32) {n j : Nat} (hj : j < 32 + 4 * n) : ∀ d, (schI key (n + d)).getD j 0 = (schI key n).getD j 0
  | 0 => rfl
  | d + 1 => by
    rw [← Nat.add_assoc, schI, getD_app (by rw [schI_len h]; omega)]
    exact sch_pre h hj d
theorem kF_at {key : List (BitVec 8)} (h : key.length = 32) {n j : Nat} (hn : n ≤ 52) (hj : j < 32 + 4 * n) : kF key j = (schI key n).getD j 0 := by
  have := sch_pre h hj (52 - n)
  rw [show n + (52 - n) = 52 by omega] at this
  exact this
theorem kF_key {key : List (BitVec 8)} (h : key.length = 32) {j : Nat} (hj : j < 32) : kF key j = key.getD j 0 := kF_at h (n := 0) (by omega) (by omega)
theorem kF_step {key : List (BitVec 8)} (h : key.length = 32) {i k : Nat} (h8 : 8 ≤ i) (h60 : i < 60) (hk : k < 4) : kF key (4 * i + k) = kF key (4 * i - 32 + k) ^^^ (tW (tab 4 fun m => kF key (4 * (i - 1) + m)) i).getD k 0 := by
  obtain ⟨n, rfl⟩ : ∃ n, i = 8 + n := ⟨i - 8, by omega⟩
  have hc : (tab 4 fun m => kF key (4 * (8 + n - 1) + m)) = col (schI key n) (8 + n - 1) := tab_congr fun m hm => kF_at h (by omega) (by omega)
  have e : 4 * (8 + n) + k = 32 + 4 * n + k := by omega
  rw [hc, kF_at h (n := n) (j := 4 * (8 + n) - 32 + k) (by omega) (by omega), kF_at h (n := n + 1) (by omega) (by omega), schI, getD_app2 (by rw [schI_len h]; omega), schI_len h, e, Nat.add_sub_cancel_left, newW, tab_get _ hk]
theorem kF_all {key : List (BitVec 8)} (h : key.length = 32) : tab 240 (kF key) = sched key := tab_self (sched_len h)
theorem upd_same {f : Nat → BitVec 8} {l : List (BitVec 8)} {k : Nat} (h : ∀ i, i < k → f i = l.getD i 0) : upd f l k = l :=
  ext8 (upd_len _ _ _) fun i hi => by
    rw [upd_len] at hi
    rw [upd, tab_get _ hi]
    by_cases h1 : i < k
    · rw [if_pos h1, h i h1]
    · rw [if_neg h1]
theorem upd_done {f : Nat → BitVec 8} {l : List (BitVec 8)} {k i : Nat} (h : i < k) (hi : i < l.length) : (upd f l k).getD i 0 = f i := by rw [upd, tab_get _ hi, if_pos h]
theorem Sl.at {g f n : Nat} {l m : List (BitVec 8)} {u : World} (h : Arr g (l.map b8) u) (hf : f + m.length ≤ l.length) (hm : ∀ i, i < m.length → m.getD i 0 = l.getD (f + i) 0) (hn : m.length = n) : Sl (.slice (some ⟨g, f, none⟩) n n) m u := by
  subst hn
  exact ⟨_, _, rfl, Nat.le_refl _, fun _ => ⟨g, f, rfl, h.lt, h.tab8 hf hm⟩⟩
theorem getD_dropB {l : List (BitVec 8)} {k i : Nat} : (l.drop k).getD i 0 = l.getD (k + i) 0 := by
  rw [List.getD_eq_getElem?_getD, List.getElem?_drop, ← List.getD_eq_getElem?_getD]
theorem getD_takeB {l : List (BitVec 8)} {k i : Nat} (h : i < k) : (l.take k).getD i 0 = l.getD i 0 := by
  rw [List.getD_eq_getElem?_getD, List.getElem?_take_of_lt h, ← List.getD_eq_getElem?_getD]
theorem boxW_four (a b c d : BitVec 8) : boxW [a, b, c, d] = [bx a, bx b, bx c, bx d] := rfl

set_option maxRecDepth 20000 in
set_option maxHeartbeats 4000000 in
theorem schedule_any (g : Nat) (R key : List (BitVec 8)) (w : World) (hA : Arr g ((boxT ++ R).map b8) w) (hK : key.length = 32) : Calls Tryd.prog 41 #[.pointer (some ⟨g, 0, none⟩), .agg (key.map b8).toArray] w fun e w' => e = .returned (.agg ((sched key).map b8).toArray) ∧ Below w.heap.size w w' := by
  have hM := Lib.hid (Ms.nil w)
  have HA := Lib.hid hA; clear hA
  have hsl := sched_len hK
  obtain ⟨f, hf⟩ : ∃ f : Nat → BitVec 8, f = kF key := ⟨_, rfl⟩
  have EK : Hid (∀ j, j < 32 → f j = key.getD j 0) := Lib.hid fun j hj => by rw [hf]; exact kF_key hK hj
  have ES : Hid (∀ i k, 8 ≤ i → i < 60 → k < 4 → f (4 * i + k) = f (4 * i - 32 + k) ^^^ (tW (tab 4 fun m => f (4 * (i - 1) + m)) i).getD k 0) := Lib.hid fun i k h1 h2 h3 => by rw [hf]; exact kF_step hK h1 h2 h3
  have EA : Hid (sched key = tab 240 f) := Lib.hid (by rw [hf, kF_all hK])
  clear hf
  go_enter Tryd.func41, Tryd.ntmps41
  go_upto_region 0 with fail; refine wp_region_lit ?_
  refine wpList_val (run_box rfl rfl) rfl ?_; (try simp only [Act.put, List.setIfInBounds_toArray, List.set_cons_zero, List.set_cons_succ]); replace hM := Lib.hid (hM.out.new (key) 29); generalize w.alloc (.cells ((key).map b8).toArray 29) = a1 at *; generalize w.heap.size = g1 at *
  refine wpList_val (run_alc (vs := z8 240) rfl (by kernel_rfl)) rfl ?_; (try simp only [Act.put, List.setIfInBounds_toArray, List.set_cons_zero, List.set_cons_succ]); replace hM := Lib.hid (hM.out.newZ 240 76); generalize a1.alloc (.cells (z8 240).toArray 76) = a2 at *; generalize a1.heap.size = g2 at *
  refine wpList_end ?_
  go_upto_region 1 with fail; refine wp_region_lit ?_
  refine wpList_val (run_alc (vs := z8 240) rfl (by kernel_rfl)) rfl ?_; (try simp only [Act.put, List.setIfInBounds_toArray, List.set_cons_zero, List.set_cons_succ]); replace hM := Lib.hid (hM.out.newZ 240 76); generalize a2.alloc (.cells (z8 240).toArray 76) = a3 at *; generalize a2.heap.size = g3 at *
  refine wpList_end ?_
  obtain ⟨Z, hZ⟩ : ∃ Z : List (BitVec 8), Z = List.replicate 240 0 := ⟨_, rfl⟩
  have hzl : Z.length = 240 := by rw [hZ, List.length_replicate]
  rw [← hZ] at hM
  clear hZ
  replace hM : Hid (Ms w [(g3, upd f Z (4 * 0)), (g2, Z), (g1, key)] a3) := Lib.hid (by rw [Nat.mul_zero, upd_zero]; exact hM.out)
  go_wp2_with fail
  go_loopw [10] (fun s u => ∃ c : Nat, c ≤ 8 ∧ s = .int .i64 (c : Int) ∧ Ms w [(g3, upd f Z (4 * c)), (g2, Z), (g1, key)] u) (fun s _ => (8 - intOf s).toNat)
  case atStart => exact ⟨0, by omega, rfl, hM.out⟩
  case round =>
    obtain ⟨c, hc, rfl, hJ⟩ := hrel
    replace hM := Lib.hid hJ
    clear hJ
    by_cases hlt : c = 8
    · subst hlt
      have hk1 : ¬ (((8 : Nat) : Int) < 8) := by omega
      go_upto_region 7 with fail
      clear hk1 hc
      go_wp2_with fail
      go_loopw [7] (fun s u => ∃ i : Nat, 8 ≤ i ∧ i ≤ 60 ∧ s = .int .i64 (i : Int) ∧ Ms w [(g3, upd f Z (4 * i)), (g2, Z), (g1, key)] u) (fun s _ => (60 - intOf s).toNat)
      case atStart => exact ⟨8, by omega, by omega, rfl, hM.out⟩
      case round =>
        obtain ⟨i, h8, h60, rfl, hJ⟩ := hrel
        replace hM := Lib.hid hJ
        clear hJ
        by_cases hlt : i = 60
        · subst hlt
          have hk1 : ¬ (((60 : Nat) : Int) < 60) := by omega
          rw [show 4 * 60 = 240 from rfl, upd_all hzl] at hM
          have htl := tab_len 240 f
          generalize tab 240 f = r at *
          go_upto_region 22 with fail; refine wp_region_lit ?_
          refine wpList_val (run_ldM (vs := r.map b8) rfl Tryd.underlying76 rfl (sz szWords htl) rfl (hM.out.get (i := 0) rfl).range) rfl ?_; (try simp only [Act.put, List.setIfInBounds_toArray, List.set_cons_zero, List.set_cons_succ])
          refine wpList_skip (run_stA (vs := r.map b8) rfl (sz szWords htl) rfl rfl (oneB _) ((hM.out.get (i := 1) rfl).there8 (by rw [htl, hzl]))) rfl rfl ?_
          refine wpList_end ?_
          replace hM := Lib.hid (hM.out.put 1 rfl (m := r) (by rw [htl, hzl]))
          go_wp2_with fail
          refine bodyPost_ret (v := .agg (r.map b8).toArray) (results_rowB Tryd.results41 rfl Tryd.underlying76 rfl (sz szWords htl) (hM.out.get (i := 1) rfl).range) rfl ⟨by rw [EA.out], hM.out.bl⟩
        · have hk1 : (i : Int) < 60 := by omega
          have hul := upd_len f Z (4 * i)
          obtain ⟨t, ht⟩ : ∃ t, t = tab 4 fun m => f (4 * (i - 1) + m) := ⟨_, rfl⟩
          have htl : t.length = 4 := by rw [ht, tab_len]
          have HT : Hid (∀ m, m < t.length → t.getD m 0 = (upd f Z (4 * i)).getD (0 + (i - 1) * 4 + m) 0) := Lib.hid fun m hm => by
            rw [htl] at hm
            rw [ht, tab_get _ hm, upd_done (by omega) (by omega), show 0 + (i - 1) * 4 + m = 4 * (i - 1) + m by omega]
          have HS : Hid (∀ k, k < 4 → f (4 * i + k) = f (4 * i - 32 + k) ^^^ (tW t i).getD k 0) := Lib.hid fun k hk => by rw [ht]; exact ES.out i k h8 (by omega) hk
          clear ht
          go_upto_region 10 with fail; refine wp_region_lit ?_
          refine wpList_val (run_mv (v := .int _ _) rfl rfl) rfl ?_; (try simp only [Act.put, List.setIfInBounds_toArray, List.set_cons_zero, List.set_cons_succ])
          refine wpList_val (run_subN (b := 1) rfl rfl rfl (by omega) (by omega)) rfl ?_; (try simp only [Act.put, List.setIfInBounds_toArray, List.set_cons_zero, List.set_cons_succ])
          refine wpList_val (run_ixN (s := 4) rfl Tryd.underlying76 (by kernel_rfl) rfl rfl (by omega)) rfl ?_; (try simp only [Act.put, List.setIfInBounds_toArray, List.set_cons_zero, List.set_cons_succ])
          refine wpList_val (run_ldM (vs := t.map b8) rfl Tryd.underlying75 rfl (sz szWord htl) rfl ((hM.out.get (i := 0) rfl).tab8 (by omega) HT.out)) rfl ?_; (try simp only [Act.put, List.setIfInBounds_toArray, List.set_cons_zero, List.set_cons_succ])
          refine wpList_val (run_alc (vs := z8 4) rfl (by kernel_rfl)) rfl ?_; (try simp only [Act.put, List.setIfInBounds_toArray, List.set_cons_zero, List.set_cons_succ]); replace hM := Lib.hid (hM.out.newZ 4 75); generalize wr.alloc (.cells (z8 4).toArray 75) = b1 at *; generalize wr.heap.size = g4 at *
          refine wpList_skip (run_stA (vs := t.map b8) rfl (sz szWord htl) rfl rfl (oneB _) ((hM.out.get (i := 0) rfl).there8 (by rw [htl, List.length_replicate]))) rfl rfl ?_
          refine wpList_end ?_
          replace hM : Hid (Ms w [(g4, t), (g3, upd f Z (4 * i)), (g2, Z), (g1, key)] (b1.setCells g4 0 (t.map b8))) := Lib.hid (hM.out.put 0 rfl (m := t) (by rw [htl, List.length_replicate]))
          generalize b1.setCells g4 0 (t.map b8) = b2 at *
          clear HT
          have hwl := tW_len i htl
          go_upto_region 11 with fail; refine wp_region_lit ?_
          refine wpList_val (run_mv (v := .int _ _) rfl rfl) rfl ?_; (try simp only [Act.put, List.setIfInBounds_toArray, List.set_cons_zero, List.set_cons_succ])
          refine wpList_val (run_remN (b := 8) rfl rfl rfl (by omega)) rfl ?_; (try simp only [Act.put, List.setIfInBounds_toArray, List.set_cons_zero, List.set_cons_succ])
          refine wpList_end ?_
          go_upto_block 4 with fail
          go_cut [] (fun u => Ms w [(g4, tW t i), (g3, upd f Z (4 * i)), (g2, Z), (g1, key)] u)
          case first =>
            have C : Hid (∀ j, j < 4 → b2.cell? ⟨g4, j, none⟩ = some (b8 (t.getD j 0))) := Lib.hid fun j hj => (hM.out.get (i := 0) rfl).get8 (i := j) (by omega)
            go_upto_region 12 with fail; refine wp_region_lit ?_
            by_cases h0 : i % 8 = 0
            · refine wpList_val (run_eqlb (c := true) rfl rfl rfl (by rw [h0]; rfl)) rfl ?_; (try simp only [Act.put, List.setIfInBounds_toArray, List.set_cons_zero, List.set_cons_succ])
              refine wpList_val (run_asg (v := .bool true) rfl rfl) rfl ?_; (try simp only [Act.put, List.setIfInBounds_toArray, List.set_cons_zero, List.set_cons_succ])
              refine wpList_end ?_
              have HW : Hid (tW t i = ([bx (t.getD 1 0), bx (t.getD 2 0), bx (t.getD 3 0), bx (t.getD 0 0)] : List (BitVec 8)).set 0 (bx (t.getD 1 0) ^^^ (1 : BitVec 8) <<< (i / 8 - 1))) := Lib.hid (by rw [tW, if_pos h0]; rfl)
              go_upto_region 13 with fail; refine wp_region_lit ?_
              refine wpList_val (run_mv (v := .pointer (some _)) rfl rfl) rfl ?_; (try simp only [Act.put, List.setIfInBounds_toArray, List.set_cons_zero, List.set_cons_succ])
              refine wpList_val (run_ix0 (i := 1) rfl Tryd.underlying75 (by kernel_rfl) rfl rfl (by omega)) rfl ?_; (try simp only [Act.put, List.setIfInBounds_toArray, List.set_cons_zero, List.set_cons_succ])
              refine wpList_val (run_ld8 rfl rfl (C.out 1 (by omega))) rfl ?_; (try simp only [Act.put, List.setIfInBounds_toArray, List.set_cons_zero, List.set_cons_succ])
              refine wpList_val (run_ix0 (i := 2) rfl Tryd.underlying75 (by kernel_rfl) rfl rfl (by omega)) rfl ?_; (try simp only [Act.put, List.setIfInBounds_toArray, List.set_cons_zero, List.set_cons_succ])
              refine wpList_val (run_ld8 rfl rfl (C.out 2 (by omega))) rfl ?_; (try simp only [Act.put, List.setIfInBounds_toArray, List.set_cons_zero, List.set_cons_succ])
              refine wpList_val (run_ix0 (i := 3) rfl Tryd.underlying75 (by kernel_rfl) rfl rfl (by omega)) rfl ?_; (try simp only [Act.put, List.setIfInBounds_toArray, List.set_cons_zero, List.set_cons_succ])
              refine wpList_val (run_ld8 rfl rfl (C.out 3 (by omega))) rfl ?_; (try simp only [Act.put, List.setIfInBounds_toArray, List.set_cons_zero, List.set_cons_succ])
              refine wpList_val (run_ix0 (i := 0) rfl Tryd.underlying75 (by kernel_rfl) rfl rfl (by omega)) rfl ?_; (try simp only [Act.put, List.setIfInBounds_toArray, List.set_cons_zero, List.set_cons_succ])
              refine wpList_val (run_ld8 rfl rfl (C.out 0 (by omega))) rfl ?_; (try simp only [Act.put, List.setIfInBounds_toArray, List.set_cons_zero, List.set_cons_succ])
              generalize t.getD 0 0 = x0 at *
              generalize t.getD 1 0 = x1 at *
              generalize t.getD 2 0 = x2 at *
              generalize t.getD 3 0 = x3 at *
              refine wpList_val (run_bld (cells := ([x1, x2, x3, x0].map b8).toArray) rfl (by kernel_rfl)) rfl ?_; (try simp only [Act.put, List.setIfInBounds_toArray, List.set_cons_zero, List.set_cons_succ])
              refine wpList_enter (run_call2 enters_boxw rfl rfl rfl rfl) rfl (boxw_any g R [x1, x2, x3, x0] _ (HA.out.below hM.out.bl) rfl) (fun b3 hb => ?_); (try simp only [Act.put, List.setIfInBounds_toArray, List.set_cons_zero, List.set_cons_succ])
              replace hM := Lib.hid (hM.out.below hb)
              clear hb C
              rw [boxW_four]
              have hul4 : ([bx x1, bx x2, bx x3, bx x0] : List (BitVec 8)).length = 4 := rfl
              have hx0 : ([bx x1, bx x2, bx x3, bx x0] : List (BitVec 8)).getD 0 0 = bx x1 := rfl
              generalize ([bx x1, bx x2, bx x3, bx x0] : List (BitVec 8)) = m at *
              refine wpList_skip (run_stA (vs := m.map b8) rfl (sz szWord hul4) rfl rfl (oneB _) ((hM.out.get (i := 0) rfl).there8 (by rw [hul4, htl]))) rfl rfl ?_
              refine wpList_end ?_
              replace hM : Hid (Ms w [(g4, m), (g3, upd f Z (4 * i)), (g2, Z), (g1, key)] (b3.setCells g4 0 (m.map b8))) := Lib.hid (hM.out.put 0 rfl (m := m) (by rw [hul4, htl]))
              generalize b3.setCells g4 0 (m.map b8) = b4 at *
              have C : Hid (∀ V, Below b4.heap.size b4 V → V.cell? ⟨g4, 0, none⟩ = some (b8 (bx x1))) := Lib.hid fun V hV => by rw [((hM.out.below hV).get (i := 0) rfl).get8 (i := 0) (by omega), hx0]
              go_upto_region 14 with fail; refine wp_region_calm 7 (by kernel_rfl) (by kernel_rfl) ?_
              refine wpCalm_step _ (fun V hV => calm_run (run_ix0 (i := 0) rfl Tryd.underlying75 (by kernel_rfl) rfl rfl (by omega))) ?_; (try simp only [Act.put, List.setIfInBounds_toArray, List.set_cons_zero, List.set_cons_succ])
              refine wpCalm_step _ (fun V hV => calm_run (run_ld8 rfl rfl (C.out V hV))) ?_; (try simp only [Act.put, List.setIfInBounds_toArray, List.set_cons_zero, List.set_cons_succ])
              refine wpCalm_step _ (fun V hV => calm_run (run_mv (v := .int _ _) rfl rfl)) ?_; (try simp only [Act.put, List.setIfInBounds_toArray, List.set_cons_zero, List.set_cons_succ])
              refine wpCalm_step _ (fun V hV => calm_run (run_quoN (b := 8) rfl rfl rfl (by omega) (by omega))) ?_; (try simp only [Act.put, List.setIfInBounds_toArray, List.set_cons_zero, List.set_cons_succ])
              refine wpCalm_step _ (fun V hV => calm_run (run_subN (b := 1) rfl rfl rfl (by omega) (by omega))) ?_; (try simp only [Act.put, List.setIfInBounds_toArray, List.set_cons_zero, List.set_cons_succ])
              refine wpCalm_step _ (fun V hV => calm_run (run_shl8k (a := 1) rfl rfl rfl (by omega))) ?_; (try simp only [Act.put, List.setIfInBounds_toArray, List.set_cons_zero, List.set_cons_succ])
              refine wpCalm_step _ (fun V hV => calm_run (run_xor8 rfl rfl rfl)) ?_; (try simp only [Act.put, List.setIfInBounds_toArray, List.set_cons_zero, List.set_cons_succ])
              refine wpCalm_done ?_; intro b5 hb; simp only [List.drop_succ_cons, List.drop_zero]
              replace hM := Lib.hid (hM.out.below hb)
              clear hb C
              refine wpList_val (run_ix0 (i := 0) rfl Tryd.underlying75 (by kernel_rfl) rfl rfl (by omega)) rfl ?_; (try simp only [Act.put, List.setIfInBounds_toArray, List.set_cons_zero, List.set_cons_succ])
              refine wpList_skip (run_st8 rfl rfl rfl ((hM.out.get (i := 0) rfl).get8 (by omega)) ((hM.out.get (i := 0) rfl).f _)) rfl rfl ?_
              refine wpList_end ?_
              go_wp2_with fail
              go_meet
              rw [HW.out]
              exact hM.out.set 0 rfl (by omega) _
            · refine wpList_val (run_eqlb (c := false) rfl rfl rfl (by rw [beq_eq_false_iff_ne]; omega)) rfl ?_; (try simp only [Act.put, List.setIfInBounds_toArray, List.set_cons_zero, List.set_cons_succ])
              refine wpList_val (run_asg (v := .bool false) rfl rfl) rfl ?_; (try simp only [Act.put, List.setIfInBounds_toArray, List.set_cons_zero, List.set_cons_succ])
              refine wpList_end ?_
              go_upto_region 15 with fail; refine wp_region_lit ?_
              by_cases h4 : i % 8 = 4
              · have HW : Hid (tW t i = boxW t) := Lib.hid (by rw [tW, if_neg h0, if_pos h4]; rfl)
                refine wpList_val (run_eqlb (c := true) rfl rfl rfl (by rw [h4]; rfl)) rfl ?_; (try simp only [Act.put, List.setIfInBounds_toArray, List.set_cons_zero, List.set_cons_succ])
                refine wpList_val (run_asg (v := .bool true) rfl rfl) rfl ?_; (try simp only [Act.put, List.setIfInBounds_toArray, List.set_cons_zero, List.set_cons_succ])
                refine wpList_end ?_
                go_upto_region 16 with fail; refine wp_region_lit ?_
                refine wpList_val (run_mv (v := .pointer (some _)) rfl rfl) rfl ?_; (try simp only [Act.put, List.setIfInBounds_toArray, List.set_cons_zero, List.set_cons_succ])
                refine wpList_val (run_ldM (vs := t.map b8) rfl Tryd.underlying75 rfl (sz szWord htl) rfl (hM.out.get (i := 0) rfl).range) rfl ?_; (try simp only [Act.put, List.setIfInBounds_toArray, List.set_cons_zero, List.set_cons_succ])
                refine wpList_enter (run_call2 enters_boxw rfl rfl rfl rfl) rfl (boxw_any g R t _ (HA.out.below hM.out.bl) htl) (fun b3 hb => ?_); (try simp only [Act.put, List.setIfInBounds_toArray, List.set_cons_zero, List.set_cons_succ])
                replace hM := Lib.hid (hM.out.below hb)
                clear hb C
                have hul4 : (boxW t).length = 4 := tab_len _ _
                generalize boxW t = m at *
                refine wpList_skip (run_stA (vs := m.map b8) rfl (sz szWord hul4) rfl rfl (oneB _) ((hM.out.get (i := 0) rfl).there8 (by rw [hul4, htl]))) rfl rfl ?_
                refine wpList_end ?_
                go_wp2_with fail
                go_meet
                rw [HW.out]
                exact hM.out.put 0 rfl (m := m) (by rw [hul4, htl])
              · have HW : Hid (tW t i = t) := Lib.hid (by rw [tW, if_neg h0, if_neg h4])
                refine wpList_val (run_eqlb (c := false) rfl rfl rfl (by rw [beq_eq_false_iff_ne]; omega)) rfl ?_; (try simp only [Act.put, List.setIfInBounds_toArray, List.set_cons_zero, List.set_cons_succ])
                refine wpList_val (run_asg (v := .bool false) rfl rfl) rfl ?_; (try simp only [Act.put, List.setIfInBounds_toArray, List.set_cons_zero, List.set_cons_succ])
                refine wpList_end ?_
                go_wp2_with fail
                go_meet
                rw [HW.out]
                exact hM.out
          case rest =>
            replace hM := Lib.hid hcut
            clear hcut
            generalize hw : wc = b3 at *
            clear hw
            generalize tW t i = T at *
            clear htl
            go_wp2_with fail
            go_loopw [57] (fun s u => ∃ k : Nat, k ≤ 4 ∧ s = .int .i64 (k : Int) ∧ Ms w [(g4, T), (g3, upd f Z (4 * i + k)), (g2, Z), (g1, key)] u) (fun s _ => (4 - intOf s).toNat)
            case atStart => exact ⟨0, by omega, rfl, hM.out⟩
            case round =>
              obtain ⟨k, hk, rfl, hJ⟩ := hrel
              replace hM := Lib.hid hJ
              clear hJ
              by_cases hlt4 : k = 4
              · subst hlt4
                have hk2 : ¬ (((4 : Nat) : Int) < 4) := by omega
                replace hM : Hid (Ms w [(g3, upd f Z (4 * (i + 1))), (g2, Z), (g1, key)] wr) := Lib.hid hM.out.drop
                go_wp2_with fail
                go_roundw
                case rel => exact ⟨i + 1, by omega, by omega, by go_num, hM.out⟩
                case measure => simp [intOf]; omega
              · have hk2 : (k : Int) < 4 := by omega
                have hul2 := upd_len f Z (4 * i + k)
                have C1 : Hid (∀ V, Below wr.heap.size wr V → V.cell? ⟨g3, 0 + (i - 8) * 4 + k, none⟩ = some (b8 (f (4 * i - 32 + k)))) := Lib.hid fun V hV => by
                  rw [((hM.out.below hV).get (i := 1) rfl).get8 (i := 0 + (i - 8) * 4 + k) (by omega), upd_done (by omega) (by omega), show 0 + (i - 8) * 4 + k = 4 * i - 32 + k by omega]
                have C2 : Hid (∀ V, Below wr.heap.size wr V → V.cell? ⟨g4, k, none⟩ = some (b8 (T.getD k 0))) := Lib.hid fun V hV => ((hM.out.below hV).get (i := 0) rfl).get8 (i := k) (by omega)
                have EJ := HS.out k (by omega)
                go_upto_region 19 with fail; refine wp_region_lit ?_
                refine wpList_val (run_mv (v := .int _ _) rfl rfl) rfl ?_; (try simp only [Act.put, List.setIfInBounds_toArray, List.set_cons_zero, List.set_cons_succ]); refine wpList_val (run_asg (v := .int _ _) rfl rfl) rfl ?_; (try simp only [Act.put, List.setIfInBounds_toArray, List.set_cons_zero, List.set_cons_succ])
                refine wpList_end ?_
                go_upto_region 20 with fail; refine wp_region_calm 13 (by kernel_rfl) (by kernel_rfl) ?_
                refine wpCalm_step _ (fun V hV => calm_run (run_mv (v := .int _ _) rfl rfl)) ?_; (try simp only [Act.put, List.setIfInBounds_toArray, List.set_cons_zero, List.set_cons_succ]); refine wpCalm_step _ (fun V hV => calm_run (run_mv (v := .int _ _) rfl rfl)) ?_; (try simp only [Act.put, List.setIfInBounds_toArray, List.set_cons_zero, List.set_cons_succ]); refine wpCalm_step _ (fun V hV => calm_run (run_mv (v := .int _ _) rfl rfl)) ?_; (try simp only [Act.put, List.setIfInBounds_toArray, List.set_cons_zero, List.set_cons_succ])
                refine wpCalm_step _ (fun V hV => calm_run (run_subN (b := 8) rfl rfl rfl (by omega) (by omega))) ?_; (try simp only [Act.put, List.setIfInBounds_toArray, List.set_cons_zero, List.set_cons_succ])
                refine wpCalm_step _ (fun V hV => calm_run (run_mv (v := .int _ _) rfl rfl)) ?_; (try simp only [Act.put, List.setIfInBounds_toArray, List.set_cons_zero, List.set_cons_succ])
                refine wpCalm_step _ (fun V hV => calm_run (run_ixN (s := 4) rfl Tryd.underlying76 (by kernel_rfl) rfl rfl (by omega))) ?_; (try simp only [Act.put, List.setIfInBounds_toArray, List.set_cons_zero, List.set_cons_succ])
                refine wpCalm_step _ (fun V hV => calm_run (run_ixa rfl Tryd.underlying75 (by kernel_rfl) rfl rfl (by omega))) ?_; (try simp only [Act.put, List.setIfInBounds_toArray, List.set_cons_zero, List.set_cons_succ])
                refine wpCalm_step _ (fun V hV => calm_run (run_ld8 rfl rfl (C1.out V hV))) ?_; (try simp only [Act.put, List.setIfInBounds_toArray, List.set_cons_zero, List.set_cons_succ])
                refine wpCalm_step _ (fun V hV => calm_run (run_mv (v := .int _ _) rfl rfl)) ?_; (try simp only [Act.put, List.setIfInBounds_toArray, List.set_cons_zero, List.set_cons_succ])
                refine wpCalm_step _ (fun V hV => calm_run (run_ix0 rfl Tryd.underlying75 (by kernel_rfl) rfl rfl (by omega))) ?_; (try simp only [Act.put, List.setIfInBounds_toArray, List.set_cons_zero, List.set_cons_succ])
                refine wpCalm_step _ (fun V hV => calm_run (run_ld8 rfl rfl (C2.out V hV))) ?_; (try simp only [Act.put, List.setIfInBounds_toArray, List.set_cons_zero, List.set_cons_succ])
                refine wpCalm_step _ (fun V hV => calm_run (run_xor8 rfl rfl rfl)) ?_; (try simp only [Act.put, List.setIfInBounds_toArray, List.set_cons_zero, List.set_cons_succ])
                refine wpCalm_step _ (fun V hV => calm_run (run_ixN (s := 4) rfl Tryd.underlying76 (by kernel_rfl) rfl rfl (by omega))) ?_; (try simp only [Act.put, List.setIfInBounds_toArray, List.set_cons_zero, List.set_cons_succ])
                refine wpCalm_done ?_; intro b6 hb; simp only [List.drop_succ_cons, List.drop_zero]
                replace hM := Lib.hid (hM.out.below hb)
                clear hb C1 C2
                refine wpList_val (run_ixa rfl Tryd.underlying75 (by kernel_rfl) rfl rfl (by omega)) rfl ?_; (try simp only [Act.put, List.setIfInBounds_toArray, List.set_cons_zero, List.set_cons_succ])
                rw [← EJ, show 0 + i * 4 + k = 4 * i + k by omega]
                refine wpList_skip (run_st8 rfl rfl rfl ((hM.out.get (i := 1) rfl).get8 (by omega)) ((hM.out.get (i := 1) rfl).f _)) rfl rfl ?_
                refine wpList_end ?_
                replace hM : Hid (Ms w [(g4, T), (g3, upd f Z (4 * i + (k + 1))), (g2, Z), (g1, key)] (b6.setCell ⟨g3, 4 * i + k, none⟩ (b8 (f (4 * i + k))))) := Lib.hid (by rw [← Nat.add_assoc, ← upd_set (by omega)]; exact hM.out.set 1 rfl (by omega) _)
                generalize b6.setCell ⟨g3, 4 * i + k, none⟩ (b8 (f (4 * i + k))) = b7 at *
                go_wp2_with fail
                go_roundw
                case rel => exact ⟨k + 1, by omega, by go_num, hM.out⟩
                case measure => simp [intOf]; omega
    · have hk1 : (c : Int) < 8 := by omega
      have hul := upd_len f Z (4 * c)
      have hml : ((key.drop (4 * c)).take 4).length = 4 := by rw [List.length_take, List.length_drop]; omega
      have HN : Hid ((upd f Z (4 * c)).take (4 * c) ++ ((key.drop (4 * c)).take 4 ++ (upd f Z (4 * c)).drop (4 * c + 4)) = upd f Z (4 * (c + 1))) := Lib.hid (upd_four hml (by omega) fun i hi => by rw [getD_takeB hi, getD_dropB, EK.out _ (by omega)])
      go_upto_region 4 with fail; refine wp_region_lit ?_
      refine wpList_val (run_mv (v := .int _ _) rfl rfl) rfl ?_; (try simp only [Act.put, List.setIfInBounds_toArray, List.set_cons_zero, List.set_cons_succ]); refine wpList_val (run_asg (v := .int _ _) rfl rfl) rfl ?_; (try simp only [Act.put, List.setIfInBounds_toArray, List.set_cons_zero, List.set_cons_succ])
      refine wpList_end ?_
      go_upto_region 5 with fail; refine wp_region_calm 6 (by kernel_rfl) (by kernel_rfl) ?_
      refine wpCalm_step _ (fun V hV => calm_run (run_mv (v := .int _ _) rfl rfl)) ?_; (try simp only [Act.put, List.setIfInBounds_toArray, List.set_cons_zero, List.set_cons_succ])
      refine wpCalm_step _ (fun V hV => calm_run (run_ixN (s := 4) rfl Tryd.underlying76 (by kernel_rfl) rfl rfl (by omega))) ?_; (try simp only [Act.put, List.setIfInBounds_toArray, List.set_cons_zero, List.set_cons_succ])
      refine wpCalm_step _ (fun V hV => calm_run (run_slA rfl Tryd.underlying75 (by kernel_rfl) rfl)) ?_; (try simp only [Act.put, List.setIfInBounds_toArray, List.set_cons_zero, List.set_cons_succ])
      refine wpCalm_step _ (fun V hV => calm_run (run_mv (v := .int _ _) rfl rfl)) ?_; (try simp only [Act.put, List.setIfInBounds_toArray, List.set_cons_zero, List.set_cons_succ])
      refine wpCalm_step _ (fun V hV => calm_run (run_mulN (a := 4) rfl rfl rfl (by omega))) ?_; (try simp only [Act.put, List.setIfInBounds_toArray, List.set_cons_zero, List.set_cons_succ])
      refine wpCalm_step _ (fun V hV => calm_run (run_slAl rfl Tryd.underlying29 (by kernel_rfl) rfl rfl (by omega))) ?_; (try simp only [Act.put, List.setIfInBounds_toArray, List.set_cons_zero, List.set_cons_succ])
      refine wpCalm_done ?_; intro b6 hb; simp only [List.drop_succ_cons, List.drop_zero]
      replace hM := Lib.hid (hM.out.below hb)
      clear hb
      rw [Nat.zero_add (c * 4), Nat.zero_add (4 * c), Nat.mul_comm c 4]
      have HS : Hid (Sl (.slice (some ⟨g1, 4 * c, none⟩) (32 - 4 * c) (32 - 4 * c)) (key.drop (4 * c)) b6) := Lib.hid (Sl.at (hM.out.get (i := 2) rfl) (by rw [List.length_drop]; omega) (fun i _ => getD_dropB) (by rw [List.length_drop, hK]))
      refine wpList_val (run_cpyG (l := key.drop (4 * c)) rfl rfl rfl HS.out (hM.out.get (i := 0) rfl) (by rw [hml, List.length_map, hul]; omega)) rfl ?_; (try simp only [Act.put, List.setIfInBounds_toArray, List.set_cons_zero, List.set_cons_succ])
      generalize (key.drop (4 * c)).take 4 = m at *
      refine wpList_end ?_
      replace hM : Hid (Ms w [(g3, upd f Z (4 * (c + 1))), (g2, Z), (g1, key)] (b6.setCells g3 (4 * c) (m.map b8))) := Lib.hid (by
        have := hM.out.mid 0 rfl (f := 4 * c) (m := m) (by omega)
        rw [hml, HN.out] at this
        exact this)
      generalize b6.setCells g3 (4 * c) (m.map b8) = b7 at *
      clear HS HN
      go_wp2_with fail
      go_roundw
      case rel => exact ⟨c + 1, by omega, by go_num, hM.out⟩
      case measure => simp [intOf]; omega
theorem enters_schedule : Enters 41 := enters_of Tryd.func41 (by kernel_rfl) rfl
end Go.Proofs.YtobpgolchlgpfaaDoor
