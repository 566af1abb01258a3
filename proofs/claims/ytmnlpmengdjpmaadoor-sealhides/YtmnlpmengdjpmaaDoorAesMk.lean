/- What aes.makeCipher does. -/
import Derived.Test.YtmnlpmengdjpmaaDoorAesKey
namespace Go.Proofs.YtmnlpmengdjpmaaDoor
open Go.RowKit
set_option maxRecDepth 20000

theorem fill_one {place : Nat → Option (Nat × Nat)} {z : Array Value} {vs : List Value} (hp : place 0 = some (0, vs.length)) (hz : vs.length ≤ z.size) : Instr.fill place z [(0, .agg vs.toArray)] = some (vs ++ z.toList.drop vs.length).toArray := by
  have hf := fold_fill vs 0 z (by omega)
  rw [List.take_zero, List.nil_append, Nat.zero_add] at hf
  unfold Instr.fill
  rw [hp]
  have hs : (vs.toArray.zipIdx.foldl (fun cs (c, j) => cs.setIfInBounds (0 + j) c) z) = (vs ++ z.toList.drop vs.length).toArray := by
    rw [← Array.foldl_toList, Array.toList_zipIdx]; exact hf
  simp only [Value.cells, List.size_toArray]
  rw [if_neg (by simp; omega), hs, Instr.fill]
theorem built_struct {P : Program} {t : TypeId} {fs : Array Field} {it : TypeInfo} {z : Value} {places : List (Nat × Nat)} (hit : P.info? t = some it) (hu : P.underlying t = some (.struct fs)) (hz : it.zero = some z) (hp : fs.toList.mapM (fun f => (P.info? f.type).map fun i => (f.offset, i.size)) = some places) (parts : List (Nat × Value)) :
    P.built t parts = Instr.fill (places.toArray[·]?) z.cells parts := by
  unfold Program.built
  rw [hit, hu]
  simp only [hz, hp]
theorem built_cipher {l : List (BitVec 8)} (hl : l.length = 512) : Tryd.prog.built 73 [(0, .agg (l.map b8).toArray)] = some ((l ++ List.replicate 240 0).map b8).toArray := by
  have h1 : (Tryd.prog.info? 73).map (·.zero) = some (some (.agg (z8 752).toArray)) := by kernel_rfl
  obtain ⟨it, hit, hz⟩ := Option.map_eq_some_iff.1 h1
  have hzl : (z8 752).length = 752 := by unfold z8; rw [List.length_map, List.length_replicate]
  rw [built_struct hit Tryd.underlying73 hz (places := [(0, 512), (512, 240)]) (by kernel_rfl)]
  rw [fill_one (z := (Value.agg (z8 752).toArray).cells) (vs := l.map b8) (by rw [List.length_map, hl]; rfl) (by rw [List.length_map, hl]; show 512 ≤ (z8 752).toArray.size; rw [List.size_toArray, hzl]; omega)]
  congr 1
  show (l.map b8 ++ (z8 752).drop (l.map b8).length).toArray = _
  rw [List.length_map, hl, z8, ← List.map_drop, List.drop_replicate, List.map_append]
theorem run_bld1 {w : World} {ρ : Operand → Value} {o : Oper} {t : TypeId} {x : Operand} {i : Nat} {v : Value} {cells : Array Value} (ho : o.op = .build t #[(i, x)]) (hx : ρ x = v) (h : Tryd.prog.built t [(i, v)] = some cells) : (execOp ρ o).run Tryd.prog w = .ok (.value (.agg cells)) w :=
  run_bld ho (by
    have e : ((#[(i, x)] : Array (Nat × Operand)).map fun (i, x) => (i, ρ x)).toList = [(i, v)] := by simp [hx]
    rw [e]; exact h)
set_option maxRecDepth 20000 in
set_option maxHeartbeats 4000000 in
theorem makeCipher_any (key : List (BitVec 8)) (w : World) (hK : key.length = 32) : Calls Tryd.prog 26 #[.agg (key.map b8).toArray] w fun e w' => ∃ v, e = .returned v ∧ (∃ g, v = .pointer (some ⟨g, 0, none⟩) ∧ w.heap.size ≤ g ∧ Arr g ((boxT ++ sched key).map b8) w' ∧ Below w.heap.size w w') := by
  have hM := Lib.hid (Ms.nil w)
  have hsl := sched_len hK
  obtain ⟨T, hT⟩ : ∃ T, T = boxT := ⟨_, rfl⟩
  have hbl : T.length = 512 := by rw [hT, boxT_len]
  have EB := Lib.hid (built_cipher hbl)
  have HMB : Hid (∀ w, Calls Tryd.prog 40 #[] w fun e w' => e = .returned (.agg (T.map b8).toArray) ∧ Below w.heap.size w w') := Lib.hid fun w => by rw [hT]; exact makeBoxes_any w
  have HSC : Hid (∀ (g : Nat) (R : List (BitVec 8)) (w : World), Arr g ((T ++ R).map b8) w → Calls Tryd.prog 41 #[.pointer (some ⟨g, 0, none⟩), .agg (key.map b8).toArray] w fun e w' => e = .returned (.agg ((sched key).map b8).toArray) ∧ Below w.heap.size w w') := Lib.hid fun g R w h => schedule_any g R key w (by rw [← hT]; exact h) hK
  have ET : Hid (boxT = T) := Lib.hid hT.symm
  clear hT
  obtain ⟨f, hf⟩ : ∃ f : Nat → BitVec 8, f = fun j => (T ++ sched key).getD j 0 := ⟨_, rfl⟩
  have EK : Hid (∀ j, j < 240 → f (512 + j) = (sched key).getD j 0) := Lib.hid fun j hj => by
    rw [hf]
    show (T ++ sched key).getD (512 + j) 0 = _
    rw [getD_app2 (by omega), hbl, Nat.add_sub_cancel_left]
  have E0 : Hid (upd f (T ++ List.replicate 240 0) (512 + 4 * 0) = T ++ List.replicate 240 0) := Lib.hid (upd_same fun i hi => by
    rw [hf]
    show (T ++ sched key).getD i 0 = _
    rw [getD_app (by omega), getD_app (by omega)])
  have EA : Hid (upd f (T ++ List.replicate 240 0) 752 = T ++ sched key) := Lib.hid (by
    rw [upd_all (n := 752) (by rw [List.length_append, hbl, List.length_replicate]), hf, tab_self (by rw [List.length_append, hbl, hsl])])
  have hzl : (T ++ List.replicate 240 0).length = 752 := by rw [List.length_append, hbl, List.length_replicate]
  clear hf
  go_enter Tryd.func26, Tryd.ntmps26
  go_upto_region 0 with fail; refine wp_region_lit ?_
  refine wpList_val (run_box rfl rfl) rfl ?_; (try simp only [Act.put, List.setIfInBounds_toArray, List.set_cons_zero, List.set_cons_succ]); replace hM := Lib.hid (hM.out.new (key) 29); generalize w.alloc (.cells ((key).map b8).toArray 29) = a1 at *; generalize w.heap.size = g1 at *
  refine wpList_val (run_asg (v := .pointer none) rfl rfl) rfl ?_; (try simp only [Act.put, List.setIfInBounds_toArray, List.set_cons_zero, List.set_cons_succ])
  refine wpList_end ?_
  go_upto_region 1 with fail; refine wp_region_lit ?_
  refine wpList_enter (run_call0 enters_makeBoxes rfl rfl) rfl (HMB.out _) (fun a2 hb => ?_); (try simp only [Act.put, List.setIfInBounds_toArray, List.set_cons_zero, List.set_cons_succ])
  replace hM := Lib.hid (hM.out.below hb)
  clear hb
  refine wpList_val (run_bld1 rfl rfl EB.out) rfl ?_; (try simp only [Act.put, List.setIfInBounds_toArray, List.set_cons_zero, List.set_cons_succ])
  clear EB
  refine wpList_val (run_alc (vs := z8 752) rfl (by kernel_rfl)) rfl ?_; (try simp only [Act.put, List.setIfInBounds_toArray, List.set_cons_zero, List.set_cons_succ]); replace hM := Lib.hid (hM.out.newZ 752 73); generalize a2.alloc (.cells (z8 752).toArray 73) = a3 at *; generalize a2.heap.size = g2 at *
  refine wpList_skip (run_stA (vs := (T ++ List.replicate 240 0).map b8) rfl (sz szCipher hzl) rfl rfl (oneB _) ((hM.out.get (i := 0) rfl).there8 (by rw [hzl, List.length_replicate]))) rfl rfl ?_
  refine wpList_end ?_
  replace hM : Hid (Ms w [(g2, T ++ List.replicate 240 0), (g1, key)] (a3.setCells g2 0 ((T ++ List.replicate 240 0).map b8))) := Lib.hid (hM.out.put 0 rfl (by rw [hzl, List.length_replicate]))
  generalize a3.setCells g2 0 ((T ++ List.replicate 240 0).map b8) = a4 at *
  go_upto_region 2 with fail; refine wp_region_lit ?_
  refine wpList_val (run_fad (s := 511) (k := 0) rfl Tryd.underlying73 rfl (by kernel_rfl) rfl rfl) rfl ?_; (try simp only [Act.put, List.setIfInBounds_toArray, List.set_cons_zero, List.set_cons_succ])
  refine wpList_val (run_ldM (vs := key.map b8) rfl Tryd.underlying29 rfl (sz szKey hK) rfl (hM.out.get (i := 1) rfl).range) rfl ?_; (try simp only [Act.put, List.setIfInBounds_toArray, List.set_cons_zero, List.set_cons_succ])
  refine wpList_enter (run_call2 enters_schedule rfl rfl rfl rfl) rfl (HSC.out g2 (List.replicate 240 0) _ (hM.out.get (i := 0) rfl)) (fun a5 hb => ?_); (try simp only [Act.put, List.setIfInBounds_toArray, List.set_cons_zero, List.set_cons_succ])
  replace hM := Lib.hid (hM.out.below hb)
  clear hb
  refine wpList_val (run_alc (vs := z8 240) rfl (by kernel_rfl)) rfl ?_; (try simp only [Act.put, List.setIfInBounds_toArray, List.set_cons_zero, List.set_cons_succ]); replace hM := Lib.hid (hM.out.newZ 240 76); generalize a5.alloc (.cells (z8 240).toArray 76) = a6 at *; generalize a5.heap.size = g3 at *
  generalize hW : sched key = W at *
  have EW := Lib.hid hW; clear hW
  refine wpList_skip (run_stA (vs := W.map b8) rfl (sz szWords hsl) rfl rfl (oneB _) ((hM.out.get (i := 0) rfl).there8 (by rw [hsl, List.length_replicate]))) rfl rfl ?_
  refine wpList_end ?_
  generalize T ++ List.replicate 240 0 = Z at *
  replace hM : Hid (Ms w [(g3, W), (g2, upd f Z (512 + 4 * 0)), (g1, key)] (a6.setCells g3 0 (W.map b8))) := Lib.hid (by rw [E0.out]; exact hM.out.put 0 rfl (by rw [hsl, List.length_replicate]))
  generalize a6.setCells g3 0 (W.map b8) = a7 at *
  clear E0
  go_wp2_with fail
  go_loopw [11] (fun s u => ∃ i : Nat, i ≤ 60 ∧ s = .int .i64 (i : Int) ∧ Ms w [(g3, W), (g2, upd f Z (512 + 4 * i)), (g1, key)] u) (fun s _ => (60 - intOf s).toNat)
  case atStart => exact ⟨0, by omega, rfl, hM.out⟩
  case round =>
    obtain ⟨i, hi, rfl, hJ⟩ := hrel
    replace hM := Lib.hid hJ
    clear hJ
    by_cases hlt : i = 60
    · subst hlt
      have hk1 : ¬ (((60 : Nat) : Int) < 60) := by omega
      rw [show 512 + 4 * 60 = 752 from rfl, EA.out] at hM
      go_upto_region 8 with fail; refine wp_region_lit ?_
      refine wpList_val (run_asg (v := .pointer (some _)) rfl rfl) rfl ?_; (try simp only [Act.put, List.setIfInBounds_toArray, List.set_cons_zero, List.set_cons_succ])
      refine wpList_end ?_
      go_wp2_with fail
      refine bodyPost_ret (results_tmp Tryd.results26 _ _ _) rfl ⟨_, rfl, g2, rfl, hM.out.ge (i := 1) rfl, ?_, hM.out.bl⟩
      rw [ET.out, EW.out, ← List.map_append]; exact hM.out.get (i := 1) rfl
    · have hk1 : (i : Int) < 60 := by omega
      have hul := upd_len f Z (512 + 4 * i)
      have hml : ((W.drop (4 * i)).take 4).length = 4 := by rw [List.length_take, List.length_drop]; omega
      have HN : Hid ((upd f Z (512 + 4 * i)).take (512 + 4 * i) ++ ((W.drop (4 * i)).take 4 ++ (upd f Z (512 + 4 * i)).drop (512 + 4 * i + 4)) = upd f Z (512 + 4 * (i + 1))) := Lib.hid (upd_four hml (by omega) fun j hj => by rw [getD_takeB hj, getD_dropB, Nat.add_assoc, EK.out _ (by omega)])
      have HG : Hid (∀ j, j < ((W.drop (4 * i)).take 4).length → ((W.drop (4 * i)).take 4).getD j 0 = W.getD (4 * i + j) 0) := Lib.hid fun j hj => by rw [hml] at hj; rw [getD_takeB hj, getD_dropB]
      generalize (W.drop (4 * i)).take 4 = m at *
      go_upto_region 5 with fail; refine wp_region_lit ?_
      (repeat ((first | refine wpList_val (run_mv (v := b32 _) rfl rfl) rfl ?_ | refine wpList_val (run_mv (v := b64 _) rfl rfl) rfl ?_ | refine wpList_val (run_mv (v := b8 _) rfl rfl) rfl ?_ | refine wpList_val (run_mv (v := .int _ _) rfl rfl) rfl ?_ | refine wpList_val (run_mv (v := .bool _) rfl rfl) rfl ?_ | refine wpList_val (run_mv (v := .slice (some _) _ _) rfl rfl) rfl ?_ | refine wpList_val (run_mv (v := .slice _ _ _) rfl rfl) rfl ?_ | refine wpList_val (run_mv (v := .pointer (some _)) rfl rfl) rfl ?_ | refine wpList_val (run_mv (v := .agg _) rfl rfl) rfl ?_ | refine wpList_val (run_asg (v := b32 _) rfl rfl) rfl ?_ | refine wpList_val (run_asg (v := b64 _) rfl rfl) rfl ?_ | refine wpList_val (run_asg (v := b8 _) rfl rfl) rfl ?_ | refine wpList_val (run_asg (v := .int _ _) rfl rfl) rfl ?_ | refine wpList_val (run_asg (v := .bool _) rfl rfl) rfl ?_ | refine wpList_val (run_asg (v := .slice (some _) _ _) rfl rfl) rfl ?_ | refine wpList_val (run_asg (v := .slice _ _ _) rfl rfl) rfl ?_ | refine wpList_val (run_asg (v := .pointer (some _)) rfl rfl) rfl ?_ | refine wpList_val (run_asg (v := .agg _) rfl rfl) rfl ?_ | refine wpList_val (run_mv rfl rfl) rfl ?_ | refine wpList_val (run_asg rfl rfl) rfl ?_ | refine wpList_val (run_xor32 rfl rfl rfl) rfl ?_ | refine wpList_val (run_and32 rfl rfl rfl) rfl ?_ | refine wpList_val (run_or32 rfl rfl rfl) rfl ?_ | refine wpList_val (run_add32 rfl rfl rfl) rfl ?_ | refine wpList_val (run_not32 rfl rfl) rfl ?_ | refine wpList_val (run_xor64 rfl rfl rfl) rfl ?_ | refine wpList_val (run_and64 rfl rfl rfl) rfl ?_ | refine wpList_val (run_or64 rfl rfl rfl) rfl ?_ | refine wpList_val (run_add64 rfl rfl rfl) rfl ?_ | refine wpList_val (run_not64 rfl rfl) rfl ?_ | refine wpList_val (run_xor8 rfl rfl rfl) rfl ?_ | refine wpList_val (run_and8 rfl rfl rfl) rfl ?_ | refine wpList_val (run_or8 rfl rfl rfl) rfl ?_ | refine wpList_val (run_add8 rfl rfl rfl) rfl ?_ | refine wpList_val (run_not8 rfl rfl) rfl ?_ | refine wpList_val (run_cv64_32 rfl rfl) rfl ?_ | refine wpList_val (run_cv8_32 rfl rfl) rfl ?_ | refine wpList_val (run_cv8_64 rfl rfl) rfl ?_ | refine wpList_val (run_cv32_8 rfl rfl) rfl ?_ | refine wpList_val (run_cv64_8 rfl rfl) rfl ?_); (try simp only [Act.put, List.setIfInBounds_toArray, List.set_cons_zero, List.set_cons_succ])))
      refine wpList_end ?_
      go_upto_region 6 with fail; refine wp_region_calm 11 (by kernel_rfl) (by kernel_rfl) ?_
      (repeat ((first | refine wpCalm_step _ (fun V hV => calm_run (run_mv (v := b32 _) rfl rfl)) ?_ | refine wpCalm_step _ (fun V hV => calm_run (run_mv (v := b64 _) rfl rfl)) ?_ | refine wpCalm_step _ (fun V hV => calm_run (run_mv (v := b8 _) rfl rfl)) ?_ | refine wpCalm_step _ (fun V hV => calm_run (run_mv (v := .int _ _) rfl rfl)) ?_ | refine wpCalm_step _ (fun V hV => calm_run (run_mv (v := .bool _) rfl rfl)) ?_ | refine wpCalm_step _ (fun V hV => calm_run (run_mv (v := .slice (some _) _ _) rfl rfl)) ?_ | refine wpCalm_step _ (fun V hV => calm_run (run_mv (v := .slice _ _ _) rfl rfl)) ?_ | refine wpCalm_step _ (fun V hV => calm_run (run_mv (v := .pointer (some _)) rfl rfl)) ?_ | refine wpCalm_step _ (fun V hV => calm_run (run_mv (v := .agg _) rfl rfl)) ?_ | refine wpCalm_step _ (fun V hV => calm_run (run_asg (v := b32 _) rfl rfl)) ?_ | refine wpCalm_step _ (fun V hV => calm_run (run_asg (v := b64 _) rfl rfl)) ?_ | refine wpCalm_step _ (fun V hV => calm_run (run_asg (v := b8 _) rfl rfl)) ?_ | refine wpCalm_step _ (fun V hV => calm_run (run_asg (v := .int _ _) rfl rfl)) ?_ | refine wpCalm_step _ (fun V hV => calm_run (run_asg (v := .bool _) rfl rfl)) ?_ | refine wpCalm_step _ (fun V hV => calm_run (run_asg (v := .slice (some _) _ _) rfl rfl)) ?_ | refine wpCalm_step _ (fun V hV => calm_run (run_asg (v := .slice _ _ _) rfl rfl)) ?_ | refine wpCalm_step _ (fun V hV => calm_run (run_asg (v := .pointer (some _)) rfl rfl)) ?_ | refine wpCalm_step _ (fun V hV => calm_run (run_asg (v := .agg _) rfl rfl)) ?_ | refine wpCalm_step _ (fun V hV => calm_run (run_mv rfl rfl)) ?_ | refine wpCalm_step _ (fun V hV => calm_run (run_asg rfl rfl)) ?_ | refine wpCalm_step _ (fun V hV => calm_run (run_xor32 rfl rfl rfl)) ?_ | refine wpCalm_step _ (fun V hV => calm_run (run_and32 rfl rfl rfl)) ?_ | refine wpCalm_step _ (fun V hV => calm_run (run_or32 rfl rfl rfl)) ?_ | refine wpCalm_step _ (fun V hV => calm_run (run_add32 rfl rfl rfl)) ?_ | refine wpCalm_step _ (fun V hV => calm_run (run_not32 rfl rfl)) ?_ | refine wpCalm_step _ (fun V hV => calm_run (run_xor64 rfl rfl rfl)) ?_ | refine wpCalm_step _ (fun V hV => calm_run (run_and64 rfl rfl rfl)) ?_ | refine wpCalm_step _ (fun V hV => calm_run (run_or64 rfl rfl rfl)) ?_ | refine wpCalm_step _ (fun V hV => calm_run (run_add64 rfl rfl rfl)) ?_ | refine wpCalm_step _ (fun V hV => calm_run (run_not64 rfl rfl)) ?_ | refine wpCalm_step _ (fun V hV => calm_run (run_xor8 rfl rfl rfl)) ?_ | refine wpCalm_step _ (fun V hV => calm_run (run_and8 rfl rfl rfl)) ?_ | refine wpCalm_step _ (fun V hV => calm_run (run_or8 rfl rfl rfl)) ?_ | refine wpCalm_step _ (fun V hV => calm_run (run_add8 rfl rfl rfl)) ?_ | refine wpCalm_step _ (fun V hV => calm_run (run_not8 rfl rfl)) ?_ | refine wpCalm_step _ (fun V hV => calm_run (run_cv64_32 rfl rfl)) ?_ | refine wpCalm_step _ (fun V hV => calm_run (run_cv8_32 rfl rfl)) ?_ | refine wpCalm_step _ (fun V hV => calm_run (run_cv8_64 rfl rfl)) ?_ | refine wpCalm_step _ (fun V hV => calm_run (run_cv32_8 rfl rfl)) ?_ | refine wpCalm_step _ (fun V hV => calm_run (run_cv64_8 rfl rfl)) ?_); (try simp only [Act.put, List.setIfInBounds_toArray, List.set_cons_zero, List.set_cons_succ])))
      refine wpCalm_step _ (fun V hV => calm_run (run_quoN (b := 4) rfl rfl rfl (by omega) (by omega))) ?_; (try simp only [Act.put, List.setIfInBounds_toArray, List.set_cons_zero, List.set_cons_succ])
      refine wpCalm_step _ (fun V hV => calm_run (run_fad (s := 239) (k := 512) rfl Tryd.underlying73 rfl (by kernel_rfl) rfl rfl)) ?_; (try simp only [Act.put, List.setIfInBounds_toArray, List.set_cons_zero, List.set_cons_succ])
      refine wpCalm_step _ (fun V hV => calm_run (run_ixN (s := 16) rfl Tryd.underlying71 (by kernel_rfl) rfl rfl (by omega))) ?_; (try simp only [Act.put, List.setIfInBounds_toArray, List.set_cons_zero, List.set_cons_succ])
      (repeat ((first | refine wpCalm_step _ (fun V hV => calm_run (run_mv (v := b32 _) rfl rfl)) ?_ | refine wpCalm_step _ (fun V hV => calm_run (run_mv (v := b64 _) rfl rfl)) ?_ | refine wpCalm_step _ (fun V hV => calm_run (run_mv (v := b8 _) rfl rfl)) ?_ | refine wpCalm_step _ (fun V hV => calm_run (run_mv (v := .int _ _) rfl rfl)) ?_ | refine wpCalm_step _ (fun V hV => calm_run (run_mv (v := .bool _) rfl rfl)) ?_ | refine wpCalm_step _ (fun V hV => calm_run (run_mv (v := .slice (some _) _ _) rfl rfl)) ?_ | refine wpCalm_step _ (fun V hV => calm_run (run_mv (v := .slice _ _ _) rfl rfl)) ?_ | refine wpCalm_step _ (fun V hV => calm_run (run_mv (v := .pointer (some _)) rfl rfl)) ?_ | refine wpCalm_step _ (fun V hV => calm_run (run_mv (v := .agg _) rfl rfl)) ?_ | refine wpCalm_step _ (fun V hV => calm_run (run_asg (v := b32 _) rfl rfl)) ?_ | refine wpCalm_step _ (fun V hV => calm_run (run_asg (v := b64 _) rfl rfl)) ?_ | refine wpCalm_step _ (fun V hV => calm_run (run_asg (v := b8 _) rfl rfl)) ?_ | refine wpCalm_step _ (fun V hV => calm_run (run_asg (v := .int _ _) rfl rfl)) ?_ | refine wpCalm_step _ (fun V hV => calm_run (run_asg (v := .bool _) rfl rfl)) ?_ | refine wpCalm_step _ (fun V hV => calm_run (run_asg (v := .slice (some _) _ _) rfl rfl)) ?_ | refine wpCalm_step _ (fun V hV => calm_run (run_asg (v := .slice _ _ _) rfl rfl)) ?_ | refine wpCalm_step _ (fun V hV => calm_run (run_asg (v := .pointer (some _)) rfl rfl)) ?_ | refine wpCalm_step _ (fun V hV => calm_run (run_asg (v := .agg _) rfl rfl)) ?_ | refine wpCalm_step _ (fun V hV => calm_run (run_mv rfl rfl)) ?_ | refine wpCalm_step _ (fun V hV => calm_run (run_asg rfl rfl)) ?_ | refine wpCalm_step _ (fun V hV => calm_run (run_xor32 rfl rfl rfl)) ?_ | refine wpCalm_step _ (fun V hV => calm_run (run_and32 rfl rfl rfl)) ?_ | refine wpCalm_step _ (fun V hV => calm_run (run_or32 rfl rfl rfl)) ?_ | refine wpCalm_step _ (fun V hV => calm_run (run_add32 rfl rfl rfl)) ?_ | refine wpCalm_step _ (fun V hV => calm_run (run_not32 rfl rfl)) ?_ | refine wpCalm_step _ (fun V hV => calm_run (run_xor64 rfl rfl rfl)) ?_ | refine wpCalm_step _ (fun V hV => calm_run (run_and64 rfl rfl rfl)) ?_ | refine wpCalm_step _ (fun V hV => calm_run (run_or64 rfl rfl rfl)) ?_ | refine wpCalm_step _ (fun V hV => calm_run (run_add64 rfl rfl rfl)) ?_ | refine wpCalm_step _ (fun V hV => calm_run (run_not64 rfl rfl)) ?_ | refine wpCalm_step _ (fun V hV => calm_run (run_xor8 rfl rfl rfl)) ?_ | refine wpCalm_step _ (fun V hV => calm_run (run_and8 rfl rfl rfl)) ?_ | refine wpCalm_step _ (fun V hV => calm_run (run_or8 rfl rfl rfl)) ?_ | refine wpCalm_step _ (fun V hV => calm_run (run_add8 rfl rfl rfl)) ?_ | refine wpCalm_step _ (fun V hV => calm_run (run_not8 rfl rfl)) ?_ | refine wpCalm_step _ (fun V hV => calm_run (run_cv64_32 rfl rfl)) ?_ | refine wpCalm_step _ (fun V hV => calm_run (run_cv8_32 rfl rfl)) ?_ | refine wpCalm_step _ (fun V hV => calm_run (run_cv8_64 rfl rfl)) ?_ | refine wpCalm_step _ (fun V hV => calm_run (run_cv32_8 rfl rfl)) ?_ | refine wpCalm_step _ (fun V hV => calm_run (run_cv64_8 rfl rfl)) ?_); (try simp only [Act.put, List.setIfInBounds_toArray, List.set_cons_zero, List.set_cons_succ])))
      refine wpCalm_step _ (fun V hV => calm_run (run_remN (b := 4) rfl rfl rfl (by omega))) ?_; (try simp only [Act.put, List.setIfInBounds_toArray, List.set_cons_zero, List.set_cons_succ])
      refine wpCalm_step _ (fun V hV => calm_run (run_mulN (a := 4) rfl rfl rfl (by omega))) ?_; (try simp only [Act.put, List.setIfInBounds_toArray, List.set_cons_zero, List.set_cons_succ])
      refine wpCalm_step _ (fun V hV => calm_run (run_slAl rfl Tryd.underlying55 (by kernel_rfl) rfl rfl (by omega))) ?_; (try simp only [Act.put, List.setIfInBounds_toArray, List.set_cons_zero, List.set_cons_succ])
      (repeat ((first | refine wpCalm_step _ (fun V hV => calm_run (run_mv (v := b32 _) rfl rfl)) ?_ | refine wpCalm_step _ (fun V hV => calm_run (run_mv (v := b64 _) rfl rfl)) ?_ | refine wpCalm_step _ (fun V hV => calm_run (run_mv (v := b8 _) rfl rfl)) ?_ | refine wpCalm_step _ (fun V hV => calm_run (run_mv (v := .int _ _) rfl rfl)) ?_ | refine wpCalm_step _ (fun V hV => calm_run (run_mv (v := .bool _) rfl rfl)) ?_ | refine wpCalm_step _ (fun V hV => calm_run (run_mv (v := .slice (some _) _ _) rfl rfl)) ?_ | refine wpCalm_step _ (fun V hV => calm_run (run_mv (v := .slice _ _ _) rfl rfl)) ?_ | refine wpCalm_step _ (fun V hV => calm_run (run_mv (v := .pointer (some _)) rfl rfl)) ?_ | refine wpCalm_step _ (fun V hV => calm_run (run_mv (v := .agg _) rfl rfl)) ?_ | refine wpCalm_step _ (fun V hV => calm_run (run_asg (v := b32 _) rfl rfl)) ?_ | refine wpCalm_step _ (fun V hV => calm_run (run_asg (v := b64 _) rfl rfl)) ?_ | refine wpCalm_step _ (fun V hV => calm_run (run_asg (v := b8 _) rfl rfl)) ?_ | refine wpCalm_step _ (fun V hV => calm_run (run_asg (v := .int _ _) rfl rfl)) ?_ | refine wpCalm_step _ (fun V hV => calm_run (run_asg (v := .bool _) rfl rfl)) ?_ | refine wpCalm_step _ (fun V hV => calm_run (run_asg (v := .slice (some _) _ _) rfl rfl)) ?_ | refine wpCalm_step _ (fun V hV => calm_run (run_asg (v := .slice _ _ _) rfl rfl)) ?_ | refine wpCalm_step _ (fun V hV => calm_run (run_asg (v := .pointer (some _)) rfl rfl)) ?_ | refine wpCalm_step _ (fun V hV => calm_run (run_asg (v := .agg _) rfl rfl)) ?_ | refine wpCalm_step _ (fun V hV => calm_run (run_mv rfl rfl)) ?_ | refine wpCalm_step _ (fun V hV => calm_run (run_asg rfl rfl)) ?_ | refine wpCalm_step _ (fun V hV => calm_run (run_xor32 rfl rfl rfl)) ?_ | refine wpCalm_step _ (fun V hV => calm_run (run_and32 rfl rfl rfl)) ?_ | refine wpCalm_step _ (fun V hV => calm_run (run_or32 rfl rfl rfl)) ?_ | refine wpCalm_step _ (fun V hV => calm_run (run_add32 rfl rfl rfl)) ?_ | refine wpCalm_step _ (fun V hV => calm_run (run_not32 rfl rfl)) ?_ | refine wpCalm_step _ (fun V hV => calm_run (run_xor64 rfl rfl rfl)) ?_ | refine wpCalm_step _ (fun V hV => calm_run (run_and64 rfl rfl rfl)) ?_ | refine wpCalm_step _ (fun V hV => calm_run (run_or64 rfl rfl rfl)) ?_ | refine wpCalm_step _ (fun V hV => calm_run (run_add64 rfl rfl rfl)) ?_ | refine wpCalm_step _ (fun V hV => calm_run (run_not64 rfl rfl)) ?_ | refine wpCalm_step _ (fun V hV => calm_run (run_xor8 rfl rfl rfl)) ?_ | refine wpCalm_step _ (fun V hV => calm_run (run_and8 rfl rfl rfl)) ?_ | refine wpCalm_step _ (fun V hV => calm_run (run_or8 rfl rfl rfl)) ?_ | refine wpCalm_step _ (fun V hV => calm_run (run_add8 rfl rfl rfl)) ?_ | refine wpCalm_step _ (fun V hV => calm_run (run_not8 rfl rfl)) ?_ | refine wpCalm_step _ (fun V hV => calm_run (run_cv64_32 rfl rfl)) ?_ | refine wpCalm_step _ (fun V hV => calm_run (run_cv8_32 rfl rfl)) ?_ | refine wpCalm_step _ (fun V hV => calm_run (run_cv8_64 rfl rfl)) ?_ | refine wpCalm_step _ (fun V hV => calm_run (run_cv32_8 rfl rfl)) ?_ | refine wpCalm_step _ (fun V hV => calm_run (run_cv64_8 rfl rfl)) ?_); (try simp only [Act.put, List.setIfInBounds_toArray, List.set_cons_zero, List.set_cons_succ])))
      refine wpCalm_step _ (fun V hV => calm_run (run_ixN (s := 4) rfl Tryd.underlying76 (by kernel_rfl) rfl rfl (by omega))) ?_; (try simp only [Act.put, List.setIfInBounds_toArray, List.set_cons_zero, List.set_cons_succ])
      refine wpCalm_step _ (fun V hV => calm_run (run_slA rfl Tryd.underlying75 (by kernel_rfl) rfl)) ?_; (try simp only [Act.put, List.setIfInBounds_toArray, List.set_cons_zero, List.set_cons_succ])
      refine wpCalm_done ?_; intro b6 hb; simp only [List.drop_succ_cons, List.drop_zero]
      replace hM := Lib.hid (hM.out.below hb)
      clear hb
      rw [show 0 + 512 + i / 4 * 16 + 4 * (i % 4) = 512 + 4 * i by omega, show 0 + i * 4 = 4 * i by omega]
      have HS : Hid (Sl (.slice (some ⟨g3, 4 * i, none⟩) 4 4) m b6) := Lib.hid (Sl.at (hM.out.get (i := 0) rfl) (by omega) HG.out hml)
      have htk : m.take (16 - 4 * (i % 4)) = m := List.take_of_length_le (by omega)
      refine wpList_val (run_cpyG (l := m) rfl rfl rfl HS.out (hM.out.get (i := 1) rfl) (by rw [htk, hml, List.length_map, hul]; omega)) rfl ?_; (try simp only [Act.put, List.setIfInBounds_toArray, List.set_cons_zero, List.set_cons_succ])
      rw [htk]
      refine wpList_end ?_
      replace hM : Hid (Ms w [(g3, W), (g2, upd f Z (512 + 4 * (i + 1))), (g1, key)] (b6.setCells g2 (512 + 4 * i) (m.map b8))) := Lib.hid (by
        have := hM.out.mid 1 rfl (f := 512 + 4 * i) (m := m) (by omega)
        rw [hml, HN.out] at this
        exact this)
      generalize b6.setCells g2 (512 + 4 * i) (m.map b8) = b7 at *
      clear HS HN HG htk
      go_wp2_with fail
      go_roundw
      case rel => exact ⟨i + 1, by omega, by go_num, hM.out⟩
      case measure => simp [intOf]; omega
theorem enters_makeCipher : Enters 26 := enters_of Tryd.func26 (by kernel_rfl) rfl
end Go.Proofs.YtmnlpmengdjpmaaDoor
