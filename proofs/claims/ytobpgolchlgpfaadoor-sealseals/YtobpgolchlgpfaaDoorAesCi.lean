/- What aes.Block, Unblock and Counter do. -/
import Derived.Test.YtobpgolchlgpfaaDoorAesKey
import Derived.Test.YtobpgolchlgpfaaDoorAesHid
namespace Go.Proofs.YtobpgolchlgpfaaDoor
open Go.RowKit
set_option maxRecDepth 20000

theorem fill_one {place : Nat → Option (Nat × Nat)} {z : Array Value} {vs : List Value} (hp : place 0 = some (0, vs.length)) (hz : vs.length ≤ z.size) : Instr.fill place z [(0, .agg vs.toArray)] = some (vs ++ z.toList.drop vs.length).toArray := by
  have hf := fold_fill vs 0 z (by omega)
  rw [List.take_zero, List.nil_append, Nat.zero_add] at hf
  unfold Instr.fill
  rw [hp]
  have hs : (vs.toArray.zipIdx.foldl (fun cs (c, j) => cs.setIfInBounds (0 + j) c) z) = (vs ++ z.toList.drop vs.length).toArray := by
    rw [← Array.foldl_toList, Array.toList_zipIdx]; exact hf
  simp only [Value.cells, List.size_toArray]
  rw [if_neg (by simp; omega), hs, Instr.fill]
theorem built_struct {P : Program} {t : TypeId} {fs : Array Field} {it : TypeInfo} {z : Value} {places : List (Nat × Nat)} (hit : P.info? t = some it) (hu : P.underlying t = some (.struct fs)) (hz : it.zero = some z) (hp : fs.toList.mapM (fun f => (P.info? f.type).map fun i => (f.offset, i.size)) = some places) (parts : List (Nat × Value)) :
    P.built t parts = Instr.fill (places.toArray[·]?) z.cells parts := by
  unfold Program.built
  rw [hit, hu]
  simp only [hz, hp]
theorem built_cipher {l : List (BitVec 8)} (hl : l.length = 512) : Tryd.prog.built 73 [(0, .agg (l.map b8).toArray)] = some ((l ++ List.replicate 240 0).map b8).toArray := by
  have h1 : (Tryd.prog.info? 73).map (·.zero) = some (some (.agg (z8 752).toArray)) := by kernel_rfl
  obtain ⟨it, hit, hz⟩ := Option.map_eq_some_iff.1 h1
  have hzl : (z8 752).length = 752 := by unfold z8; rw [List.length_map, List.length_replicate]
  rw [built_struct hit Tryd.underlying73 hz (places := [(0, 512), (512, 240)]) (by kernel_rfl)]
  rw [fill_one (z := (Value.agg (z8 752).toArray).cells) (vs := l.map b8) (by rw [List.length_map, hl]; rfl) (by rw [List.length_map, hl]; show 512 ≤ (z8 752).toArray.size; rw [List.size_toArray, hzl]; omega)]
  congr 1
  show (l.map b8 ++ (z8 752).drop (l.map b8).length).toArray = _
  rw [List.length_map, hl, z8, ← List.map_drop, List.drop_replicate, List.map_append]
theorem run_bld1 {w : World} {ρ : Operand → Value} {o : Oper} {t : TypeId} {x : Operand} {i : Nat} {v : Value} {cells : Array Value} (ho : o.op = .build t #[(i, x)]) (hx : ρ x = v) (h : Tryd.prog.built t [(i, v)] = some cells) : (execOp ρ o).run Tryd.prog w = .ok (.value (.agg cells)) w :=
  run_bld ho (by
    have e : ((#[(i, x)] : Array (Nat × Operand)).map fun (i, x) => (i, ρ x)).toList = [(i, v)] := by simp [hx]
    rw [e]; exact h)
set_option maxRecDepth 20000 in
set_option maxHeartbeats 4000000 in
theorem makeCipher_any (key : List (BitVec 8)) (w : World) (hK : key.length = 32) : Calls Tryd.prog 26 #[.agg (key.map b8).toArray] w fun e w' => ∃ v, e = .returned v ∧ (∃ g, v = .pointer (some ⟨g, 0, none⟩) ∧ w.heap.size ≤ g ∧ Arr g ((boxT ++ sched key).map b8) w' ∧ Below w.heap.size w w') := by
  have hM := Lib.hid (Ms.nil w)
  have hsl := sched_len hK
  obtain ⟨T, hT⟩ : ∃ T, T = boxT := ⟨_, rfl⟩
  have hbl : T.length = 512 := by rw [hT, boxT_len]
  have EB := Lib.hid (built_cipher hbl)
  have HMB : Hid (∀ w, Calls Tryd.prog 40 #[] w fun e w' => e = .returned (.agg (T.map b8).toArray) ∧ Below w.heap.size w w') := Lib.hid fun w => by rw [hT]; exact makeBoxes_any w
  have HSC : Hid (∀ (g : Nat) (R : List (BitVec 8)) (w : World), Arr g ((T ++ R).map b8) w → Calls Tryd.prog 41 #[.pointer (some ⟨g, 0, none⟩), .agg (key.map b8).toArray] w fun e w' => e = .returned (.agg ((sched key).map b8).toArray) ∧ Below w.heap.size w w') := Lib.hid fun g R w h => schedule_any g R key w (by rw [← hT]; exact h) hK
  have ET : Hid (boxT = T) := Lib.hid hT.symm
  clear hT
  obtain ⟨f, hf⟩ : ∃ f : Nat → BitVec 8, f = fun j => (T ++ sched key).getD j 0 := ⟨_, rfl⟩
  have EK : Hid (∀ j, j < 240 → f (512 + j) = (sched key).getD j 0) := Lib.hid fun j hj => by
    rw [hf]
    show (T ++ sched key).getD (512 + j) 0 = _
    rw [getD_app2 (by omega), hbl, Nat.add_sub_cancel_left]
  have E0 : Hid (upd f (T ++ List.replicate 240 0) (512 + 4 * 0) = T ++ List.replicate 240 0) := Lib.hid (upd_same fun i hi => by
    rw [hf]
    show (T ++ sched key).getD i 0 = _
    rw [getD_app (by omega), getD_app (by omega)])
  have EA : Hid (upd f (T ++ List.replicate 240 0) 752 = T ++ sched key) := Lib.hid (by
    rw [upd_all (n := 752) (by rw [List.length_append, hbl, List.length_replicate]), hf, tab_self (by rw [List.length_append, hbl, hsl])])
  have hzl : (T ++ List.replicate 240 0).length = 752 := by rw [List.length_append, hbl, List.length_replicate]
  clear hf
  go_enter Tryd.func26, Tryd.ntmps26
  go_upto_region 0 with fail; refine wp_region_lit ?_
  refine wpList_val (run_box rfl rfl) rfl ?_; (try simp only [Act.put, List.setIfInBounds_toArray, List.set_cons_zero, List.set_cons_succ]); replace hM := Lib.hid (hM.out.new (key) 29); generalize w.alloc (.cells ((key).map b8).toArray 29) = a1 at *; generalize w.heap.size = g1 at *
  refine wpList_val (run_asg (v := .pointer none) rfl rfl) rfl ?_; (try simp only [Act.put, List.setIfInBounds_toArray, List.set_cons_zero, List.set_cons_succ])
  refine wpList_end ?_
  go_upto_region 1 with fail; refine wp_region_lit ?_
  refine wpList_enter (run_call0 enters_makeBoxes rfl rfl) rfl (HMB.out _) (fun a2 hb => ?_); (try simp only [Act.put, List.setIfInBounds_toArray, List.set_cons_zero, List.set_cons_succ])
  replace hM := Lib.hid (hM.out.below hb)
  clear hb
  refine wpList_val (run_bld1 rfl rfl EB.out) rfl ?_; (try simp only [Act.put, List.setIfInBounds_toArray, List.set_cons_zero, List.set_cons_succ])
  clear EB
  refine wpList_val (run_alc (vs := z8 752) rfl (by kernel_rfl)) rfl ?_; (try simp only [Act.put, List.setIfInBounds_toArray, List.set_cons_zero, List.set_cons_succ]); replace hM := Lib.hid (hM.out.newZ 752 73); generalize a2.alloc (.cells (z8 752).toArray 73) = a3 at *; generalize a2.heap.size = g2 at *
  refine wpList_skip (run_stA (vs := (T ++ List.replicate 240 0).map b8) rfl (sz szCipher hzl) rfl rfl (oneB _) ((hM.out.get (i := 0) rfl).there8 (by rw [hzl, List.length_replicate]))) rfl rfl ?_
  refine wpList_end ?_
  replace hM : Hid (Ms w [(g2, T ++ List.replicate 240 0), (g1, key)] (a3.setCells g2 0 ((T ++ List.replicate 240 0).map b8))) := Lib.hid (hM.out.put 0 rfl (by rw [hzl, List.length_replicate]))
  generalize a3.setCells g2 0 ((T ++ List.replicate 240 0).map b8) = a4 at *
  go_upto_region 2 with fail; refine wp_region_lit ?_
  refine wpList_val (run_fad (s := 511) (k := 0) rfl Tryd.underlying73 rfl (by kernel_rfl) rfl rfl) rfl ?_; (try simp only [Act.put, List.setIfInBounds_toArray, List.set_cons_zero, List.set_cons_succ])
  refine wpList_val (run_ldM (vs := key.map b8) rfl Tryd.underlying29 rfl (sz szKey hK) rfl (hM.out.get (i := 1) rfl).range) rfl ?_; (try simp only [Act.put, List.setIfInBounds_toArray, List.set_cons_zero, List.set_cons_succ])
  refine wpList_enter (run_call2 enters_schedule rfl rfl rfl rfl) rfl (HSC.out g2 (List.replicate 240 0) _ (hM.out.get (i := 0) rfl)) (fun a5 hb => ?_); (try simp only [Act.put, List.setIfInBounds_toArray, List.set_cons_zero, List.set_cons_succ])
  replace hM := Lib.hid (hM.out.below hb)
  clear hb
  refine wpList_val (run_alc (vs := z8 240) rfl (by kernel_rfl)) rfl ?_; (try simp only [Act.put, List.setIfInBounds_toArray, List.set_cons_zero, List.set_cons_succ]); replace hM := Lib.hid (hM.out.newZ 240 76); generalize a5.alloc (.cells (z8 240).toArray 76) = a6 at *; generalize a5.heap.size = g3 at *
  generalize hW : sched key = W at *
  have EW := Lib.hid hW; clear hW
  refine wpList_skip (run_stA (vs := W.map b8) rfl (sz szWords hsl) rfl rfl (oneB _) ((hM.out.get (i := 0) rfl).there8 (by rw [hsl, List.length_replicate]))) rfl rfl ?_
  refine wpList_end ?_
  generalize T ++ List.replicate 240 0 = Z at *
  replace hM : Hid (Ms w [(g3, W), (g2, upd f Z (512 + 4 * 0)), (g1, key)] (a6.setCells g3 0 (W.map b8))) := Lib.hid (by rw [E0.out]; exact hM.out.put 0 rfl (by rw [hsl, List.length_replicate]))
  generalize a6.setCells g3 0 (W.map b8) = a7 at *
  clear E0
  go_wp2_with fail
  go_loopw [11] (fun s u => ∃ i : Nat, i ≤ 60 ∧ s = .int .i64 (i : Int) ∧ Ms w [(g3, W), (g2, upd f Z (512 + 4 * i)), (g1, key)] u) (fun s _ => (60 - intOf s).toNat)
  case atStart => exact ⟨0, by omega, rfl, hM.out⟩
  case round =>
    obtain ⟨i, hi, rfl, hJ⟩ := hrel
    replace hM := Lib.hid hJ
    clear hJ
    by_cases hlt : i = 60
    · subst hlt
      have hk1 : ¬ (((60 : Nat) : Int) < 60) := by omega
      rw [show 512 + 4 * 60 = 752 from rfl, EA.out] at hM
      go_upto_region 8 with fail; refine wp_region_lit ?_
      refine wpList_val (run_asg (v := .pointer (some _)) rfl rfl) rfl ?_; (try simp only [Act.put, List.setIfInBounds_toArray, List.set_cons_zero, List.set_cons_succ])
      refine wpList_end ?_
      go_wp2_with fail
      refine bodyPost_ret (results_tmp Tryd.results26 _ _ _) rfl ⟨_, rfl, g2, rfl, hM.out.ge (i := 1) rfl, ?_, hM.out.bl⟩
      rw [ET.out, EW.out, ← List.map_append]; exact hM.out.get (i := 1) rfl
    · have hk1 : (i : Int) < 60 := by omega
      have hul := upd_len f Z (512 + 4 * i)
      have hml : ((W.drop (4 * i)).take 4).length = 4 := by rw [List.length_take, List.length_drop]; omega
      have HN : Hid ((upd f Z (512 + 4 * i)).take (512 + 4 * i) ++ ((W.drop (4 * i)).take 4 ++ (upd f Z (512 + 4 * i)).drop (512 + 4 * i + 4)) = upd f Z (512 + 4 * (i + 1))) := Lib.hid (upd_four hml (by omega) fun j hj => by rw [getD_takeB hj, getD_dropB, Nat.add_assoc, EK.out _ (by omega)])
      have HG : Hid (∀ j, j < ((W.drop (4 * i)).take 4).length → ((W.drop (4 * i)).take 4).getD j 0 = W.getD (4 * i + j) 0) := Lib.hid fun j hj => by rw [hml] at hj; rw [getD_takeB hj, getD_dropB]
      generalize (W.drop (4 * i)).take 4 = m at *
      go_upto_region 5 with fail; refine wp_region_lit ?_
      refine wpList_val (run_mv (v := .int _ _) rfl rfl) rfl ?_; (try simp only [Act.put, List.setIfInBounds_toArray, List.set_cons_zero, List.set_cons_succ]); refine wpList_val (run_asg (v := .int _ _) rfl rfl) rfl ?_; (try simp only [Act.put, List.setIfInBounds_toArray, List.set_cons_zero, List.set_cons_succ])
      refine wpList_end ?_
      go_upto_region 6 with fail; refine wp_region_calm 11 (by kernel_rfl) (by kernel_rfl) ?_
      refine wpCalm_step _ (fun V hV => calm_run (run_mv (v := .int _ _) rfl rfl)) ?_; (try simp only [Act.put, List.setIfInBounds_toArray, List.set_cons_zero, List.set_cons_succ])
      refine wpCalm_step _ (fun V hV => calm_run (run_quoN (b := 4) rfl rfl rfl (by omega) (by omega))) ?_; (try simp only [Act.put, List.setIfInBounds_toArray, List.set_cons_zero, List.set_cons_succ])
      refine wpCalm_step _ (fun V hV => calm_run (run_fad (s := 239) (k := 512) rfl Tryd.underlying73 rfl (by kernel_rfl) rfl rfl)) ?_; (try simp only [Act.put, List.setIfInBounds_toArray, List.set_cons_zero, List.set_cons_succ])
      refine wpCalm_step _ (fun V hV => calm_run (run_ixN (s := 16) rfl Tryd.underlying71 (by kernel_rfl) rfl rfl (by omega))) ?_; (try simp only [Act.put, List.setIfInBounds_toArray, List.set_cons_zero, List.set_cons_succ])
      refine wpCalm_step _ (fun V hV => calm_run (run_mv (v := .int _ _) rfl rfl)) ?_; (try simp only [Act.put, List.setIfInBounds_toArray, List.set_cons_zero, List.set_cons_succ])
      refine wpCalm_step _ (fun V hV => calm_run (run_remN (b := 4) rfl rfl rfl (by omega))) ?_; (try simp only [Act.put, List.setIfInBounds_toArray, List.set_cons_zero, List.set_cons_succ])
      refine wpCalm_step _ (fun V hV => calm_run (run_mulN (a := 4) rfl rfl rfl (by omega))) ?_; (try simp only [Act.put, List.setIfInBounds_toArray, List.set_cons_zero, List.set_cons_succ])
      refine wpCalm_step _ (fun V hV => calm_run (run_slAl rfl Tryd.underlying55 (by kernel_rfl) rfl rfl (by omega))) ?_; (try simp only [Act.put, List.setIfInBounds_toArray, List.set_cons_zero, List.set_cons_succ])
      refine wpCalm_step _ (fun V hV => calm_run (run_mv (v := .int _ _) rfl rfl)) ?_; (try simp only [Act.put, List.setIfInBounds_toArray, List.set_cons_zero, List.set_cons_succ])
      refine wpCalm_step _ (fun V hV => calm_run (run_ixN (s := 4) rfl Tryd.underlying76 (by kernel_rfl) rfl rfl (by omega))) ?_; (try simp only [Act.put, List.setIfInBounds_toArray, List.set_cons_zero, List.set_cons_succ])
      refine wpCalm_step _ (fun V hV => calm_run (run_slA rfl Tryd.underlying75 (by kernel_rfl) rfl)) ?_; (try simp only [Act.put, List.setIfInBounds_toArray, List.set_cons_zero, List.set_cons_succ])
      refine wpCalm_done ?_; intro b6 hb; simp only [List.drop_succ_cons, List.drop_zero]
      replace hM := Lib.hid (hM.out.below hb)
      clear hb
      rw [show 0 + 512 + i / 4 * 16 + 4 * (i % 4) = 512 + 4 * i by omega, show 0 + i * 4 = 4 * i by omega]
      have HS : Hid (Sl (.slice (some ⟨g3, 4 * i, none⟩) 4 4) m b6) := Lib.hid (Sl.at (hM.out.get (i := 0) rfl) (by omega) HG.out hml)
      have htk : m.take (16 - 4 * (i % 4)) = m := List.take_of_length_le (by omega)
      refine wpList_val (run_cpyG (l := m) rfl rfl rfl HS.out (hM.out.get (i := 1) rfl) (by rw [htk, hml, List.length_map, hul]; omega)) rfl ?_; (try simp only [Act.put, List.setIfInBounds_toArray, List.set_cons_zero, List.set_cons_succ])
      rw [htk]
      refine wpList_end ?_
      replace hM : Hid (Ms w [(g3, W), (g2, upd f Z (512 + 4 * (i + 1))), (g1, key)] (b6.setCells g2 (512 + 4 * i) (m.map b8))) := Lib.hid (by
        have := hM.out.mid 1 rfl (f := 512 + 4 * i) (m := m) (by omega)
        rw [hml, HN.out] at this
        exact this)
      generalize b6.setCells g2 (512 + 4 * i) (m.map b8) = b7 at *
      clear HS HN HG htk
      go_wp2_with fail
      go_roundw
      case rel => exact ⟨i + 1, by omega, by go_num, hM.out⟩
      case measure => simp [intOf]; omega
theorem enters_makeCipher : Enters 26 := enters_of Tryd.func26 (by kernel_rfl) rfl
end Go.Proofs.YtobpgolchlgpfaaDoor
namespace Go.Proofs.YtobpgolchlgpfaaDoor
open Go.RowKit
set_option maxRecDepth 20000

section
variable {P : Program} {ops : Array Oper} {Q : Exit → Act → World → Prop} {S : World → Prop} {D : Nat}
theorem wpAnyD_callR {fuel : Nat} {listed : Array Bool} {a : Act} {w : World} {o : Oper} {f : FuncId} {args : Array Value} {R : Value → World → Prop} (i : Nat) {d : Tmp} (hr : Region.ready .any ops listed = [i]) (ho : ops[i]? = some o) (hd : o.dst = some d) (hw : Region.wanted o (yielded ops a.tmps) = true) (hrun : (execOp a.eval o).run P w = .ok (.enter f args) w)
    (hc : Calls P f args w fun e w' => ∃ v, e = .returned v ∧ R v w') (hS : ∀ v w', R v w' → S w')
    (hn : ∀ v w', R v w' → wpAnyL P ops Q (Till D S) fuel (listed.setIfInBounds i true) (a.put (some d) v) w') : wpAnyL P ops Q (Till D S) (fuel + 1) listed a w := by
  simp only [← hd] at hn
  refine ⟨fun e => (by rw [hr] at e; cases e), fun j hj => ?_⟩
  rw [hr] at hj
  obtain rfl : j = i := by simpa using hj
  simp only [wpOp, ho, hw, if_true]
  refine .inl ?_
  unfold Oper.wp
  rw [hrun]
  simp only [Oper.upon]
  refine hc.mono fun e w' ⟨v, he, hb⟩ => ?_
  subst he
  exact ⟨.inr (hS v w' hb), hn v w' hb⟩
end
theorem Ms.add {w u u' : World} {L : List (Nat × List (BitVec 8))} (h : Ms w L u) {g : Nat} {l : List (BitVec 8)} (hb : Below u.heap.size u u') (hg : u.heap.size ≤ g) (hA : Arr g (l.map b8) u') : Ms w ((g, l) :: L) u' := by
  refine ⟨h.bl.trans (hb.mono h.bl.size), ?_, fun p hp => ?_⟩
  · rw [List.map_cons, List.nodup_cons]
    refine ⟨fun hm => ?_, h.nd⟩
    rw [List.mem_map] at hm
    obtain ⟨p, hp, he⟩ := hm
    have := (h.all p hp).2.lt
    exact absurd this (by have e : p.1 = g := he; omega)
  · rcases List.mem_cons.1 hp with rfl | hp
    · exact ⟨Nat.le_trans h.bl.size hg, hA⟩
    · exact ⟨(h.all p hp).1, (h.all p hp).2.below hb⟩
theorem upd_end {f : Nat → BitVec 8} {l : List (BitVec 8)} {k : Nat} (h : l.length ≤ k) : upd f l k = tab l.length f := tab_congr fun i hi => if_pos (by omega)
set_option maxRecDepth 20000 in
set_option maxHeartbeats 4000000 in
theorem counter_arr (key first : List (BitVec 8)) (v : Value) (b : List (BitVec 8)) (w : World) (hK : key.length = 32) (hF : first.length = 16) (hv : Sl v b w) (hb : b.length ≤ 16000000) :
    Calls Tryd.prog 17 #[.agg (key.map b8).toArray, .agg (first.map b8).toArray, v] w fun e w' => ∃ v', e = .returned v' ∧ ((∃ g, v' = .slice (some ⟨g, 0, none⟩) b.length b.length ∧ w.heap.size ≤ g ∧ Arr g ((ctr key first b).map b8) w') ∧ Below w.heap.size w w') := by
  have hM := Lib.hid (Ms.nil w)
  have HV := Lib.hid hv
  have hsl := sched_len hK
  obtain ⟨f, hf⟩ : ∃ f : Nat → BitVec 8, f = ctrV key first b := ⟨_, rfl⟩
  have EC : Hid (ctr key first b = tab b.length f) := Lib.hid (by rw [hf]; rfl)
  have EF : Hid (∀ k i, i < 16 → f (16 * k + i) = b.getD (16 * k + i) 0 ^^^ (hideB (sched key) (cnt first k)).getD i 0) := Lib.hid fun k i hi => by
    rw [hf, ctrV, show (16 * k + i) / 16 = k by omega, show (16 * k + i) % 16 = i by omega]; rfl
  have HC := Lib.hid (cnt_len hF)
  clear hf
  obtain ⟨ao, c, rfl, -, -⟩ := hv
  generalize hn : b.length = n at *
  have HN := Lib.hid hn; clear hn
  go_enter Tryd.func17, Tryd.ntmps17
  go_upto_region 0 with fail; refine wp_region_lit ?_
  refine wpList_val (run_box rfl rfl) rfl ?_; (try simp only [Act.put, List.setIfInBounds_toArray, List.set_cons_zero, List.set_cons_succ]); replace hM := Lib.hid (hM.out.new (key) 29); generalize w.alloc (.cells ((key).map b8).toArray 29) = a1 at *; generalize w.heap.size = g1 at *
  refine wpList_val (run_box rfl rfl) rfl ?_; (try simp only [Act.put, List.setIfInBounds_toArray, List.set_cons_zero, List.set_cons_succ]); replace hM := Lib.hid (hM.out.new (first) 23); generalize a1.alloc (.cells ((first).map b8).toArray 23) = a2 at *; generalize a1.heap.size = g2 at *
  refine wpList_val (run_asg (v := .slice none 0 0) rfl rfl) rfl ?_; (try simp only [Act.put, List.setIfInBounds_toArray, List.set_cons_zero, List.set_cons_succ])
  refine wpList_end ?_
  go_upto_region 1 with fail; refine wp_region_lit ?_
  refine wpList_val (run_ldM (vs := key.map b8) rfl Tryd.underlying29 rfl (sz szKey hK) rfl (hM.out.get (i := 1) rfl).range) rfl ?_; (try simp only [Act.put, List.setIfInBounds_toArray, List.set_cons_zero, List.set_cons_succ])
  refine wpList_callR (run_call1 enters_makeCipher rfl rfl rfl) rfl (makeCipher_any key _ hK) (fun v a3 hR => ?_); (try simp only [Act.put, List.setIfInBounds_toArray, List.set_cons_zero, List.set_cons_succ])
  obtain ⟨g, rfl, hge, hA, hb3⟩ := hR
  replace hM := Lib.hid (hM.out.add hb3 hge hA)
  clear hb3 hge hA
  generalize hW : sched key = W at *
  clear hW
  refine wpList_val (run_asg (v := .pointer (some _)) rfl rfl) rfl ?_; (try simp only [Act.put, List.setIfInBounds_toArray, List.set_cons_zero, List.set_cons_succ])
  refine wpList_end ?_
  go_upto_region 2 with fail; refine wp_region_lit ?_
  refine wpList_val (run_mv (v := .slice _ _ _) rfl rfl) rfl ?_; (try simp only [Act.put, List.setIfInBounds_toArray, List.set_cons_zero, List.set_cons_succ])
  refine wpList_val (run_len rfl Tryd.underlying30 rfl) rfl ?_; (try simp only [Act.put, List.setIfInBounds_toArray, List.set_cons_zero, List.set_cons_succ])
  refine wpList_val (run_mk8 rfl rfl rfl (by omega)) rfl ?_; (try simp only [Act.put, List.setIfInBounds_toArray, List.set_cons_zero, List.set_cons_succ])
  replace hM := Lib.hid (hM.out.newZ n 5)
  generalize a3.alloc (.cells (z8 n).toArray 5) = a4 at *
  generalize a3.heap.size = g3 at *
  refine wpList_val (run_asg (v := .slice (some _) _ _) rfl rfl) rfl ?_; (try simp only [Act.put, List.setIfInBounds_toArray, List.set_cons_zero, List.set_cons_succ])
  refine wpList_end ?_
  obtain ⟨Z, hZ⟩ : ∃ Z : List (BitVec 8), Z = List.replicate n 0 := ⟨_, rfl⟩
  have hzl : Z.length = n := by rw [hZ, List.length_replicate]
  rw [← hZ] at hM
  clear hZ
  go_upto_region 3 with fail; refine wp_region_lit ?_
  refine wpList_val (run_ldM (vs := first.map b8) rfl Tryd.underlying23 rfl (sz sz16 hF) rfl (hM.out.get (i := 2) rfl).range) rfl ?_; (try simp only [Act.put, List.setIfInBounds_toArray, List.set_cons_zero, List.set_cons_succ])
  refine wpList_val (run_alc (vs := z8 16) rfl (by kernel_rfl)) rfl ?_; (try simp only [Act.put, List.setIfInBounds_toArray, List.set_cons_zero, List.set_cons_succ]); replace hM := Lib.hid (hM.out.newZ 16 55); generalize a4.alloc (.cells (z8 16).toArray 55) = a5 at *; generalize a4.heap.size = g4 at *
  refine wpList_skip (run_stA (vs := first.map b8) rfl (sz szBlock hF) rfl rfl (oneB _) ((hM.out.get (i := 0) rfl).there8 (by rw [hF, List.length_replicate]))) rfl rfl ?_
  refine wpList_end ?_
  replace hM : Hid (Ms w [(g4, cnt first 0), (g3, upd f Z (16 * 0)), (g, boxT ++ W), (g2, first), (g1, key)] (a5.setCells g4 0 (first.map b8))) := Lib.hid (by rw [Nat.mul_zero, upd_zero]; exact hM.out.put 0 rfl (m := first) (by rw [hF, List.length_replicate]))
  generalize a5.setCells g4 0 (first.map b8) = a6 at *
  go_wp2_with fail
  go_loopw [10] (fun s u => ∃ k : Nat, 16 * k ≤ n + 16 ∧ s = .int .i64 ((16 * k : Nat) : Int) ∧ Ms w [(g4, cnt first k), (g3, upd f Z (16 * k)), (g, boxT ++ W), (g2, first), (g1, key)] u) (fun s _ => (n + 16 - intOf s).toNat)
  case atStart => exact ⟨0, by omega, rfl, hM.out⟩
  case round =>
    obtain ⟨k, hk, rfl, hJ⟩ := hrel
    replace hM := Lib.hid hJ
    clear hJ
    go_upto_region 5 with fail; refine wp_region_lit ?_
    refine wpList_val (run_mv (v := .int _ _) rfl rfl) rfl ?_; (try simp only [Act.put, List.setIfInBounds_toArray, List.set_cons_zero, List.set_cons_succ]); refine wpList_val (run_mv (v := .slice _ _ _) rfl rfl) rfl ?_; (try simp only [Act.put, List.setIfInBounds_toArray, List.set_cons_zero, List.set_cons_succ])
    refine wpList_val (run_len rfl Tryd.underlying30 rfl) rfl ?_; (try simp only [Act.put, List.setIfInBounds_toArray, List.set_cons_zero, List.set_cons_succ])
    by_cases hlt : n ≤ 16 * k
    · refine wpList_val (run_lssb (c := false) rfl rfl rfl (decide_eq_false (by omega))) rfl ?_; (try simp only [Act.put, List.setIfInBounds_toArray, List.set_cons_zero, List.set_cons_succ])
      refine wpList_end ?_
      rw [upd_end (show Z.length ≤ 16 * k by omega), hzl] at hM
      have htl := tab_len n f
      generalize tab n f = r at *
      go_upto_region 14 with fail; refine wp_region_lit ?_
      refine wpList_val (run_mv (v := .slice (some _) _ _) rfl rfl) rfl ?_; (try simp only [Act.put, List.setIfInBounds_toArray, List.set_cons_zero, List.set_cons_succ])
      refine wpList_val (run_asg (v := .slice (some _) _ _) rfl rfl) rfl ?_; (try simp only [Act.put, List.setIfInBounds_toArray, List.set_cons_zero, List.set_cons_succ])
      refine wpList_end ?_
      go_wp2_with fail
      refine bodyPost_ret (results_tmp Tryd.results17 _ _ _) rfl ⟨_, rfl, ⟨g3, rfl, hM.out.ge (i := 1) rfl, ?_⟩, hM.out.bl⟩
      rw [EC.out]
      exact hM.out.get (i := 1) rfl
    · refine wpList_val (run_lssb (c := true) rfl rfl rfl (decide_eq_true (by omega))) rfl ?_; (try simp only [Act.put, List.setIfInBounds_toArray, List.set_cons_zero, List.set_cons_succ])
      refine wpList_end ?_
      have hcl := HC.out k
      have hnx : (nxt 16 (cnt first k)).length = 16 := by rw [nxt_len, hcl]
      have HX : Hid (cnt first (k + 1) = nxt 16 (cnt first k)) := Lib.hid rfl
      have HFk := Lib.hid (EF.out k)
      obtain ⟨gb, fb, c1, e1, hgb, hrb⟩ := HV.out.adr (by rw [HN.out]; omega)
      injection e1 with e1 _ e1'
      subst e1 e1'
      have HB : Hid (∀ V, Below w.heap.size w V → ∀ i, i < n → V.cell? ⟨gb, fb + i, none⟩ = some (b8 (b.getD i 0))) := Lib.hid fun V hV i hi => rangeAt_below hrb hgb hV _ _ (get_map b8 0 (by rw [HN.out]; exact hi))
      clear hrb hgb
      go_upto_region 7 with fail; refine wp_region_lit ?_
      refine wpList_val (run_mv (v := .pointer (some _)) rfl rfl) rfl ?_; (try simp only [Act.put, List.setIfInBounds_toArray, List.set_cons_zero, List.set_cons_succ])
      refine wpList_val (run_ldM (vs := (cnt first k).map b8) rfl Tryd.underlying55 rfl (sz szBlock hcl) rfl (hM.out.get (i := 0) rfl).range) rfl ?_; (try simp only [Act.put, List.setIfInBounds_toArray, List.set_cons_zero, List.set_cons_succ])
      refine wpList_enter (run_call2 enters_hide rfl rfl rfl rfl) rfl (hide_any g W (cnt first k) _ (hM.out.get (i := 2) rfl) hsl hcl) (fun a7 hb7 => ?_); (try simp only [Act.put, List.setIfInBounds_toArray, List.set_cons_zero, List.set_cons_succ])
      replace hM := Lib.hid (hM.out.below hb7)
      clear hb7
      have hml : (hideB W (cnt first k)).length = 16 := hidI_len _ _ _
      generalize hideB W (cnt first k) = m at *
      refine wpList_val (run_alc (vs := z8 16) rfl (by kernel_rfl)) rfl ?_; (try simp only [Act.put, List.setIfInBounds_toArray, List.set_cons_zero, List.set_cons_succ]); replace hM := Lib.hid (hM.out.newZ 16 55); generalize a7.alloc (.cells (z8 16).toArray 55) = a8 at *; generalize a7.heap.size = g5 at *
      refine wpList_skip (run_stA (vs := m.map b8) rfl (sz szBlock hml) rfl rfl (oneB _) ((hM.out.get (i := 0) rfl).there8 (by rw [hml, List.length_replicate]))) rfl rfl ?_
      refine wpList_end ?_
      replace hM : Hid (Ms w [(g5, m), (g4, cnt first k), (g3, upd f Z (16 * k)), (g, boxT ++ W), (g2, first), (g1, key)] (a8.setCells g5 0 (m.map b8))) := Lib.hid (hM.out.put 0 rfl (m := m) (by rw [hml, List.length_replicate]))
      generalize a8.setCells g5 0 (m.map b8) = a9 at *
      go_upto_region 8 with fail; refine wp_region_lit ?_
      refine wpList_val (run_mv (v := .slice (some _) _ _) rfl rfl) rfl ?_; (try simp only [Act.put, List.setIfInBounds_toArray, List.set_cons_zero, List.set_cons_succ])
      refine wpList_val (run_len rfl Tryd.underlying30 rfl) rfl ?_; (try simp only [Act.put, List.setIfInBounds_toArray, List.set_cons_zero, List.set_cons_succ])
      refine wpList_val (run_mv (v := .int _ _) rfl rfl) rfl ?_; (try simp only [Act.put, List.setIfInBounds_toArray, List.set_cons_zero, List.set_cons_succ])
      refine wpList_val (run_subN rfl rfl rfl (by omega) (by omega)) rfl ?_; (try simp only [Act.put, List.setIfInBounds_toArray, List.set_cons_zero, List.set_cons_succ])
      refine wpList_val (run_min (a := 16) _ rfl rfl rfl) rfl ?_; (try simp only [Act.put, List.setIfInBounds_toArray, List.set_cons_zero, List.set_cons_succ])
      have hp1 : min 16 (n - 16 * k) ≤ 16 ∧ 16 * k + min 16 (n - 16 * k) ≤ n ∧ (min 16 (n - 16 * k) = 16 ∨ 16 * k + min 16 (n - 16 * k) = n) := by omega
      generalize min 16 (n - 16 * k) = p at *
      refine wpList_val (run_mv (v := .int _ _) rfl rfl) rfl ?_; (try simp only [Act.put, List.setIfInBounds_toArray, List.set_cons_zero, List.set_cons_succ])
      refine wpList_end ?_
      go_wp2_with fail
      go_loopw [33] (fun s u => ∃ i : Nat, i ≤ p ∧ s = .int .i64 (i : Int) ∧ Ms w [(g5, m), (g4, cnt first k), (g3, upd f Z (16 * k + i)), (g, boxT ++ W), (g2, first), (g1, key)] u) (fun s _ => (p - intOf s).toNat)
      case atStart => exact ⟨0, by omega, rfl, hM.out⟩
      case round =>
        obtain ⟨i, hi, rfl, hJ⟩ := hrel
        replace hM := Lib.hid hJ
        clear hJ
        by_cases hip : i = p
        · subst hip
          have hk2 : ¬ ((i : Int) < (i : Int)) := by omega
          have HU : Hid (upd f Z (16 * k + i) = upd f Z (16 * (k + 1))) := Lib.hid (by
            rcases hp1.2.2 with h | h
            · rw [h, Nat.mul_succ]
            · rw [upd_end (by omega), upd_end (by omega)])
          rw [HU.out] at hM
          clear HU
          replace hM : Hid (Ms w [(g4, cnt first k), (g3, upd f Z (16 * (k + 1))), (g, boxT ++ W), (g2, first), (g1, key)] wr) := Lib.hid hM.out.drop
          go_upto_region 13 with fail; refine wp_region_lit ?_
          refine wpList_val (run_ldM (vs := (cnt first k).map b8) rfl Tryd.underlying55 rfl (sz szBlock hcl) rfl (hM.out.get (i := 0) rfl).range) rfl ?_; (try simp only [Act.put, List.setIfInBounds_toArray, List.set_cons_zero, List.set_cons_succ])
          refine wpList_enter (run_call1 enters_next rfl rfl rfl) rfl (next_any (cnt first k) _ hcl) (fun b1 hb1 => ?_); (try simp only [Act.put, List.setIfInBounds_toArray, List.set_cons_zero, List.set_cons_succ])
          replace hM := Lib.hid (hM.out.below hb1)
          clear hb1
          refine wpList_skip (run_stA (vs := (nxt 16 (cnt first k)).map b8) rfl (sz szBlock hnx) rfl rfl (oneB _) ((hM.out.get (i := 0) rfl).there8 (by rw [hnx, hcl]))) rfl rfl ?_
          refine wpList_end ?_
          replace hM : Hid (Ms w [(g4, cnt first (k + 1)), (g3, upd f Z (16 * (k + 1))), (g, boxT ++ W), (g2, first), (g1, key)] (b1.setCells g4 0 ((nxt 16 (cnt first k)).map b8))) := Lib.hid (by rw [HX.out]; exact hM.out.put 0 rfl (by rw [hnx, hcl]))
          generalize b1.setCells g4 0 ((nxt 16 (cnt first k)).map b8) = b2 at *
          go_wp2_with fail
          go_roundw
          case rel => exact ⟨k + 1, by omega, by rw [show (16 * (k : Int) + 16) = ((16 * (k + 1) : Nat) : Int) by omega], hM.out⟩
          case measure => simp [intOf]; omega
        · have hk2 : (i : Int) < (p : Int) := by omega
          have hul := upd_len f Z (16 * k + i)
          have hip2 : i < 16 := by omega
          have C1 : Hid (∀ V, Below wr.heap.size wr V → V.cell? ⟨gb, fb + (16 * k + i), none⟩ = some (b8 (b.getD (16 * k + i) 0))) := Lib.hid fun V hV => HB.out V (hM.out.below hV).bl _ (by omega)
          have C2 : Hid (∀ V, Below wr.heap.size wr V → V.cell? ⟨g5, i, none⟩ = some (b8 (m.getD i 0))) := Lib.hid fun V hV => ((hM.out.below hV).get (i := 0) rfl).get8 (i := i) (by omega)
          have EJ := HFk.out i hip2
          go_upto_region 10 with fail; refine wp_region_lit ?_
          refine wpList_val (run_mv (v := .int _ _) rfl rfl) rfl ?_; (try simp only [Act.put, List.setIfInBounds_toArray, List.set_cons_zero, List.set_cons_succ]); refine wpList_val (run_asg (v := .int _ _) rfl rfl) rfl ?_; (try simp only [Act.put, List.setIfInBounds_toArray, List.set_cons_zero, List.set_cons_succ])
          refine wpList_end ?_
          go_upto_region 11 with fail; refine wp_region_calm 14 (by kernel_rfl) (by kernel_rfl) ?_
          refine wpCalm_step _ (fun V hV => calm_run (run_mv (v := .slice (some _) _ _) rfl rfl)) ?_; (try simp only [Act.put, List.setIfInBounds_toArray, List.set_cons_zero, List.set_cons_succ]); refine wpCalm_step _ (fun V hV => calm_run (run_mv (v := .int _ _) rfl rfl)) ?_; (try simp only [Act.put, List.setIfInBounds_toArray, List.set_cons_zero, List.set_cons_succ]); refine wpCalm_step _ (fun V hV => calm_run (run_mv (v := .int _ _) rfl rfl)) ?_; (try simp only [Act.put, List.setIfInBounds_toArray, List.set_cons_zero, List.set_cons_succ])
          refine wpCalm_step _ (fun V hV => calm_run (run_addN rfl rfl rfl (by omega))) ?_; (try simp only [Act.put, List.setIfInBounds_toArray, List.set_cons_zero, List.set_cons_succ])
          refine wpCalm_step _ (fun V hV => calm_run (run_mv (v := .slice (some _) _ _) rfl rfl)) ?_; (try simp only [Act.put, List.setIfInBounds_toArray, List.set_cons_zero, List.set_cons_succ]); refine wpCalm_step _ (fun V hV => calm_run (run_mv (v := .int _ _) rfl rfl)) ?_; (try simp only [Act.put, List.setIfInBounds_toArray, List.set_cons_zero, List.set_cons_succ]); refine wpCalm_step _ (fun V hV => calm_run (run_mv (v := .int _ _) rfl rfl)) ?_; (try simp only [Act.put, List.setIfInBounds_toArray, List.set_cons_zero, List.set_cons_succ])
          refine wpCalm_step _ (fun V hV => calm_run (run_addN rfl rfl rfl (by omega))) ?_; (try simp only [Act.put, List.setIfInBounds_toArray, List.set_cons_zero, List.set_cons_succ])
          refine wpCalm_step _ (fun V hV => calm_run (run_ixs rfl Tryd.underlying30 (by kernel_rfl) rfl rfl (by omega))) ?_; (try simp only [Act.put, List.setIfInBounds_toArray, List.set_cons_zero, List.set_cons_succ])
          refine wpCalm_step _ (fun V hV => calm_run (run_ld8 rfl rfl (C1.out V hV))) ?_; (try simp only [Act.put, List.setIfInBounds_toArray, List.set_cons_zero, List.set_cons_succ])
          refine wpCalm_step _ (fun V hV => calm_run (run_mv (v := .int _ _) rfl rfl)) ?_; (try simp only [Act.put, List.setIfInBounds_toArray, List.set_cons_zero, List.set_cons_succ])
          refine wpCalm_step _ (fun V hV => calm_run (run_ix0 rfl Tryd.underlying55 (by kernel_rfl) rfl rfl (by omega))) ?_; (try simp only [Act.put, List.setIfInBounds_toArray, List.set_cons_zero, List.set_cons_succ])
          refine wpCalm_step _ (fun V hV => calm_run (run_ld8 rfl rfl (C2.out V hV))) ?_; (try simp only [Act.put, List.setIfInBounds_toArray, List.set_cons_zero, List.set_cons_succ])
          refine wpCalm_step _ (fun V hV => calm_run (run_xor8 rfl rfl rfl)) ?_; (try simp only [Act.put, List.setIfInBounds_toArray, List.set_cons_zero, List.set_cons_succ])
          refine wpCalm_done ?_; intro b3 hb3; simp only [List.drop_succ_cons, List.drop_zero]
          replace hM := Lib.hid (hM.out.below hb3)
          clear hb3 C1 C2
          refine wpList_val (run_ixs rfl Tryd.underlying30 (by kernel_rfl) rfl rfl (by omega)) rfl ?_; (try simp only [Act.put, List.setIfInBounds_toArray, List.set_cons_zero, List.set_cons_succ])
          rw [← EJ, Nat.zero_add (16 * k + i)]
          refine wpList_skip (run_st8 rfl rfl rfl ((hM.out.get (i := 2) rfl).get8 (by omega)) ((hM.out.get (i := 2) rfl).f _)) rfl rfl ?_
          refine wpList_end ?_
          replace hM : Hid (Ms w [(g5, m), (g4, cnt first k), (g3, upd f Z (16 * k + (i + 1))), (g, boxT ++ W), (g2, first), (g1, key)] (b3.setCell ⟨g3, 16 * k + i, none⟩ (b8 (f (16 * k + i))))) := Lib.hid (by rw [← Nat.add_assoc, ← upd_set (by omega)]; exact hM.out.set 2 rfl (by omega) _)
          generalize b3.setCell ⟨g3, 16 * k + i, none⟩ (b8 (f (16 * k + i))) = b4 at *
          go_wp2_with fail
          go_roundw
          case rel => exact ⟨i + 1, by omega, by go_num, hM.out⟩
          case measure => simp [intOf]; omega
theorem counter_any (key first : List (BitVec 8)) (v : Value) (b : List (BitVec 8)) (w : World) (hK : key.length = 32) (hF : first.length = 16) (hv : Sl v b w) (hb : b.length ≤ 16000000) :
    Calls Tryd.prog 17 #[.agg (key.map b8).toArray, .agg (first.map b8).toArray, v] w fun e w' => ∃ v', e = .returned v' ∧ (Sl v' (ctr key first b) w' ∧ Below w.heap.size w w') :=
  (counter_arr key first v b w hK hF hv hb).mono fun _ _ ⟨v', he, ⟨g, hg, _, hA⟩, hb⟩ => ⟨v', he, by
    have hl : (ctr key first b).length = b.length := tab_len _ _
    have := Sl.arr hA (c := b.length) (by omega)
    rw [hl] at this
    rw [hg]; exact this, hb⟩
theorem enters_counter : Enters 17 := enters_of Tryd.func17 (by kernel_rfl) rfl
end Go.Proofs.YtobpgolchlgpfaaDoor
