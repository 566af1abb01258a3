/- What keywardlaw02.LadderPairs answers. -/
import Derived.Test.YtegebgbmnddopaaDoorKnown2Num
import Derived.Lib.QuietBelow
namespace Go.Proofs.YtegebgbmnddopaaDoor
open Go.RowKit Go.Sort

theorem results_row {fn : Func} {p : Tmp} {t : TypeId} {d : TypeDesc} (h : fn.results = #[.cell p t]) {tmps : Array Value} {w : World} {g : Nat} {l : List Int} (ht : tmps.getD p undef = .pointer (some ⟨g, 0, none⟩)) (hr : w.rangeAt g 0 (l.map (Value.int .u8))) (hu : Tryd.prog.underlying t = some d) (hd : d.isRow = true) (hi : (Tryd.prog.info? t).map (·.size) = some (l.map (Value.int .u8)).length) :
    (results fn tmps).run Tryd.prog w = .ok (kV l) w := by
  rw [results_cell h, ht]
  have e := run_loadVar_mid (P := Tryd.prog) w g 0 t (l.map (Value.int .u8)) d hr hu hd hi
  simp only [asAddr, Sem.run_pure, Result.andThen_ok, e]
theorem pair_len (k : List Int) (hk : k.length = 32) : (k ++ mulL k nineL).length = 64 := by rw [List.length_append, hk, mulL_len]

set_option maxHeartbeats 1000000 in
theorem make_any (k : List Int) (w : World) (hk : k.length = 32) (hB : Bytes8 k) (hG : LG w) :
    Calls Tryd.prog 4 #[kV k] w fun e w' => e = .returned (kV (k ++ mulL k nineL)) ∧ Below w.heap.size w w' := by
  have HK := Lib.hid hk; clear hk
  have b1 : Below w.heap.size w (w.alloc (.cells (k.map (Value.int .u8)).toArray 23)) := (Below.refl _ _).alloc (Nat.le_refl _) _
  have R1 := Row.new w k
  go_enter Tryd.func4, Tryd.ntmps4
  go_upto_region 1 with fail
  have hs : w.heap.size + 1 = (w.alloc (.cells (k.map (Value.int .u8)).toArray 23)).heap.size := by simp
  rw [hs]
  have l0 := R1.lt
  generalize w.alloc (.cells (k.map (Value.int .u8)).toArray 23) = u0 at *
  clear hs
  have hR : Row u0.heap.size (List.replicate 64 0) (u0.alloc (.cells #[Value.int .u8 0, Value.int .u8 0, Value.int .u8 0, Value.int .u8 0, Value.int .u8 0, Value.int .u8 0, Value.int .u8 0, Value.int .u8 0, Value.int .u8 0, Value.int .u8 0, Value.int .u8 0, Value.int .u8 0, Value.int .u8 0, Value.int .u8 0, Value.int .u8 0, Value.int .u8 0, Value.int .u8 0, Value.int .u8 0, Value.int .u8 0, Value.int .u8 0, Value.int .u8 0, Value.int .u8 0, Value.int .u8 0, Value.int .u8 0, Value.int .u8 0, Value.int .u8 0, Value.int .u8 0, Value.int .u8 0, Value.int .u8 0, Value.int .u8 0, Value.int .u8 0, Value.int .u8 0, Value.int .u8 0, Value.int .u8 0, Value.int .u8 0, Value.int .u8 0, Value.int .u8 0, Value.int .u8 0, Value.int .u8 0, Value.int .u8 0, Value.int .u8 0, Value.int .u8 0, Value.int .u8 0, Value.int .u8 0, Value.int .u8 0, Value.int .u8 0, Value.int .u8 0, Value.int .u8 0, Value.int .u8 0, Value.int .u8 0, Value.int .u8 0, Value.int .u8 0, Value.int .u8 0, Value.int .u8 0, Value.int .u8 0, Value.int .u8 0, Value.int .u8 0, Value.int .u8 0, Value.int .u8 0, Value.int .u8 0, Value.int .u8 0, Value.int .u8 0, Value.int .u8 0, Value.int .u8 0] 25)) := row_new_any u0 (List.replicate 64 0) 25
  have b2 : Below u0.heap.size u0 (u0.alloc (.cells #[Value.int .u8 0, Value.int .u8 0, Value.int .u8 0, Value.int .u8 0, Value.int .u8 0, Value.int .u8 0, Value.int .u8 0, Value.int .u8 0, Value.int .u8 0, Value.int .u8 0, Value.int .u8 0, Value.int .u8 0, Value.int .u8 0, Value.int .u8 0, Value.int .u8 0, Value.int .u8 0, Value.int .u8 0, Value.int .u8 0, Value.int .u8 0, Value.int .u8 0, Value.int .u8 0, Value.int .u8 0, Value.int .u8 0, Value.int .u8 0, Value.int .u8 0, Value.int .u8 0, Value.int .u8 0, Value.int .u8 0, Value.int .u8 0, Value.int .u8 0, Value.int .u8 0, Value.int .u8 0, Value.int .u8 0, Value.int .u8 0, Value.int .u8 0, Value.int .u8 0, Value.int .u8 0, Value.int .u8 0, Value.int .u8 0, Value.int .u8 0, Value.int .u8 0, Value.int .u8 0, Value.int .u8 0, Value.int .u8 0, Value.int .u8 0, Value.int .u8 0, Value.int .u8 0, Value.int .u8 0, Value.int .u8 0, Value.int .u8 0, Value.int .u8 0, Value.int .u8 0, Value.int .u8 0, Value.int .u8 0, Value.int .u8 0, Value.int .u8 0, Value.int .u8 0, Value.int .u8 0, Value.int .u8 0, Value.int .u8 0, Value.int .u8 0, Value.int .u8 0, Value.int .u8 0, Value.int .u8 0] 25)) := (Below.refl _ _).alloc (Nat.le_refl _) _
  replace R1 := R1.below b2
  replace b1 := b1.trans (b2.mono b1.size)
  generalize u0.alloc (.cells #[Value.int .u8 0, Value.int .u8 0, Value.int .u8 0, Value.int .u8 0, Value.int .u8 0, Value.int .u8 0, Value.int .u8 0, Value.int .u8 0, Value.int .u8 0, Value.int .u8 0, Value.int .u8 0, Value.int .u8 0, Value.int .u8 0, Value.int .u8 0, Value.int .u8 0, Value.int .u8 0, Value.int .u8 0, Value.int .u8 0, Value.int .u8 0, Value.int .u8 0, Value.int .u8 0, Value.int .u8 0, Value.int .u8 0, Value.int .u8 0, Value.int .u8 0, Value.int .u8 0, Value.int .u8 0, Value.int .u8 0, Value.int .u8 0, Value.int .u8 0, Value.int .u8 0, Value.int .u8 0, Value.int .u8 0, Value.int .u8 0, Value.int .u8 0, Value.int .u8 0, Value.int .u8 0, Value.int .u8 0, Value.int .u8 0, Value.int .u8 0, Value.int .u8 0, Value.int .u8 0, Value.int .u8 0, Value.int .u8 0, Value.int .u8 0, Value.int .u8 0, Value.int .u8 0, Value.int .u8 0, Value.int .u8 0, Value.int .u8 0, Value.int .u8 0, Value.int .u8 0, Value.int .u8 0, Value.int .u8 0, Value.int .u8 0, Value.int .u8 0, Value.int .u8 0, Value.int .u8 0, Value.int .u8 0, Value.int .u8 0, Value.int .u8 0, Value.int .u8 0, Value.int .u8 0, Value.int .u8 0] 25) = u1 at *
  generalize u0.heap.size = g1 at *
  clear b2 u0
  replace hG := hG.below b1
  refine wp_region_calm 4 (by kernel_rfl) (by kernel_rfl) ?_
  refine wpCalm_step _ (fun V hV => calm_run (run_load_key (R1.below hV).range HK.out rfl (by kernel_rfl))) ?_; (try simp only [Act.put, List.setIfInBounds_toArray, List.set_cons_zero, List.set_cons_succ])
  refine wpCalm_step _ (fun V hV => calm_run (run_load_key (R1.below hV).range HK.out rfl (by kernel_rfl))) ?_; (try simp only [Act.put, List.setIfInBounds_toArray, List.set_cons_zero, List.set_cons_succ])
  refine wpCalm_step _ (fun V hV => calm_call1 enters_public rfl rfl (by kernel_rfl) (public_any k V HK.out hB (hG.below hV))) ?_; (try simp only [Act.put, List.setIfInBounds_toArray, List.set_cons_zero, List.set_cons_succ])
  refine wpCalm_step _ (fun V hV => calm_run (run_build_pair HK.out (mulL_len k nineL) rfl (by kernel_rfl) (by kernel_rfl))) ?_; (try simp only [Act.put, List.setIfInBounds_toArray, List.set_cons_zero, List.set_cons_succ])
  refine wpCalm_done ?_
  intro uu hb
  simp only [List.drop_succ_cons, List.drop_zero]
  have HP := Lib.hid (pair_len k HK.out)
  replace hR := hR.below hb
  replace b1 := b1.trans (hb.mono b1.size)
  refine wpList_store_row (l' := k ++ mulL k nineL) hR (by rw [HP.out]; rfl) (pair_size HP.out) rfl rfl rfl (by kernel_rfl) (by kernel_rfl) ?_
  have hT := (hR.storeAll (l' := k ++ mulL k nineL) (by rw [HP.out]; rfl)).range
  replace b1 := Below.setCells (show w.heap.size ≤ g1 by omega) ((k ++ mulL k nineL).map (Value.int .u8)) 0 b1
  generalize uu.setCells g1 0 ((k ++ mulL k nineL).map (Value.int .u8)) = u2 at *
  refine wpList_done ?_
  go_wp2_with fail
  exact bodyPost_ret (v := kV (k ++ mulL k nineL)) (results_row Tryd.results4 rfl hT Tryd.underlying25 rfl (pair_size HP.out)) rfl ⟨rfl, b1⟩

theorem run_build_known {w : World} {ρ : Operand → Value} {o : Oper} (ho : o.op = .build 23 #[(0, .const (.int .u8 119)), (1, .const (.int .u8 7)), (2, .const (.int .u8 109)), (3, .const (.int .u8 10)), (4, .const (.int .u8 115)), (5, .const (.int .u8 24)), (6, .const (.int .u8 165)), (7, .const (.int .u8 125)), (8, .const (.int .u8 60)), (9, .const (.int .u8 22)), (10, .const (.int .u8 193)), (11, .const (.int .u8 114)), (12, .const (.int .u8 81)), (13, .const (.int .u8 178)), (14, .const (.int .u8 102)), (15, .const (.int .u8 69)), (16, .const (.int .u8 223)), (17, .const (.int .u8 76)), (18, .const (.int .u8 47)), (19, .const (.int .u8 146)), (20, .const (.int .u8 235)), (21, .const (.int .u8 192)), (22, .const (.int .u8 153)), (23, .const (.int .u8 42)), (24, .const (.int .u8 193)), (25, .const (.int .u8 119)), (26, .const (.int .u8 251)), (27, .const (.int .u8 165)), (28, .const (.int .u8 29)), (29, .const (.int .u8 185)), (30, .const (.int .u8 44)), (31, .const (.int .u8 42))]) (hc : ∀ v, ρ (.const v) = v) : (execOp ρ o).run Tryd.prog w = .ok (.value (kV knownL)) w := by
  obtain ⟨dst, op, type, pos, after, guard⟩ := o
  subst ho
  go_simp
  rfl
theorem run_alloc_key (ρ : Operand → Value) (w : World) (o : Oper) (h : o.op = .alloc 23) : (execOp ρ o).run Tryd.prog w = .ok (.value (.pointer (some ⟨w.heap.size, 0, none⟩))) (w.alloc (.cells #[.int .u8 0, .int .u8 0, .int .u8 0, .int .u8 0, .int .u8 0, .int .u8 0, .int .u8 0, .int .u8 0, .int .u8 0, .int .u8 0, .int .u8 0, .int .u8 0, .int .u8 0, .int .u8 0, .int .u8 0, .int .u8 0, .int .u8 0, .int .u8 0, .int .u8 0, .int .u8 0, .int .u8 0, .int .u8 0, .int .u8 0, .int .u8 0, .int .u8 0, .int .u8 0, .int .u8 0, .int .u8 0, .int .u8 0, .int .u8 0, .int .u8 0, .int .u8 0] 23)) := by
  obtain ⟨dst, op, type, pos, after, guard⟩ := o
  subst h
  go_simp

set_option maxHeartbeats 1000000 in
theorem known2_any (w : World) (hG : LG w) :
    Calls Tryd.prog 6 #[] w fun e w' => e = .returned (.bool true) ∧ Below w.heap.size w w' := by
  go_enter Tryd.func6, Tryd.ntmps6
  go_upto_region 1 with fail
  refine wp_region_lit ?_
  refine wpList_val (run_build_known rfl (fun _ => rfl)) rfl ?_; (try simp only [Act.put, List.setIfInBounds_toArray, List.set_cons_zero, List.set_cons_succ])
  refine wpList_val (run_alloc_key _ _ _ rfl) rfl ?_; (try simp only [Act.put, List.setIfInBounds_toArray, List.set_cons_zero, List.set_cons_succ])
  have b1 : Below w.heap.size w (w.alloc (.cells #[.int .u8 0, .int .u8 0, .int .u8 0, .int .u8 0, .int .u8 0, .int .u8 0, .int .u8 0, .int .u8 0, .int .u8 0, .int .u8 0, .int .u8 0, .int .u8 0, .int .u8 0, .int .u8 0, .int .u8 0, .int .u8 0, .int .u8 0, .int .u8 0, .int .u8 0, .int .u8 0, .int .u8 0, .int .u8 0, .int .u8 0, .int .u8 0, .int .u8 0, .int .u8 0, .int .u8 0, .int .u8 0, .int .u8 0, .int .u8 0, .int .u8 0, .int .u8 0] 23)) := (Below.refl _ _).alloc (Nat.le_refl _) _
  have R1 := Row.zero w
  generalize w.alloc (.cells #[.int .u8 0, .int .u8 0, .int .u8 0, .int .u8 0, .int .u8 0, .int .u8 0, .int .u8 0, .int .u8 0, .int .u8 0, .int .u8 0, .int .u8 0, .int .u8 0, .int .u8 0, .int .u8 0, .int .u8 0, .int .u8 0, .int .u8 0, .int .u8 0, .int .u8 0, .int .u8 0, .int .u8 0, .int .u8 0, .int .u8 0, .int .u8 0, .int .u8 0, .int .u8 0, .int .u8 0, .int .u8 0, .int .u8 0, .int .u8 0, .int .u8 0, .int .u8 0] 23) = u0 at *
  refine wpList_store_row (l' := knownL) R1 (by rw [knownL_len]; rfl) (kV_size knownL_len) rfl rfl rfl (by kernel_rfl) (by kernel_rfl) ?_
  replace R1 := R1.storeAll (l' := knownL) (by rw [knownL_len]; rfl)
  replace b1 := Below.setCells (Nat.le_refl w.heap.size) (knownL.map (Value.int .u8)) 0 b1
  generalize u0.setCells w.heap.size 0 (knownL.map (Value.int .u8)) = u1 at *
  clear u0
  refine wpList_done ?_
  go_upto_region 2 with fail
  replace hG := hG.below b1
  refine wp_region_lit ?_
  refine wpList_val (run_load_key R1.range knownL_len rfl (by kernel_rfl)) rfl ?_; (try simp only [Act.put, List.setIfInBounds_toArray, List.set_cons_zero, List.set_cons_succ])
  refine wpList_enter (run_call1 enters_public rfl rfl (by kernel_rfl)) rfl (public_any knownL _ knownL_len knownL_bytes hG) (fun uu hb => ?_); (try simp only [Act.put, List.setIfInBounds_toArray, List.set_cons_zero, List.set_cons_succ])
  replace b1 := b1.trans (hb.mono b1.size)
  refine wpList_val (run_alloc_key _ _ _ rfl) rfl ?_; (try simp only [Act.put, List.setIfInBounds_toArray, List.set_cons_zero, List.set_cons_succ])
  clear R1 hb hG u1
  have hle := b1.size
  replace b1 := b1.alloc hle (.cells #[.int .u8 0, .int .u8 0, .int .u8 0, .int .u8 0, .int .u8 0, .int .u8 0, .int .u8 0, .int .u8 0, .int .u8 0, .int .u8 0, .int .u8 0, .int .u8 0, .int .u8 0, .int .u8 0, .int .u8 0, .int .u8 0, .int .u8 0, .int .u8 0, .int .u8 0, .int .u8 0, .int .u8 0, .int .u8 0, .int .u8 0, .int .u8 0, .int .u8 0, .int .u8 0, .int .u8 0, .int .u8 0, .int .u8 0, .int .u8 0, .int .u8 0, .int .u8 0] 23)
  have R1 := Row.zero uu
  generalize uu.alloc (.cells #[.int .u8 0, .int .u8 0, .int .u8 0, .int .u8 0, .int .u8 0, .int .u8 0, .int .u8 0, .int .u8 0, .int .u8 0, .int .u8 0, .int .u8 0, .int .u8 0, .int .u8 0, .int .u8 0, .int .u8 0, .int .u8 0, .int .u8 0, .int .u8 0, .int .u8 0, .int .u8 0, .int .u8 0, .int .u8 0, .int .u8 0, .int .u8 0, .int .u8 0, .int .u8 0, .int .u8 0, .int .u8 0, .int .u8 0, .int .u8 0, .int .u8 0, .int .u8 0] 23) = u0 at *
  refine wpList_store_row (l' := mulL knownL nineL) R1 (by rw [mulL_len]; rfl) (kV_size (mulL_len _ _)) rfl rfl rfl (by kernel_rfl) (by kernel_rfl) ?_
  replace R1 := R1.storeAll (l' := mulL knownL nineL) (by rw [mulL_len]; rfl)
  replace b1 := Below.setCells hle ((mulL knownL nineL).map (Value.int .u8)) 0 b1
  generalize u0.setCells uu.heap.size 0 ((mulL knownL nineL).map (Value.int .u8)) = u1 at *
  have k0 := R1.c 0 (by rw [mulL_len]; omega)
  have k1 := R1.c 1 (by rw [mulL_len]; omega)
  have k2 := R1.c 2 (by rw [mulL_len]; omega)
  have k30 := R1.c 30 (by rw [mulL_len]; omega)
  have k31 := R1.c 31 (by rw [mulL_len]; omega)
  rw [known_at0] at k0
  rw [known_at1] at k1
  rw [known_at2] at k2
  rw [known_at30] at k30
  rw [known_at31] at k31
  clear R1 hle
  generalize uu.heap.size = g at *
  generalize mulL knownL nineL = M at *
  refine wpList_done ?_
  go_wp2_with fail
  go_ret
  exact ⟨rfl, b1⟩
end Go.Proofs.YtegebgbmnddopaaDoor
