/- ListsDevices returns true for every input, and its arguments read afterwards as before: the row, and its card, where the package-level variables that it lists are tied to the program's text (that nothing else writes them is the translator's report). No other condition. -/
import Derived.Test.YtcgbgmbnagmohaaDoorCloseS9
import Derived.Test.YtcgbgmbnagmohaaDoorOpenT
import Derived.Test.YtcgbgmbnagmohaaDoorLawLD
namespace Go.Proofs.YtcgbgmbnagmohaaDoor.ListsDevices
open Go.ChangeShapes Go.WideShapes Go.ChangeAt Go.RowKit
set_option maxRecDepth 20000
theorem contract (H : Type) (enc : TypeId × Value → H) (W : World) (base : Nat) (args : Array Value) (ds gs : List (DataW H)) (before : List MemPlace)
  (hval : ∀ (j : Nat) t v, Tryd.f4.params[j]? = some t → args[j]? = some v → Value.okWide Tryd.prog W .any base t v)
  (hW : DataW.Whole enc Tryd.prog Tryd.f4.params.toList Rows.listsDevicesSpec.vars false W args.toList ds gs before) (hL : laidMetH Tryd.prog Rows.listsDevicesRow.laid W)
  (hz : (DataW.weightsEach Tryd.prog (Tryd.f4.params.toList ++ (OpenSpec.ofChange Rows.listsDevicesSpec).bare.plain.varTypes Tryd.prog) (ds ++ gs)).all (· ≤ reachBytes) = true) :
  Calls Tryd.prog 4 args W fun e W' => ∃ v, e = .returned v ∧ Rows.listsDevicesSpec.post enc Tryd.prog Tryd.f4 false true false false W args v W' := by
 have hW' := hW
 obtain ⟨p, q, hA0, hV, rfl, hfz, hnd⟩ := hW
 have hA : DataW.TrodAll enc Tryd.prog W 0 (fun _ => true) true Tryd.f4.params.toList args.toList ds p := hA0
 rw [Tryd.params4] at hA hval hz
 obtain ⟨v0, vs0, d0, ds0, p0, q0, hargs0, rfl, rfl, h0, r0⟩ := trodAll_cons hA
 obtain ⟨v1, vs1, d1, ds1, p1, q1, hargs1, rfl, rfl, h1, r1⟩ := trodAll_cons r0
 obtain ⟨v2, vs2, d2, ds2, p2, q2, hargs2, rfl, rfl, h2, r2⟩ := trodAll_cons r1
 obtain ⟨v3, vs3, d3, ds3, p3, q3, hargs3, rfl, rfl, h3, r3⟩ := trodAll_cons r2
 obtain ⟨v4, vs4, d4, ds4, p4, q4, hargs4, rfl, rfl, h4, r4⟩ := trodAll_cons r3
 obtain ⟨v5, vs5, d5, ds5, p5, q5, hargs5, rfl, rfl, h5, r5⟩ := trodAll_cons r4
 obtain ⟨hvs, rfl, rfl⟩ := trodAll_nil r5
 obtain rfl : args = #[v0, v1, v2, v3, v4, v5] := by cases args; simp_all
 obtain ⟨rfl, rfl⟩ := trodVars_none hV
 obtain ⟨x0, X0, rfl, n0, s0, o0⟩ := open_ls (hval 0 29 v0 rfl rfl) h0
 obtain ⟨x1, X1, rfl, n1, s1, o1⟩ := open_ls (hval 1 29 v1 rfl rfl) h1
 obtain ⟨x2, s2, n2, o2⟩ := open_sl (hval 2 22 v2 rfl rfl) h2
 obtain ⟨x3, s3, n3, o3⟩ := open_sl (hval 3 22 v3 rfl rfl) h3
 obtain ⟨x4, rfl, rfl, rfl, w4⟩ := open_int Tryd.underlying5 (hval 4 5 v4 rfl rfl) h4
 have w4b := wf_u8 w4
 obtain ⟨y4, rfl⟩ := Int.eq_ofNat_of_zero_le w4b.1
 obtain ⟨x5, rfl, rfl, rfl, w5⟩ := open_int Tryd.underlying3 (hval 5 3 v5 rfl rfl) h5
 clear hA0 hA
 clear hV
 have walk : Calls Tryd.prog 4 #[.agg X0.toArray, .agg X1.toArray, v2, v3, .int .u8 (y4 : Int), .int .i64 x5] W fun e w' => e = .returned (.bool true) ∧ Below W.heap.size W w' := listsDevices_any pubC sigC verC x0 X0 x1 X1 v2 x2 v3 x3 y4 x5 W n0 s0 (ls_reach (j := 0) hz rfl rfl o0) n1 s1 (ls_reach (j := 1) hz rfl rfl o1) s2 (sl_reach (j := 2) hz rfl rfl o2) s3 (sl_reach (j := 3) hz rfl rfl o3) (by omega) (w9_of hL)
 refine walk.mono fun e W' ⟨he, hb⟩ => ?_
 subst he
 exact ⟨_, rfl, post_below hW' (fun _ _ _ => trodAll_cons_mk (shut_bool Tryd.underlying4 _) trodAll_mk0) (trodAll_cons_mk (Below.trod laidOut (by kernel_rfl) (of_decide_eq_true (by kernel_rfl)) h0 hb (fun x hx => hW'.lt x (by simp [hx]))) (trodAll_cons_mk (Below.trod laidOut (by kernel_rfl) (of_decide_eq_true (by kernel_rfl)) h1 hb (fun x hx => hW'.lt x (by simp [hx]))) (trodAll_cons_mk (Below.trod laidOut (by kernel_rfl) (of_decide_eq_true (by kernel_rfl)) h2 hb (fun x hx => hW'.lt x (by simp [hx]))) (trodAll_cons_mk (Below.trod laidOut (by kernel_rfl) (of_decide_eq_true (by kernel_rfl)) h3 hb (fun x hx => hW'.lt x (by simp [hx]))) (trodAll_cons_mk (shut_int Tryd.underlying5 w4) (trodAll_cons_mk (shut_int Tryd.underlying3 w5) trodAll_mk0)))))) (fun _ => rfl) hb⟩
theorem laid_met (os : Os) : laidMet Tryd.prog Rows.listsDevicesRow.laid ((laidWorld os).forCall (fun _ _ => 0) ⟨#[], #[(lsZ : Value), lsZ, .slice none 0 0, .slice none 0 0, .int .u8 0, .int .i64 0], []⟩).memory :=
 laidMet_of_run' 8 (by kernel_rfl) (by kernel_rfl)
theorem reads (os : Os) {H : Type} (enc : TypeId × Value → H) : ∃ places, DataW.whole enc Tryd.prog ((laidWorld os).forCall (fun _ _ => 0) ⟨#[], #[(lsZ : Value), lsZ, .slice none 0 0, .slice none 0 0, .int .u8 0, .int .i64 0], []⟩).memory Tryd.f4.params.toList Rows.listsDevicesSpec.vars false (#[(lsZ : Value), lsZ, .slice none 0 0, .slice none 0 0, .int .u8 0, .int .i64 0] : Array Value).toList 8 = some ([.agg [.lit (.int .i64 0), .lit (.int .i64 0), .agg (List.replicate 32 (.lit (.int .u8 0))), .nil, .agg (List.replicate 64 (.lit (.int .u8 0)))], .agg [.lit (.int .i64 0), .lit (.int .i64 0), .agg (List.replicate 32 (.lit (.int .u8 0))), .nil, .agg (List.replicate 64 (.lit (.int .u8 0)))], .nil, .nil, .lit (.int .u8 0), .lit (.int .i64 0)], [], places) :=
 ⟨[], by kernel_rfl⟩
set_option maxRecDepth 100000 in
theorem lifted (os : Os) (started : os.Started) (H : Type) (enc : TypeId × Value → H) (F : Stop.Interp) :
  ReturnsInHanded {} Tryd.checked os 4 .any ((OpenSpec.ofChange Rows.listsDevicesSpec).preRow enc Tryd.prog Tryd.f4 Rows.listsDevicesRow.domain false Rows.listsDevicesRow.laid) (((OpenSpec.ofChange Rows.listsDevicesSpec).at F).post enc Tryd.prog Tryd.f4 false true false false) := by
 obtain ⟨places, hx⟩ := reads os enc
 refine returnsInHanded_of_row (C := Tryd.checked) (s := OpenSpec.ofChange Rows.listsDevicesSpec) own started (by kernel_rfl) Tryd.func4
  (witness_row_at (enc := enc) (C := Tryd.checked) false (laidWorld os) #[(lsZ : Value), lsZ, .slice none 0 0, .slice none 0 0, .int .u8 0, .int .i64 0] rfl (by kernel_rfl) (by kernel_rfl) (by kernel_rfl)
   (OpenSpec.preRow_of_cond 8 hx (by kernel_rfl) (fun k hk => by cases hk) (by kernel_rfl) (laid_met os))) ?_
 intro W base args ds gs before hval hW _ _ hz hL _ _
 exact contract H enc W base args ds gs before hval hW hL hz
theorem said : Rows.ListsDevicesSaid :=
 OpenClaim.holds_of_cond 4 Tryd.f4 rfl rfl rfl rfl rfl rfl rfl ⟨rfl, rfl, rfl, rfl, rfl⟩ rfl rfl rfl rfl rfl (by kernel_rfl) Tryd.func4 (by kernel_rfl)
  (of_decide_eq_true (by kernel_rfl)) (by unfold Func.isWrapper; first | (rw [if_pos (by decide +kernel)]; kernel_rfl) | (rw [if_neg (by decide +kernel)]; exact ⟨rfl, rfl⟩))
  (fun os started H enc _ F => by rw [OpenClaim.pre_eq_preRow]; exact lifted os started H enc F)
theorem plain (f : FuncId) (fn : Func) (hf : Tryd.pinned.checked.prog.funcNamed "keyward/keywardlaw11.ListsDevices" = some f) (hfn : Tryd.pinned.checked.prog.funcs[f]? = some fn) :
  false = Tryd.pinned.checked.prog.looks [] ∧ ∀ (j : Nat) t, fn.params[j]? = some t → Tryd.pinned.checked.prog.wantsStandIn t = false := by
 obtain rfl : f = 4 := Option.some.inj ((show Tryd.prog.funcNamed "keyward/keywardlaw11.ListsDevices" = some 4 by kernel_rfl).symm.trans hf) |>.symm
 obtain rfl : fn = Tryd.f4 := (Option.some.inj (Tryd.func4.symm.trans hfn)).symm
 refine ⟨by kernel_rfl, fun j t ht => ?_⟩
 rw [Tryd.params4] at ht
 have hm := Array.mem_of_getElem? ht
 obtain rfl | rfl | rfl | rfl : t = 29 ∨ t = 22 ∨ t = 5 ∨ t = 3 := by simpa using hm
 ·exact (show Tryd.prog.wantsStandIn 29 = false by kernel_rfl)
 ·exact (show Tryd.prog.wantsStandIn 22 = false by kernel_rfl)
 ·exact (show Tryd.prog.wantsStandIn 5 = false by kernel_rfl)
 ·exact (show Tryd.prog.wantsStandIn 3 = false by kernel_rfl)
end Go.Proofs.YtcgbgmbnagmohaaDoor.ListsDevices
namespace Go.Proofs.YtcgbgmbnagmohaaDoor
theorem listsDevices_card : Rows.ListsDevicesCardSaid :=
 Claim7.holds_tied_plain_at .later [] _ _ _ _ ListsDevices.said (fun _ h => by cases h) (by kernel_rfl) (fun _ h => by cases h) listsDevices_row_tie rfl ⟨rfl, rfl⟩ (by kernel_rfl) rfl ListsDevices.plain (by kernel_rfl)
end Go.Proofs.YtcgbgmbnagmohaaDoor
