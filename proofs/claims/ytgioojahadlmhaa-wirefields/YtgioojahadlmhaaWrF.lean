/- What keywardref10's truth and Users answer. -/
import Derived.Test.YtgioojahadlmhaaWrE
namespace Go.Proofs.Ytgioojahadlmhaa
open Go.RowKit
set_option maxRecDepth 20000
attribute [local irreducible] wpList

theorem one_row5 (w : World) (x : BitVec 8) : S5 w (.slice (some ⟨w.heap.size, 0, none⟩) 1 1) [x] (w.alloc (.cells #[b8 x] 5)) :=
  ⟨(Below.refl _ _).alloc (Nat.le_refl _) _, rfl, .inr ⟨w.heap.size, 1, #[b8 x], rfl, Nat.le_refl _, Array.getElem?_push_size, Nat.le_refl _, by unfold maxLen; omega, rfl, rfl⟩⟩
set_option maxHeartbeats 4000000 in
theorem truth10o_any (b : Bool) (w : World) : Calls Try.prog 61 #[.bool b] w fun e w' => ∃ v', e = .returned v' ∧ S5 w v' (trB b) w' := by
  go_enter Try.func61, Try.ntmps61
  go_upto_region 0 with fail; refine wp_region_lit ?_
  refine wpList_val (run_asg (v := .slice none 0 0) rfl rfl) rfl ?_; (try simp only [Act.put, List.setIfInBounds_toArray, List.set_cons_zero, List.set_cons_succ])
  refine wpList_end ?_
  go_upto_region 1 with fail; refine wp_region_lit ?_
  refine wpList_val (run_mv (v := .bool _) rfl rfl) rfl ?_; (try simp only [Act.put, List.setIfInBounds_toArray, List.set_cons_zero, List.set_cons_succ])
  refine wpList_end ?_
  cases b
  · go_upto_region 3 with fail; refine wp_region_lit ?_
    refine wpList_val (run_bsl (cells := #[b8 0]) (z := .int .u8 0) rfl Try.underlying22 (by kernel_rfl) (by omega) (by omega) (by kernel_rfl)) rfl ?_; (try simp only [Act.put, List.setIfInBounds_toArray, List.set_cons_zero, List.set_cons_succ])
    refine wpList_val (run_asg (v := .slice (some _) _ _) rfl rfl) rfl ?_; (try simp only [Act.put, List.setIfInBounds_toArray, List.set_cons_zero, List.set_cons_succ])
    refine wpList_end ?_
    go_wp2_with fail
    exact bodyPost_ret (results_tmp Try.results61 _ _ _) rfl ⟨_, rfl, one_row5 w 0⟩
  · go_upto_region 2 with fail; refine wp_region_lit ?_
    refine wpList_val (run_bsl (cells := #[b8 1]) (z := .int .u8 0) rfl Try.underlying22 (by kernel_rfl) (by omega) (by omega) (by kernel_rfl)) rfl ?_; (try simp only [Act.put, List.setIfInBounds_toArray, List.set_cons_zero, List.set_cons_succ])
    refine wpList_val (run_asg (v := .slice (some _) _ _) rfl rfl) rfl ?_; (try simp only [Act.put, List.setIfInBounds_toArray, List.set_cons_zero, List.set_cons_succ])
    refine wpList_end ?_
    go_wp2_with fail
    exact bodyPost_ret (results_tmp Try.results61 _ _ _) rfl ⟨_, rfl, one_row5 w 1⟩
structure MUs where
  name : List (BitVec 8)
  acc : Int
  sure : Bool
def usAt (m : MUs) (cs : List Value) (_ : World) : Prop := cs = usR (.string (strOf m.name)) (.int .i64 m.acc) (.bool m.sure)
def usB (m : MUs) : List (BitVec 8) := txB m.name ++ viB m.acc ++ trB m.sure
def ussB (ms : List MUs) (i : Nat) : List (BitVec 8) := viB (ms.length : Int) ++ (ms.take i).flatMap usB
theorem ussB_succ {ms : List MUs} {i : Nat} (h : i < ms.length) : ussB ms (i + 1) = ussB ms i ++ usB ms[i] := by
  unfold ussB
  rw [List.take_succ_eq_append_getElem h, List.flatMap_append]
  simp
theorem ussB_le (ms : List MUs) : ∀ k i, i + k = ms.length → (ussB ms i).length ≤ (ussB ms ms.length).length
  | 0, i, h => by rw [show i = ms.length by omega]; exact Nat.le_refl _
  | k + 1, i, h => Nat.le_trans (by rw [ussB_succ (show i < ms.length by omega), List.length_append]; omega) (ussB_le ms k (i + 1) (by omega))
theorem enters_users10 : Enters 34 := enters_of Try.func34 (by kernel_rfl) rfl
set_option maxHeartbeats 8000000 in
theorem users10_any (a0 : Option Addr) (c0 : Nat) (ms : List MUs) (w : World) (hp : ∀ p ∈ ms, p.name.length ≤ 100000) (hT : (ussB ms ms.length).length ≤ 12000000) (hl : ms.length ≤ 60000) (hv : Fro 0 (SlR 3 usAt ms a0 c0) w) : Calls Try.prog 34 #[.slice a0 ms.length c0] w fun e w' => ∃ v', e = .returned v' ∧ S5 w v' (ussB ms ms.length) w' := by
  have HV := Lib.hid hv; clear hv
  have HE : Hid (∀ i, i < ms.length → ∃ g f nm d sr, a0 = some ⟨g, f, none⟩ ∧ ussB ms (i + 1) = ussB ms i ++ (txB nm ++ viB d ++ trB sr) ∧ (ussB ms i).length + (txB nm ++ viB d ++ trB sr).length ≤ 12000000 ∧ (nm : List (BitVec 8)).length ≤ 100000 ∧ (∀ u, Since w u → u.cell? ⟨g, f + i * 3 + 0, none⟩ = some (.string (strOf nm))) ∧ (∀ u, Since w u → u.cell? ⟨g, f + i * 3 + 1, none⟩ = some (.int .i64 d)) ∧ (∀ u, Since w u → u.cell? ⟨g, f + i * 3 + 2, none⟩ = some (.bool sr))) := Lib.hid fun i hi => by
    obtain ⟨g, f, cs, h1, h2, h3, h4, h5⟩ := slR_get HV.out hi
    have e : cs = usR (.string (strOf ms[i].name)) (.int .i64 ms[i].acc) (.bool ms[i].sure) := h5.now
    subst e
    have hle := ussB_le ms (ms.length - (i + 1)) (i + 1) (by omega)
    rw [ussB_succ hi, List.length_append] at hle
    refine ⟨g, f, ms[i].name, ms[i].acc, ms[i].sure, h1, ussB_succ hi, Nat.le_trans hle hT, hp _ (List.getElem_mem hi), fun u hu => ?_, fun u hu => ?_, fun u hu => ?_⟩
    · exact rangeAt_below h4 h2 hu 0 _ usR_Name
    · exact rangeAt_below h4 h2 hu 1 _ usR_Account
    · exact rangeAt_below h4 h2 hu 2 _ usR_Sure
  have HL : Hid (∀ i, i ≤ ms.length → (ussB ms i).length ≤ 12000000) := Lib.hid fun i hi => Nat.le_trans (ussB_le ms (ms.length - i) i (by omega)) hT
  have CN : Hid (∀ u : World, Calls Try.prog 58 #[.int .i64 ((ms.length : Nat) : Int)] u fun e w' => ∃ v', e = .returned v' ∧ S5 u v' (ussB ms 0) w') := Lib.hid fun u => by
    have h := number10_any (ms.length : Int) u
    simpa [ussB] using h
  have CT := Lib.hid (fun (l : List (BitVec 8)) (u : World) (h : l.length ≤ 100000) => tx10_any l u (by omega))
  have E := Lib.hid (Ev.start (w := w) (F := fun _ => True) fun _ _ => trivial)
  obtain ⟨Fl, hFl⟩ : ∃ Fl, Fl = ussB ms := ⟨_, rfl⟩
  rw [← hFl] at CN HE HL ⊢
  clear hFl HV hp hT
  generalize ms.length = n at *
  go_enter Try.func34, Try.ntmps34
  go_upto_region 0 with fail; refine wp_region_lit ?_
  refine wpList_val (run_asg (v := .slice none 0 0) rfl rfl) rfl ?_; (try simp only [Act.put, List.setIfInBounds_toArray, List.set_cons_zero, List.set_cons_succ])
  refine wpList_end ?_
  go_upto_region 1 with fail; refine wp_region_lit ?_
  refine wpList_val (run_mv (v := .slice a0 n c0) rfl rfl) rfl ?_; (try simp only [Act.put, List.setIfInBounds_toArray, List.set_cons_zero, List.set_cons_succ])
  refine wpList_val (run_len rfl Try.underlying26 rfl) rfl ?_; (try simp only [Act.put, List.setIfInBounds_toArray, List.set_cons_zero, List.set_cons_succ])
  refine wpList_callR (run_call1 enters_number10 rfl rfl rfl) rfl (CN.out _) (fun V1 b1 hR => ?_); (try simp only [Act.put, List.setIfInBounds_toArray, List.set_cons_zero, List.set_cons_succ])
  have hI := Lib.hid hR
  replace E := Lib.hid (E.out.below hR.bl)
  clear hR
  refine wpList_val (run_asg (v := V1) rfl rfl) rfl ?_; (try simp only [Act.put, List.setIfInBounds_toArray, List.set_cons_zero, List.set_cons_succ])
  refine wpList_end ?_
  go_upto_region 2 with fail; refine wp_region_lit ?_
  refine wpList_val (run_asg (v := .int .i64 0) rfl rfl) rfl ?_; (try simp only [Act.put, List.setIfInBounds_toArray, List.set_cons_zero, List.set_cons_succ])
  refine wpList_end ?_
  go_wp2_with fail
  go_loopw [3, 4] (fun s3 s4 u => ∃ i : Nat, i ≤ n ∧ s4 = .int .i64 (i : Int) ∧ S5 w s3 (Fl i) u ∧ Ev w [] [] (fun _ => True) (fun _ => True) u) (fun _ s4 _ => (n - intOf s4).toNat)
  case atStart => exact ⟨0, by omega, rfl, hI.out, E.out⟩
  case round =>
    obtain ⟨i, hi, rfl, hJ, hE⟩ := hrel
    replace hI := Lib.hid hJ
    replace E := Lib.hid hE
    clear hJ hE
    have hfl := HL.out i hi
    by_cases hik : i = n
    · subst hik
      go_upto_region 3 with fail; refine wp_region_lit ?_
      refine wpList_val (run_mv (v := .int .i64 (i : Int)) rfl rfl) rfl ?_; (try simp only [Act.put, List.setIfInBounds_toArray, List.set_cons_zero, List.set_cons_succ])
      refine wpList_val (run_mv (v := .slice a0 i c0) rfl rfl) rfl ?_; (try simp only [Act.put, List.setIfInBounds_toArray, List.set_cons_zero, List.set_cons_succ])
      refine wpList_val (run_len rfl Try.underlying26 rfl) rfl ?_; (try simp only [Act.put, List.setIfInBounds_toArray, List.set_cons_zero, List.set_cons_succ])
      refine wpList_val (run_lssb (c := false) rfl rfl rfl (decide_eq_false (by omega))) rfl ?_; (try simp only [Act.put, List.setIfInBounds_toArray, List.set_cons_zero, List.set_cons_succ])
      refine wpList_end ?_
      go_upto_region 6 with fail; refine wp_region_lit ?_
      refine wpList_val (run_mv (v := u3) rfl rfl) rfl ?_; (try simp only [Act.put, List.setIfInBounds_toArray, List.set_cons_zero, List.set_cons_succ])
      refine wpList_val (run_asg (v := u3) rfl rfl) rfl ?_; (try simp only [Act.put, List.setIfInBounds_toArray, List.set_cons_zero, List.set_cons_succ])
      refine wpList_end ?_
      go_wp2_with fail
      exact bodyPost_ret (results_tmp Try.results34 _ _ _) rfl ⟨_, rfl, hI.out⟩
    · go_upto_region 3 with fail; refine wp_region_lit ?_
      refine wpList_val (run_mv (v := .int .i64 (i : Int)) rfl rfl) rfl ?_; (try simp only [Act.put, List.setIfInBounds_toArray, List.set_cons_zero, List.set_cons_succ])
      refine wpList_val (run_mv (v := .slice a0 n c0) rfl rfl) rfl ?_; (try simp only [Act.put, List.setIfInBounds_toArray, List.set_cons_zero, List.set_cons_succ])
      refine wpList_val (run_len rfl Try.underlying26 rfl) rfl ?_; (try simp only [Act.put, List.setIfInBounds_toArray, List.set_cons_zero, List.set_cons_succ])
      refine wpList_val (run_lssb (c := true) rfl rfl rfl (decide_eq_true (by omega))) rfl ?_; (try simp only [Act.put, List.setIfInBounds_toArray, List.set_cons_zero, List.set_cons_succ])
      refine wpList_end ?_
      have HI := Lib.hid hI.out.sl
      obtain ⟨yy, cy, hy, -, -⟩ := id HI.out
      subst hy
      obtain ⟨g, f, nm, d, sr, rfl, hx, hlen, hn, h1, h2, h3⟩ := HE.out i (by omega)
      have HX := Lib.hid hx
      have H1 := Lib.hid h1
      have H2 := Lib.hid h2
      have H3 := Lib.hid h3
      clear hx h1 h2 h3
      have bd := viB_len d
      have bt := txB_len nm
      have bs := trB_len sr
      go_upto_region 5 with fail
      refine wp_region_noPanic ?_; refine wp_region_late (S := fun _ V => Below wr.heap.size wr V) (by kernel_rfl) ((Below.refl _ _).drew) (fun hS => ?_)
      have E0 := E
      replace E := Lib.hid (E.out.below hS)
      generalize wr.drew = a1 at *
      refine wpAnyL_take 0 rfl rfl (by kernel_rfl) (by kernel_rfl) (by kernel_rfl) (fun _ _ _ h => h) rfl (fun V hV => run_mv (v := .slice yy (Fl i).length cy) rfl rfl) hS ?_; (try simp only [Act.put, List.setIfInBounds_toArray, List.set_cons_zero, List.set_cons_succ])
      refine wpAnyL_take 1 rfl rfl (by kernel_rfl) (by kernel_rfl) (by kernel_rfl) (fun _ _ _ h => h) rfl (fun V hV => run_mv (v := .slice (some ⟨g, f, none⟩) n c0) rfl rfl) hS ?_; (try simp only [Act.put, List.setIfInBounds_toArray, List.set_cons_zero, List.set_cons_succ])
      refine wpAnyL_take 2 rfl rfl (by kernel_rfl) (by kernel_rfl) (by kernel_rfl) (fun _ _ _ h => h) rfl (fun V hV => run_mv (v := .int .i64 (i : Int)) rfl rfl) hS ?_; (try simp only [Act.put, List.setIfInBounds_toArray, List.set_cons_zero, List.set_cons_succ])
      refine wpAnyL_take 3 rfl rfl (by kernel_rfl) (by kernel_rfl) (by kernel_rfl) (fun _ _ _ h => h) rfl (fun V hV => run_ixZ (z := 3) (i := i) rfl Try.underlying26 (by kernel_rfl) rfl rfl (by omega)) hS ?_; (try simp only [Act.put, List.setIfInBounds_toArray, List.set_cons_zero, List.set_cons_succ])
      refine wpAnyL_take 4 rfl rfl (by kernel_rfl) (by kernel_rfl) (by kernel_rfl) (fun _ _ _ h => h) rfl (fun V hV => run_fad (s := 0) (k := 0) rfl Try.underlying25 rfl (by kernel_rfl) rfl rfl) hS ?_; (try simp only [Act.put, List.setIfInBounds_toArray, List.set_cons_zero, List.set_cons_succ])
      refine wpAnyL_take 5 rfl rfl (by kernel_rfl) (by kernel_rfl) (by kernel_rfl) (fun _ _ _ h => h) rfl (fun V hV => run_ldc rfl Try.underlying9 rfl rfl (H1.out _ ((E0.out.below hV).bl))) hS ?_; (try simp only [Act.put, List.setIfInBounds_toArray, List.set_cons_zero, List.set_cons_succ])
      refine wpAnyL_take 7 rfl rfl (by kernel_rfl) (by kernel_rfl) (by kernel_rfl) (fun _ _ _ h => h) rfl (fun V hV => run_mv (v := .slice (some ⟨g, f, none⟩) n c0) rfl rfl) hS ?_; (try simp only [Act.put, List.setIfInBounds_toArray, List.set_cons_zero, List.set_cons_succ])
      refine wpAnyL_take 8 rfl rfl (by kernel_rfl) (by kernel_rfl) (by kernel_rfl) (fun _ _ _ h => h) rfl (fun V hV => run_mv (v := .int .i64 (i : Int)) rfl rfl) hS ?_; (try simp only [Act.put, List.setIfInBounds_toArray, List.set_cons_zero, List.set_cons_succ])
      refine wpAnyL_take 9 rfl rfl (by kernel_rfl) (by kernel_rfl) (by kernel_rfl) (fun _ _ _ h => h) rfl (fun V hV => run_ixZ (z := 3) (i := i) rfl Try.underlying26 (by kernel_rfl) rfl rfl (by omega)) hS ?_; (try simp only [Act.put, List.setIfInBounds_toArray, List.set_cons_zero, List.set_cons_succ])
      refine wpAnyL_take 10 rfl rfl (by kernel_rfl) (by kernel_rfl) (by kernel_rfl) (fun _ _ _ h => h) rfl (fun V hV => run_fad (s := 0) (k := 1) rfl Try.underlying25 rfl (by kernel_rfl) rfl rfl) hS ?_; (try simp only [Act.put, List.setIfInBounds_toArray, List.set_cons_zero, List.set_cons_succ])
      refine wpAnyL_take 11 rfl rfl (by kernel_rfl) (by kernel_rfl) (by kernel_rfl) (fun _ _ _ h => h) rfl (fun V hV => run_ldc rfl Try.underlying3 rfl rfl (H2.out _ ((E0.out.below hV).bl))) hS ?_; (try simp only [Act.put, List.setIfInBounds_toArray, List.set_cons_zero, List.set_cons_succ])
      refine wpAnyL_take 13 rfl rfl (by kernel_rfl) (by kernel_rfl) (by kernel_rfl) (fun _ _ _ h => h) rfl (fun V hV => run_mv (v := .slice (some ⟨g, f, none⟩) n c0) rfl rfl) hS ?_; (try simp only [Act.put, List.setIfInBounds_toArray, List.set_cons_zero, List.set_cons_succ])
      refine wpAnyL_take 14 rfl rfl (by kernel_rfl) (by kernel_rfl) (by kernel_rfl) (fun _ _ _ h => h) rfl (fun V hV => run_mv (v := .int .i64 (i : Int)) rfl rfl) hS ?_; (try simp only [Act.put, List.setIfInBounds_toArray, List.set_cons_zero, List.set_cons_succ])
      refine wpAnyL_take 15 rfl rfl (by kernel_rfl) (by kernel_rfl) (by kernel_rfl) (fun _ _ _ h => h) rfl (fun V hV => run_ixZ (z := 3) (i := i) rfl Try.underlying26 (by kernel_rfl) rfl rfl (by omega)) hS ?_; (try simp only [Act.put, List.setIfInBounds_toArray, List.set_cons_zero, List.set_cons_succ])
      refine wpAnyL_take 16 rfl rfl (by kernel_rfl) (by kernel_rfl) (by kernel_rfl) (fun _ _ _ h => h) rfl (fun V hV => run_fad (s := 0) (k := 2) rfl Try.underlying25 rfl (by kernel_rfl) rfl rfl) hS ?_; (try simp only [Act.put, List.setIfInBounds_toArray, List.set_cons_zero, List.set_cons_succ])
      refine wpAnyL_take 17 rfl rfl (by kernel_rfl) (by kernel_rfl) (by kernel_rfl) (fun _ _ _ h => h) rfl (fun V hV => run_ldc rfl Try.underlying4 rfl rfl (H3.out _ ((E0.out.below hV).bl))) hS ?_; (try simp only [Act.put, List.setIfInBounds_toArray, List.set_cons_zero, List.set_cons_succ])
      refine wpAnyL_call 6 (by kernel_rfl) rfl rfl rfl (run_call1 enters_text10 rfl rfl rfl) (CT.out nm _ hn) (fun v w h => hS.trans (h.bl.mono hS.size)) (fun v3 a2 hR => ?_); (try simp only [Act.put, List.setIfInBounds_toArray, List.set_cons_zero, List.set_cons_succ])
      have hb9 := hR.bl
      replace hS := hS.trans (hb9.mono hS.size)
      have hs9 := hR.sl
      obtain ⟨xa4, xc5, rfl, -, -⟩ := id hs9
      replace E := Lib.hid (E.out.call hb9 (fro_sl hR.O))
      clear hb9 hR hs9
      refine wpAnyL_call 12 (by kernel_rfl) rfl rfl rfl (run_call1 enters_number10 rfl rfl rfl) (number10_any d _) (fun v w h => hS.trans (h.bl.mono hS.size)) (fun v7 a6 hR => ?_); (try simp only [Act.put, List.setIfInBounds_toArray, List.set_cons_zero, List.set_cons_succ])
      have hb9 := hR.bl
      replace hS := hS.trans (hb9.mono hS.size)
      have hs9 := hR.sl
      obtain ⟨xa8, xc9, rfl, -, -⟩ := id hs9
      replace E := Lib.hid (E.out.call hb9 (fro_sl hR.O))
      clear hb9 hR hs9
      refine wpAnyL_call 18 (by kernel_rfl) rfl rfl rfl (run_call1 enters_truth10 rfl rfl rfl) (truth10o_any sr _) (fun v w h => hS.trans (h.bl.mono hS.size)) (fun v11 a10 hR => ?_); (try simp only [Act.put, List.setIfInBounds_toArray, List.set_cons_zero, List.set_cons_succ])
      have hb9 := hR.bl
      replace hS := hS.trans (hb9.mono hS.size)
      have hs9 := hR.sl
      obtain ⟨xa12, xc13, rfl, -, -⟩ := id hs9
      replace E := Lib.hid (E.out.call hb9 (fro_sl hR.O))
      clear hb9 hR hs9
      have HC : Hid (Cat a10.heap.size [.slice yy (Fl i).length cy, .slice xa4 (txB nm).length xc5, .slice xa8 (viB d).length xc9, .slice xa12 (trB sr).length xc13] [Fl i, txB nm, viB d, trB sr] (a10.alloc (.cells #[.slice yy (Fl i).length cy, .slice xa4 (txB nm).length xc5, .slice xa8 (viB d).length xc9, .slice xa12 (trB sr).length xc13] 22))) := Lib.hid (cat_row a10 _ [Fl i, txB nm, viB d, trB sr] fun i hi => match i, hi with
        | 0, _ => ⟨_, rfl, (HI.out.below hS)⟩
        | 1, _ => ⟨_, rfl, E.out.h.2.2.1⟩
        | 2, _ => ⟨_, rfl, E.out.h.2.1⟩
        | 3, _ => ⟨_, rfl, E.out.h.1⟩
        | i + 4, hi => absurd hi (by simp))
      refine wpAnyL_val 19 (by kernel_rfl) rfl rfl rfl (run_bsl (cells := #[.slice yy (Fl i).length cy, .slice xa4 (txB nm).length xc5, .slice xa8 (viB d).length xc9, .slice xa12 (trB sr).length xc13]) (z := .slice none 0 0) rfl Try.underlying122 (by kernel_rfl) (by omega) (by omega) (by kernel_rfl)) (hS.alloc hS.size _) ?_; (try simp only [Act.put, List.setIfInBounds_toArray, List.set_cons_zero, List.set_cons_succ])
      replace E := Lib.hid (E.out.below (cat_belowA a10 #[.slice yy (Fl i).length cy, .slice xa4 (txB nm).length xc5, .slice xa8 (viB d).length xc9, .slice xa12 (trB sr).length xc13] 22))
      replace hS := hS.alloc hS.size (.cells #[.slice yy (Fl i).length cy, .slice xa4 (txB nm).length xc5, .slice xa8 (viB d).length xc9, .slice xa12 (trB sr).length xc13] 22)
      generalize a10.alloc (.cells #[.slice yy (Fl i).length cy, .slice xa4 (txB nm).length xc5, .slice xa8 (viB d).length xc9, .slice xa12 (trB sr).length xc13] 22) = a14 at *
      generalize a10.heap.size = g15 at *
      refine wpAnyL_call 20 (by kernel_rfl) rfl rfl rfl (run_call1 enters_all10 rfl rfl rfl) (all10_any g15 _ [Fl i, txB nm, viB d, trB sr] 4 _ HC.out rfl (by omega) (by simp only [List.flatten_cons, List.flatten_nil, List.length_append, List.length_nil]; omega)) (fun v w h => hS.trans (h.bl.mono hS.size)) (fun V3 a16 hR => ?_); (try simp only [Act.put, List.setIfInBounds_toArray, List.set_cons_zero, List.set_cons_succ])
      have HV3 := Lib.hid (hR.mono E.out.bl)
      replace hS := hS.trans (hR.bl.mono hS.size)
      replace E := Lib.hid (E.out.below hR.bl)
      clear hR HC
      refine wpAnyL_take 21 rfl rfl (by kernel_rfl) (by kernel_rfl) (by kernel_rfl) (fun _ _ _ h => h) rfl (fun V hV => run_asg (v := V3) rfl rfl) hS ?_; (try simp only [Act.put, List.setIfInBounds_toArray, List.set_cons_zero, List.set_cons_succ])
      refine wpAnyL_done (by kernel_rfl) ?_ _; refine NoPanic.normal ?_
      go_upto_region 4 with fail; refine wp_region_lit ?_
      refine wpList_val (run_mv (v := .int .i64 (i : Int)) rfl rfl) rfl ?_; (try simp only [Act.put, List.setIfInBounds_toArray, List.set_cons_zero, List.set_cons_succ])
      refine wpList_val (run_addN (a := i) (b := 1) rfl rfl rfl (by omega)) rfl ?_; (try simp only [Act.put, List.setIfInBounds_toArray, List.set_cons_zero, List.set_cons_succ])
      refine wpList_val (run_asg (v := .int .i64 ((i + 1 : Nat) : Int)) rfl rfl) rfl ?_; (try simp only [Act.put, List.setIfInBounds_toArray, List.set_cons_zero, List.set_cons_succ])
      refine wpList_end ?_
      go_wp2_with fail
      exact ⟨⟨i + 1, by omega, rfl, by rw [HX.out]; have h := HV3.out; simpa using h, E.out.knowH fun _ _ => trivial⟩, by simp [intOf]; omega⟩
end Go.Proofs.Ytgioojahadlmhaa
