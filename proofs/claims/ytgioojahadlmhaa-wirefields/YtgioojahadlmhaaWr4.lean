/- Things as cells in memory, as bytes; what keywardref10's prekey and Header answer. -/
import Derived.Test.YtgioojahadlmhaaWr3
import Derived.Test.YtgioojahadlmhaaLateG
namespace Go.Proofs.Ytgioojahadlmhaa
open Go.RowKit
set_option maxRecDepth 20000

theorem cell_app {g n : Nat} {cs A C : List Value} {x : Value} {u : World} (h : Arr g cs u) (e : cs = A ++ (x :: C)) (hn : A.length = n) : u.cell? ⟨g, n, none⟩ = some x := by
  subst e; subst hn
  exact h.c _ _ (by rw [List.getElem?_append_right (Nat.le_refl _), Nat.sub_self]; rfl)
theorem rng_app {g n : Nat} {cs A B C : List Value} {u : World} (h : Arr g cs u) (e : cs = A ++ (B ++ C)) (hn : A.length = n) : u.rangeAt g n B := by
  subst e; subst hn
  have h1 := rangeAt_drop (k := A.length) h.range
  rw [Nat.zero_add, List.drop_left' rfl] at h1
  have h2 := rangeAt_take (k := B.length) h1
  rwa [List.take_left' rfl] at h2
/-- A number and a key: an entry of a list, a prekey. -/
structure MPk where
  id : Int
  key : List (BitVec 8)
def pkC (p : MPk) : List Value := .int .i64 p.id :: p.key.map b8
def pkB (p : MPk) : List (BitVec 8) := viB p.id ++ p.key
theorem pkC_len {p : MPk} (h : p.key.length = 32) : (pkC p).length = 33 := by unfold pkC; rw [List.length_cons, List.length_map, h]
theorem szPk {p : MPk} (h : p.key.length = 32) : (Try.prog.info? 42).map (·.size) = some (pkC p).length := by rw [pkC_len h]; kernel_rfl
/-- What stands ahead of a message. -/
structure MHd where
  r : List (BitVec 8)
  prev : Int
  n : Int
def hdC (h : MHd) : List Value := h.r.map b8 ++ [.int .i64 h.prev, .int .i64 h.n]
def hdB (h : MHd) : List (BitVec 8) := h.r ++ viB h.prev ++ viB h.n
theorem hdC_len {h : MHd} (e : h.r.length = 32) : (hdC h).length = 34 := by unfold hdC; rw [List.length_append, List.length_map, e]; rfl
theorem enters_prekey10 : Enters 63 := enters_of Try.func63 (by kernel_rfl) rfl
set_option maxHeartbeats 8000000 in
theorem prekey10_any (p : MPk) (w : World) (hp : p.key.length = 32) : Calls Try.prog 63 #[.agg (pkC p).toArray] w fun e w' => ∃ v', e = .returned v' ∧ S5 w v' (pkB p) w' := by
  have EO : Hid (pkB p = viB p.id ++ p.key) := Lib.hid rfl
  have C0 : Hid (∀ (V : World) (g : Nat), Arr g (pkC p) V → V.cell? ⟨g, 0, none⟩ = some (.int .i64 p.id)) := Lib.hid fun V g h => cell_app (A := []) h rfl rfl
  have R1 : Hid (∀ (V : World) (g : Nat), Arr g (pkC p) V → V.rangeAt g 1 (p.key.map b8)) := Lib.hid fun V g h => rng_app (A := [.int .i64 p.id]) (C := []) h (by simp [pkC]) rfl
  have SK := Lib.hid (szKy hp)
  generalize pkB p = out at *
  generalize pkC p = CL at *
  generalize p.key = k at *
  generalize p.id = pid at *
  clear p
  have hvl := viB_len pid
  have CN : Hid (∀ u : World, Calls Try.prog 58 #[.int .i64 pid] u fun e w' => ∃ v', e = .returned v' ∧ S5 u v' (viB pid) w') := Lib.hid fun u => number10_any _ u
  generalize viB pid = N at *
  have hM := Lib.hid (Mv.nil w)
  go_enter Try.func63, Try.ntmps63
  go_upto_region 0 with fail; refine wp_region_lit ?_
  refine wpList_val (run_boxL8 (vs := CL) rfl rfl) rfl ?_; (try simp only [Act.put, List.setIfInBounds_toArray, List.set_cons_zero, List.set_cons_succ]); replace hM := Lib.hid (hM.out.new (CL) 42); generalize w.alloc (.cells (CL).toArray 42) = a1 at *; generalize w.heap.size = g1 at *
  refine wpList_val (run_asg (v := .slice none 0 0) rfl rfl) rfl ?_; (try simp only [Act.put, List.setIfInBounds_toArray, List.set_cons_zero, List.set_cons_succ])
  refine wpList_end ?_
  go_upto_region 1 with fail
  refine wp_region_noPanic ?_; refine wp_region_late (S := fun _ V => Below a1.heap.size a1 V) (by kernel_rfl) ((Below.refl _ _).drew) (fun hS => ?_)
  refine wpAnyL_take 0 rfl rfl (by kernel_rfl) (by kernel_rfl) (by kernel_rfl) (fun _ _ _ h => h) rfl (fun V hV => run_fad (s := 0) (k := 0) rfl Try.underlying42 rfl (by kernel_rfl) rfl rfl) hS ?_; (try simp only [Act.put, List.setIfInBounds_toArray, List.set_cons_zero, List.set_cons_succ])
  refine wpAnyL_take 1 rfl rfl (by kernel_rfl) (by kernel_rfl) (by kernel_rfl) (fun _ _ _ h => h) rfl (fun V hV => run_ldi rfl rfl (C0.out _ _ ((hM.out.below hV).get (i := 0) rfl))) hS ?_; (try simp only [Act.put, List.setIfInBounds_toArray, List.set_cons_zero, List.set_cons_succ])
  refine wpAnyL_take 3 rfl rfl (by kernel_rfl) (by kernel_rfl) (by kernel_rfl) (fun _ _ _ h => h) rfl (fun V hV => run_fad (s := 31) (k := 1) rfl Try.underlying42 rfl (by kernel_rfl) rfl rfl) hS ?_; (try simp only [Act.put, List.setIfInBounds_toArray, List.set_cons_zero, List.set_cons_succ])
  refine wpAnyL_take 4 rfl rfl (by kernel_rfl) (by kernel_rfl) (by kernel_rfl) (fun _ _ _ h => h) rfl (fun V hV => run_ldM (vs := k.map b8) rfl Try.underlying35 rfl SK.out rfl (R1.out _ _ ((hM.out.below hV).get (i := 0) rfl))) hS ?_; (try simp only [Act.put, List.setIfInBounds_toArray, List.set_cons_zero, List.set_cons_succ])
  refine wpAnyL_call 2 (by kernel_rfl) rfl rfl rfl (run_call1 enters_number10 rfl rfl rfl) (CN.out _) (fun v w h => hS.trans (h.bl.mono hS.size)) (fun vb1 ub1 hR => ?_); (try simp only [Act.put, List.setIfInBounds_toArray, List.set_cons_zero, List.set_cons_succ])
  have hb := hR.bl
  have HB1 := Lib.hid hR.sl
  clear hR
  replace hS := hS.trans (hb.mono hS.size)
  clear hb
  obtain ⟨xa1, xc1, rfl, -, -⟩ := id HB1.out
  refine wpAnyL_call 5 (by kernel_rfl) rfl rfl rfl (run_call1 enters_key10 rfl rfl rfl) (key10_any k _ hp) (fun v w h => hS.trans (h.bl.mono hS.size)) (fun vb2 ub2 hR => ?_); (try simp only [Act.put, List.setIfInBounds_toArray, List.set_cons_zero, List.set_cons_succ])
  have hb := hR.bl
  have HB2 := Lib.hid hR.sl
  clear hR
  replace hS := hS.trans (hb.mono hS.size)
  replace HB1 := Lib.hid (HB1.out.below hb)
  clear hb
  obtain ⟨xa2, xc2, rfl, -, -⟩ := id HB2.out
  have HC : Hid (Cat ub2.heap.size [.slice xa1 N.length xc1, .slice xa2 k.length xc2] [N, k] (ub2.alloc (.cells #[.slice xa1 N.length xc1, .slice xa2 k.length xc2] 22))) := Lib.hid (cat_row ub2 _ [N, k] fun i hi => match i, hi with
    | 0, _ => ⟨_, rfl, HB1.out⟩
    | 1, _ => ⟨_, rfl, HB2.out⟩)
  refine wpAnyL_val 6 (by kernel_rfl) rfl rfl rfl (run_bsl (cells := #[.slice xa1 N.length xc1, .slice xa2 k.length xc2]) (z := .slice none 0 0) rfl Try.underlying122 (by kernel_rfl) (by omega) (by omega) (by kernel_rfl)) (hS.alloc hS.size _) ?_; (try simp only [Act.put, List.setIfInBounds_toArray, List.set_cons_zero, List.set_cons_succ])
  replace hS := hS.alloc hS.size (.cells #[.slice xa1 N.length xc1, .slice xa2 k.length xc2] 22)
  generalize ub2.alloc (.cells #[.slice xa1 N.length xc1, .slice xa2 k.length xc2] 22) = uc at *
  generalize ub2.heap.size = gc at *
  refine wpAnyL_call 7 (by kernel_rfl) rfl rfl rfl (run_call1 enters_all10 rfl rfl rfl) (all10_any gc _ [N, k] 2 _ HC.out rfl (by omega) (by simp; omega)) (fun v w h => hS.trans (h.bl.mono hS.size)) (fun VL uz hR => ?_); (try simp only [Act.put, List.setIfInBounds_toArray, List.set_cons_zero, List.set_cons_succ])
  have HL := Lib.hid hR
  have hbu := hS
  replace hS := hS.trans (hR.bl.mono hS.size)
  clear hR
  refine wpAnyL_take 8 rfl rfl (by kernel_rfl) (by kernel_rfl) (by kernel_rfl) (fun _ _ _ h => h) rfl (fun V hV => run_asg (v := VL) rfl rfl) hS ?_; (try simp only [Act.put, List.setIfInBounds_toArray, List.set_cons_zero, List.set_cons_succ])
  refine wpAnyL_done (by kernel_rfl) ?_ _; refine NoPanic.normal ?_
  have hI : Hid (S5 w VL out uz) := Lib.hid (by
    have h := HL.out.mono (hM.out.below hbu).bl
    rw [EO.out]
    simpa using h)
  go_wp2_with fail
  exact bodyPost_ret (results_tmp Try.results63 _ _ _) rfl ⟨_, rfl, hI.out⟩
theorem enters_header10 : Enters 27 := enters_of Try.func27 (by kernel_rfl) rfl
set_option maxHeartbeats 8000000 in
theorem header10_any (p : MHd) (w : World) (hp : p.r.length = 32) : Calls Try.prog 27 #[.agg (hdC p).toArray] w fun e w' => ∃ v', e = .returned v' ∧ S5 w v' (hdB p) w' := by
  have EO : Hid (hdB p = p.r ++ viB p.prev ++ viB p.n) := Lib.hid rfl
  have R0 : Hid (∀ (V : World) (g : Nat), Arr g (hdC p) V → V.rangeAt g 0 (p.r.map b8)) := Lib.hid fun V g h => rng_app (A := []) (C := [.int .i64 p.prev, .int .i64 p.n]) h rfl rfl
  have C1 : Hid (∀ (V : World) (g : Nat), Arr g (hdC p) V → V.cell? ⟨g, 32, none⟩ = some (.int .i64 p.prev)) := Lib.hid fun V g h => cell_app (A := p.r.map b8) h rfl (by rw [List.length_map, hp])
  have C2 : Hid (∀ (V : World) (g : Nat), Arr g (hdC p) V → V.cell? ⟨g, 33, none⟩ = some (.int .i64 p.n)) := Lib.hid fun V g h => cell_app (A := p.r.map b8 ++ [.int .i64 p.prev]) (C := []) h (by simp [hdC]) (by rw [List.length_append, List.length_map, hp]; rfl)
  have SK := Lib.hid (szKy hp)
  generalize hdB p = out at *
  generalize hdC p = CL at *
  generalize p.r = k at *
  generalize p.prev = x at *
  generalize p.n = y at *
  clear p
  have hv1 := viB_len x
  have hv2 := viB_len y
  have CN : Hid (∀ u : World, Calls Try.prog 58 #[.int .i64 x] u fun e w' => ∃ v', e = .returned v' ∧ S5 u v' (viB x) w') := Lib.hid fun u => number10_any _ u
  have CQ : Hid (∀ u : World, Calls Try.prog 58 #[.int .i64 y] u fun e w' => ∃ v', e = .returned v' ∧ S5 u v' (viB y) w') := Lib.hid fun u => number10_any _ u
  generalize viB x = N at *
  generalize viB y = Q at *
  have hM := Lib.hid (Mv.nil w)
  go_enter Try.func27, Try.ntmps27
  go_upto_region 0 with fail; refine wp_region_lit ?_
  refine wpList_val (run_boxL8 (vs := CL) rfl rfl) rfl ?_; (try simp only [Act.put, List.setIfInBounds_toArray, List.set_cons_zero, List.set_cons_succ]); replace hM := Lib.hid (hM.out.new (CL) 62); generalize w.alloc (.cells (CL).toArray 62) = a1 at *; generalize w.heap.size = g1 at *
  refine wpList_val (run_asg (v := .slice none 0 0) rfl rfl) rfl ?_; (try simp only [Act.put, List.setIfInBounds_toArray, List.set_cons_zero, List.set_cons_succ])
  refine wpList_end ?_
  go_upto_region 1 with fail
  refine wp_region_noPanic ?_; refine wp_region_late (S := fun _ V => Below a1.heap.size a1 V) (by kernel_rfl) ((Below.refl _ _).drew) (fun hS => ?_)
  refine wpAnyL_take 0 rfl rfl (by kernel_rfl) (by kernel_rfl) (by kernel_rfl) (fun _ _ _ h => h) rfl (fun V hV => run_fad (s := 31) (k := 0) rfl Try.underlying62 rfl (by kernel_rfl) rfl rfl) hS ?_; (try simp only [Act.put, List.setIfInBounds_toArray, List.set_cons_zero, List.set_cons_succ])
  refine wpAnyL_take 1 rfl rfl (by kernel_rfl) (by kernel_rfl) (by kernel_rfl) (fun _ _ _ h => h) rfl (fun V hV => run_ldM (vs := k.map b8) rfl Try.underlying35 rfl SK.out rfl (R0.out _ _ ((hM.out.below hV).get (i := 0) rfl))) hS ?_; (try simp only [Act.put, List.setIfInBounds_toArray, List.set_cons_zero, List.set_cons_succ])
  refine wpAnyL_take 3 rfl rfl (by kernel_rfl) (by kernel_rfl) (by kernel_rfl) (fun _ _ _ h => h) rfl (fun V hV => run_fad (s := 0) (k := 32) rfl Try.underlying62 rfl (by kernel_rfl) rfl rfl) hS ?_; (try simp only [Act.put, List.setIfInBounds_toArray, List.set_cons_zero, List.set_cons_succ])
  refine wpAnyL_take 4 rfl rfl (by kernel_rfl) (by kernel_rfl) (by kernel_rfl) (fun _ _ _ h => h) rfl (fun V hV => run_ldi rfl rfl (C1.out _ _ ((hM.out.below hV).get (i := 0) rfl))) hS ?_; (try simp only [Act.put, List.setIfInBounds_toArray, List.set_cons_zero, List.set_cons_succ])
  refine wpAnyL_take 6 rfl rfl (by kernel_rfl) (by kernel_rfl) (by kernel_rfl) (fun _ _ _ h => h) rfl (fun V hV => run_fad (s := 0) (k := 33) rfl Try.underlying62 rfl (by kernel_rfl) rfl rfl) hS ?_; (try simp only [Act.put, List.setIfInBounds_toArray, List.set_cons_zero, List.set_cons_succ])
  refine wpAnyL_take 7 rfl rfl (by kernel_rfl) (by kernel_rfl) (by kernel_rfl) (fun _ _ _ h => h) rfl (fun V hV => run_ldi rfl rfl (C2.out _ _ ((hM.out.below hV).get (i := 0) rfl))) hS ?_; (try simp only [Act.put, List.setIfInBounds_toArray, List.set_cons_zero, List.set_cons_succ])
  refine wpAnyL_call 2 (by kernel_rfl) rfl rfl rfl (run_call1 enters_key10 rfl rfl rfl) (key10_any k _ hp) (fun v w h => hS.trans (h.bl.mono hS.size)) (fun vb1 ub1 hR => ?_); (try simp only [Act.put, List.setIfInBounds_toArray, List.set_cons_zero, List.set_cons_succ])
  have hb := hR.bl
  have HB1 := Lib.hid hR.sl
  clear hR
  replace hS := hS.trans (hb.mono hS.size)
  clear hb
  obtain ⟨xa1, xc1, rfl, -, -⟩ := id HB1.out
  refine wpAnyL_call 5 (by kernel_rfl) rfl rfl rfl (run_call1 enters_number10 rfl rfl rfl) (CN.out _) (fun v w h => hS.trans (h.bl.mono hS.size)) (fun vb2 ub2 hR => ?_); (try simp only [Act.put, List.setIfInBounds_toArray, List.set_cons_zero, List.set_cons_succ])
  have hb := hR.bl
  have HB2 := Lib.hid hR.sl
  clear hR
  replace hS := hS.trans (hb.mono hS.size)
  replace HB1 := Lib.hid (HB1.out.below hb)
  clear hb
  obtain ⟨xa2, xc2, rfl, -, -⟩ := id HB2.out
  refine wpAnyL_call 8 (by kernel_rfl) rfl rfl rfl (run_call1 enters_number10 rfl rfl rfl) (CQ.out _) (fun v w h => hS.trans (h.bl.mono hS.size)) (fun vb3 ub3 hR => ?_); (try simp only [Act.put, List.setIfInBounds_toArray, List.set_cons_zero, List.set_cons_succ])
  have hb := hR.bl
  have HB3 := Lib.hid hR.sl
  clear hR
  replace hS := hS.trans (hb.mono hS.size)
  replace HB1 := Lib.hid (HB1.out.below hb)
  replace HB2 := Lib.hid (HB2.out.below hb)
  clear hb
  obtain ⟨xa3, xc3, rfl, -, -⟩ := id HB3.out
  have HC : Hid (Cat ub3.heap.size [.slice xa1 k.length xc1, .slice xa2 N.length xc2, .slice xa3 Q.length xc3] [k, N, Q] (ub3.alloc (.cells #[.slice xa1 k.length xc1, .slice xa2 N.length xc2, .slice xa3 Q.length xc3] 22))) := Lib.hid (cat_row ub3 _ [k, N, Q] fun i hi => match i, hi with
    | 0, _ => ⟨_, rfl, HB1.out⟩
    | 1, _ => ⟨_, rfl, HB2.out⟩
    | 2, _ => ⟨_, rfl, HB3.out⟩)
  refine wpAnyL_val 9 (by kernel_rfl) rfl rfl rfl (run_bsl (cells := #[.slice xa1 k.length xc1, .slice xa2 N.length xc2, .slice xa3 Q.length xc3]) (z := .slice none 0 0) rfl Try.underlying122 (by kernel_rfl) (by omega) (by omega) (by kernel_rfl)) (hS.alloc hS.size _) ?_; (try simp only [Act.put, List.setIfInBounds_toArray, List.set_cons_zero, List.set_cons_succ])
  replace hS := hS.alloc hS.size (.cells #[.slice xa1 k.length xc1, .slice xa2 N.length xc2, .slice xa3 Q.length xc3] 22)
  generalize ub3.alloc (.cells #[.slice xa1 k.length xc1, .slice xa2 N.length xc2, .slice xa3 Q.length xc3] 22) = uc at *
  generalize ub3.heap.size = gc at *
  refine wpAnyL_call 10 (by kernel_rfl) rfl rfl rfl (run_call1 enters_all10 rfl rfl rfl) (all10_any gc _ [k, N, Q] 3 _ HC.out rfl (by omega) (by simp; omega)) (fun v w h => hS.trans (h.bl.mono hS.size)) (fun VL uz hR => ?_); (try simp only [Act.put, List.setIfInBounds_toArray, List.set_cons_zero, List.set_cons_succ])
  have HL := Lib.hid hR
  have hbu := hS
  replace hS := hS.trans (hR.bl.mono hS.size)
  clear hR
  refine wpAnyL_take 11 rfl rfl (by kernel_rfl) (by kernel_rfl) (by kernel_rfl) (fun _ _ _ h => h) rfl (fun V hV => run_asg (v := VL) rfl rfl) hS ?_; (try simp only [Act.put, List.setIfInBounds_toArray, List.set_cons_zero, List.set_cons_succ])
  refine wpAnyL_done (by kernel_rfl) ?_ _; refine NoPanic.normal ?_
  have hI : Hid (S5 w VL out uz) := Lib.hid (by
    have h := HL.out.mono (hM.out.below hbu).bl
    rw [EO.out]
    simpa using h)
  go_wp2_with fail
  exact bodyPost_ret (results_tmp Try.results27 _ _ _) rfl ⟨_, rfl, hI.out⟩
end Go.Proofs.Ytgioojahadlmhaa
