/- What sha.spread32 does: the words of all rounds, made of a block. -/
import Derived.Test.YtobpgolchlgpfaaDoorShaRot32
import Derived.Test.YtobpgolchlgpfaaDoorShaTab
namespace Go.Proofs.YtobpgolchlgpfaaDoor
open Go.RowKit
set_option maxRecDepth 20000

def s132 (x : BitVec 32) : BitVec 32 := ror32 x 17 ^^^ ror32 x 19 ^^^ x >>> 10
def s032 (x : BitVec 32) : BitVec 32 := ror32 x 7 ^^^ ror32 x 18 ^^^ x >>> 3
/-- The first k bytes are in. -/
def fill32 (l : List (BitVec 8)) : Nat → List (BitVec 32)
  | 0 => List.replicate 64 0
  | k + 1 => (fill32 l k).set (k / 4) ((fill32 l k).getD (k / 4) 0 <<< 8 ||| (l.getD k 0).setWidth 32)
/-- The next word of the rounds. -/
def nextW32 (ws : List (BitVec 32)) (j : Nat) : BitVec 32 := s132 (ws.getD (j + 14) 0) + ws.getD (j + 9) 0 + s032 (ws.getD (j + 1) 0) + ws.getD j 0
def sched32 (ws : List (BitVec 32)) : Nat → List (BitVec 32)
  | 0 => ws
  | j + 1 => (sched32 ws j).set (j + 16) (nextW32 (sched32 ws j) j)
def spread32 (l : List (BitVec 8)) : List (BitVec 32) := sched32 (fill32 l 64) (64 - 16)
theorem fill_len32 (l : List (BitVec 8)) : ∀ k, (fill32 l k).length = 64
  | 0 => rfl
  | k + 1 => by rw [fill32, List.length_set, fill_len32 l k]
theorem sched_len32 (ws : List (BitVec 32)) (h : ws.length = 64) : ∀ j, (sched32 ws j).length = 64
  | 0 => h
  | j + 1 => by rw [sched32, List.length_set, sched_len32 ws h j]
theorem spread_len32 (l : List (BitVec 8)) : (spread32 l).length = 64 := sched_len32 _ (fill_len32 _ _) _
theorem one32 (l : List (BitVec 32)) : (l.map b32).toArray.all (·.oneCell') = true := one_map b32 (fun _ => rfl) l
theorem size_w32 {l : List (BitVec 32)} (h : l.length = 64) : (Tryd.prog.info? 107).map (·.size) = some (l.map b32).length := by
  rw [List.length_map, h]; kernel_rfl

structure SprI32 (w : World) (ws : List (BitVec 32)) (u : World) : Prop where
  bl : Below w.heap.size w u
  R : Arr w.heap.size (z32 64) u
  A : Arr (w.heap.size + 1) (ws.map b32) u
  len : ws.length = 64
theorem SprI32.below {w u u' : World} {ws : List (BitVec 32)} (h : SprI32 w ws u) (hb : Below u.heap.size u u') : SprI32 w ws u' :=
  ⟨h.bl.trans (hb.mono h.bl.size), h.R.below hb, h.A.below hb, h.len⟩
theorem SprI32.set {w u : World} {ws : List (BitVec 32)} (h : SprI32 w ws u) {i : Nat} (hi : i < 64) (v : BitVec 32) : SprI32 w (ws.set i v) (u.setCell ⟨w.heap.size + 1, i, none⟩ (b32 v)) :=
  ⟨h.bl.setCell (p := ⟨w.heap.size + 1, i, none⟩) (by simp) _, h.R.far (by omega) _ _, by rw [← set_map]; exact h.A.set (by rw [List.length_map, h.len]; exact hi) _, by rw [List.length_set, h.len]⟩
theorem SprI32.cell {w u : World} {ws : List (BitVec 32)} (h : SprI32 w ws u) {i : Nat} (hi : i < 64) : u.cell? ⟨w.heap.size + 1, i, none⟩ = some (b32 (ws.getD i 0)) :=
  h.A.c i _ (get_map b32 0 (by rw [h.len]; exact hi))

set_option maxHeartbeats 1000000 in
theorem spread32_any (l : List (BitVec 8)) (b f n c : Nat) (w : World) (hb : b < w.heap.size) (hr : w.rangeAt b f (l.map b8)) (hl : 64 ≤ l.length) (hc : 64 ≤ c) :
    Calls Tryd.prog 73 #[.slice (some ⟨b, f, none⟩) n c] w fun e w' => e = .returned (.agg ((spread32 l).map b32).toArray) ∧ Below w.heap.size w w' := by
  go_enter Tryd.func73, Tryd.ntmps73
  go_upto_region 0 with fail; refine wp_region_lit ?_
  refine wpList_val (run_alc (vs := z32 64) rfl (by kernel_rfl)) rfl ?_; (try simp only [Act.put, List.setIfInBounds_toArray, List.set_cons_zero, List.set_cons_succ])
  refine wpList_end ?_
  go_upto_region 1 with fail; refine wp_region_lit ?_
  refine wpList_val (run_alc (vs := z32 64) rfl (by kernel_rfl)) rfl ?_; (try simp only [Act.put, List.setIfInBounds_toArray, List.set_cons_zero, List.set_cons_succ])
  refine wpList_end ?_
  have hI : Hid (SprI32 w (fill32 l 0) ((w.alloc (.cells (z32 64).toArray 107)).alloc (.cells (z32 64).toArray 107))) := Lib.hid
    ⟨((Below.refl _ _).alloc (Nat.le_refl _) _).alloc (by simp) _, (Arr.new w _ _).below ((Below.refl _ _).alloc (Nat.le_refl _) _), Arr.at (by simp) (z32 64) _, rfl⟩
  rw [show (w.alloc (.cells (z32 64).toArray 107)).heap.size = w.heap.size + 1 by simp]
  generalize (w.alloc (.cells (z32 64).toArray 107)).alloc (.cells (z32 64).toArray 107) = u0 at *
  go_upto_region 2 with fail; refine wp_region_lit ?_
  refine wpList_val (run_mv (v := .slice (some _) _ _) rfl rfl) rfl ?_; (try simp only [Act.put, List.setIfInBounds_toArray, List.set_cons_zero, List.set_cons_succ])
  refine wpList_val (run_slh (h := 64) rfl Tryd.underlying30 (by kernel_rfl) rfl rfl hc) rfl ?_; (try simp only [Act.put, List.setIfInBounds_toArray, List.set_cons_zero, List.set_cons_succ])
  refine wpList_val (run_len rfl Tryd.underlying30 rfl) rfl ?_; (try simp only [Act.put, List.setIfInBounds_toArray, List.set_cons_zero, List.set_cons_succ])
  refine wpList_val (run_mv (v := .int _ _) rfl rfl) rfl ?_; (try simp only [Act.put, List.setIfInBounds_toArray, List.set_cons_zero, List.set_cons_succ])
  refine wpList_end ?_
  have HR := Lib.hid hr; clear hr
  go_wp2_with fail
  go_loopw [12] (fun s u => ∃ k : Nat, k ≤ 64 ∧ s = .int .i64 (k : Int) ∧ SprI32 w (fill32 l k) u) (fun s _ => (64 - intOf s).toNat)
  case atStart => exact ⟨0, by omega, rfl, hI.out⟩
  case round =>
    obtain ⟨k, hk, rfl, hJ⟩ := hrel
    replace hI := Lib.hid hJ
    by_cases hlt : k = 64
    · subst hlt
      clear hJ
      have hk1 : ¬ (((64 : Nat) : Int) < 64) := by omega
      go_upto_region 7 with fail
      clear hk1 hk
      generalize hF : fill32 l 64 = ws at *
      have HF := Lib.hid hF; clear hF
      go_wp2_with fail
      go_loopw [6] (fun s u => ∃ j : Nat, j ≤ 64 - 16 ∧ s = .int .i64 ((j : Int) + 16) ∧ SprI32 w (sched32 ws j) u) (fun s _ => (64 - intOf s).toNat)
      case atStart => exact ⟨0, by omega, rfl, hI.out⟩
      case round =>
        obtain ⟨j, hj, rfl, hJ⟩ := hrel
        replace hI := Lib.hid hJ
        clear hJ
        by_cases hlt : j = 64 - 16
        · subst hlt
          have HS : Hid (sched32 ws (64 - 16) = spread32 l) := Lib.hid (by rw [← HF.out]; rfl)
          rw [HS.out] at hI
          have hT := (hI.out.R.put (l' := (spread32 l).map b32) (by rw [List.length_map, spread_len32]; rfl)).range
          have HL := Lib.hid (size_w32 (spread_len32 l))
          clear HS HF
          generalize hW : spread32 l = W at *
          have EW := Lib.hid hW; clear hW
          go_upto_region 13 with fail
          refine wp_region_lit ?_
          refine wpList_val (run_ldA (vs := W.map b32) rfl Tryd.underlying107 HL.out rfl hI.out.A.range) rfl ?_; (try simp only [Act.put, List.setIfInBounds_toArray, List.set_cons_zero, List.set_cons_succ])
          refine wpList_skip (run_stA (vs := W.map b32) rfl HL.out rfl rfl (one32 W) (by rw [List.length_map, hI.out.len]; exact hI.out.R.there)) rfl rfl ?_
          refine wpList_end ?_
          go_wp2_with fail
          refine bodyPost_ret (v := .agg (W.map b32).toArray) ?_ rfl ⟨by rw [EW.out], below_setCells (Nat.le_refl _) _ _ hI.out.bl⟩
          exact results_arr Tryd.results73 rfl Tryd.underlying107 HL.out hT
        · have hj1 : (j : Int) + 16 < 64 := by omega
          have c14 := fun V hV => (hI.out.below (u' := V) hV).cell (i := j + 14) (by omega)
          have c9 := fun V hV => (hI.out.below (u' := V) hV).cell (i := j + 9) (by omega)
          have c1 := fun V hV => (hI.out.below (u' := V) hV).cell (i := j + 1) (by omega)
          have c0 := fun V hV => (hI.out.below (u' := V) hV).cell (i := j) (by omega)
          have C := Lib.hid (And.intro c14 (And.intro c9 (And.intro c1 c0)))
          clear c14 c9 c1 c0
          go_upto_region 10 with fail; refine wp_region_calm 12 (by kernel_rfl) (by kernel_rfl) ?_
          refine wpCalm_step _ (fun V hV => calm_run (run_mv (v := .int _ _) rfl rfl)) ?_; (try simp only [Act.put, List.setIfInBounds_toArray, List.set_cons_zero, List.set_cons_succ])
          refine wpCalm_step _ (fun V hV => calm_run (run_sub rfl rfl rfl (by omega) (by omega))) ?_; (try simp only [Act.put, List.setIfInBounds_toArray, List.set_cons_zero, List.set_cons_succ])
          rw [show ((j : Int) + 16 - 2) = ((j + 14 : Nat) : Int) by omega]
          refine wpCalm_step _ (fun V hV => calm_run (run_ix0 rfl Tryd.underlying107 (by kernel_rfl) rfl rfl (by omega))) ?_; (try simp only [Act.put, List.setIfInBounds_toArray, List.set_cons_zero, List.set_cons_succ])
          refine wpCalm_step _ (fun V hV => calm_run (run_ld32 rfl rfl (C.out.1 V hV))) ?_; (try simp only [Act.put, List.setIfInBounds_toArray, List.set_cons_zero, List.set_cons_succ])
          refine wpCalm_step _ (fun V hV => calm_still (run_call3 enters_turned32 rfl rfl rfl rfl rfl) (turned32_any _ 17 19 V (by omega) (by omega) (by omega) (by omega))) ?_; (try simp only [Act.put, List.setIfInBounds_toArray, List.set_cons_zero, List.set_cons_succ])
          refine wpCalm_step _ (fun V hV => calm_run (run_mv (v := .int _ _) rfl rfl)) ?_; (try simp only [Act.put, List.setIfInBounds_toArray, List.set_cons_zero, List.set_cons_succ])
          refine wpCalm_step _ (fun V hV => calm_run (run_sub rfl rfl rfl (by omega) (by omega))) ?_; (try simp only [Act.put, List.setIfInBounds_toArray, List.set_cons_zero, List.set_cons_succ])
          rw [show ((j : Int) + 16 - 2) = ((j + 14 : Nat) : Int) by omega]
          refine wpCalm_step _ (fun V hV => calm_run (run_ix0 rfl Tryd.underlying107 (by kernel_rfl) rfl rfl (by omega))) ?_; (try simp only [Act.put, List.setIfInBounds_toArray, List.set_cons_zero, List.set_cons_succ])
          refine wpCalm_step _ (fun V hV => calm_run (run_ld32 rfl rfl (C.out.1 V hV))) ?_; (try simp only [Act.put, List.setIfInBounds_toArray, List.set_cons_zero, List.set_cons_succ])
          refine wpCalm_step _ (fun V hV => calm_run (run_shr32 (n := 10) rfl rfl rfl (by omega))) ?_; (try simp only [Act.put, List.setIfInBounds_toArray, List.set_cons_zero, List.set_cons_succ])
          refine wpCalm_step _ (fun V hV => calm_run (run_xor32 rfl rfl rfl)) ?_; (try simp only [Act.put, List.setIfInBounds_toArray, List.set_cons_zero, List.set_cons_succ]); refine wpCalm_step _ (fun V hV => calm_run (run_asg (v := b32 _) rfl rfl)) ?_; (try simp only [Act.put, List.setIfInBounds_toArray, List.set_cons_zero, List.set_cons_succ])
          refine wpCalm_done ?_; intro u1 hb1; simp only [List.drop_succ_cons, List.drop_zero]
          refine wpList_end ?_
          replace hI := Lib.hid (hI.out.below hb1)
          replace C := Lib.hid (And.intro (fun V hV => (hI.out.below (u' := V) hV).cell (i := j + 9) (by omega)) (And.intro (fun V hV => (hI.out.below (u' := V) hV).cell (i := j + 1) (by omega)) (fun V hV => (hI.out.below (u' := V) hV).cell (i := j) (by omega))))
          clear hb1
          go_upto_region 11 with fail; refine wp_region_calm 12 (by kernel_rfl) (by kernel_rfl) ?_
          refine wpCalm_step _ (fun V hV => calm_run (run_mv (v := .int _ _) rfl rfl)) ?_; (try simp only [Act.put, List.setIfInBounds_toArray, List.set_cons_zero, List.set_cons_succ])
          refine wpCalm_step _ (fun V hV => calm_run (run_sub rfl rfl rfl (by omega) (by omega))) ?_; (try simp only [Act.put, List.setIfInBounds_toArray, List.set_cons_zero, List.set_cons_succ])
          rw [show ((j : Int) + 16 - 15) = ((j + 1 : Nat) : Int) by omega]
          refine wpCalm_step _ (fun V hV => calm_run (run_ix0 rfl Tryd.underlying107 (by kernel_rfl) rfl rfl (by omega))) ?_; (try simp only [Act.put, List.setIfInBounds_toArray, List.set_cons_zero, List.set_cons_succ])
          refine wpCalm_step _ (fun V hV => calm_run (run_ld32 rfl rfl (C.out.2.1 V hV))) ?_; (try simp only [Act.put, List.setIfInBounds_toArray, List.set_cons_zero, List.set_cons_succ])
          refine wpCalm_step _ (fun V hV => calm_still (run_call3 enters_turned32 rfl rfl rfl rfl rfl) (turned32_any _ 7 18 V (by omega) (by omega) (by omega) (by omega))) ?_; (try simp only [Act.put, List.setIfInBounds_toArray, List.set_cons_zero, List.set_cons_succ])
          refine wpCalm_step _ (fun V hV => calm_run (run_mv (v := .int _ _) rfl rfl)) ?_; (try simp only [Act.put, List.setIfInBounds_toArray, List.set_cons_zero, List.set_cons_succ])
          refine wpCalm_step _ (fun V hV => calm_run (run_sub rfl rfl rfl (by omega) (by omega))) ?_; (try simp only [Act.put, List.setIfInBounds_toArray, List.set_cons_zero, List.set_cons_succ])
          rw [show ((j : Int) + 16 - 15) = ((j + 1 : Nat) : Int) by omega]
          refine wpCalm_step _ (fun V hV => calm_run (run_ix0 rfl Tryd.underlying107 (by kernel_rfl) rfl rfl (by omega))) ?_; (try simp only [Act.put, List.setIfInBounds_toArray, List.set_cons_zero, List.set_cons_succ])
          refine wpCalm_step _ (fun V hV => calm_run (run_ld32 rfl rfl (C.out.2.1 V hV))) ?_; (try simp only [Act.put, List.setIfInBounds_toArray, List.set_cons_zero, List.set_cons_succ])
          refine wpCalm_step _ (fun V hV => calm_run (run_shr32 (n := 3) rfl rfl rfl (by omega))) ?_; (try simp only [Act.put, List.setIfInBounds_toArray, List.set_cons_zero, List.set_cons_succ])
          refine wpCalm_step _ (fun V hV => calm_run (run_xor32 rfl rfl rfl)) ?_; (try simp only [Act.put, List.setIfInBounds_toArray, List.set_cons_zero, List.set_cons_succ]); refine wpCalm_step _ (fun V hV => calm_run (run_asg (v := b32 _) rfl rfl)) ?_; (try simp only [Act.put, List.setIfInBounds_toArray, List.set_cons_zero, List.set_cons_succ])
          refine wpCalm_done ?_; intro u2 hb1; simp only [List.drop_succ_cons, List.drop_zero]
          refine wpList_end ?_
          replace hI := Lib.hid (hI.out.below hb1)
          replace C := Lib.hid (And.intro (fun V hV => (hI.out.below (u' := V) hV).cell (i := j + 9) (by omega)) (fun V hV => (hI.out.below (u' := V) hV).cell (i := j) (by omega)))
          clear hb1
          go_upto_region 12 with fail; refine wp_region_calm 15 (by kernel_rfl) (by kernel_rfl) ?_
          refine wpCalm_step _ (fun V hV => calm_run (run_mv (v := .int _ _) rfl rfl)) ?_; (try simp only [Act.put, List.setIfInBounds_toArray, List.set_cons_zero, List.set_cons_succ]); refine wpCalm_step _ (fun V hV => calm_run (run_mv (v := b32 _) rfl rfl)) ?_; (try simp only [Act.put, List.setIfInBounds_toArray, List.set_cons_zero, List.set_cons_succ]); refine wpCalm_step _ (fun V hV => calm_run (run_mv (v := .int _ _) rfl rfl)) ?_; (try simp only [Act.put, List.setIfInBounds_toArray, List.set_cons_zero, List.set_cons_succ])
          refine wpCalm_step _ (fun V hV => calm_run (run_sub rfl rfl rfl (by omega) (by omega))) ?_; (try simp only [Act.put, List.setIfInBounds_toArray, List.set_cons_zero, List.set_cons_succ])
          rw [show ((j : Int) + 16 - 7) = ((j + 9 : Nat) : Int) by omega]
          refine wpCalm_step _ (fun V hV => calm_run (run_ix0 rfl Tryd.underlying107 (by kernel_rfl) rfl rfl (by omega))) ?_; (try simp only [Act.put, List.setIfInBounds_toArray, List.set_cons_zero, List.set_cons_succ])
          refine wpCalm_step _ (fun V hV => calm_run (run_ld32 rfl rfl (C.out.1 V hV))) ?_; (try simp only [Act.put, List.setIfInBounds_toArray, List.set_cons_zero, List.set_cons_succ])
          refine wpCalm_step _ (fun V hV => calm_run (run_add32 rfl rfl rfl)) ?_; (try simp only [Act.put, List.setIfInBounds_toArray, List.set_cons_zero, List.set_cons_succ]); refine wpCalm_step _ (fun V hV => calm_run (run_mv (v := b32 _) rfl rfl)) ?_; (try simp only [Act.put, List.setIfInBounds_toArray, List.set_cons_zero, List.set_cons_succ]); refine wpCalm_step _ (fun V hV => calm_run (run_add32 rfl rfl rfl)) ?_; (try simp only [Act.put, List.setIfInBounds_toArray, List.set_cons_zero, List.set_cons_succ]); refine wpCalm_step _ (fun V hV => calm_run (run_mv (v := .int _ _) rfl rfl)) ?_; (try simp only [Act.put, List.setIfInBounds_toArray, List.set_cons_zero, List.set_cons_succ])
          refine wpCalm_step _ (fun V hV => calm_run (run_sub rfl rfl rfl (by omega) (by omega))) ?_; (try simp only [Act.put, List.setIfInBounds_toArray, List.set_cons_zero, List.set_cons_succ])
          rw [show ((j : Int) + 16 - 16) = ((j : Nat) : Int) by omega]
          refine wpCalm_step _ (fun V hV => calm_run (run_ix0 rfl Tryd.underlying107 (by kernel_rfl) rfl rfl (by omega))) ?_; (try simp only [Act.put, List.setIfInBounds_toArray, List.set_cons_zero, List.set_cons_succ])
          refine wpCalm_step _ (fun V hV => calm_run (run_ld32 rfl rfl (C.out.2 V hV))) ?_; (try simp only [Act.put, List.setIfInBounds_toArray, List.set_cons_zero, List.set_cons_succ])
          refine wpCalm_step _ (fun V hV => calm_run (run_add32 rfl rfl rfl)) ?_; (try simp only [Act.put, List.setIfInBounds_toArray, List.set_cons_zero, List.set_cons_succ])
          rw [show ((j : Int) + 16) = ((j + 16 : Nat) : Int) by omega]
          refine wpCalm_step _ (fun V hV => calm_run (run_ix0 rfl Tryd.underlying107 (by kernel_rfl) rfl rfl (by omega))) ?_; (try simp only [Act.put, List.setIfInBounds_toArray, List.set_cons_zero, List.set_cons_succ])
          refine wpCalm_done ?_; intro u3 hb1; simp only [List.drop_succ_cons, List.drop_zero]
          replace hI := Lib.hid (hI.out.below hb1)
          clear C hb1
          refine wpList_skip (run_st32 rfl rfl rfl (hI.out.cell (i := j + 16) (by omega)) (hI.out.A.f _)) rfl rfl ?_
          refine wpList_end ?_
          go_wp2_with fail
          exact ⟨⟨j + 1, by omega, by go_num, hI.out.set (by omega) _⟩, by simp [intOf]; omega⟩
    · have hk1 : (k : Int) < 64 := by omega
      have hk2 : k < 64 := by omega
      have hcell : wr.cell? ⟨b, f + k, none⟩ = some (b8 (l.getD k 0)) := rangeAt_below HR.out hb hI.out.bl k _ (get_map b8 0 (by omega))
      have hcell2 := hI.out.cell (i := k / 4) (by omega)
      have hfr := hI.out.A.f (k / 4)
      clear hJ
      go_upto_region 4 with fail; refine wp_region_lit ?_
      refine wpList_val (run_mv (v := .int _ _) rfl rfl) rfl ?_; (try simp only [Act.put, List.setIfInBounds_toArray, List.set_cons_zero, List.set_cons_succ])
      refine wpList_val (run_ixs rfl Tryd.underlying30 (by kernel_rfl) rfl rfl hk2) rfl ?_; (try simp only [Act.put, List.setIfInBounds_toArray, List.set_cons_zero, List.set_cons_succ])
      refine wpList_val (run_ld8 rfl rfl hcell) rfl ?_; (try simp only [Act.put, List.setIfInBounds_toArray, List.set_cons_zero, List.set_cons_succ])
      refine wpList_val (run_asg (v := .int _ _) rfl rfl) rfl ?_; (try simp only [Act.put, List.setIfInBounds_toArray, List.set_cons_zero, List.set_cons_succ]); refine wpList_val (run_asg (v := b8 _) rfl rfl) rfl ?_; (try simp only [Act.put, List.setIfInBounds_toArray, List.set_cons_zero, List.set_cons_succ])
      refine wpList_end ?_
      go_upto_region 5 with fail; refine wp_region_lit ?_
      refine wpList_val (run_mv (v := .int _ _) rfl rfl) rfl ?_; (try simp only [Act.put, List.setIfInBounds_toArray, List.set_cons_zero, List.set_cons_succ])
      refine wpList_val (run_quo rfl rfl rfl (by omega) (by omega) (by omega)) rfl ?_; (try simp only [Act.put, List.setIfInBounds_toArray, List.set_cons_zero, List.set_cons_succ])
      refine wpList_val (run_mv (v := .int _ _) rfl rfl) rfl ?_; (try simp only [Act.put, List.setIfInBounds_toArray, List.set_cons_zero, List.set_cons_succ])
      refine wpList_val (run_quo rfl rfl rfl (by omega) (by omega) (by omega)) rfl ?_; (try simp only [Act.put, List.setIfInBounds_toArray, List.set_cons_zero, List.set_cons_succ])
      rw [show ((k : Int) / 4) = ((k / 4 : Nat) : Int) by omega]
      refine wpList_val (run_ix0 rfl Tryd.underlying107 (by kernel_rfl) rfl rfl (by omega)) rfl ?_; (try simp only [Act.put, List.setIfInBounds_toArray, List.set_cons_zero, List.set_cons_succ])
      refine wpList_val (run_ld32 rfl rfl hcell2) rfl ?_; (try simp only [Act.put, List.setIfInBounds_toArray, List.set_cons_zero, List.set_cons_succ])
      refine wpList_val (run_shl32 (n := 8) rfl rfl rfl (by omega)) rfl ?_; (try simp only [Act.put, List.setIfInBounds_toArray, List.set_cons_zero, List.set_cons_succ])
      refine wpList_val (run_mv (v := b8 _) rfl rfl) rfl ?_; (try simp only [Act.put, List.setIfInBounds_toArray, List.set_cons_zero, List.set_cons_succ]); refine wpList_val (run_cv8_32 rfl rfl) rfl ?_; (try simp only [Act.put, List.setIfInBounds_toArray, List.set_cons_zero, List.set_cons_succ]); refine wpList_val (run_or32 rfl rfl rfl) rfl ?_; (try simp only [Act.put, List.setIfInBounds_toArray, List.set_cons_zero, List.set_cons_succ])
      refine wpList_val (run_ix0 rfl Tryd.underlying107 (by kernel_rfl) rfl rfl (by omega)) rfl ?_; (try simp only [Act.put, List.setIfInBounds_toArray, List.set_cons_zero, List.set_cons_succ])
      refine wpList_skip (run_st32 rfl rfl rfl hcell2 hfr) rfl rfl ?_
      refine wpList_end ?_
      go_wp2_with fail
      exact ⟨⟨k + 1, by omega, by go_num, hI.out.set (by omega) _⟩, by simp [intOf]; omega⟩
end Go.Proofs.YtobpgolchlgpfaaDoor
