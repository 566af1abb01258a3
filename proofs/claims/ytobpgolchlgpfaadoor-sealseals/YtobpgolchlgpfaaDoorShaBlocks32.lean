/- What sha.mixBlocks32 does: the state behind every whole block. -/
import Derived.Test.YtobpgolchlgpfaaDoorShaMix32
import Derived.Test.YtobpgolchlgpfaaDoorSl
namespace Go.Proofs.YtobpgolchlgpfaaDoor
open Go.RowKit
set_option maxRecDepth 20000

def mixB32 (st : List (BitVec 32)) (l : List (BitVec 8)) : Nat → List (BitVec 32)
  | 0 => st
  | k + 1 => mixB32 (mix32 st (spread32 l)) (l.drop 64) k
def mixA32 (st : List (BitVec 32)) (l : List (BitVec 8)) : List (BitVec 32) := mixB32 st l (l.length / 64)
theorem mixA_step32 {st : List (BitVec 32)} {l : List (BitVec 8)} (h : 64 ≤ l.length) : mixA32 (mix32 st (spread32 l)) (l.drop 64) = mixA32 st l := by
  unfold mixA32
  rw [List.length_drop, show l.length / 64 = (l.length - 64) / 64 + 1 by omega, mixB32]
theorem mixA_end32 {st : List (BitVec 32)} {l : List (BitVec 8)} (h : l.length < 64) : mixA32 st l = st := by
  unfold mixA32
  rw [show l.length / 64 = 0 by omega, mixB32]
theorem mixB_len32 : ∀ (k : Nat) (st : List (BitVec 32)) (l : List (BitVec 8)), (mixB32 st l k).length = st.length
  | 0, _, _ => rfl
  | k + 1, st, l => by rw [mixB32, mixB_len32 k, mix_len32]
theorem mixA_len32 (st : List (BitVec 32)) (l : List (BitVec 8)) : (mixA32 st l).length = st.length := mixB_len32 _ _ _

structure BlkI32 (w : World) (st : List (BitVec 32)) (u : World) : Prop where
  bl : Below w.heap.size w u
  A : Arr w.heap.size (st.map b32) u
  R : Arr (w.heap.size + 1) (z32 8) u
  len : st.length = 8
theorem BlkI32.below {w u u' : World} {st : List (BitVec 32)} (h : BlkI32 w st u) (hb : Below u.heap.size u u') : BlkI32 w st u' :=
  ⟨h.bl.trans (hb.mono h.bl.size), h.A.below hb, h.R.below hb, h.len⟩
theorem BlkI32.put {w u : World} {st st' : List (BitVec 32)} (h : BlkI32 w st u) (hl : st'.length = 8) : BlkI32 w st' (u.setCells w.heap.size 0 (st'.map b32)) :=
  ⟨below_setCells (Nat.le_refl _) _ _ h.bl, h.A.put (by rw [List.length_map, List.length_map, h.len, hl]), h.R.farAll (by omega) _ _, hl⟩
theorem enters_spread32 : Enters 73 := enters_of Tryd.func73 (by kernel_rfl) rfl
theorem enters_mix32 : Enters 72 := enters_of Tryd.func72 (by kernel_rfl) rfl

set_option maxHeartbeats 1000000 in
theorem blocks32_any (st : List (BitVec 32)) (v : Value) (l : List (BitVec 8)) (w : World) (hst : st.length = 8) (hv : Sl v l w) (hn : l.length < 9223372036854775808) (hT : Tabs w) :
    Calls Tryd.prog 64 #[.agg (st.map b32).toArray, v] w fun e w' => e = .returned (.agg ((mixA32 st l).map b32).toArray) ∧ Below w.heap.size w w' := by
  go_enter Tryd.func64, Tryd.ntmps64
  go_upto_region 0 with fail; refine wp_region_lit ?_
  refine wpList_val (run_box rfl rfl) rfl ?_; (try simp only [Act.put, List.setIfInBounds_toArray, List.set_cons_zero, List.set_cons_succ])
  refine wpList_val (run_alc (vs := z32 8) rfl (by kernel_rfl)) rfl ?_; (try simp only [Act.put, List.setIfInBounds_toArray, List.set_cons_zero, List.set_cons_succ])
  refine wpList_end ?_
  have hI : Hid (BlkI32 w st ((w.alloc (.cells (st.map b32).toArray 96)).alloc (.cells (z32 8).toArray 96))) := Lib.hid
    ⟨((Below.refl _ _).alloc (Nat.le_refl _) _).alloc (by simp) _, (Arr.new w _ _).below ((Below.refl _ _).alloc (Nat.le_refl _) _), Arr.at (by simp) (z32 8) _, hst⟩
  rw [show (w.alloc (.cells (st.map b32).toArray 96)).heap.size = w.heap.size + 1 by simp]
  generalize (w.alloc (.cells (st.map b32).toArray 96)).alloc (.cells (z32 8).toArray 96) = u0 at *
  have HT := Lib.hid hT; clear hT
  go_wp2_with fail
  go_loopw [1] (fun s u => ∃ (st' : List (BitVec 32)) (l' : List (BitVec 8)), Sl s l' w ∧ l'.length ≤ l.length ∧ mixA32 st' l' = mixA32 st l ∧ BlkI32 w st' u) (fun s _ => slLen s)
  case atStart => exact ⟨st, l, hv, Nat.le_refl _, rfl, hI.out⟩
  case round =>
    obtain ⟨st', l', hs, hle, he, hJ⟩ := hrel
    replace hI := Lib.hid hJ
    have HE := Lib.hid he
    have HS := Lib.hid hs
    clear hJ he hs hv
    obtain ⟨ao, c, rfl, hc, h3⟩ := HS.out
    by_cases hlt : l'.length < 64
    · have hk1 : ¬ ((64 : Int) ≤ (l'.length : Int)) := by omega
      clear h3
      have hX : Hid (mixA32 st l = st') := Lib.hid (by rw [← HE.out, mixA_end32 hlt])
      have hlen := hI.out.len
      have hT := (hI.out.R.put (l' := st'.map b32) (by rw [List.length_map, hlen]; rfl)).range
      have HL := Lib.hid (size_s32 hlen)
      clear HE hlt
      go_upto_region 4 with fail; refine wp_region_lit ?_
      refine wpList_val (run_ldA (vs := st'.map b32) rfl Tryd.underlying96 HL.out rfl hI.out.A.range) rfl ?_; (try simp only [Act.put, List.setIfInBounds_toArray, List.set_cons_zero, List.set_cons_succ])
      refine wpList_skip (run_stA (vs := st'.map b32) rfl HL.out rfl rfl (one32 st') (by rw [List.length_map, hlen]; exact hI.out.R.there)) rfl rfl ?_
      refine wpList_end ?_
      go_wp2_with fail
      refine bodyPost_ret (v := .agg (st'.map b32).toArray) ?_ rfl ⟨by rw [hX.out], below_setCells (by omega) _ _ hI.out.bl⟩
      exact results_arr Tryd.results64 rfl Tryd.underlying96 HL.out hT
    · have hk1 : (64 : Int) ≤ (l'.length : Int) := by omega
      obtain ⟨b, f, rfl, hb, hr⟩ := h3 (by intro e; rw [e] at hlt; simp at hlt)
      have hlen := hI.out.len
      have HR := Lib.hid hr; clear hr
      have HL := Lib.hid (size_s32 hlen)
      go_upto_region 3 with fail; refine wp_region_calm 4 (by kernel_rfl) (by kernel_rfl) ?_
      refine wpCalm_step _ (fun V hV => calm_run (run_ldA (vs := st'.map b32) rfl Tryd.underlying96 HL.out rfl (hI.out.below hV).A.range)) ?_; (try simp only [Act.put, List.setIfInBounds_toArray, List.set_cons_zero, List.set_cons_succ])
      refine wpCalm_step _ (fun V hV => calm_run (run_mv (v := .slice (some _) _ _) rfl rfl)) ?_; (try simp only [Act.put, List.setIfInBounds_toArray, List.set_cons_zero, List.set_cons_succ])
      refine wpCalm_step _ (fun V hV => calm_enter (run_call1 enters_spread32 rfl rfl rfl) (spread32_any l' b f _ _ V (Nat.lt_of_lt_of_le hb (hI.out.below hV).bl.size) (rangeAt_below HR.out hb (hI.out.below hV).bl) (by omega) (by omega))) ?_; (try simp only [Act.put, List.setIfInBounds_toArray, List.set_cons_zero, List.set_cons_succ])
      refine wpCalm_step _ (fun V hV => calm_enter (run_call2 enters_mix32 rfl rfl rfl rfl) (mix32_any st' (spread32 l') V hlen (spread_len32 l') (HT.out.below (hI.out.below hV).bl))) ?_; (try simp only [Act.put, List.setIfInBounds_toArray, List.set_cons_zero, List.set_cons_succ])
      refine wpCalm_done ?_; intro u1 hb1; simp only [List.drop_succ_cons, List.drop_zero]
      replace hI := Lib.hid (hI.out.below hb1)
      clear hb1
      have hml : (mix32 st' (spread32 l')).length = 8 := by rw [mix_len32, hlen]
      refine wpList_skip (run_stA (vs := (mix32 st' (spread32 l')).map b32) rfl (size_s32 hml) rfl rfl (one32 _) (by rw [List.length_map, hml, ← hlen, ← List.length_map (f := b32)]; exact hI.out.A.there)) rfl rfl ?_
      refine wpList_end ?_
      go_upto_region 2 with fail; refine wp_region_lit ?_
      refine wpList_val (run_mv (v := .slice (some _) _ _) rfl rfl) rfl ?_; (try simp only [Act.put, List.setIfInBounds_toArray, List.set_cons_zero, List.set_cons_succ])
      refine wpList_val (run_cut (l := 64) rfl Tryd.underlying30 (by kernel_rfl) rfl rfl (by omega)) rfl ?_; (try simp only [Act.put, List.setIfInBounds_toArray, List.set_cons_zero, List.set_cons_succ])
      refine wpList_val (run_asg (v := cutO _ _ _ _) rfl rfl) rfl ?_; (try simp only [Act.put, List.setIfInBounds_toArray, List.set_cons_zero, List.set_cons_succ])
      refine wpList_end ?_
      go_wp2_with fail
      go_roundw
      case rel => exact ⟨mix32 st' (spread32 l'), l'.drop 64, HS.out.cut (by omega), by rw [List.length_drop]; omega, by rw [mixA_step32 (by omega), HE.out], hI.out.put hml⟩
      case measure => simp [slLen, cutO]; omega
end Go.Proofs.YtobpgolchlgpfaaDoor
