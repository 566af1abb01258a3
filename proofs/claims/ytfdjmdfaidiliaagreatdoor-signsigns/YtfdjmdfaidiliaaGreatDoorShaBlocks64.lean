import Derived.Test.YtfdjmdfaidiliaaGreatDoorLy
import Derived.Test.YtfdjmdfaidiliaaGreatDoorShaMix64
import Derived.Test.YtfdjmdfaidiliaaGreatDoorSl
namespace Go.Proofs.YtfdjmdfaidiliaaGreatDoor
open Go.RowKit
set_option maxRecDepth 20000
def mixB64 (st : List (BitVec 64)) (l : List (BitVec 8)) : Nat → List (BitVec 64)
  | 0 => st
  | k + 1 => mixB64 (mix64 st (qbd l)) (l.drop 128) k
def qb5 (st : List (BitVec 64)) (l : List (BitVec 8)) : List (BitVec 64) := mixB64 st l (l.length / 128)
theorem mixA_step64 {st : List (BitVec 64)} {l : List (BitVec 8)} (h : 128 ≤ l.length) : qb5 (mix64 st (qbd l)) (l.drop 128) = qb5 st l := by
  unfold qb5
  rw [List.length_drop, show l.length / 128 = (l.length - 128) / 128 + 1 by omega, mixB64]
theorem mixA_end64 {st : List (BitVec 64)} {l : List (BitVec 8)} (h : l.length < 128) : qb5 st l = st := by
  unfold qb5
  rw [show l.length / 128 = 0 by omega, mixB64]
theorem mixB_len64 : ∀ (k : Nat) (st : List (BitVec 64)) (l : List (BitVec 8)), (mixB64 st l k).length = st.length
  | 0, _, _ => rfl
  | k + 1, st, l => by rw [mixB64, mixB_len64 k, mix_len64]
theorem mixA_len64 (st : List (BitVec 64)) (l : List (BitVec 8)) : (qb5 st l).length = st.length := mixB_len64 _ _ _
structure BlkI64 (w : World) (st : List (BitVec 64)) (u : World) : Prop where
  bl : Below w.heap.size w u
  A : Arr w.heap.size (st.map b64) u
  R : Arr (w.heap.size + 1) (z64 8) u
  len : st.length = 8
theorem BlkI64.below {w u u' : World} {st : List (BitVec 64)} (h : BlkI64 w st u) (hb : Below u.heap.size u u') : BlkI64 w st u' :=
  ⟨h.bl.trans (hb.mono h.bl.size), h.A.below hb, h.R.below hb, h.len⟩
theorem BlkI64.put {w u : World} {st st' : List (BitVec 64)} (h : BlkI64 w st u) (hl : st'.length = 8) : BlkI64 w st' (u.setCells w.heap.size 0 (st'.map b64)) :=
  ⟨qas (Nat.le_refl _) _ _ h.bl, h.A.put (by rw [List.length_map, List.length_map, h.len, hl]), h.R.farAll (by omega) _ _, hl⟩
theorem enters_spread64 : Enters 108 := qao Tryz.func108 (by kernel_rfl) rfl
theorem enters_mix64 : Enters 107 := qao Tryz.func107 (by kernel_rfl) rfl
set_option maxHeartbeats 1000000 in
theorem blocks64_any (st : List (BitVec 64)) (v : Value) (l : List (BitVec 8)) (w : World) (hst : st.length = 8) (hv : Sl v l w) (hn : l.length < 9223372036854775808) (hT : Tabs w) :
    Calls Tryz.prog 84 #[.agg (st.map b64).toArray, v] w fun e w' => e = .returned (.agg ((qb5 st l).map b64).toArray) ∧ Below w.heap.size w w' := by
  go_enter Tryz.func84, Tryz.ntmps84
  go_upto_region 0 with fail; refine wp_region_lit ?_
  refine qaa (run_box rfl rfl) rfl ?_; (try simp only [Act.put, lyy])
  refine qaa (qar (vs := z64 8) rfl (by kernel_rfl)) rfl ?_; (try simp only [Act.put, lyy])
  refine qac ?_
  have hI : Hid (BlkI64 w st ((w.alloc (.cells (st.map b64).toArray 66)).alloc (.cells (z64 8).toArray 66))) := Lib.hid
    ⟨((Below.refl _ _).alloc (Nat.le_refl _) _).alloc (by simp) _, (Arr.new w _ _).below ((Below.refl _ _).alloc (Nat.le_refl _) _), Arr.at (by simp) (z64 8) _, hst⟩
  rw [show (w.alloc (.cells (st.map b64).toArray 66)).heap.size = w.heap.size + 1 by simp]
  generalize (w.alloc (.cells (st.map b64).toArray 66)).alloc (.cells (z64 8).toArray 66) = u0 at *
  have HT := Lib.hid hT; clear hT
  go_wp2_with fail
  go_loopw [1] (fun s u => ∃ (st' : List (BitVec 64)) (l' : List (BitVec 8)), Sl s l' w ∧ l'.length ≤ l.length ∧ qb5 st' l' = qb5 st l ∧ BlkI64 w st' u) (fun s _ => slLen s)
  case atStart => exact ⟨st, l, hv, Nat.le_refl _, rfl, hI.out⟩
  case round =>
    obtain ⟨st', l', hs, hle, he, hJ⟩ := hrel
    replace hI := Lib.hid hJ
    have HE := Lib.hid he
    have HS := Lib.hid hs
    clear hJ he hs hv
    obtain ⟨ao, c, rfl, hc, h3⟩ := HS.out
    by_cases hlt : l'.length < 128
    · have hk1 : ¬ ((128 : Int) ≤ (l'.length : Int)) := by omega
      clear h3
      have hX : Hid (qb5 st l = st') := Lib.hid (by rw [← HE.out, mixA_end64 hlt])
      have hlen := hI.out.len
      have hT := (hI.out.R.put (l' := st'.map b64) (by rw [List.length_map, hlen]; rfl)).range
      have HL := Lib.hid (size_s64 hlen)
      clear HE hlt
      go_upto_region 4 with fail; refine wp_region_lit ?_
      refine qaa (run_ldA (vs := st'.map b64) rfl Tryz.underlying66 HL.out rfl hI.out.A.range) rfl ?_; (try simp only [Act.put, lyy])
      refine qae (run_stA (vs := st'.map b64) rfl HL.out rfl rfl (one64 st') (by rw [List.length_map, hlen]; exact hI.out.R.there)) rfl rfl ?_
      refine qac ?_
      go_wp2_with fail
      refine bodyPost_ret (v := .agg (st'.map b64).toArray) ?_ rfl ⟨by rw [hX.out], qas (by omega) _ _ hI.out.bl⟩
      exact results_arr Tryz.results84 rfl Tryz.underlying66 HL.out hT
    · have hk1 : (128 : Int) ≤ (l'.length : Int) := by omega
      obtain ⟨b, f, rfl, hb, hr⟩ := h3 (by intro e; rw [e] at hlt; simp at hlt)
      have hlen := hI.out.len
      have HR := Lib.hid hr; clear hr
      have HL := Lib.hid (size_s64 hlen)
      go_upto_region 3 with fail; refine qau 4 (by kernel_rfl) (by kernel_rfl) ?_
      refine qab _ (fun V hV => qad (run_ldA (vs := st'.map b64) rfl Tryz.underlying66 HL.out rfl (hI.out.below hV).A.range)) ?_; (try simp only [Act.put, lyy])
      refine qab _ (fun V hV => qad (qaf (v := .slice (some _) _ _) rfl rfl)) ?_; (try simp only [Act.put, lyy])
      refine qab _ (fun V hV => qak (qaj enters_spread64 rfl rfl rfl) (spread64_any l' b f _ _ V (Nat.lt_of_lt_of_le hb (hI.out.below hV).bl.size) (qa8 HR.out hb (hI.out.below hV).bl) (by omega) (by omega))) ?_; (try simp only [Act.put, lyy])
      refine qab _ (fun V hV => qak (qam enters_mix64 rfl rfl rfl rfl) (mix64_any st' (qbd l') V hlen (spread_len64 l') (HT.out.below (hI.out.below hV).bl))) ?_; (try simp only [Act.put, lyy])
      refine qav ?_; intro u1 hb1; simp only [List.drop_succ_cons, List.drop_zero]
      replace hI := Lib.hid (hI.out.below hb1)
      clear hb1
      have hml : (mix64 st' (qbd l')).length = 8 := by rw [mix_len64, hlen]
      refine qae (run_stA (vs := (mix64 st' (qbd l')).map b64) rfl (size_s64 hml) rfl rfl (one64 _) (by rw [List.length_map, hml, ← hlen, ← List.length_map (f := b64)]; exact hI.out.A.there)) rfl rfl ?_
      refine qac ?_
      go_upto_region 2 with fail; refine wp_region_lit ?_
      refine qaa (qaf (v := .slice (some _) _ _) rfl rfl) rfl ?_; (try simp only [Act.put, lyy])
      refine qaa (run_cut (l := 128) rfl Tryz.underlying24 (by kernel_rfl) rfl rfl (by omega)) rfl ?_; (try simp only [Act.put, lyy])
      refine qaa (qag (v := cutO _ _ _ _) rfl rfl) rfl ?_; (try simp only [Act.put, lyy])
      refine qac ?_
      go_wp2_with fail
      go_roundw
      case rel => exact ⟨mix64 st' (qbd l'), l'.drop 128, HS.out.cut (by omega), by rw [List.length_drop]; omega, by rw [mixA_step64 (by omega), HE.out], hI.out.put hml⟩
      case measure => simp [slLen, cutO]; omega
end Go.Proofs.YtfdjmdfaidiliaaGreatDoor
