/- What sha.Sum256 does. -/
import Derived.Test.YtobpgolchlgpfaaDoorShaBlocks32
import Derived.Test.YtobpgolchlgpfaaDoorShaEnd32
namespace Go.Proofs.YtobpgolchlgpfaaDoor
open Go.RowKit
set_option maxRecDepth 20000

def bg32 (i : Nat) : BitVec 32 := (btab.getD i 0 >>> 32).setWidth 32
def begT32 : Nat → List (BitVec 32)
  | 0 => List.replicate 8 0
  | i + 1 => (begT32 i).set i (bg32 i)
def endS32 (l : List (BitVec 8)) : List (BitVec 32) := mixA32 (mixA32 (begT32 8) l) (tail32 l)
def digB32 (st : List (BitVec 32)) (i : Nat) : BitVec 8 := (st.getD (i / 4) 0 >>> (4 * 8 - 8 - i % 4 * 8)).setWidth 8
def digT32 (st : List (BitVec 32)) : Nat → List (BitVec 8)
  | 0 => List.replicate 32 0
  | i + 1 => (digT32 st i).set i (digB32 st i)
/-- The digest. -/
def sum32 (l : List (BitVec 8)) : List (BitVec 8) := digT32 (endS32 l) 32
theorem begT_len32 : ∀ i, (begT32 i).length = 8
  | 0 => rfl
  | i + 1 => by rw [begT32, List.length_set, begT_len32 i]
theorem digT_len32 (st : List (BitVec 32)) : ∀ i, (digT32 st i).length = 32
  | 0 => rfl
  | i + 1 => by rw [digT32, List.length_set, digT_len32 st i]
theorem sum_len32 (l : List (BitVec 8)) : (sum32 l).length = 32 := digT_len32 _ _
theorem endS_len32 (l : List (BitVec 8)) : (endS32 l).length = 8 := by unfold endS32; rw [mixA_len32, mixA_len32, begT_len32]
theorem one8 (l : List (BitVec 8)) : (l.map b8).toArray.all (·.oneCell') = true := one_map b8 (fun _ => rfl) l
theorem size_d32 {l : List (BitVec 8)} (h : l.length = 32) : (Tryd.prog.info? 29).map (·.size) = some (l.map b8).length := by
  rw [List.length_map, h]; kernel_rfl
theorem run_shrj32 {w : World} {ρ : Operand → Value} {o : Oper} {t t' : TypeId} {x y : Operand} {a : BitVec 32} {n : Nat} (ho : o.op = .binOp .shr t x y t') (hx : ρ x = b32 a) (hy : ρ y = .int .i64 (n : Int)) (hn : n ≤ 32) : (execOp ρ o).run Tryd.prog w = .ok (.value (b32 (a >>> n))) w := by
  obtain ⟨dst, op, type, pos, after, guard⟩ := o
  subst ho
  unfold b32 at *
  have e : (a.toNat : Int) / 2 ^ n = (((a >>> n).toNat : Nat) : Int) := by
    rw [BitVec.toNat_ushiftRight, Nat.shiftRight_eq_div_pow]; simp
  generalize (a >>> n).toNat = z at *
  have hn0 : (0 : Int) ≤ (n : Int) := by omega
  go_simp
  try exact e

structure SumI32 (w : World) (st : List (BitVec 32)) (u : World) : Prop where
  bl : Below w.heap.size w u
  R : Arr w.heap.size (z8 32) u
  A : Arr (w.heap.size + 1) (st.map b32) u
  len : st.length = 8
theorem SumI32.below {w u u' : World} {st : List (BitVec 32)} (h : SumI32 w st u) (hb : Below u.heap.size u u') : SumI32 w st u' :=
  ⟨h.bl.trans (hb.mono h.bl.size), h.R.below hb, h.A.below hb, h.len⟩
theorem SumI32.cell {w u : World} {st : List (BitVec 32)} (h : SumI32 w st u) {i : Nat} (hi : i < 8) : u.cell? ⟨w.heap.size + 1, i, none⟩ = some (b32 (st.getD i 0)) :=
  h.A.c i _ (get_map b32 0 (by rw [h.len]; exact hi))
theorem SumI32.set {w u : World} {st : List (BitVec 32)} (h : SumI32 w st u) {i : Nat} (hi : i < 8) (v : BitVec 32) : SumI32 w (st.set i v) (u.setCell ⟨w.heap.size + 1, i, none⟩ (b32 v)) :=
  ⟨h.bl.setCell (p := ⟨w.heap.size + 1, i, none⟩) (by simp) _, h.R.far (by omega) _ _, by rw [← set_map]; exact h.A.set (by rw [List.length_map, h.len]; exact hi) _, by rw [List.length_set, h.len]⟩
theorem SumI32.put {w u : World} {st st' : List (BitVec 32)} (h : SumI32 w st u) (hl : st'.length = 8) : SumI32 w st' (u.setCells (w.heap.size + 1) 0 (st'.map b32)) :=
  ⟨below_setCells (by omega) _ _ h.bl, h.R.farAll (by omega) _ _, h.A.put (by rw [List.length_map, List.length_map, h.len, hl]), hl⟩
theorem enters_blocks32 : Enters 64 := enters_of Tryd.func64 (by kernel_rfl) rfl
theorem enters_ending : Enters 65 := enters_of Tryd.func65 (by kernel_rfl) rfl
structure DigI32 (w : World) (g : Nat) (st : List (BitVec 32)) (d : List (BitVec 8)) (u : World) : Prop where
  I : SumI32 w st u
  D : Arr g (d.map b8) u
  len : d.length = 32
theorem DigI32.cell {w u : World} {g : Nat} {st : List (BitVec 32)} {d : List (BitVec 8)} (h : DigI32 w g st d u) {i : Nat} (hi : i < 32) : u.cell? ⟨g, i, none⟩ = some (b8 (d.getD i 0)) :=
  h.D.c i _ (get_map b8 0 (by rw [h.len]; exact hi))
theorem DigI32.set {w u : World} {g : Nat} {st : List (BitVec 32)} {d : List (BitVec 8)} (h : DigI32 w g st d u) (hg : w.heap.size + 1 < g) {i : Nat} (hi : i < 32) (v : BitVec 8) : DigI32 w g st (d.set i v) (u.setCell ⟨g, i, none⟩ (b8 v)) :=
  ⟨⟨h.I.bl.setCell (p := ⟨g, i, none⟩) (by show w.heap.size ≤ g; omega) _, h.I.R.far (by omega) _ _, h.I.A.far (by omega) _ _, h.I.len⟩, by rw [← set_map]; exact h.D.set (by rw [List.length_map, h.len]; exact hi) _, by rw [List.length_set, h.len]⟩

set_option maxHeartbeats 1000000 in
theorem sum32_any (v : Value) (l : List (BitVec 8)) (w : World) (hv : Sl v l w) (hn : l.length < 1152921504606846976) (hT : Tabs w) :
    Calls Tryd.prog 47 #[v] w fun e w' => e = .returned (.agg ((sum32 l).map b8).toArray) ∧ Below w.heap.size w w' := by
  have HN := Lib.hid hn; clear hn
  have HT := Lib.hid hT; clear hT
  have HV := Lib.hid hv; clear hv
  go_enter Tryd.func47, Tryd.ntmps47
  go_upto_region 0 with fail; refine wp_region_lit ?_
  refine wpList_val (run_alc (vs := z8 32) rfl (by kernel_rfl)) rfl ?_; (try simp only [Act.put, List.setIfInBounds_toArray, List.set_cons_zero, List.set_cons_succ])
  refine wpList_end ?_
  go_upto_region 1 with fail; refine wp_region_lit ?_
  refine wpList_val (run_alc (vs := z32 8) rfl (by kernel_rfl)) rfl ?_; (try simp only [Act.put, List.setIfInBounds_toArray, List.set_cons_zero, List.set_cons_succ])
  refine wpList_end ?_
  have hI : Hid (SumI32 w (begT32 0) ((w.alloc (.cells (z8 32).toArray 29)).alloc (.cells (z32 8).toArray 96))) := Lib.hid
    ⟨((Below.refl _ _).alloc (Nat.le_refl _) _).alloc (by simp) _, (Arr.new w _ _).below ((Below.refl _ _).alloc (Nat.le_refl _) _), Arr.at (by simp) (z32 8) _, rfl⟩
  rw [show (w.alloc (.cells (z8 32).toArray 29)).heap.size = w.heap.size + 1 by simp]
  generalize (w.alloc (.cells (z8 32).toArray 29)).alloc (.cells (z32 8).toArray 96) = u0 at *
  go_upto_region 2 with fail; refine wp_region_lit ?_
  refine wpList_val (run_mv (v := .int _ _) rfl rfl) rfl ?_; (try simp only [Act.put, List.setIfInBounds_toArray, List.set_cons_zero, List.set_cons_succ])
  refine wpList_end ?_
  go_wp2_with fail
  go_loopw [7] (fun s u => ∃ k : Nat, k ≤ 8 ∧ s = .int .i64 (k : Int) ∧ SumI32 w (begT32 k) u) (fun s _ => (8 - intOf s).toNat)
  case atStart => exact ⟨0, by omega, rfl, hI.out⟩
  case round =>
    obtain ⟨k, hk, rfl, hJ⟩ := hrel
    replace hI := Lib.hid hJ
    clear hJ
    by_cases hlt : k = 8
    · subst hlt
      have hk1 : ¬ (((8 : Nat) : Int) < 8) := by omega
      have HE : Hid (sum32 l = digT32 (mixA32 (mixA32 (begT32 8) l) (tail32 l)) 32) := Lib.hid rfl
      have hlen := hI.out.len
      have HL := Lib.hid (size_s32 hlen)
      generalize begT32 8 = st at *
      go_upto_region 7 with fail; refine wp_region_lit ?_
      clear hk1
      refine wpList_val (run_ldA (vs := st.map b32) rfl Tryd.underlying96 HL.out rfl hI.out.A.range) rfl ?_; (try simp only [Act.put, List.setIfInBounds_toArray, List.set_cons_zero, List.set_cons_succ])
      refine wpList_val (run_mv (v := v) rfl rfl) rfl ?_; (try simp only [Act.put, List.setIfInBounds_toArray, List.set_cons_zero, List.set_cons_succ])
      refine wpList_enter (run_call2 enters_blocks32 rfl rfl rfl rfl) rfl (blocks32_any st v l _ hlen (HV.out.below hI.out.bl) (by have := HN.out; omega) (HT.out.below hI.out.bl)) (fun u1 hb1 => ?_); (try simp only [Act.put, List.setIfInBounds_toArray, List.set_cons_zero, List.set_cons_succ])
      replace hI := Lib.hid (hI.out.below hb1)
      clear hb1
      refine wpList_val (run_mv (v := v) rfl rfl) rfl ?_; (try simp only [Act.put, List.setIfInBounds_toArray, List.set_cons_zero, List.set_cons_succ])
      refine wpList_callR (run_call2 enters_ending rfl rfl rfl rfl) rfl (ending32_any v l _ (HV.out.below hI.out.bl) HN.out) (fun v2 u2 hR => ?_); (try simp only [Act.put, List.setIfInBounds_toArray, List.set_cons_zero, List.set_cons_succ])
      obtain ⟨S2, hb2⟩ := hR
      replace hI := Lib.hid (hI.out.below hb2)
      clear hb2
      have HS := Lib.hid S2; clear S2
      have hlen2 : (mixA32 st l).length = 8 := by rw [mixA_len32, hlen]
      refine wpList_enter (run_call2 enters_blocks32 rfl rfl rfl rfl) rfl (blocks32_any (mixA32 st l) v2 (tail32 l) _ hlen2 HS.out (by have := tail_len32 l; have := size_le32 l; omega) (HT.out.below hI.out.bl)) (fun u3 hb3 => ?_); (try simp only [Act.put, List.setIfInBounds_toArray, List.set_cons_zero, List.set_cons_succ])
      replace hI := Lib.hid (hI.out.below hb3)
      clear hb3 HS
      have hlen3 : (mixA32 (mixA32 st l) (tail32 l)).length = 8 := by rw [mixA_len32, hlen2]
      generalize mixA32 (mixA32 st l) (tail32 l) = st2 at *
      refine wpList_skip (run_stA (vs := st2.map b32) rfl (size_s32 hlen3) rfl rfl (one32 _) (by rw [List.length_map, hlen3, ← hlen, ← List.length_map (f := b32)]; exact hI.out.A.there)) rfl rfl ?_
      refine wpList_end ?_
      replace hI := Lib.hid (hI.out.put hlen3)
      generalize u3.setCells (w.heap.size + 1) 0 (st2.map b32) = u4 at *
      clear hlen hlen2 HL
      go_upto_region 8 with fail; refine wp_region_lit ?_
      refine wpList_val (run_alc (vs := z8 32) rfl (by kernel_rfl)) rfl ?_; (try simp only [Act.put, List.setIfInBounds_toArray, List.set_cons_zero, List.set_cons_succ])
      refine wpList_end ?_
      have hg : w.heap.size + 1 < u4.heap.size := hI.out.A.lt
      have hD : Hid (DigI32 w u4.heap.size st2 (digT32 st2 0) (u4.alloc (.cells (z8 32).toArray 29))) := Lib.hid ⟨hI.out.below ((Below.refl _ _).alloc (Nat.le_refl _) _), Arr.new u4 (z8 32) _, rfl⟩
      clear hI
      generalize u4.alloc (.cells (z8 32).toArray 29) = u5 at *
      generalize u4.heap.size = g at *
      go_upto_region 9 with fail; refine wp_region_lit ?_
      refine wpList_val (run_mv (v := .int _ _) rfl rfl) rfl ?_; (try simp only [Act.put, List.setIfInBounds_toArray, List.set_cons_zero, List.set_cons_succ])
      refine wpList_end ?_
      go_wp2_with fail
      go_loopw [24] (fun s u => ∃ k : Nat, k ≤ 32 ∧ s = .int .i64 (k : Int) ∧ DigI32 w g st2 (digT32 st2 k) u) (fun s _ => (32 - intOf s).toNat)
      case atStart => exact ⟨0, by omega, rfl, hD.out⟩
      case round =>
        obtain ⟨k, hk, rfl, hJ⟩ := hrel
        replace hD := Lib.hid hJ
        clear hJ
        by_cases hlt : k = 32
        · subst hlt
          have hk1 : ¬ (((32 : Nat) : Int) < 32) := by omega
          have hT := (hD.out.I.R.put (l' := (digT32 st2 32).map b8) (by rw [List.length_map, digT_len32]; rfl)).range
          have HL := Lib.hid (size_d32 (digT_len32 st2 32))
          have hdl := digT_len32 st2 32
          generalize digT32 st2 32 = W at *
          go_upto_region 14 with fail; refine wp_region_lit ?_
          refine wpList_val (run_ldA (vs := W.map b8) rfl Tryd.underlying29 HL.out rfl hD.out.D.range) rfl ?_; (try simp only [Act.put, List.setIfInBounds_toArray, List.set_cons_zero, List.set_cons_succ])
          refine wpList_skip (run_stA (vs := W.map b8) rfl HL.out rfl rfl (one8 W) (by rw [List.length_map, hdl]; exact hD.out.I.R.there)) rfl rfl ?_
          refine wpList_end ?_
          go_wp2_with fail
          refine bodyPost_ret (v := .agg (W.map b8).toArray) ?_ rfl ⟨by rw [HE.out], below_setCells (Nat.le_refl _) _ _ hD.out.I.bl⟩
          exact results_arr Tryd.results47 rfl Tryd.underlying29 HL.out hT
        · have hk1 : (k : Int) < 32 := by omega
          have hk2 : k < 32 := by omega
          go_upto_region 11 with fail; refine wp_region_lit ?_
          refine wpList_val (run_mv (v := .int _ _) rfl rfl) rfl ?_; (try simp only [Act.put, List.setIfInBounds_toArray, List.set_cons_zero, List.set_cons_succ]); refine wpList_val (run_asg (v := .int _ _) rfl rfl) rfl ?_; (try simp only [Act.put, List.setIfInBounds_toArray, List.set_cons_zero, List.set_cons_succ])
          refine wpList_end ?_
          go_upto_region 12 with fail; refine wp_region_lit ?_
          refine wpList_val (run_mv (v := .int _ _) rfl rfl) rfl ?_; (try simp only [Act.put, List.setIfInBounds_toArray, List.set_cons_zero, List.set_cons_succ]); refine wpList_val (run_mv (v := .int _ _) rfl rfl) rfl ?_; (try simp only [Act.put, List.setIfInBounds_toArray, List.set_cons_zero, List.set_cons_succ])
          refine wpList_val (run_quo rfl rfl rfl (by omega) (by omega) (by omega)) rfl ?_; (try simp only [Act.put, List.setIfInBounds_toArray, List.set_cons_zero, List.set_cons_succ])
          rw [show ((k : Int) / 4) = ((k / 4 : Nat) : Int) by omega]
          refine wpList_val (run_ix0 rfl Tryd.underlying96 (by kernel_rfl) rfl rfl (by omega)) rfl ?_; (try simp only [Act.put, List.setIfInBounds_toArray, List.set_cons_zero, List.set_cons_succ])
          refine wpList_val (run_ld32 rfl rfl (hD.out.I.cell (i := k / 4) (by omega))) rfl ?_; (try simp only [Act.put, List.setIfInBounds_toArray, List.set_cons_zero, List.set_cons_succ])
          refine wpList_val (run_mv (v := .int _ _) rfl rfl) rfl ?_; (try simp only [Act.put, List.setIfInBounds_toArray, List.set_cons_zero, List.set_cons_succ])
          refine wpList_val (run_rem rfl rfl rfl (by omega) (by omega)) rfl ?_; (try simp only [Act.put, List.setIfInBounds_toArray, List.set_cons_zero, List.set_cons_succ])
          refine wpList_val (run_mul rfl rfl rfl (by omega) (by omega)) rfl ?_; (try simp only [Act.put, List.setIfInBounds_toArray, List.set_cons_zero, List.set_cons_succ])
          refine wpList_val (run_sub rfl rfl rfl (by omega) (by omega)) rfl ?_; (try simp only [Act.put, List.setIfInBounds_toArray, List.set_cons_zero, List.set_cons_succ])
          rw [show ((24 : Int) - (k : Int) % 4 * 8) = ((4 * 8 - 8 - k % 4 * 8 : Nat) : Int) by omega]
          refine wpList_val (run_shrj32 rfl rfl rfl (by omega)) rfl ?_; (try simp only [Act.put, List.setIfInBounds_toArray, List.set_cons_zero, List.set_cons_succ])
          refine wpList_val (run_cv32_8 rfl rfl) rfl ?_; (try simp only [Act.put, List.setIfInBounds_toArray, List.set_cons_zero, List.set_cons_succ])
          refine wpList_val (run_ix0 rfl Tryd.underlying29 (by kernel_rfl) rfl rfl hk2) rfl ?_; (try simp only [Act.put, List.setIfInBounds_toArray, List.set_cons_zero, List.set_cons_succ])
          refine wpList_skip (run_st8 rfl rfl rfl (hD.out.cell hk2) (hD.out.D.f _)) rfl rfl ?_
          refine wpList_end ?_
          go_wp2_with fail
          go_roundw
          case rel => exact ⟨k + 1, by omega, by go_num, hD.out.set hg hk2 _⟩
          case measure => simp [intOf]; omega
    · have hk1 : (k : Int) < 8 := by omega
      have hk2 : k < 8 := by omega
      go_upto_region 4 with fail; refine wp_region_lit ?_
      refine wpList_val (run_mv (v := .int _ _) rfl rfl) rfl ?_; (try simp only [Act.put, List.setIfInBounds_toArray, List.set_cons_zero, List.set_cons_succ]); refine wpList_val (run_asg (v := .int _ _) rfl rfl) rfl ?_; (try simp only [Act.put, List.setIfInBounds_toArray, List.set_cons_zero, List.set_cons_succ])
      refine wpList_end ?_
      go_upto_region 5 with fail; refine wp_region_lit ?_
      refine wpList_val (run_mv (v := .int _ _) rfl rfl) rfl ?_; (try simp only [Act.put, List.setIfInBounds_toArray, List.set_cons_zero, List.set_cons_succ]); refine wpList_val (run_mv (v := .int _ _) rfl rfl) rfl ?_; (try simp only [Act.put, List.setIfInBounds_toArray, List.set_cons_zero, List.set_cons_succ])
      refine wpList_val (run_ix0 (g := 0) rfl Tryd.underlying97 (by kernel_rfl) rfl rfl hk2) rfl ?_; (try simp only [Act.put, List.setIfInBounds_toArray, List.set_cons_zero, List.set_cons_succ])
      refine wpList_val (run_ld64 rfl rfl ((HT.out.below hI.out.bl).bc hk2)) rfl ?_; (try simp only [Act.put, List.setIfInBounds_toArray, List.set_cons_zero, List.set_cons_succ])
      refine wpList_val (run_shr64 (n := 32) rfl rfl rfl (by omega)) rfl ?_; (try simp only [Act.put, List.setIfInBounds_toArray, List.set_cons_zero, List.set_cons_succ])
      refine wpList_val (run_cv64_32 rfl rfl) rfl ?_; (try simp only [Act.put, List.setIfInBounds_toArray, List.set_cons_zero, List.set_cons_succ])
      refine wpList_val (run_ix0 rfl Tryd.underlying96 (by kernel_rfl) rfl rfl hk2) rfl ?_; (try simp only [Act.put, List.setIfInBounds_toArray, List.set_cons_zero, List.set_cons_succ])
      refine wpList_skip (run_st32 rfl rfl rfl (hI.out.cell hk2) (hI.out.A.f _)) rfl rfl ?_
      refine wpList_end ?_
      go_wp2_with fail
      go_roundw
      case rel => exact ⟨k + 1, by omega, by go_num, hI.out.set hk2 _⟩
      case measure => simp [intOf]; omega
theorem enters_sum32 : Enters 47 := enters_of Tryd.func47 (by kernel_rfl) rfl
end Go.Proofs.YtobpgolchlgpfaaDoor
