/- What sha.mix32 does: the state behind one more block. -/
import Derived.Test.YtobpgolchlgpfaaDoorShaSpread32
namespace Go.Proofs.YtobpgolchlgpfaaDoor
open Go.RowKit
set_option maxRecDepth 20000

def S132 (x : BitVec 32) : BitVec 32 := ror32 x 6 ^^^ ror32 x 11 ^^^ ror32 x 25
def S032 (x : BitVec 32) : BitVec 32 := ror32 x 2 ^^^ ror32 x 13 ^^^ ror32 x 22
/-- The state's eight words. -/
structure E32 where
  a : BitVec 32
  b : BitVec 32
  c : BitVec 32
  d : BitVec 32
  e : BitVec 32
  f : BitVec 32
  g : BitVec 32
  h : BitVec 32
def E32.list (s : E32) : List (BitVec 32) := [s.a, s.b, s.c, s.d, s.e, s.f, s.g, s.h]
def E32.of (l : List (BitVec 32)) : E32 := ⟨l.getD 0 0, l.getD 1 0, l.getD 2 0, l.getD 3 0, l.getD 4 0, l.getD 5 0, l.getD 6 0, l.getD 7 0⟩
/-- What the t-th round adds. -/
def kt32 (t : Nat) : BitVec 32 := (rtab.getD t 0 >>> 32).setWidth 32
def tW32 (s : E32) (k x : BitVec 32) : BitVec 32 := s.h + S132 s.e + (s.e &&& s.f ^^^ ~~~s.e &&& s.g) + k + x
def uW32 (s : E32) : BitVec 32 := S032 s.a + (s.a &&& s.b ^^^ s.a &&& s.c ^^^ s.b &&& s.c)
def rnd32 (s : E32) (k x : BitVec 32) : E32 := ⟨tW32 s k x + uW32 s, s.a, s.b, s.c, s.d + tW32 s k x, s.e, s.f, s.g⟩
def mixN32 (ws : List (BitVec 32)) (s : E32) : Nat → E32
  | 0 => s
  | t + 1 => rnd32 (mixN32 ws s t) (kt32 t) (ws.getD t 0)
def addT32 (st xs : List (BitVec 32)) : Nat → List (BitVec 32)
  | 0 => st
  | i + 1 => (addT32 st xs i).set i ((addT32 st xs i).getD i 0 + xs.getD i 0)
def mix32 (st ws : List (BitVec 32)) : List (BitVec 32) := addT32 st (mixN32 ws (E32.of st) 64).list 8
theorem addT_len32 (st xs : List (BitVec 32)) : ∀ i, (addT32 st xs i).length = st.length
  | 0 => rfl
  | i + 1 => by rw [addT32, List.length_set, addT_len32 st xs i]
theorem mix_len32 (st ws : List (BitVec 32)) : (mix32 st ws).length = st.length := addT_len32 _ _ _
theorem size_s32 {l : List (BitVec 32)} (h : l.length = 8) : (Tryd.prog.info? 96).map (·.size) = some (l.map b32).length := by
  rw [List.length_map, h]; kernel_rfl
theorem run_bld32 {w : World} {ρ : Operand → Value} {o : Oper} {x0 x1 x2 x3 x4 x5 x6 x7 : Operand} {a b c d e f g h : BitVec 32} (ho : o.op = .build 96 #[(0, x0), (1, x1), (2, x2), (3, x3), (4, x4), (5, x5), (6, x6), (7, x7)])
    (h0 : ρ x0 = b32 a) (h1 : ρ x1 = b32 b) (h2 : ρ x2 = b32 c) (h3 : ρ x3 = b32 d) (h4 : ρ x4 = b32 e) (h5 : ρ x5 = b32 f) (h6 : ρ x6 = b32 g) (h7 : ρ x7 = b32 h) : (execOp ρ o).run Tryd.prog w = .ok (.value (.agg ((E32.mk a b c d e f g h).list.map b32).toArray)) w := by
  obtain ⟨dst, op, type, pos, after, guard⟩ := o
  subst ho
  unfold b32 at *
  unfold E32.list
  go_simp

structure MixI32 (w : World) (st : List (BitVec 32)) (u : World) : Prop where
  bl : Below w.heap.size w u
  A : Arr w.heap.size (st.map b32) u
  R : Arr (w.heap.size + 1 + 1) (z32 8) u
  len : st.length = 8
theorem MixI32.below {w u u' : World} {st : List (BitVec 32)} (h : MixI32 w st u) (hb : Below u.heap.size u u') : MixI32 w st u' :=
  ⟨h.bl.trans (hb.mono h.bl.size), h.A.below hb, h.R.below hb, h.len⟩
theorem MixI32.cell {w u : World} {st : List (BitVec 32)} (h : MixI32 w st u) {i : Nat} (hi : i < 8) : u.cell? ⟨w.heap.size, i, none⟩ = some (b32 (st.getD i 0)) :=
  h.A.c i _ (get_map b32 0 (by rw [h.len]; exact hi))
theorem MixI32.set {w u : World} {st : List (BitVec 32)} (h : MixI32 w st u) {i : Nat} (hi : i < 8) (v : BitVec 32) : MixI32 w (st.set i v) (u.setCell ⟨w.heap.size, i, none⟩ (b32 v)) :=
  ⟨h.bl.setCell (p := ⟨w.heap.size, i, none⟩) (Nat.le_refl _) _, by rw [← set_map]; exact h.A.set (by rw [List.length_map, h.len]; exact hi) _, h.R.far (by omega) _ _, by rw [List.length_set, h.len]⟩

set_option maxRecDepth 100000 in
set_option maxHeartbeats 2000000 in
theorem mix32_any (st ws : List (BitVec 32)) (w : World) (hst : st.length = 8) (hws : ws.length = 64) (hT : Tabs w) :
    Calls Tryd.prog 72 #[.agg (st.map b32).toArray, .agg (ws.map b32).toArray] w fun e w' => e = .returned (.agg ((mix32 st ws).map b32).toArray) ∧ Below w.heap.size w w' := by
  go_enter Tryd.func72, Tryd.ntmps72
  go_upto_region 0 with fail; refine wp_region_lit ?_
  refine wpList_val (run_box rfl rfl) rfl ?_; (try simp only [Act.put, List.setIfInBounds_toArray, List.set_cons_zero, List.set_cons_succ])
  refine wpList_val (run_box rfl rfl) rfl ?_; (try simp only [Act.put, List.setIfInBounds_toArray, List.set_cons_zero, List.set_cons_succ])
  refine wpList_val (run_alc (vs := z32 8) rfl (by kernel_rfl)) rfl ?_; (try simp only [Act.put, List.setIfInBounds_toArray, List.set_cons_zero, List.set_cons_succ])
  refine wpList_end ?_
  have b1 : Below w.heap.size w (w.alloc (.cells (st.map b32).toArray 96)) := (Below.refl _ _).alloc (Nat.le_refl _) _
  have b2 : Below w.heap.size w ((w.alloc (.cells (st.map b32).toArray 96)).alloc (.cells (ws.map b32).toArray 107)) := b1.alloc (by simp) _
  have A1 := ((Arr.new w (st.map b32) 96).below ((Below.refl _ _).alloc (Nat.le_refl _) (.cells (ws.map b32).toArray 107))).below ((Below.refl _ _).alloc (Nat.le_refl _) (.cells (z32 8).toArray 96))
  have A2 := (Arr.at (w := w.alloc (.cells (st.map b32).toArray 96)) (n := w.heap.size + 1) (by simp) (ws.map b32) 107).below ((Below.refl _ _).alloc (Nat.le_refl _) (.cells (z32 8).toArray 96))
  have A3 := Arr.at (w := (w.alloc (.cells (st.map b32).toArray 96)).alloc (.cells (ws.map b32).toArray 107)) (n := w.heap.size + 1 + 1) (by simp) (z32 8) 96
  have hI : Hid (MixI32 w st (((w.alloc (.cells (st.map b32).toArray 96)).alloc (.cells (ws.map b32).toArray 107)).alloc (.cells (z32 8).toArray 96))) := Lib.hid ⟨b2.alloc (by simp; omega) _, A1, A3, hst⟩
  rw [show ((w.alloc (.cells (st.map b32).toArray 96)).alloc (.cells (ws.map b32).toArray 107)).heap.size = w.heap.size + 1 + 1 by simp, show (w.alloc (.cells (st.map b32).toArray 96)).heap.size = w.heap.size + 1 by simp]
  have HA := Lib.hid A2
  clear A1 A2 A3 b1 b2
  generalize ((w.alloc (.cells (st.map b32).toArray 96)).alloc (.cells (ws.map b32).toArray 107)).alloc (.cells (z32 8).toArray 96) = u0 at *
  have HT := Lib.hid hT; clear hT
  go_upto_region 1 with fail; refine wp_region_calm 24 (by kernel_rfl) (by kernel_rfl) ?_
  refine wpCalm_step _ (fun V hV => calm_run (run_ix0 (i := 0) rfl Tryd.underlying96 (by kernel_rfl) rfl rfl (by omega))) ?_; (try simp only [Act.put, List.setIfInBounds_toArray, List.set_cons_zero, List.set_cons_succ])
  refine wpCalm_step _ (fun V hV => calm_run (run_ld32 rfl rfl ((hI.out.below hV).cell (i := 0) (by omega)))) ?_; (try simp only [Act.put, List.setIfInBounds_toArray, List.set_cons_zero, List.set_cons_succ])
  refine wpCalm_step _ (fun V hV => calm_run (run_ix0 (i := 1) rfl Tryd.underlying96 (by kernel_rfl) rfl rfl (by omega))) ?_; (try simp only [Act.put, List.setIfInBounds_toArray, List.set_cons_zero, List.set_cons_succ])
  refine wpCalm_step _ (fun V hV => calm_run (run_ld32 rfl rfl ((hI.out.below hV).cell (i := 1) (by omega)))) ?_; (try simp only [Act.put, List.setIfInBounds_toArray, List.set_cons_zero, List.set_cons_succ])
  refine wpCalm_step _ (fun V hV => calm_run (run_ix0 (i := 2) rfl Tryd.underlying96 (by kernel_rfl) rfl rfl (by omega))) ?_; (try simp only [Act.put, List.setIfInBounds_toArray, List.set_cons_zero, List.set_cons_succ])
  refine wpCalm_step _ (fun V hV => calm_run (run_ld32 rfl rfl ((hI.out.below hV).cell (i := 2) (by omega)))) ?_; (try simp only [Act.put, List.setIfInBounds_toArray, List.set_cons_zero, List.set_cons_succ])
  refine wpCalm_step _ (fun V hV => calm_run (run_ix0 (i := 3) rfl Tryd.underlying96 (by kernel_rfl) rfl rfl (by omega))) ?_; (try simp only [Act.put, List.setIfInBounds_toArray, List.set_cons_zero, List.set_cons_succ])
  refine wpCalm_step _ (fun V hV => calm_run (run_ld32 rfl rfl ((hI.out.below hV).cell (i := 3) (by omega)))) ?_; (try simp only [Act.put, List.setIfInBounds_toArray, List.set_cons_zero, List.set_cons_succ])
  refine wpCalm_step _ (fun V hV => calm_run (run_ix0 (i := 4) rfl Tryd.underlying96 (by kernel_rfl) rfl rfl (by omega))) ?_; (try simp only [Act.put, List.setIfInBounds_toArray, List.set_cons_zero, List.set_cons_succ])
  refine wpCalm_step _ (fun V hV => calm_run (run_ld32 rfl rfl ((hI.out.below hV).cell (i := 4) (by omega)))) ?_; (try simp only [Act.put, List.setIfInBounds_toArray, List.set_cons_zero, List.set_cons_succ])
  refine wpCalm_step _ (fun V hV => calm_run (run_ix0 (i := 5) rfl Tryd.underlying96 (by kernel_rfl) rfl rfl (by omega))) ?_; (try simp only [Act.put, List.setIfInBounds_toArray, List.set_cons_zero, List.set_cons_succ])
  refine wpCalm_step _ (fun V hV => calm_run (run_ld32 rfl rfl ((hI.out.below hV).cell (i := 5) (by omega)))) ?_; (try simp only [Act.put, List.setIfInBounds_toArray, List.set_cons_zero, List.set_cons_succ])
  refine wpCalm_step _ (fun V hV => calm_run (run_ix0 (i := 6) rfl Tryd.underlying96 (by kernel_rfl) rfl rfl (by omega))) ?_; (try simp only [Act.put, List.setIfInBounds_toArray, List.set_cons_zero, List.set_cons_succ])
  refine wpCalm_step _ (fun V hV => calm_run (run_ld32 rfl rfl ((hI.out.below hV).cell (i := 6) (by omega)))) ?_; (try simp only [Act.put, List.setIfInBounds_toArray, List.set_cons_zero, List.set_cons_succ])
  refine wpCalm_step _ (fun V hV => calm_run (run_ix0 (i := 7) rfl Tryd.underlying96 (by kernel_rfl) rfl rfl (by omega))) ?_; (try simp only [Act.put, List.setIfInBounds_toArray, List.set_cons_zero, List.set_cons_succ])
  refine wpCalm_step _ (fun V hV => calm_run (run_ld32 rfl rfl ((hI.out.below hV).cell (i := 7) (by omega)))) ?_; (try simp only [Act.put, List.setIfInBounds_toArray, List.set_cons_zero, List.set_cons_succ])
  refine wpCalm_step _ (fun V hV => calm_run (run_asg (v := b32 _) rfl rfl)) ?_; (try simp only [Act.put, List.setIfInBounds_toArray, List.set_cons_zero, List.set_cons_succ]); refine wpCalm_step _ (fun V hV => calm_run (run_asg (v := b32 _) rfl rfl)) ?_; (try simp only [Act.put, List.setIfInBounds_toArray, List.set_cons_zero, List.set_cons_succ]); refine wpCalm_step _ (fun V hV => calm_run (run_asg (v := b32 _) rfl rfl)) ?_; (try simp only [Act.put, List.setIfInBounds_toArray, List.set_cons_zero, List.set_cons_succ]); refine wpCalm_step _ (fun V hV => calm_run (run_asg (v := b32 _) rfl rfl)) ?_; (try simp only [Act.put, List.setIfInBounds_toArray, List.set_cons_zero, List.set_cons_succ]); refine wpCalm_step _ (fun V hV => calm_run (run_asg (v := b32 _) rfl rfl)) ?_; (try simp only [Act.put, List.setIfInBounds_toArray, List.set_cons_zero, List.set_cons_succ]); refine wpCalm_step _ (fun V hV => calm_run (run_asg (v := b32 _) rfl rfl)) ?_; (try simp only [Act.put, List.setIfInBounds_toArray, List.set_cons_zero, List.set_cons_succ]); refine wpCalm_step _ (fun V hV => calm_run (run_asg (v := b32 _) rfl rfl)) ?_; (try simp only [Act.put, List.setIfInBounds_toArray, List.set_cons_zero, List.set_cons_succ]); refine wpCalm_step _ (fun V hV => calm_run (run_asg (v := b32 _) rfl rfl)) ?_; (try simp only [Act.put, List.setIfInBounds_toArray, List.set_cons_zero, List.set_cons_succ])
  refine wpCalm_done ?_; intro u1 hb1; simp only [List.drop_succ_cons, List.drop_zero]
  refine wpList_end ?_
  replace hI := Lib.hid (hI.out.below hb1)
  replace HA := Lib.hid (HA.out.below hb1)
  clear hb1
  go_upto_region 2 with fail; refine wp_region_lit ?_
  refine wpList_val (run_ldA (vs := ws.map b32) rfl Tryd.underlying107 (size_w32 hws) rfl HA.out.range) rfl ?_; (try simp only [Act.put, List.setIfInBounds_toArray, List.set_cons_zero, List.set_cons_succ])
  refine wpList_val (run_mv (v := .int _ _) rfl rfl) rfl ?_; (try simp only [Act.put, List.setIfInBounds_toArray, List.set_cons_zero, List.set_cons_succ])
  refine wpList_end ?_
  clear HA
  go_wp2_with fail
  go_loopw [5, 6, 7, 8, 9, 10, 11, 12, 38] (fun va vb vc vd ve vf vg vh vi u => ∃ (t : Nat) (s : E32), t ≤ 64 ∧ mixN32 ws (E32.of st) t = s ∧ va = b32 s.a ∧ vb = b32 s.b ∧ vc = b32 s.c ∧ vd = b32 s.d ∧ ve = b32 s.e ∧ vf = b32 s.f ∧ vg = b32 s.g ∧ vh = b32 s.h ∧ vi = .int .i64 (t : Int) ∧ MixI32 w st u) (fun _ _ _ _ _ _ _ _ vi _ => (64 - intOf vi).toNat)
  case atStart => exact ⟨0, _, by omega, rfl, rfl, rfl, rfl, rfl, rfl, rfl, rfl, rfl, rfl, hI.out⟩
  case round =>
    obtain ⟨t, s, ht, hs, rfl, rfl, rfl, rfl, rfl, rfl, rfl, rfl, rfl, hJ⟩ := hrel
    replace hI := Lib.hid hJ
    have HS := Lib.hid hs
    clear hJ hs
    by_cases hlt : t = 64
    · subst hlt
      have hk1 : ¬ (((64 : Nat) : Int) < 64) := by omega
      go_upto_region 11 with fail; refine wp_region_lit ?_
      refine wpList_val (run_mv (v := b32 _) rfl rfl) rfl ?_; (try simp only [Act.put, List.setIfInBounds_toArray, List.set_cons_zero, List.set_cons_succ]); refine wpList_val (run_mv (v := b32 _) rfl rfl) rfl ?_; (try simp only [Act.put, List.setIfInBounds_toArray, List.set_cons_zero, List.set_cons_succ]); refine wpList_val (run_mv (v := b32 _) rfl rfl) rfl ?_; (try simp only [Act.put, List.setIfInBounds_toArray, List.set_cons_zero, List.set_cons_succ]); refine wpList_val (run_mv (v := b32 _) rfl rfl) rfl ?_; (try simp only [Act.put, List.setIfInBounds_toArray, List.set_cons_zero, List.set_cons_succ]); refine wpList_val (run_mv (v := b32 _) rfl rfl) rfl ?_; (try simp only [Act.put, List.setIfInBounds_toArray, List.set_cons_zero, List.set_cons_succ]); refine wpList_val (run_mv (v := b32 _) rfl rfl) rfl ?_; (try simp only [Act.put, List.setIfInBounds_toArray, List.set_cons_zero, List.set_cons_succ]); refine wpList_val (run_mv (v := b32 _) rfl rfl) rfl ?_; (try simp only [Act.put, List.setIfInBounds_toArray, List.set_cons_zero, List.set_cons_succ]); refine wpList_val (run_mv (v := b32 _) rfl rfl) rfl ?_; (try simp only [Act.put, List.setIfInBounds_toArray, List.set_cons_zero, List.set_cons_succ])
      refine wpList_val (run_bld32 rfl rfl rfl rfl rfl rfl rfl rfl rfl) rfl ?_; (try simp only [Act.put, List.setIfInBounds_toArray, List.set_cons_zero, List.set_cons_succ])
      refine wpList_val (run_mv (v := .int _ _) rfl rfl) rfl ?_; (try simp only [Act.put, List.setIfInBounds_toArray, List.set_cons_zero, List.set_cons_succ])
      refine wpList_end ?_
      clear hk1 ht
      have HX : Hid (addT32 st s.list 8 = mix32 st ws) := Lib.hid (by rw [← HS.out]; rfl)
      clear HS
      rw [show (E32.mk s.a s.b s.c s.d s.e s.f s.g s.h).list = s.list from rfl]
      have hxs : s.list.length = 8 := rfl
      generalize s.list = xs at *
      have HXS := Lib.hid hxs; clear hxs
      go_wp2_with fail
      go_loopw [107] (fun vi u => ∃ i : Nat, i ≤ 8 ∧ vi = .int .i64 (i : Int) ∧ MixI32 w (addT32 st xs i) u) (fun vi _ => (8 - intOf vi).toNat)
      case atStart => exact ⟨0, by omega, rfl, hI.out⟩
      case round =>
        obtain ⟨i, hi, rfl, hJ⟩ := hrel
        replace hI := Lib.hid hJ
        clear hJ
        by_cases hlt : i = 8
        · subst hlt
          have hk1 : ¬ (((8 : Nat) : Int) < 8) := by omega
          rw [HX.out] at hI
          have hlen := hI.out.len
          have hT := (hI.out.R.put (l' := (mix32 st ws).map b32) (by rw [List.length_map, hlen]; rfl)).range
          have HL := Lib.hid (size_s32 hlen)
          clear HX
          generalize hW : mix32 st ws = W at *
          have EW := Lib.hid hW; clear hW
          go_upto_region 16 with fail; refine wp_region_lit ?_
          refine wpList_val (run_ldA (vs := W.map b32) rfl Tryd.underlying96 HL.out rfl hI.out.A.range) rfl ?_; (try simp only [Act.put, List.setIfInBounds_toArray, List.set_cons_zero, List.set_cons_succ])
          refine wpList_skip (run_stA (vs := W.map b32) rfl HL.out rfl rfl (one32 W) (by rw [List.length_map, hlen]; exact hI.out.R.there)) rfl rfl ?_
          refine wpList_end ?_
          go_wp2_with fail
          refine bodyPost_ret (v := .agg (W.map b32).toArray) ?_ rfl ⟨by rw [EW.out], below_setCells (by omega) _ _ hI.out.bl⟩
          exact results_arr Tryd.results72 rfl Tryd.underlying96 HL.out hT
        · have hk1 : (i : Int) < 8 := by omega
          have hk2 : i < 8 := by omega
          go_upto_region 13 with fail; refine wp_region_lit ?_
          refine wpList_val (run_mv (v := .int _ _) rfl rfl) rfl ?_; (try simp only [Act.put, List.setIfInBounds_toArray, List.set_cons_zero, List.set_cons_succ])
          refine wpList_val (run_ixv (vs := xs.map b32) rfl Tryd.underlying96 (by kernel_rfl) (Tryd.isAgg95 _) rfl rfl hk2 (get_map b32 0 (by rw [HXS.out]; exact hk2))) rfl ?_; (try simp only [Act.put, List.setIfInBounds_toArray, List.set_cons_zero, List.set_cons_succ])
          refine wpList_val (run_asg (v := .int _ _) rfl rfl) rfl ?_; (try simp only [Act.put, List.setIfInBounds_toArray, List.set_cons_zero, List.set_cons_succ]); refine wpList_val (run_asg (v := b32 _) rfl rfl) rfl ?_; (try simp only [Act.put, List.setIfInBounds_toArray, List.set_cons_zero, List.set_cons_succ])
          refine wpList_end ?_
          go_upto_region 14 with fail; refine wp_region_lit ?_
          refine wpList_val (run_mv (v := .int _ _) rfl rfl) rfl ?_; (try simp only [Act.put, List.setIfInBounds_toArray, List.set_cons_zero, List.set_cons_succ])
          refine wpList_val (run_ix0 rfl Tryd.underlying96 (by kernel_rfl) rfl rfl hk2) rfl ?_; (try simp only [Act.put, List.setIfInBounds_toArray, List.set_cons_zero, List.set_cons_succ])
          refine wpList_val (run_ld32 rfl rfl (hI.out.cell hk2)) rfl ?_; (try simp only [Act.put, List.setIfInBounds_toArray, List.set_cons_zero, List.set_cons_succ])
          refine wpList_val (run_mv (v := b32 _) rfl rfl) rfl ?_; (try simp only [Act.put, List.setIfInBounds_toArray, List.set_cons_zero, List.set_cons_succ]); refine wpList_val (run_add32 rfl rfl rfl) rfl ?_; (try simp only [Act.put, List.setIfInBounds_toArray, List.set_cons_zero, List.set_cons_succ])
          refine wpList_val (run_ix0 rfl Tryd.underlying96 (by kernel_rfl) rfl rfl hk2) rfl ?_; (try simp only [Act.put, List.setIfInBounds_toArray, List.set_cons_zero, List.set_cons_succ])
          refine wpList_skip (run_st32 rfl rfl rfl (hI.out.cell hk2) (hI.out.A.f _)) rfl rfl ?_
          refine wpList_end ?_
          go_wp2_with fail
          go_roundw
          case rel => exact ⟨i + 1, by omega, by go_num, hI.out.set hk2 _⟩
          case measure => simp [intOf]; omega
    · have hk1 : (t : Int) < 64 := by omega
      have hk2 : t < 64 := by omega
      go_upto_region 4 with fail; refine wp_region_lit ?_
      refine wpList_val (run_mv (v := .int _ _) rfl rfl) rfl ?_; (try simp only [Act.put, List.setIfInBounds_toArray, List.set_cons_zero, List.set_cons_succ])
      refine wpList_val (run_ixv (vs := ws.map b32) rfl Tryd.underlying107 (by kernel_rfl) (Tryd.isAgg95 _) rfl rfl hk2 (get_map b32 0 (by rw [hws]; exact hk2))) rfl ?_; (try simp only [Act.put, List.setIfInBounds_toArray, List.set_cons_zero, List.set_cons_succ])
      refine wpList_val (run_asg (v := .int _ _) rfl rfl) rfl ?_; (try simp only [Act.put, List.setIfInBounds_toArray, List.set_cons_zero, List.set_cons_succ]); refine wpList_val (run_asg (v := b32 _) rfl rfl) rfl ?_; (try simp only [Act.put, List.setIfInBounds_toArray, List.set_cons_zero, List.set_cons_succ])
      refine wpList_end ?_
      go_upto_region 5 with fail; refine wp_region_lit ?_
      refine wpList_val (run_mv (v := b32 _) rfl rfl) rfl ?_; (try simp only [Act.put, List.setIfInBounds_toArray, List.set_cons_zero, List.set_cons_succ])
      refine wpList_still (run_call3 enters_turned32 rfl rfl rfl rfl rfl) rfl (turned32_any _ 6 11 _ (by omega) (by omega) (by omega) (by omega)) ?_; (try simp only [Act.put, List.setIfInBounds_toArray, List.set_cons_zero, List.set_cons_succ])
      refine wpList_val (run_mv (v := b32 _) rfl rfl) rfl ?_; (try simp only [Act.put, List.setIfInBounds_toArray, List.set_cons_zero, List.set_cons_succ])
      refine wpList_still (run_call2 enters_rot32 rfl rfl rfl rfl) rfl (rot32_any _ 25 _ (by omega) (by omega)) ?_; (try simp only [Act.put, List.setIfInBounds_toArray, List.set_cons_zero, List.set_cons_succ])
      refine wpList_val (run_xor32 rfl rfl rfl) rfl ?_; (try simp only [Act.put, List.setIfInBounds_toArray, List.set_cons_zero, List.set_cons_succ]); refine wpList_val (run_asg (v := b32 _) rfl rfl) rfl ?_; (try simp only [Act.put, List.setIfInBounds_toArray, List.set_cons_zero, List.set_cons_succ])
      refine wpList_end ?_
      go_upto_region 6 with fail; refine wp_region_lit ?_
      refine wpList_val (run_mv (v := b32 _) rfl rfl) rfl ?_; (try simp only [Act.put, List.setIfInBounds_toArray, List.set_cons_zero, List.set_cons_succ]); refine wpList_val (run_mv (v := b32 _) rfl rfl) rfl ?_; (try simp only [Act.put, List.setIfInBounds_toArray, List.set_cons_zero, List.set_cons_succ]); refine wpList_val (run_add32 rfl rfl rfl) rfl ?_; (try simp only [Act.put, List.setIfInBounds_toArray, List.set_cons_zero, List.set_cons_succ]); refine wpList_val (run_mv (v := b32 _) rfl rfl) rfl ?_; (try simp only [Act.put, List.setIfInBounds_toArray, List.set_cons_zero, List.set_cons_succ]); refine wpList_val (run_mv (v := b32 _) rfl rfl) rfl ?_; (try simp only [Act.put, List.setIfInBounds_toArray, List.set_cons_zero, List.set_cons_succ]); refine wpList_val (run_and32 rfl rfl rfl) rfl ?_; (try simp only [Act.put, List.setIfInBounds_toArray, List.set_cons_zero, List.set_cons_succ]); refine wpList_val (run_mv (v := b32 _) rfl rfl) rfl ?_; (try simp only [Act.put, List.setIfInBounds_toArray, List.set_cons_zero, List.set_cons_succ]); refine wpList_val (run_not32 rfl rfl) rfl ?_; (try simp only [Act.put, List.setIfInBounds_toArray, List.set_cons_zero, List.set_cons_succ]); refine wpList_val (run_mv (v := b32 _) rfl rfl) rfl ?_; (try simp only [Act.put, List.setIfInBounds_toArray, List.set_cons_zero, List.set_cons_succ]); refine wpList_val (run_and32 rfl rfl rfl) rfl ?_; (try simp only [Act.put, List.setIfInBounds_toArray, List.set_cons_zero, List.set_cons_succ]); refine wpList_val (run_xor32 rfl rfl rfl) rfl ?_; (try simp only [Act.put, List.setIfInBounds_toArray, List.set_cons_zero, List.set_cons_succ]); refine wpList_val (run_add32 rfl rfl rfl) rfl ?_; (try simp only [Act.put, List.setIfInBounds_toArray, List.set_cons_zero, List.set_cons_succ]); refine wpList_val (run_mv (v := .int _ _) rfl rfl) rfl ?_; (try simp only [Act.put, List.setIfInBounds_toArray, List.set_cons_zero, List.set_cons_succ])
      refine wpList_val (run_ix0 (g := 1) rfl Tryd.underlying115 (by kernel_rfl) rfl rfl (by omega)) rfl ?_; (try simp only [Act.put, List.setIfInBounds_toArray, List.set_cons_zero, List.set_cons_succ])
      refine wpList_val (run_ld64 rfl rfl ((HT.out.below hI.out.bl).rc (by omega))) rfl ?_; (try simp only [Act.put, List.setIfInBounds_toArray, List.set_cons_zero, List.set_cons_succ])
      refine wpList_val (run_shr64 (n := 32) rfl rfl rfl (by omega)) rfl ?_; (try simp only [Act.put, List.setIfInBounds_toArray, List.set_cons_zero, List.set_cons_succ])
      refine wpList_val (run_cv64_32 rfl rfl) rfl ?_; (try simp only [Act.put, List.setIfInBounds_toArray, List.set_cons_zero, List.set_cons_succ]); refine wpList_val (run_add32 rfl rfl rfl) rfl ?_; (try simp only [Act.put, List.setIfInBounds_toArray, List.set_cons_zero, List.set_cons_succ]); refine wpList_val (run_mv (v := b32 _) rfl rfl) rfl ?_; (try simp only [Act.put, List.setIfInBounds_toArray, List.set_cons_zero, List.set_cons_succ]); refine wpList_val (run_add32 rfl rfl rfl) rfl ?_; (try simp only [Act.put, List.setIfInBounds_toArray, List.set_cons_zero, List.set_cons_succ]); refine wpList_val (run_asg (v := b32 _) rfl rfl) rfl ?_; (try simp only [Act.put, List.setIfInBounds_toArray, List.set_cons_zero, List.set_cons_succ])
      refine wpList_end ?_
      go_upto_region 7 with fail; refine wp_region_lit ?_
      refine wpList_val (run_mv (v := b32 _) rfl rfl) rfl ?_; (try simp only [Act.put, List.setIfInBounds_toArray, List.set_cons_zero, List.set_cons_succ])
      refine wpList_still (run_call3 enters_turned32 rfl rfl rfl rfl rfl) rfl (turned32_any _ 2 13 _ (by omega) (by omega) (by omega) (by omega)) ?_; (try simp only [Act.put, List.setIfInBounds_toArray, List.set_cons_zero, List.set_cons_succ])
      refine wpList_val (run_mv (v := b32 _) rfl rfl) rfl ?_; (try simp only [Act.put, List.setIfInBounds_toArray, List.set_cons_zero, List.set_cons_succ])
      refine wpList_still (run_call2 enters_rot32 rfl rfl rfl rfl) rfl (rot32_any _ 22 _ (by omega) (by omega)) ?_; (try simp only [Act.put, List.setIfInBounds_toArray, List.set_cons_zero, List.set_cons_succ])
      refine wpList_val (run_xor32 rfl rfl rfl) rfl ?_; (try simp only [Act.put, List.setIfInBounds_toArray, List.set_cons_zero, List.set_cons_succ]); refine wpList_val (run_asg (v := b32 _) rfl rfl) rfl ?_; (try simp only [Act.put, List.setIfInBounds_toArray, List.set_cons_zero, List.set_cons_succ])
      refine wpList_end ?_
      go_upto_region 8 with fail; refine wp_region_lit ?_
      refine wpList_val (run_mv (v := b32 _) rfl rfl) rfl ?_; (try simp only [Act.put, List.setIfInBounds_toArray, List.set_cons_zero, List.set_cons_succ]); refine wpList_val (run_mv (v := b32 _) rfl rfl) rfl ?_; (try simp only [Act.put, List.setIfInBounds_toArray, List.set_cons_zero, List.set_cons_succ]); refine wpList_val (run_mv (v := b32 _) rfl rfl) rfl ?_; (try simp only [Act.put, List.setIfInBounds_toArray, List.set_cons_zero, List.set_cons_succ]); refine wpList_val (run_and32 rfl rfl rfl) rfl ?_; (try simp only [Act.put, List.setIfInBounds_toArray, List.set_cons_zero, List.set_cons_succ]); refine wpList_val (run_mv (v := b32 _) rfl rfl) rfl ?_; (try simp only [Act.put, List.setIfInBounds_toArray, List.set_cons_zero, List.set_cons_succ]); refine wpList_val (run_mv (v := b32 _) rfl rfl) rfl ?_; (try simp only [Act.put, List.setIfInBounds_toArray, List.set_cons_zero, List.set_cons_succ]); refine wpList_val (run_and32 rfl rfl rfl) rfl ?_; (try simp only [Act.put, List.setIfInBounds_toArray, List.set_cons_zero, List.set_cons_succ]); refine wpList_val (run_xor32 rfl rfl rfl) rfl ?_; (try simp only [Act.put, List.setIfInBounds_toArray, List.set_cons_zero, List.set_cons_succ]); refine wpList_val (run_mv (v := b32 _) rfl rfl) rfl ?_; (try simp only [Act.put, List.setIfInBounds_toArray, List.set_cons_zero, List.set_cons_succ]); refine wpList_val (run_mv (v := b32 _) rfl rfl) rfl ?_; (try simp only [Act.put, List.setIfInBounds_toArray, List.set_cons_zero, List.set_cons_succ]); refine wpList_val (run_and32 rfl rfl rfl) rfl ?_; (try simp only [Act.put, List.setIfInBounds_toArray, List.set_cons_zero, List.set_cons_succ]); refine wpList_val (run_xor32 rfl rfl rfl) rfl ?_; (try simp only [Act.put, List.setIfInBounds_toArray, List.set_cons_zero, List.set_cons_succ]); refine wpList_val (run_add32 rfl rfl rfl) rfl ?_; (try simp only [Act.put, List.setIfInBounds_toArray, List.set_cons_zero, List.set_cons_succ]); refine wpList_val (run_asg (v := b32 _) rfl rfl) rfl ?_; (try simp only [Act.put, List.setIfInBounds_toArray, List.set_cons_zero, List.set_cons_succ])
      refine wpList_end ?_
      go_upto_region 9 with fail; refine wp_region_lit ?_
      (repeat ((first | refine wpList_val (run_mv (v := b32 _) rfl rfl) rfl ?_ | refine wpList_val (run_mv (v := b64 _) rfl rfl) rfl ?_ | refine wpList_val (run_mv (v := b8 _) rfl rfl) rfl ?_ | refine wpList_val (run_mv (v := .int _ _) rfl rfl) rfl ?_ | refine wpList_val (run_mv (v := .bool _) rfl rfl) rfl ?_ | refine wpList_val (run_mv (v := .slice (some _) _ _) rfl rfl) rfl ?_ | refine wpList_val (run_mv (v := .slice _ _ _) rfl rfl) rfl ?_ | refine wpList_val (run_mv (v := .pointer (some _)) rfl rfl) rfl ?_ | refine wpList_val (run_mv (v := .agg _) rfl rfl) rfl ?_ | refine wpList_val (run_asg (v := b32 _) rfl rfl) rfl ?_ | refine wpList_val (run_asg (v := b64 _) rfl rfl) rfl ?_ | refine wpList_val (run_asg (v := b8 _) rfl rfl) rfl ?_ | refine wpList_val (run_asg (v := .int _ _) rfl rfl) rfl ?_ | refine wpList_val (run_asg (v := .bool _) rfl rfl) rfl ?_ | refine wpList_val (run_asg (v := .slice (some _) _ _) rfl rfl) rfl ?_ | refine wpList_val (run_asg (v := .slice _ _ _) rfl rfl) rfl ?_ | refine wpList_val (run_asg (v := .pointer (some _)) rfl rfl) rfl ?_ | refine wpList_val (run_asg (v := .agg _) rfl rfl) rfl ?_ | refine wpList_val (run_mv rfl rfl) rfl ?_ | refine wpList_val (run_asg rfl rfl) rfl ?_ | refine wpList_val (run_xor32 rfl rfl rfl) rfl ?_ | refine wpList_val (run_and32 rfl rfl rfl) rfl ?_ | refine wpList_val (run_or32 rfl rfl rfl) rfl ?_ | refine wpList_val (run_add32 rfl rfl rfl) rfl ?_ | refine wpList_val (run_not32 rfl rfl) rfl ?_ | refine wpList_val (run_xor64 rfl rfl rfl) rfl ?_ | refine wpList_val (run_and64 rfl rfl rfl) rfl ?_ | refine wpList_val (run_or64 rfl rfl rfl) rfl ?_ | refine wpList_val (run_add64 rfl rfl rfl) rfl ?_ | refine wpList_val (run_not64 rfl rfl) rfl ?_ | refine wpList_val (run_xor8 rfl rfl rfl) rfl ?_ | refine wpList_val (run_and8 rfl rfl rfl) rfl ?_ | refine wpList_val (run_or8 rfl rfl rfl) rfl ?_ | refine wpList_val (run_add8 rfl rfl rfl) rfl ?_ | refine wpList_val (run_not8 rfl rfl) rfl ?_ | refine wpList_val (run_cv64_32 rfl rfl) rfl ?_ | refine wpList_val (run_cv8_32 rfl rfl) rfl ?_ | refine wpList_val (run_cv8_64 rfl rfl) rfl ?_ | refine wpList_val (run_cv32_8 rfl rfl) rfl ?_ | refine wpList_val (run_cv64_8 rfl rfl) rfl ?_); (try simp only [Act.put, List.setIfInBounds_toArray, List.set_cons_zero, List.set_cons_succ])))
      refine wpList_end ?_
      go_wp2_with fail
      go_roundw
      case rel => exact ⟨t + 1, rnd32 s (kt32 t) (ws.getD t 0), by omega, by rw [mixN32, HS.out], rfl, rfl, rfl, rfl, rfl, rfl, rfl, rfl, by go_num, hI.out⟩
      case measure => simp [intOf]; omega
end Go.Proofs.YtobpgolchlgpfaaDoor
