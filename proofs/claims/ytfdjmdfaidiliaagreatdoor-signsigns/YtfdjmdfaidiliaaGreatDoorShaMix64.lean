import Derived.Test.YtfdjmdfaidiliaaGreatDoorLy
import Derived.Test.YtfdjmdfaidiliaaGreatDoorShaSpread64
namespace Go.Proofs.YtfdjmdfaidiliaaGreatDoor
open Go.RowKit
set_option maxRecDepth 20000
def S164 (x : BitVec 64) : BitVec 64 := ror64 x 14 ^^^ ror64 x 18 ^^^ ror64 x 41
def S064 (x : BitVec 64) : BitVec 64 := ror64 x 28 ^^^ ror64 x 34 ^^^ ror64 x 39
structure E64 where
  a : BitVec 64
  b : BitVec 64
  c : BitVec 64
  d : BitVec 64
  e : BitVec 64
  f : BitVec 64
  g : BitVec 64
  h : BitVec 64
def E64.list (s : E64) : List (BitVec 64) := [s.a, s.b, s.c, s.d, s.e, s.f, s.g, s.h]
def E64.of (l : List (BitVec 64)) : E64 := ⟨l.getD 0 0, l.getD 1 0, l.getD 2 0, l.getD 3 0, l.getD 4 0, l.getD 5 0, l.getD 6 0, l.getD 7 0⟩
def kt64 (t : Nat) : BitVec 64 := rtab.getD t 0
def tW64 (s : E64) (k x : BitVec 64) : BitVec 64 := s.h + S164 s.e + (s.e &&& s.f ^^^ ~~~s.e &&& s.g) + k + x
def uW64 (s : E64) : BitVec 64 := S064 s.a + (s.a &&& s.b ^^^ s.a &&& s.c ^^^ s.b &&& s.c)
def rnd64 (s : E64) (k x : BitVec 64) : E64 := ⟨tW64 s k x + uW64 s, s.a, s.b, s.c, s.d + tW64 s k x, s.e, s.f, s.g⟩
def mixN64 (ws : List (BitVec 64)) (s : E64) : Nat → E64
  | 0 => s
  | t + 1 => rnd64 (mixN64 ws s t) (kt64 t) (ws.getD t 0)
def addT64 (st xs : List (BitVec 64)) : Nat → List (BitVec 64)
  | 0 => st
  | i + 1 => (addT64 st xs i).set i ((addT64 st xs i).getD i 0 + xs.getD i 0)
def mix64 (st ws : List (BitVec 64)) : List (BitVec 64) := addT64 st (mixN64 ws (E64.of st) 80).list 8
theorem addT_len64 (st xs : List (BitVec 64)) : ∀ i, (addT64 st xs i).length = st.length
  | 0 => rfl
  | i + 1 => by rw [addT64, List.length_set, addT_len64 st xs i]
theorem mix_len64 (st ws : List (BitVec 64)) : (mix64 st ws).length = st.length := addT_len64 _ _ _
theorem size_s64 {l : List (BitVec 64)} (h : l.length = 8) : (Tryz.prog.info? 66).map (·.size) = some (l.map b64).length := by
  rw [List.length_map, h]; kernel_rfl
theorem run_bld64 {w : World} {ρ : Operand → Value} {o : Oper} {x0 x1 x2 x3 x4 x5 x6 x7 : Operand} {a b c d e f g h : BitVec 64} (ho : o.op = .build 66 #[(0, x0), (1, x1), (2, x2), (3, x3), (4, x4), (5, x5), (6, x6), (7, x7)])
    (h0 : ρ x0 = b64 a) (h1 : ρ x1 = b64 b) (h2 : ρ x2 = b64 c) (h3 : ρ x3 = b64 d) (h4 : ρ x4 = b64 e) (h5 : ρ x5 = b64 f) (h6 : ρ x6 = b64 g) (h7 : ρ x7 = b64 h) : (execOp ρ o).run Tryz.prog w = .ok (.value (.agg ((E64.mk a b c d e f g h).list.map b64).toArray)) w := by
  obtain ⟨dst, op, type, pos, after, guard⟩ := o
  subst ho
  unfold b64 at *
  unfold E64.list
  go_simp
structure MixI64 (w : World) (st : List (BitVec 64)) (u : World) : Prop where
  bl : Below w.heap.size w u
  A : Arr w.heap.size (st.map b64) u
  R : Arr (w.heap.size + 1 + 1) (z64 8) u
  len : st.length = 8
theorem MixI64.below {w u u' : World} {st : List (BitVec 64)} (h : MixI64 w st u) (hb : Below u.heap.size u u') : MixI64 w st u' :=
  ⟨h.bl.trans (hb.mono h.bl.size), h.A.below hb, h.R.below hb, h.len⟩
theorem MixI64.cell {w u : World} {st : List (BitVec 64)} (h : MixI64 w st u) {i : Nat} (hi : i < 8) : u.cell? ⟨w.heap.size, i, none⟩ = some (b64 (st.getD i 0)) :=
  h.A.c i _ (qa5 b64 0 (by rw [h.len]; exact hi))
theorem MixI64.set {w u : World} {st : List (BitVec 64)} (h : MixI64 w st u) {i : Nat} (hi : i < 8) (v : BitVec 64) : MixI64 w (st.set i v) (u.setCell ⟨w.heap.size, i, none⟩ (b64 v)) :=
  ⟨h.bl.setCell (p := ⟨w.heap.size, i, none⟩) (Nat.le_refl _) _, by rw [← qbw]; exact h.A.set (by rw [List.length_map, h.len]; exact hi) _, h.R.far (by omega) _ _, by rw [List.length_set, h.len]⟩
set_option maxRecDepth 100000 in
set_option maxHeartbeats 2000000 in
theorem mix64_any (st ws : List (BitVec 64)) (w : World) (hst : st.length = 8) (hws : ws.length = 80) (hT : Tabs w) :
    Calls Tryz.prog 107 #[.agg (st.map b64).toArray, .agg (ws.map b64).toArray] w fun e w' => e = .returned (.agg ((mix64 st ws).map b64).toArray) ∧ Below w.heap.size w w' := by
  go_enter Tryz.func107, Tryz.ntmps107
  go_upto_region 0 with fail; refine wp_region_lit ?_
  refine qaa (run_box rfl rfl) rfl ?_; (try simp only [Act.put, lyy])
  refine qaa (run_box rfl rfl) rfl ?_; (try simp only [Act.put, lyy])
  refine qaa (qar (vs := z64 8) rfl (by kernel_rfl)) rfl ?_; (try simp only [Act.put, lyy])
  refine qac ?_
  have b1 : Below w.heap.size w (w.alloc (.cells (st.map b64).toArray 66)) := (Below.refl _ _).alloc (Nat.le_refl _) _
  have b2 : Below w.heap.size w ((w.alloc (.cells (st.map b64).toArray 66)).alloc (.cells (ws.map b64).toArray 122)) := b1.alloc (by simp) _
  have A1 := ((Arr.new w (st.map b64) 66).below ((Below.refl _ _).alloc (Nat.le_refl _) (.cells (ws.map b64).toArray 122))).below ((Below.refl _ _).alloc (Nat.le_refl _) (.cells (z64 8).toArray 66))
  have A2 := (Arr.at (w := w.alloc (.cells (st.map b64).toArray 66)) (n := w.heap.size + 1) (by simp) (ws.map b64) 122).below ((Below.refl _ _).alloc (Nat.le_refl _) (.cells (z64 8).toArray 66))
  have A3 := Arr.at (w := (w.alloc (.cells (st.map b64).toArray 66)).alloc (.cells (ws.map b64).toArray 122)) (n := w.heap.size + 1 + 1) (by simp) (z64 8) 66
  have hI : Hid (MixI64 w st (((w.alloc (.cells (st.map b64).toArray 66)).alloc (.cells (ws.map b64).toArray 122)).alloc (.cells (z64 8).toArray 66))) := Lib.hid ⟨b2.alloc (by simp; omega) _, A1, A3, hst⟩
  rw [show ((w.alloc (.cells (st.map b64).toArray 66)).alloc (.cells (ws.map b64).toArray 122)).heap.size = w.heap.size + 1 + 1 by simp, show (w.alloc (.cells (st.map b64).toArray 66)).heap.size = w.heap.size + 1 by simp]
  have HA := Lib.hid A2
  clear A1 A2 A3 b1 b2
  generalize ((w.alloc (.cells (st.map b64).toArray 66)).alloc (.cells (ws.map b64).toArray 122)).alloc (.cells (z64 8).toArray 66) = u0 at *
  have HT := Lib.hid hT; clear hT
  go_upto_region 1 with fail; refine qau 24 (by kernel_rfl) (by kernel_rfl) ?_
  refine qab _ (fun V hV => qad (qay (i := 0) rfl Tryz.underlying66 (by kernel_rfl) rfl rfl (by omega))) ?_; (try simp only [Act.put, lyy])
  refine qab _ (fun V hV => qad (qaz rfl rfl ((hI.out.below hV).cell (i := 0) (by omega)))) ?_; (try simp only [Act.put, lyy])
  refine qab _ (fun V hV => qad (qay (i := 1) rfl Tryz.underlying66 (by kernel_rfl) rfl rfl (by omega))) ?_; (try simp only [Act.put, lyy])
  refine qab _ (fun V hV => qad (qaz rfl rfl ((hI.out.below hV).cell (i := 1) (by omega)))) ?_; (try simp only [Act.put, lyy])
  refine qab _ (fun V hV => qad (qay (i := 2) rfl Tryz.underlying66 (by kernel_rfl) rfl rfl (by omega))) ?_; (try simp only [Act.put, lyy])
  refine qab _ (fun V hV => qad (qaz rfl rfl ((hI.out.below hV).cell (i := 2) (by omega)))) ?_; (try simp only [Act.put, lyy])
  refine qab _ (fun V hV => qad (qay (i := 3) rfl Tryz.underlying66 (by kernel_rfl) rfl rfl (by omega))) ?_; (try simp only [Act.put, lyy])
  refine qab _ (fun V hV => qad (qaz rfl rfl ((hI.out.below hV).cell (i := 3) (by omega)))) ?_; (try simp only [Act.put, lyy])
  refine qab _ (fun V hV => qad (qay (i := 4) rfl Tryz.underlying66 (by kernel_rfl) rfl rfl (by omega))) ?_; (try simp only [Act.put, lyy])
  refine qab _ (fun V hV => qad (qaz rfl rfl ((hI.out.below hV).cell (i := 4) (by omega)))) ?_; (try simp only [Act.put, lyy])
  refine qab _ (fun V hV => qad (qay (i := 5) rfl Tryz.underlying66 (by kernel_rfl) rfl rfl (by omega))) ?_; (try simp only [Act.put, lyy])
  refine qab _ (fun V hV => qad (qaz rfl rfl ((hI.out.below hV).cell (i := 5) (by omega)))) ?_; (try simp only [Act.put, lyy])
  refine qab _ (fun V hV => qad (qay (i := 6) rfl Tryz.underlying66 (by kernel_rfl) rfl rfl (by omega))) ?_; (try simp only [Act.put, lyy])
  refine qab _ (fun V hV => qad (qaz rfl rfl ((hI.out.below hV).cell (i := 6) (by omega)))) ?_; (try simp only [Act.put, lyy])
  refine qab _ (fun V hV => qad (qay (i := 7) rfl Tryz.underlying66 (by kernel_rfl) rfl rfl (by omega))) ?_; (try simp only [Act.put, lyy])
  refine qab _ (fun V hV => qad (qaz rfl rfl ((hI.out.below hV).cell (i := 7) (by omega)))) ?_; (try simp only [Act.put, lyy])
  refine qab _ (fun V hV => qad (qag (v := b64 _) rfl rfl)) ?_; (try simp only [Act.put, lyy]); refine qab _ (fun V hV => qad (qag (v := b64 _) rfl rfl)) ?_; (try simp only [Act.put, lyy]); refine qab _ (fun V hV => qad (qag (v := b64 _) rfl rfl)) ?_; (try simp only [Act.put, lyy]); refine qab _ (fun V hV => qad (qag (v := b64 _) rfl rfl)) ?_; (try simp only [Act.put, lyy]); refine qab _ (fun V hV => qad (qag (v := b64 _) rfl rfl)) ?_; (try simp only [Act.put, lyy]); refine qab _ (fun V hV => qad (qag (v := b64 _) rfl rfl)) ?_; (try simp only [Act.put, lyy]); refine qab _ (fun V hV => qad (qag (v := b64 _) rfl rfl)) ?_; (try simp only [Act.put, lyy]); refine qab _ (fun V hV => qad (qag (v := b64 _) rfl rfl)) ?_; (try simp only [Act.put, lyy])
  refine qav ?_; intro u1 hb1; simp only [List.drop_succ_cons, List.drop_zero]
  refine qac ?_
  replace hI := Lib.hid (hI.out.below hb1)
  replace HA := Lib.hid (HA.out.below hb1)
  clear hb1
  go_upto_region 2 with fail; refine wp_region_lit ?_
  refine qaa (run_ldA (vs := ws.map b64) rfl Tryz.underlying122 (size_w64 hws) rfl HA.out.range) rfl ?_; (try simp only [Act.put, lyy])
  refine qaa (qaf (v := .int _ _) rfl rfl) rfl ?_; (try simp only [Act.put, lyy])
  refine qac ?_
  clear HA
  go_wp2_with fail
  go_loopw [5, 6, 7, 8, 9, 10, 11, 12, 38] (fun va vb vc vd ve vf vg vh vi u => ∃ (t : Nat) (s : E64), t ≤ 80 ∧ mixN64 ws (E64.of st) t = s ∧ va = b64 s.a ∧ vb = b64 s.b ∧ vc = b64 s.c ∧ vd = b64 s.d ∧ ve = b64 s.e ∧ vf = b64 s.f ∧ vg = b64 s.g ∧ vh = b64 s.h ∧ vi = .int .i64 (t : Int) ∧ MixI64 w st u) (fun _ _ _ _ _ _ _ _ vi _ => (80 - intOf vi).toNat)
  case atStart => exact ⟨0, _, by omega, rfl, rfl, rfl, rfl, rfl, rfl, rfl, rfl, rfl, rfl, hI.out⟩
  case round =>
    obtain ⟨t, s, ht, hs, rfl, rfl, rfl, rfl, rfl, rfl, rfl, rfl, rfl, hJ⟩ := hrel
    replace hI := Lib.hid hJ
    have HS := Lib.hid hs
    clear hJ hs
    by_cases hlt : t = 80
    · subst hlt
      have hk1 : ¬ (((80 : Nat) : Int) < 80) := by omega
      go_upto_region 11 with fail; refine wp_region_lit ?_
      refine qaa (qaf (v := b64 _) rfl rfl) rfl ?_; (try simp only [Act.put, lyy]); refine qaa (qaf (v := b64 _) rfl rfl) rfl ?_; (try simp only [Act.put, lyy]); refine qaa (qaf (v := b64 _) rfl rfl) rfl ?_; (try simp only [Act.put, lyy]); refine qaa (qaf (v := b64 _) rfl rfl) rfl ?_; (try simp only [Act.put, lyy]); refine qaa (qaf (v := b64 _) rfl rfl) rfl ?_; (try simp only [Act.put, lyy]); refine qaa (qaf (v := b64 _) rfl rfl) rfl ?_; (try simp only [Act.put, lyy]); refine qaa (qaf (v := b64 _) rfl rfl) rfl ?_; (try simp only [Act.put, lyy]); refine qaa (qaf (v := b64 _) rfl rfl) rfl ?_; (try simp only [Act.put, lyy])
      refine qaa (run_bld64 rfl rfl rfl rfl rfl rfl rfl rfl rfl) rfl ?_; (try simp only [Act.put, lyy])
      refine qaa (qaf (v := .int _ _) rfl rfl) rfl ?_; (try simp only [Act.put, lyy])
      refine qac ?_
      clear hk1 ht
      have HX : Hid (addT64 st s.list 8 = mix64 st ws) := Lib.hid (by rw [← HS.out]; rfl)
      clear HS
      rw [show (E64.mk s.a s.b s.c s.d s.e s.f s.g s.h).list = s.list from rfl]
      have hxs : s.list.length = 8 := rfl
      generalize s.list = xs at *
      have HXS := Lib.hid hxs; clear hxs
      go_wp2_with fail
      go_loopw [105] (fun vi u => ∃ i : Nat, i ≤ 8 ∧ vi = .int .i64 (i : Int) ∧ MixI64 w (addT64 st xs i) u) (fun vi _ => (8 - intOf vi).toNat)
      case atStart => exact ⟨0, by omega, rfl, hI.out⟩
      case round =>
        obtain ⟨i, hi, rfl, hJ⟩ := hrel
        replace hI := Lib.hid hJ
        clear hJ
        by_cases hlt : i = 8
        · subst hlt
          have hk1 : ¬ (((8 : Nat) : Int) < 8) := by omega
          rw [HX.out] at hI
          have hlen := hI.out.len
          have hT := (hI.out.R.put (l' := (mix64 st ws).map b64) (by rw [List.length_map, hlen]; rfl)).range
          have HL := Lib.hid (size_s64 hlen)
          clear HX
          generalize hW : mix64 st ws = W at *
          have EW := Lib.hid hW; clear hW
          go_upto_region 16 with fail; refine wp_region_lit ?_
          refine qaa (run_ldA (vs := W.map b64) rfl Tryz.underlying66 HL.out rfl hI.out.A.range) rfl ?_; (try simp only [Act.put, lyy])
          refine qae (run_stA (vs := W.map b64) rfl HL.out rfl rfl (one64 W) (by rw [List.length_map, hlen]; exact hI.out.R.there)) rfl rfl ?_
          refine qac ?_
          go_wp2_with fail
          refine bodyPost_ret (v := .agg (W.map b64).toArray) ?_ rfl ⟨by rw [EW.out], qas (by omega) _ _ hI.out.bl⟩
          exact results_arr Tryz.results107 rfl Tryz.underlying66 HL.out hT
        · have hk1 : (i : Int) < 8 := by omega
          have hk2 : i < 8 := by omega
          go_upto_region 13 with fail; refine wp_region_lit ?_
          refine qaa (qaf (v := .int _ _) rfl rfl) rfl ?_; (try simp only [Act.put, lyy])
          refine qaa (run_ixv (vs := xs.map b64) rfl Tryz.underlying66 (by kernel_rfl) (Tryz.isAgg45 _) rfl rfl hk2 (qa5 b64 0 (by rw [HXS.out]; exact hk2))) rfl ?_; (try simp only [Act.put, lyy])
          refine qaa (qag (v := .int _ _) rfl rfl) rfl ?_; (try simp only [Act.put, lyy]); refine qaa (qag (v := b64 _) rfl rfl) rfl ?_; (try simp only [Act.put, lyy])
          refine qac ?_
          go_upto_region 14 with fail; refine wp_region_lit ?_
          refine qaa (qaf (v := .int _ _) rfl rfl) rfl ?_; (try simp only [Act.put, lyy])
          refine qaa (qay rfl Tryz.underlying66 (by kernel_rfl) rfl rfl hk2) rfl ?_; (try simp only [Act.put, lyy])
          refine qaa (qaz rfl rfl (hI.out.cell hk2)) rfl ?_; (try simp only [Act.put, lyy])
          refine qaa (qaf (v := b64 _) rfl rfl) rfl ?_; (try simp only [Act.put, lyy]); refine qaa (run_add64 rfl rfl rfl) rfl ?_; (try simp only [Act.put, lyy])
          refine qaa (qay rfl Tryz.underlying66 (by kernel_rfl) rfl rfl hk2) rfl ?_; (try simp only [Act.put, lyy])
          refine qae (run_st64 rfl rfl rfl (hI.out.cell hk2) (hI.out.A.f _)) rfl rfl ?_
          refine qac ?_
          go_wp2_with fail
          go_roundw
          case rel => exact ⟨i + 1, by omega, by go_num, hI.out.set hk2 _⟩
          case measure => simp [intOf]; omega
    · have hk1 : (t : Int) < 80 := by omega
      have hk2 : t < 80 := by omega
      go_upto_region 4 with fail; refine wp_region_lit ?_
      refine qaa (qaf (v := .int _ _) rfl rfl) rfl ?_; (try simp only [Act.put, lyy])
      refine qaa (run_ixv (vs := ws.map b64) rfl Tryz.underlying122 (by kernel_rfl) (Tryz.isAgg45 _) rfl rfl hk2 (qa5 b64 0 (by rw [hws]; exact hk2))) rfl ?_; (try simp only [Act.put, lyy])
      refine qaa (qag (v := .int _ _) rfl rfl) rfl ?_; (try simp only [Act.put, lyy]); refine qaa (qag (v := b64 _) rfl rfl) rfl ?_; (try simp only [Act.put, lyy])
      refine qac ?_
      go_upto_region 5 with fail; refine wp_region_lit ?_
      refine qaa (qaf (v := b64 _) rfl rfl) rfl ?_; (try simp only [Act.put, lyy])
      refine qc6 (qbk qdl rfl rfl rfl rfl rfl) rfl (turned64_any _ 14 18 _ (by omega) (by omega) (by omega) (by omega)) ?_; (try simp only [Act.put, lyy])
      refine qaa (qaf (v := b64 _) rfl rfl) rfl ?_; (try simp only [Act.put, lyy])
      refine qc6 (qam enters_rot64 rfl rfl rfl rfl) rfl (rot64_any _ 41 _ (by omega) (by omega)) ?_; (try simp only [Act.put, lyy])
      refine qaa (qb4 rfl rfl rfl) rfl ?_; (try simp only [Act.put, lyy]); refine qaa (qag (v := b64 _) rfl rfl) rfl ?_; (try simp only [Act.put, lyy])
      refine qac ?_
      go_upto_region 6 with fail; refine wp_region_lit ?_
      refine qaa (qaf (v := b64 _) rfl rfl) rfl ?_; (try simp only [Act.put, lyy]); refine qaa (qaf (v := b64 _) rfl rfl) rfl ?_; (try simp only [Act.put, lyy]); refine qaa (run_add64 rfl rfl rfl) rfl ?_; (try simp only [Act.put, lyy]); refine qaa (qaf (v := b64 _) rfl rfl) rfl ?_; (try simp only [Act.put, lyy]); refine qaa (qaf (v := b64 _) rfl rfl) rfl ?_; (try simp only [Act.put, lyy]); refine qaa (qcb rfl rfl rfl) rfl ?_; (try simp only [Act.put, lyy]); refine qaa (qaf (v := b64 _) rfl rfl) rfl ?_; (try simp only [Act.put, lyy]); refine qaa (run_not64 rfl rfl) rfl ?_; (try simp only [Act.put, lyy]); refine qaa (qaf (v := b64 _) rfl rfl) rfl ?_; (try simp only [Act.put, lyy]); refine qaa (qcb rfl rfl rfl) rfl ?_; (try simp only [Act.put, lyy]); refine qaa (qb4 rfl rfl rfl) rfl ?_; (try simp only [Act.put, lyy]); refine qaa (run_add64 rfl rfl rfl) rfl ?_; (try simp only [Act.put, lyy]); refine qaa (qaf (v := .int _ _) rfl rfl) rfl ?_; (try simp only [Act.put, lyy])
      refine qaa (qay (g := 8) rfl Tryz.underlying122 (by kernel_rfl) rfl rfl (by omega)) rfl ?_; (try simp only [Act.put, lyy])
      refine qaa (qaz rfl rfl ((HT.out.below hI.out.bl).rc (by omega))) rfl ?_; (try simp only [Act.put, lyy])
      refine qaa (run_add64 rfl rfl rfl) rfl ?_; (try simp only [Act.put, lyy]); refine qaa (qaf (v := b64 _) rfl rfl) rfl ?_; (try simp only [Act.put, lyy]); refine qaa (run_add64 rfl rfl rfl) rfl ?_; (try simp only [Act.put, lyy]); refine qaa (qag (v := b64 _) rfl rfl) rfl ?_; (try simp only [Act.put, lyy])
      refine qac ?_
      go_upto_region 7 with fail; refine wp_region_lit ?_
      refine qaa (qaf (v := b64 _) rfl rfl) rfl ?_; (try simp only [Act.put, lyy])
      refine qc6 (qbk qdl rfl rfl rfl rfl rfl) rfl (turned64_any _ 28 34 _ (by omega) (by omega) (by omega) (by omega)) ?_; (try simp only [Act.put, lyy])
      refine qaa (qaf (v := b64 _) rfl rfl) rfl ?_; (try simp only [Act.put, lyy])
      refine qc6 (qam enters_rot64 rfl rfl rfl rfl) rfl (rot64_any _ 39 _ (by omega) (by omega)) ?_; (try simp only [Act.put, lyy])
      refine qaa (qb4 rfl rfl rfl) rfl ?_; (try simp only [Act.put, lyy]); refine qaa (qag (v := b64 _) rfl rfl) rfl ?_; (try simp only [Act.put, lyy])
      refine qac ?_
      go_upto_region 8 with fail; refine wp_region_lit ?_
      refine qaa (qaf (v := b64 _) rfl rfl) rfl ?_; (try simp only [Act.put, lyy]); refine qaa (qaf (v := b64 _) rfl rfl) rfl ?_; (try simp only [Act.put, lyy]); refine qaa (qaf (v := b64 _) rfl rfl) rfl ?_; (try simp only [Act.put, lyy]); refine qaa (qcb rfl rfl rfl) rfl ?_; (try simp only [Act.put, lyy]); refine qaa (qaf (v := b64 _) rfl rfl) rfl ?_; (try simp only [Act.put, lyy]); refine qaa (qaf (v := b64 _) rfl rfl) rfl ?_; (try simp only [Act.put, lyy]); refine qaa (qcb rfl rfl rfl) rfl ?_; (try simp only [Act.put, lyy]); refine qaa (qb4 rfl rfl rfl) rfl ?_; (try simp only [Act.put, lyy]); refine qaa (qaf (v := b64 _) rfl rfl) rfl ?_; (try simp only [Act.put, lyy]); refine qaa (qaf (v := b64 _) rfl rfl) rfl ?_; (try simp only [Act.put, lyy]); refine qaa (qcb rfl rfl rfl) rfl ?_; (try simp only [Act.put, lyy]); refine qaa (qb4 rfl rfl rfl) rfl ?_; (try simp only [Act.put, lyy]); refine qaa (run_add64 rfl rfl rfl) rfl ?_; (try simp only [Act.put, lyy]); refine qaa (qag (v := b64 _) rfl rfl) rfl ?_; (try simp only [Act.put, lyy])
      refine qac ?_
      go_upto_region 9 with fail; refine wp_region_lit ?_
      (repeat ((first | refine qaa (qaf (v := b32 _) rfl rfl) rfl ?_ | refine qaa (qaf (v := b64 _) rfl rfl) rfl ?_ | refine qaa (qaf (v := b8 _) rfl rfl) rfl ?_ | refine qaa (qaf (v := .int _ _) rfl rfl) rfl ?_ | refine qaa (qaf (v := .bool _) rfl rfl) rfl ?_ | refine qaa (qaf (v := .slice (some _) _ _) rfl rfl) rfl ?_ | refine qaa (qaf (v := .slice _ _ _) rfl rfl) rfl ?_ | refine qaa (qaf (v := .pointer (some _)) rfl rfl) rfl ?_ | refine qaa (qaf (v := .agg _) rfl rfl) rfl ?_ | refine qaa (qag (v := b32 _) rfl rfl) rfl ?_ | refine qaa (qag (v := b64 _) rfl rfl) rfl ?_ | refine qaa (qag (v := b8 _) rfl rfl) rfl ?_ | refine qaa (qag (v := .int _ _) rfl rfl) rfl ?_ | refine qaa (qag (v := .bool _) rfl rfl) rfl ?_ | refine qaa (qag (v := .slice (some _) _ _) rfl rfl) rfl ?_ | refine qaa (qag (v := .slice _ _ _) rfl rfl) rfl ?_ | refine qaa (qag (v := .pointer (some _)) rfl rfl) rfl ?_ | refine qaa (qag (v := .agg _) rfl rfl) rfl ?_ | refine qaa (qaf rfl rfl) rfl ?_ | refine qaa (qag rfl rfl) rfl ?_ | refine qaa (run_xor32 rfl rfl rfl) rfl ?_ | refine qaa (run_and32 rfl rfl rfl) rfl ?_ | refine qaa (run_or32 rfl rfl rfl) rfl ?_ | refine qaa (run_add32 rfl rfl rfl) rfl ?_ | refine qaa (run_not32 rfl rfl) rfl ?_ | refine qaa (qb4 rfl rfl rfl) rfl ?_ | refine qaa (qcb rfl rfl rfl) rfl ?_ | refine qaa (run_or64 rfl rfl rfl) rfl ?_ | refine qaa (run_add64 rfl rfl rfl) rfl ?_ | refine qaa (run_not64 rfl rfl) rfl ?_ | refine qaa (run_xor8 rfl rfl rfl) rfl ?_ | refine qaa (run_and8 rfl rfl rfl) rfl ?_ | refine qaa (run_or8 rfl rfl rfl) rfl ?_ | refine qaa (run_add8 rfl rfl rfl) rfl ?_ | refine qaa (run_not8 rfl rfl) rfl ?_ | refine qaa (run_cv64_32 rfl rfl) rfl ?_ | refine qaa (run_cv8_32 rfl rfl) rfl ?_ | refine qaa (run_cv8_64 rfl rfl) rfl ?_ | refine qaa (run_cv32_8 rfl rfl) rfl ?_ | refine qaa (run_cv64_8 rfl rfl) rfl ?_); (try simp only [Act.put, lyy])))
      refine qac ?_
      go_wp2_with fail
      go_roundw
      case rel => exact ⟨t + 1, rnd64 s (kt64 t) (ws.getD t 0), by omega, by rw [mixN64, HS.out], rfl, rfl, rfl, rfl, rfl, rfl, rfl, rfl, by go_num, hI.out⟩
      case measure => simp [intOf]; omega
end Go.Proofs.YtfdjmdfaidiliaaGreatDoor
