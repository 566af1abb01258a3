import Derived.Test.YtfdjmdfaidiliaaGreatDoorLy
import Derived.Test.YtfdjmdfaidiliaaGreatDoorMem
import Derived.Test.YtfdjmdfaidiliaaGreatDoorShaTab
namespace Go.Proofs.YtfdjmdfaidiliaaGreatDoor
open Go.RowKit
set_option maxRecDepth 20000
def ror64 (x : BitVec 64) (n : Nat) : BitVec 64 := x <<< (64 - n) ||| x >>> n
theorem rot_and64 (m : Nat) (h1 : 0 < m) (h2 : m < 64) : bits .and .u64 (IntKind.u64.wrap (-(m : Int))) 63 = ((64 - m : Nat) : Int) := by
  rw [wrap64, show (-(m : Int)) % 18446744073709551616 = ((18446744073709551616 - m : Nat) : Int) by omega, show (63 : Int) = ((63 : Nat) : Int) by rfl, u64_and_nat _ _ (by omega) (by omega)]
  have e : (18446744073709551616 - m) &&& 63 = (18446744073709551616 - m) % 64 := Nat.and_two_pow_sub_one_eq_mod _ 6
  rw [e]; omega
section
variable {w : World} {ρ : Operand → Value} {o : Oper} {t t' : TypeId} {x y : Operand}
theorem run_rotand64 {m : Nat} (ho : o.op = .binOp .and t x y t') (hx : ρ x = .int .u64 (IntKind.u64.wrap (-(m : Int)))) (hy : ρ y = .int .u64 63) (h1 : 0 < m) (h2 : m < 64) : (execOp ρ o).run Tryz.prog w = .ok (.value (.int .u64 ((64 - m : Nat) : Int))) w := by
  obtain ⟨dst, op, type, pos, after, guard⟩ := o
  subst ho
  rw [← rot_and64 m h1 h2]
  generalize IntKind.u64.wrap (-(m : Int)) = z at *
  go_simp
theorem run_rotsub64 {m : Nat} (ho : o.op = .binOp .sub t x y t') (hx : ρ x = .int .u64 64) (hy : ρ y = .int .u64 ((64 - m : Nat) : Int)) (h1 : 0 < m) (h2 : m < 64) : (execOp ρ o).run Tryz.prog w = .ok (.value (.int .u64 (m : Int))) w := by
  obtain ⟨dst, op, type, pos, after, guard⟩ := o
  subst ho
  have e : IntKind.u64.wrap (64 - ((64 - m : Nat) : Int)) = (m : Int) := by rw [wrap64]; omega
  generalize ((64 - m : Nat) : Int) = z at *
  go_simp
  try exact e
end
set_option maxHeartbeats 400000 in
theorem rot64_any (x : BitVec 64) (m : Nat) (w : World) (h1 : 0 < m) (h2 : m < 64) :
    Calls Tryz.prog 121 #[b64 x, .int .i64 (-(m : Int))] w fun e w' => e = .returned (b64 (ror64 x m)) ∧ w' = w := by
  go_enter Tryz.func121, Tryz.ntmps121
  go_upto_region 1 with fail; refine wp_region_lit ?_
  refine qaa (qaf (v := .int _ _) rfl rfl) rfl ?_; (try simp only [Act.put, lyy])
  refine qaa (run_cv rfl Tryz.underlying3 Tryz.underlying58 rfl) rfl ?_; (try simp only [Act.put, lyy])
  refine qaa (run_rotand64 rfl rfl rfl h1 h2) rfl ?_; (try simp only [Act.put, lyy])
  refine qaa (qag (v := .int _ _) rfl rfl) rfl ?_; (try simp only [Act.put, lyy])
  refine qac ?_
  go_upto_region 2 with fail; refine wp_region_lit ?_
  refine qaa (qaf (v := b64 _) rfl rfl) rfl ?_; (try simp only [Act.put, lyy]); refine qaa (qaf (v := .int _ _) rfl rfl) rfl ?_; (try simp only [Act.put, lyy])
  refine qaa (run_shl64 rfl rfl rfl (by omega)) rfl ?_; (try simp only [Act.put, lyy])
  refine qaa (qaf (v := b64 _) rfl rfl) rfl ?_; (try simp only [Act.put, lyy]); refine qaa (qaf (v := .int _ _) rfl rfl) rfl ?_; (try simp only [Act.put, lyy])
  refine qaa (run_rotsub64 rfl rfl rfl h1 h2) rfl ?_; (try simp only [Act.put, lyy])
  refine qaa (qc1 rfl rfl rfl (by omega)) rfl ?_; (try simp only [Act.put, lyy])
  refine qaa (run_or64 rfl rfl rfl) rfl ?_; (try simp only [Act.put, lyy]); refine qaa (qag (v := b64 _) rfl rfl) rfl ?_; (try simp only [Act.put, lyy])
  refine qac ?_
  go_wp2_with fail
  go_ret
  exact ⟨rfl, rfl⟩
theorem enters_rot64 : Enters 121 := qao Tryz.func121 (by kernel_rfl) rfl
set_option maxHeartbeats 400000 in
theorem turned64_any (x : BitVec 64) (m n : Nat) (w : World) (h1 : 0 < m) (h2 : m < 64) (h3 : 0 < n) (h4 : n < 64) :
    Calls Tryz.prog 120 #[b64 x, .int .i64 (m : Int), .int .i64 (n : Int)] w fun e w' => e = .returned (b64 (ror64 x m ^^^ ror64 x n)) ∧ w' = w := by
  go_enter Tryz.func120, Tryz.ntmps120
  go_upto_region 1 with fail; refine wp_region_lit ?_
  refine qaa (qaf (v := b64 _) rfl rfl) rfl ?_; (try simp only [Act.put, lyy]); refine qaa (qaf (v := .int _ _) rfl rfl) rfl ?_; (try simp only [Act.put, lyy])
  refine qaa (run_neg rfl rfl (by omega) (by omega)) rfl ?_; (try simp only [Act.put, lyy])
  refine qc6 (qam enters_rot64 rfl rfl rfl rfl) rfl (rot64_any x m w h1 h2) ?_; (try simp only [Act.put, lyy])
  refine qaa (qaf (v := b64 _) rfl rfl) rfl ?_; (try simp only [Act.put, lyy]); refine qaa (qaf (v := .int _ _) rfl rfl) rfl ?_; (try simp only [Act.put, lyy])
  refine qaa (run_neg rfl rfl (by omega) (by omega)) rfl ?_; (try simp only [Act.put, lyy])
  refine qc6 (qam enters_rot64 rfl rfl rfl rfl) rfl (rot64_any x n w h3 h4) ?_; (try simp only [Act.put, lyy])
  refine qaa (qb4 rfl rfl rfl) rfl ?_; (try simp only [Act.put, lyy]); refine qaa (qag (v := b64 _) rfl rfl) rfl ?_; (try simp only [Act.put, lyy])
  refine qac ?_
  go_wp2_with fail
  go_ret
  exact ⟨rfl, rfl⟩
theorem qdl : Enters 120 := qao Tryz.func120 (by kernel_rfl) rfl
end Go.Proofs.YtfdjmdfaidiliaaGreatDoor
namespace Go.Proofs.YtfdjmdfaidiliaaGreatDoor
open Go.RowKit
set_option maxRecDepth 20000
def s164 (x : BitVec 64) : BitVec 64 := ror64 x 19 ^^^ ror64 x 61 ^^^ x >>> 6
def s064 (x : BitVec 64) : BitVec 64 := ror64 x 1 ^^^ ror64 x 8 ^^^ x >>> 7
def qc7 (l : List (BitVec 8)) : Nat → List (BitVec 64)
  | 0 => List.replicate 80 0
  | k + 1 => (qc7 l k).set (k / 8) ((qc7 l k).getD (k / 8) 0 <<< 8 ||| (l.getD k 0).setWidth 64)
def nextW64 (ws : List (BitVec 64)) (j : Nat) : BitVec 64 := s164 (ws.getD (j + 14) 0) + ws.getD (j + 9) 0 + s064 (ws.getD (j + 1) 0) + ws.getD j 0
def qdd (ws : List (BitVec 64)) : Nat → List (BitVec 64)
  | 0 => ws
  | j + 1 => (qdd ws j).set (j + 16) (nextW64 (qdd ws j) j)
def qbd (l : List (BitVec 8)) : List (BitVec 64) := qdd (qc7 l 128) (80 - 16)
theorem fill_len64 (l : List (BitVec 8)) : ∀ k, (qc7 l k).length = 80
  | 0 => rfl
  | k + 1 => by rw [qc7, List.length_set, fill_len64 l k]
theorem sched_len64 (ws : List (BitVec 64)) (h : ws.length = 80) : ∀ j, (qdd ws j).length = 80
  | 0 => h
  | j + 1 => by rw [qdd, List.length_set, sched_len64 ws h j]
theorem spread_len64 (l : List (BitVec 8)) : (qbd l).length = 80 := sched_len64 _ (fill_len64 _ _) _
theorem one64 (l : List (BitVec 64)) : (l.map b64).toArray.all (·.oneCell') = true := one_map b64 (fun _ => rfl) l
theorem size_w64 {l : List (BitVec 64)} (h : l.length = 80) : (Tryz.prog.info? 122).map (·.size) = some (l.map b64).length := by
  rw [List.length_map, h]; kernel_rfl
structure SprI64 (w : World) (ws : List (BitVec 64)) (u : World) : Prop where
  bl : Below w.heap.size w u
  R : Arr w.heap.size (z64 80) u
  A : Arr (w.heap.size + 1) (ws.map b64) u
  len : ws.length = 80
theorem SprI64.below {w u u' : World} {ws : List (BitVec 64)} (h : SprI64 w ws u) (hb : Below u.heap.size u u') : SprI64 w ws u' :=
  ⟨h.bl.trans (hb.mono h.bl.size), h.R.below hb, h.A.below hb, h.len⟩
theorem SprI64.set {w u : World} {ws : List (BitVec 64)} (h : SprI64 w ws u) {i : Nat} (hi : i < 80) (v : BitVec 64) : SprI64 w (ws.set i v) (u.setCell ⟨w.heap.size + 1, i, none⟩ (b64 v)) :=
  ⟨h.bl.setCell (p := ⟨w.heap.size + 1, i, none⟩) (by simp) _, h.R.far (by omega) _ _, by rw [← qbw]; exact h.A.set (by rw [List.length_map, h.len]; exact hi) _, by rw [List.length_set, h.len]⟩
theorem SprI64.cell {w u : World} {ws : List (BitVec 64)} (h : SprI64 w ws u) {i : Nat} (hi : i < 80) : u.cell? ⟨w.heap.size + 1, i, none⟩ = some (b64 (ws.getD i 0)) :=
  h.A.c i _ (qa5 b64 0 (by rw [h.len]; exact hi))
set_option maxHeartbeats 1000000 in
theorem spread64_any (l : List (BitVec 8)) (b f n c : Nat) (w : World) (hb : b < w.heap.size) (hr : w.rangeAt b f (l.map b8)) (hl : 128 ≤ l.length) (hc : 128 ≤ c) :
    Calls Tryz.prog 108 #[.slice (some ⟨b, f, none⟩) n c] w fun e w' => e = .returned (.agg ((qbd l).map b64).toArray) ∧ Below w.heap.size w w' := by
  go_enter Tryz.func108, Tryz.ntmps108
  go_upto_region 0 with fail; refine wp_region_lit ?_
  refine qaa (qar (vs := z64 80) rfl (by kernel_rfl)) rfl ?_; (try simp only [Act.put, lyy])
  refine qac ?_
  go_upto_region 1 with fail; refine wp_region_lit ?_
  refine qaa (qar (vs := z64 80) rfl (by kernel_rfl)) rfl ?_; (try simp only [Act.put, lyy])
  refine qac ?_
  have hI : Hid (SprI64 w (qc7 l 0) ((w.alloc (.cells (z64 80).toArray 122)).alloc (.cells (z64 80).toArray 122))) := Lib.hid
    ⟨((Below.refl _ _).alloc (Nat.le_refl _) _).alloc (by simp) _, (Arr.new w _ _).below ((Below.refl _ _).alloc (Nat.le_refl _) _), Arr.at (by simp) (z64 80) _, rfl⟩
  rw [show (w.alloc (.cells (z64 80).toArray 122)).heap.size = w.heap.size + 1 by simp]
  generalize (w.alloc (.cells (z64 80).toArray 122)).alloc (.cells (z64 80).toArray 122) = u0 at *
  go_upto_region 2 with fail; refine wp_region_lit ?_
  refine qaa (qaf (v := .slice (some _) _ _) rfl rfl) rfl ?_; (try simp only [Act.put, lyy])
  refine qaa (run_slh (h := 128) rfl Tryz.underlying24 (by kernel_rfl) rfl rfl hc) rfl ?_; (try simp only [Act.put, lyy])
  refine qaa (qch rfl Tryz.underlying24 rfl) rfl ?_; (try simp only [Act.put, lyy])
  refine qaa (qaf (v := .int _ _) rfl rfl) rfl ?_; (try simp only [Act.put, lyy])
  refine qac ?_
  have HR := Lib.hid hr; clear hr
  go_wp2_with fail
  go_loopw [12] (fun s u => ∃ k : Nat, k ≤ 128 ∧ s = .int .i64 (k : Int) ∧ SprI64 w (qc7 l k) u) (fun s _ => (128 - intOf s).toNat)
  case atStart => exact ⟨0, by omega, rfl, hI.out⟩
  case round =>
    obtain ⟨k, hk, rfl, hJ⟩ := hrel
    replace hI := Lib.hid hJ
    by_cases hlt : k = 128
    · subst hlt
      clear hJ
      have hk1 : ¬ (((128 : Nat) : Int) < 128) := by omega
      go_upto_region 7 with fail
      clear hk1 hk
      generalize hF : qc7 l 128 = ws at *
      have HF := Lib.hid hF; clear hF
      go_wp2_with fail
      go_loopw [6] (fun s u => ∃ j : Nat, j ≤ 80 - 16 ∧ s = .int .i64 ((j : Int) + 16) ∧ SprI64 w (qdd ws j) u) (fun s _ => (80 - intOf s).toNat)
      case atStart => exact ⟨0, by omega, rfl, hI.out⟩
      case round =>
        obtain ⟨j, hj, rfl, hJ⟩ := hrel
        replace hI := Lib.hid hJ
        clear hJ
        by_cases hlt : j = 80 - 16
        · subst hlt
          have HS : Hid (qdd ws (80 - 16) = qbd l) := Lib.hid (by rw [← HF.out]; rfl)
          rw [HS.out] at hI
          have hT := (hI.out.R.put (l' := (qbd l).map b64) (by rw [List.length_map, spread_len64]; rfl)).range
          have HL := Lib.hid (size_w64 (spread_len64 l))
          clear HS HF
          generalize hW : qbd l = W at *
          have EW := Lib.hid hW; clear hW
          go_upto_region 13 with fail
          refine wp_region_lit ?_
          refine qaa (run_ldA (vs := W.map b64) rfl Tryz.underlying122 HL.out rfl hI.out.A.range) rfl ?_; (try simp only [Act.put, lyy])
          refine qae (run_stA (vs := W.map b64) rfl HL.out rfl rfl (one64 W) (by rw [List.length_map, hI.out.len]; exact hI.out.R.there)) rfl rfl ?_
          refine qac ?_
          go_wp2_with fail
          refine bodyPost_ret (v := .agg (W.map b64).toArray) ?_ rfl ⟨by rw [EW.out], qas (Nat.le_refl _) _ _ hI.out.bl⟩
          exact results_arr Tryz.results108 rfl Tryz.underlying122 HL.out hT
        · have hj1 : (j : Int) + 16 < 80 := by omega
          have c14 := fun V hV => (hI.out.below (u' := V) hV).cell (i := j + 14) (by omega)
          have c9 := fun V hV => (hI.out.below (u' := V) hV).cell (i := j + 9) (by omega)
          have c1 := fun V hV => (hI.out.below (u' := V) hV).cell (i := j + 1) (by omega)
          have c0 := fun V hV => (hI.out.below (u' := V) hV).cell (i := j) (by omega)
          have C := Lib.hid (And.intro c14 (And.intro c9 (And.intro c1 c0)))
          clear c14 c9 c1 c0
          go_upto_region 10 with fail; refine qau 12 (by kernel_rfl) (by kernel_rfl) ?_
          refine qab _ (fun V hV => qad (qaf (v := .int _ _) rfl rfl)) ?_; (try simp only [Act.put, lyy])
          refine qab _ (fun V hV => qad (qb6 rfl rfl rfl (by omega) (by omega))) ?_; (try simp only [Act.put, lyy])
          rw [show ((j : Int) + 16 - 2) = ((j + 14 : Nat) : Int) by omega]
          refine qab _ (fun V hV => qad (qay rfl Tryz.underlying122 (by kernel_rfl) rfl rfl (by omega))) ?_; (try simp only [Act.put, lyy])
          refine qab _ (fun V hV => qad (qaz rfl rfl (C.out.1 V hV))) ?_; (try simp only [Act.put, lyy])
          refine qab _ (fun V hV => calm_still (qbk qdl rfl rfl rfl rfl rfl) (turned64_any _ 19 61 V (by omega) (by omega) (by omega) (by omega))) ?_; (try simp only [Act.put, lyy])
          refine qab _ (fun V hV => qad (qaf (v := .int _ _) rfl rfl)) ?_; (try simp only [Act.put, lyy])
          refine qab _ (fun V hV => qad (qb6 rfl rfl rfl (by omega) (by omega))) ?_; (try simp only [Act.put, lyy])
          rw [show ((j : Int) + 16 - 2) = ((j + 14 : Nat) : Int) by omega]
          refine qab _ (fun V hV => qad (qay rfl Tryz.underlying122 (by kernel_rfl) rfl rfl (by omega))) ?_; (try simp only [Act.put, lyy])
          refine qab _ (fun V hV => qad (qaz rfl rfl (C.out.1 V hV))) ?_; (try simp only [Act.put, lyy])
          refine qab _ (fun V hV => qad (qc1 (n := 6) rfl rfl rfl (by omega))) ?_; (try simp only [Act.put, lyy])
          refine qab _ (fun V hV => qad (qb4 rfl rfl rfl)) ?_; (try simp only [Act.put, lyy]); refine qab _ (fun V hV => qad (qag (v := b64 _) rfl rfl)) ?_; (try simp only [Act.put, lyy])
          refine qav ?_; intro u1 hb1; simp only [List.drop_succ_cons, List.drop_zero]
          refine qac ?_
          replace hI := Lib.hid (hI.out.below hb1)
          replace C := Lib.hid (And.intro (fun V hV => (hI.out.below (u' := V) hV).cell (i := j + 9) (by omega)) (And.intro (fun V hV => (hI.out.below (u' := V) hV).cell (i := j + 1) (by omega)) (fun V hV => (hI.out.below (u' := V) hV).cell (i := j) (by omega))))
          clear hb1
          go_upto_region 11 with fail; refine qau 12 (by kernel_rfl) (by kernel_rfl) ?_
          refine qab _ (fun V hV => qad (qaf (v := .int _ _) rfl rfl)) ?_; (try simp only [Act.put, lyy])
          refine qab _ (fun V hV => qad (qb6 rfl rfl rfl (by omega) (by omega))) ?_; (try simp only [Act.put, lyy])
          rw [show ((j : Int) + 16 - 15) = ((j + 1 : Nat) : Int) by omega]
          refine qab _ (fun V hV => qad (qay rfl Tryz.underlying122 (by kernel_rfl) rfl rfl (by omega))) ?_; (try simp only [Act.put, lyy])
          refine qab _ (fun V hV => qad (qaz rfl rfl (C.out.2.1 V hV))) ?_; (try simp only [Act.put, lyy])
          refine qab _ (fun V hV => calm_still (qbk qdl rfl rfl rfl rfl rfl) (turned64_any _ 1 8 V (by omega) (by omega) (by omega) (by omega))) ?_; (try simp only [Act.put, lyy])
          refine qab _ (fun V hV => qad (qaf (v := .int _ _) rfl rfl)) ?_; (try simp only [Act.put, lyy])
          refine qab _ (fun V hV => qad (qb6 rfl rfl rfl (by omega) (by omega))) ?_; (try simp only [Act.put, lyy])
          rw [show ((j : Int) + 16 - 15) = ((j + 1 : Nat) : Int) by omega]
          refine qab _ (fun V hV => qad (qay rfl Tryz.underlying122 (by kernel_rfl) rfl rfl (by omega))) ?_; (try simp only [Act.put, lyy])
          refine qab _ (fun V hV => qad (qaz rfl rfl (C.out.2.1 V hV))) ?_; (try simp only [Act.put, lyy])
          refine qab _ (fun V hV => qad (qc1 (n := 7) rfl rfl rfl (by omega))) ?_; (try simp only [Act.put, lyy])
          refine qab _ (fun V hV => qad (qb4 rfl rfl rfl)) ?_; (try simp only [Act.put, lyy]); refine qab _ (fun V hV => qad (qag (v := b64 _) rfl rfl)) ?_; (try simp only [Act.put, lyy])
          refine qav ?_; intro u2 hb1; simp only [List.drop_succ_cons, List.drop_zero]
          refine qac ?_
          replace hI := Lib.hid (hI.out.below hb1)
          replace C := Lib.hid (And.intro (fun V hV => (hI.out.below (u' := V) hV).cell (i := j + 9) (by omega)) (fun V hV => (hI.out.below (u' := V) hV).cell (i := j) (by omega)))
          clear hb1
          go_upto_region 12 with fail; refine qau 15 (by kernel_rfl) (by kernel_rfl) ?_
          refine qab _ (fun V hV => qad (qaf (v := .int _ _) rfl rfl)) ?_; (try simp only [Act.put, lyy]); refine qab _ (fun V hV => qad (qaf (v := b64 _) rfl rfl)) ?_; (try simp only [Act.put, lyy]); refine qab _ (fun V hV => qad (qaf (v := .int _ _) rfl rfl)) ?_; (try simp only [Act.put, lyy])
          refine qab _ (fun V hV => qad (qb6 rfl rfl rfl (by omega) (by omega))) ?_; (try simp only [Act.put, lyy])
          rw [show ((j : Int) + 16 - 7) = ((j + 9 : Nat) : Int) by omega]
          refine qab _ (fun V hV => qad (qay rfl Tryz.underlying122 (by kernel_rfl) rfl rfl (by omega))) ?_; (try simp only [Act.put, lyy])
          refine qab _ (fun V hV => qad (qaz rfl rfl (C.out.1 V hV))) ?_; (try simp only [Act.put, lyy])
          refine qab _ (fun V hV => qad (run_add64 rfl rfl rfl)) ?_; (try simp only [Act.put, lyy]); refine qab _ (fun V hV => qad (qaf (v := b64 _) rfl rfl)) ?_; (try simp only [Act.put, lyy]); refine qab _ (fun V hV => qad (run_add64 rfl rfl rfl)) ?_; (try simp only [Act.put, lyy]); refine qab _ (fun V hV => qad (qaf (v := .int _ _) rfl rfl)) ?_; (try simp only [Act.put, lyy])
          refine qab _ (fun V hV => qad (qb6 rfl rfl rfl (by omega) (by omega))) ?_; (try simp only [Act.put, lyy])
          rw [show ((j : Int) + 16 - 16) = ((j : Nat) : Int) by omega]
          refine qab _ (fun V hV => qad (qay rfl Tryz.underlying122 (by kernel_rfl) rfl rfl (by omega))) ?_; (try simp only [Act.put, lyy])
          refine qab _ (fun V hV => qad (qaz rfl rfl (C.out.2 V hV))) ?_; (try simp only [Act.put, lyy])
          refine qab _ (fun V hV => qad (run_add64 rfl rfl rfl)) ?_; (try simp only [Act.put, lyy])
          rw [show ((j : Int) + 16) = ((j + 16 : Nat) : Int) by omega]
          refine qab _ (fun V hV => qad (qay rfl Tryz.underlying122 (by kernel_rfl) rfl rfl (by omega))) ?_; (try simp only [Act.put, lyy])
          refine qav ?_; intro u3 hb1; simp only [List.drop_succ_cons, List.drop_zero]
          replace hI := Lib.hid (hI.out.below hb1)
          clear C hb1
          refine qae (run_st64 rfl rfl rfl (hI.out.cell (i := j + 16) (by omega)) (hI.out.A.f _)) rfl rfl ?_
          refine qac ?_
          go_wp2_with fail
          exact ⟨⟨j + 1, by omega, by go_num, hI.out.set (by omega) _⟩, by simp [intOf]; omega⟩
    · have hk1 : (k : Int) < 128 := by omega
      have hk2 : k < 128 := by omega
      have hcell : wr.cell? ⟨b, f + k, none⟩ = some (b8 (l.getD k 0)) := qa8 HR.out hb hI.out.bl k _ (qa5 b8 0 (by omega))
      have hcell2 := hI.out.cell (i := k / 8) (by omega)
      have hfr := hI.out.A.f (k / 8)
      clear hJ
      go_upto_region 4 with fail; refine wp_region_lit ?_
      refine qaa (qaf (v := .int _ _) rfl rfl) rfl ?_; (try simp only [Act.put, lyy])
      refine qaa (qa7 rfl Tryz.underlying24 (by kernel_rfl) rfl rfl hk2) rfl ?_; (try simp only [Act.put, lyy])
      refine qaa (qby rfl rfl hcell) rfl ?_; (try simp only [Act.put, lyy])
      refine qaa (qag (v := .int _ _) rfl rfl) rfl ?_; (try simp only [Act.put, lyy]); refine qaa (qag (v := b8 _) rfl rfl) rfl ?_; (try simp only [Act.put, lyy])
      refine qac ?_
      go_upto_region 5 with fail; refine wp_region_lit ?_
      refine qaa (qaf (v := .int _ _) rfl rfl) rfl ?_; (try simp only [Act.put, lyy])
      refine qaa (run_quo rfl rfl rfl (by omega) (by omega) (by omega)) rfl ?_; (try simp only [Act.put, lyy])
      refine qaa (qaf (v := .int _ _) rfl rfl) rfl ?_; (try simp only [Act.put, lyy])
      refine qaa (run_quo rfl rfl rfl (by omega) (by omega) (by omega)) rfl ?_; (try simp only [Act.put, lyy])
      rw [show ((k : Int) / 8) = ((k / 8 : Nat) : Int) by omega]
      refine qaa (qay rfl Tryz.underlying122 (by kernel_rfl) rfl rfl (by omega)) rfl ?_; (try simp only [Act.put, lyy])
      refine qaa (qaz rfl rfl hcell2) rfl ?_; (try simp only [Act.put, lyy])
      refine qaa (run_shl64 (n := 8) rfl rfl rfl (by omega)) rfl ?_; (try simp only [Act.put, lyy])
      refine qaa (qaf (v := b8 _) rfl rfl) rfl ?_; (try simp only [Act.put, lyy]); refine qaa (run_cv8_64 rfl rfl) rfl ?_; (try simp only [Act.put, lyy]); refine qaa (run_or64 rfl rfl rfl) rfl ?_; (try simp only [Act.put, lyy])
      refine qaa (qay rfl Tryz.underlying122 (by kernel_rfl) rfl rfl (by omega)) rfl ?_; (try simp only [Act.put, lyy])
      refine qae (run_st64 rfl rfl rfl hcell2 hfr) rfl rfl ?_
      refine qac ?_
      go_wp2_with fail
      exact ⟨⟨k + 1, by omega, by go_num, hI.out.set (by omega) _⟩, by simp [intOf]; omega⟩
end Go.Proofs.YtfdjmdfaidiliaaGreatDoor
