import Derived.Test.YtfdjmdfaidiliaaGreatDoorShaPut
import Derived.Test.YtfdjmdfaidiliaaGreatDoorLy
import Derived.Test.YtfdjmdfaidiliaaGreatDoorShaBlocks64
namespace Go.Proofs.YtfdjmdfaidiliaaGreatDoor
open Go.RowKit
set_option maxRecDepth 20000
theorem z8_app {l : List (BitVec 8)} {n : Nat} : l.map b8 ++ (z8 n).drop (l.map b8).length = (l ++ List.replicate (n - l.length) 0).map b8 := by
  unfold z8; rw [List.length_map, ← List.map_drop, List.drop_replicate, List.map_append]
theorem enters_put : Enters 109 := qao Tryz.func109 (by kernel_rfl) rfl
theorem one8 (l : List (BitVec 8)) : (l.map b8).toArray.all (·.oneCell') = true := one_map b8 (fun _ => rfl) l
theorem enters_ending : Enters 85 := qao Tryz.func85 (by kernel_rfl) rfl
end Go.Proofs.YtfdjmdfaidiliaaGreatDoor
namespace Go.Proofs.YtfdjmdfaidiliaaGreatDoor
open Go.RowKit
set_option maxRecDepth 20000
def qck (l : List (BitVec 8)) : List (BitVec 8) := l.drop (l.length - l.length % 128)
def size64 (l : List (BitVec 8)) : Nat := if l.length % 128 + 1 + 16 > 128 then 2 * 128 else 128
def tail64 (l : List (BitVec 8)) : List (BitVec 8) := putB ((qck l ++ List.replicate (size64 l - l.length % 128) 0).set (l.length % 128) 128) l.length
theorem left_len64 (l : List (BitVec 8)) : (qck l).length = l.length % 128 := by unfold qck; rw [List.length_drop]; omega
theorem size_le64 (l : List (BitVec 8)) : l.length % 128 + 1 + 16 ≤ size64 l ∧ size64 l ≤ 2 * 128 ∧ size64 l % 128 = 0 ∧ 0 < size64 l := by unfold size64; split <;> omega
theorem tail_len64 (l : List (BitVec 8)) : (tail64 l).length = size64 l := by
  unfold tail64
  have := size_le64 l
  rw [putB_len, List.length_set, List.length_append, left_len64, List.length_replicate]; omega
set_option maxHeartbeats 1000000 in
theorem ending64_any (v : Value) (l : List (BitVec 8)) (w : World) (hv : Sl v l w) (hn : l.length < 1152921504606846976) :
    Calls Tryz.prog 85 #[v, .int .i64 128] w fun e w' => ∃ v', e = .returned v' ∧ (Sl v' (tail64 l) w' ∧ Below w.heap.size w w') := by
  have HV := Lib.hid hv
  obtain ⟨ao, c, rfl, hc, -⟩ := hv
  go_enter Tryz.func85, Tryz.ntmps85
  go_upto_region 1 with fail; refine wp_region_lit ?_
  refine qaa (qaf (v := .slice _ _ _) rfl rfl) rfl ?_; (try simp only [Act.put, lyy]); refine qaa (qaf (v := .slice _ _ _) rfl rfl) rfl ?_; (try simp only [Act.put, lyy])
  refine qaa (qch rfl Tryz.underlying24 rfl) rfl ?_; (try simp only [Act.put, lyy])
  refine qaa (qaf (v := .slice _ _ _) rfl rfl) rfl ?_; (try simp only [Act.put, lyy])
  refine qaa (qch rfl Tryz.underlying24 rfl) rfl ?_; (try simp only [Act.put, lyy])
  refine qaa (qaf (v := .int _ _) rfl rfl) rfl ?_; (try simp only [Act.put, lyy])
  refine qaa (run_rem rfl rfl rfl (by omega) (by omega)) rfl ?_; (try simp only [Act.put, lyy])
  refine qaa (qb6 rfl rfl rfl (by omega) (by omega)) rfl ?_; (try simp only [Act.put, lyy])
  rw [show ((l.length : Int) - (l.length : Int) % 128) = ((l.length - l.length % 128 : Nat) : Int) by omega]
  refine qaa (run_cut rfl Tryz.underlying24 (by kernel_rfl) rfl rfl (by omega)) rfl ?_; (try simp only [Act.put, lyy])
  refine qaa (qag (v := cutO _ _ _ _) rfl rfl) rfl ?_; (try simp only [Act.put, lyy])
  refine qac ?_
  have HL : Hid (Sl (cutO ao l.length c (l.length - l.length % 128)) (qck l) w) := Lib.hid (HV.out.cut (by omega))
  obtain ⟨a1, c1, h1, h2, -⟩ := HL.out
  rw [h1] at HL ⊢
  rw [left_len64] at HL h2 ⊢
  clear h1
  have hr := Nat.mod_lt l.length (show 0 < 128 by omega)
  have hsz := size_le64 l
  have HT : Hid (tail64 l = putB ((qck l ++ List.replicate (size64 l - (qck l).length) 0).set (l.length % 128) 128) l.length) := Lib.hid (by rw [left_len64]; rfl)
  have HLL := Lib.hid (left_len64 l)
  have hsize : size64 l = if l.length % 128 + 1 + 16 > 128 then 2 * 128 else 128 := rfl
  have HS := Lib.hid hsize; clear hsize
  have HN := Lib.hid hn; clear hn
  generalize hq : l.length % 128 = r at *
  go_upto_region 2 with fail; refine wp_region_lit ?_
  refine qaa (qaf (v := .int _ _) rfl rfl) rfl ?_; (try simp only [Act.put, lyy]); refine qaa (qag (v := .int _ _) rfl rfl) rfl ?_; (try simp only [Act.put, lyy])
  refine qac ?_
  go_upto_region 3 with fail; refine wp_region_lit ?_
  refine qaa (qaf (v := .slice _ _ _) rfl rfl) rfl ?_; (try simp only [Act.put, lyy])
  refine qaa (qch rfl Tryz.underlying24 rfl) rfl ?_; (try simp only [Act.put, lyy])
  refine qaa (run_add rfl rfl rfl (by omega) (by omega)) rfl ?_; (try simp only [Act.put, lyy])
  refine qaa (qaf (v := .int _ _) rfl rfl) rfl ?_; (try simp only [Act.put, lyy])
  refine qaa (run_quo rfl rfl rfl (by omega) (by omega) (by omega)) rfl ?_; (try simp only [Act.put, lyy])
  refine qaa (run_add rfl rfl rfl (by omega) (by omega)) rfl ?_; (try simp only [Act.put, lyy])
  refine qaa (qaf (v := .int _ _) rfl rfl) rfl ?_; (try simp only [Act.put, lyy])
  refine qaa (run_gtr rfl rfl rfl) rfl ?_; (try simp only [Act.put, lyy])
  refine qac ?_
  by_cases hbig : r + 1 + 16 > 128
  · rw [if_pos hbig] at HS
    rw [decide_eq_true (show (128 : Int) < (r : Int) + 1 + 128 / 8 by omega)]
    go_upto_region 4 with fail; refine wp_region_lit ?_
    refine qaa (qaf (v := .int _ _) rfl rfl) rfl ?_; (try simp only [Act.put, lyy])
    refine qaa (run_mul rfl rfl rfl (by omega) (by omega)) rfl ?_; (try simp only [Act.put, lyy])
    rw [show ((2 : Int) * 128) = ((size64 l : Nat) : Int) by rw [HS.out]; rfl]
    refine qaa (qag (v := .int _ _) rfl rfl) rfl ?_; (try simp only [Act.put, lyy])
    refine qac ?_
    generalize size64 l = sz at *
    (try go_upto_region 5 with fail); refine wp_region_lit ?_; refine qaa (qaf (v := .int _ _) rfl rfl) rfl ?_; (try simp only [Act.put, lyy]); refine qaa (run_mk8 rfl rfl rfl (by omega)) rfl ?_; (try simp only [Act.put, lyy]); refine qaa (qag (v := .slice (some _) _ _) rfl rfl) rfl ?_; (try simp only [Act.put, lyy]); refine qac ?_; have A1 := Arr.new w (z8 sz) 5; have b1 : Below w.heap.size w (w.alloc (.cells (z8 sz).toArray 5)) := (Below.refl _ _).alloc (Nat.le_refl _) _; replace HL := Lib.hid (HL.out.below b1); have HA := Lib.hid A1; clear A1; generalize w.alloc (.cells (z8 sz).toArray 5) = u1 at *; go_upto_region 6 with fail; refine wp_region_lit ?_; refine qaa (qaf (v := .slice (some _) _ _) rfl rfl) rfl ?_; (try simp only [Act.put, lyy]); refine qaa (qaf (v := .slice _ _ _) rfl rfl) rfl ?_; (try simp only [Act.put, lyy]); refine qaa (run_cpy (l := qck l) (m := List.replicate sz 0) rfl rfl rfl HL.out HA.out (by rw [HLL.out]; omega) (by rw [HLL.out, List.length_replicate]; omega)) rfl ?_; (try simp only [Act.put, lyy]); rw [HLL.out]; refine qac ?_; replace HA := Lib.hid (HA.out.front (vs := (qck l).map b8) (by unfold z8; rw [List.length_map, List.length_map, List.length_replicate, HLL.out]; omega)); rw [z8_app] at HA; replace b1 := qas (Nat.le_refl w.heap.size) ((qck l).map b8) 0 b1; generalize u1.setCells w.heap.size 0 ((qck l).map b8) = u2 at *; have hm : (qck l ++ List.replicate (sz - (qck l).length) 0).length = sz := (by rw [List.length_append, List.length_replicate, HLL.out]; omega); clear HL HS HLL; generalize qck l ++ List.replicate (sz - (qck l).length) 0 = m at *; go_upto_region 7 with fail; refine wp_region_lit ?_; refine qaa (qaf (v := .slice (some _) _ _) rfl rfl) rfl ?_; (try simp only [Act.put, lyy]); refine qaa (qaf (v := .slice _ _ _) rfl rfl) rfl ?_; (try simp only [Act.put, lyy]); refine qaa (qch rfl Tryz.underlying24 rfl) rfl ?_; (try simp only [Act.put, lyy]); refine qaa (qa7 rfl Tryz.underlying24 (by kernel_rfl) rfl rfl (by omega)) rfl ?_; (try simp only [Act.put, lyy]); rw [Nat.zero_add]; refine qae (qcl (a := 128) rfl rfl rfl (HA.out.c r _ (qa5 b8 0 (by omega))) (HA.out.f _)) rfl rfl ?_; refine qac ?_; replace HA := Lib.hid (HA.out.set (i := r) (by rw [List.length_map]; omega) (b8 128)); rw [qbw] at HA; replace b1 := b1.setCell (p := ⟨w.heap.size, r, none⟩) (Nat.le_refl _) (b8 128); generalize u2.setCell ⟨w.heap.size, r, none⟩ (b8 128) = u3 at *; replace hm : (m.set r 128).length = sz := (by rw [List.length_set]; exact hm); generalize m.set r 128 = m2 at *; subst hm; go_upto_region 8 with fail; refine wp_region_lit ?_; refine qaa (qaf (v := .slice (some _) _ _) rfl rfl) rfl ?_; (try simp only [Act.put, lyy]); refine qaa (qaf (v := .slice _ _ _) rfl rfl) rfl ?_; (try simp only [Act.put, lyy]); refine qaa (qch rfl Tryz.underlying24 rfl) rfl ?_; (try simp only [Act.put, lyy]); refine qbi (qam enters_put rfl rfl rfl rfl) rfl (put_any w.heap.size l.length m2.length m2 u3 HA.out (by omega) (by omega) HN.out) (fun v u4 hR => ?_); (try simp only [Act.put, lyy]); refine qac ?_; obtain ⟨A4, b4⟩ := hR; have HA4 := Lib.hid A4; clear A4; go_upto_region 9 with fail; refine wp_region_lit ?_; refine qaa (qaf (v := .slice (some _) _ _) rfl rfl) rfl ?_; (try simp only [Act.put, lyy]); refine qaa (qag (v := .slice (some _) _ _) rfl rfl) rfl ?_; (try simp only [Act.put, lyy]); refine qac ?_; go_wp2_with fail; refine bodyPost_ret (results_tmp Tryz.results85 _ _ _) rfl ⟨_, rfl, ?_, b1.trans b4⟩; rw [HT.out, ← putB_len m2 l.length]; exact Sl.arr HA4.out (by rw [putB_len]; exact Nat.le_refl _)
  · rw [if_neg hbig] at HS
    rw [decide_eq_false (show ¬ (128 : Int) < (r : Int) + 1 + 128 / 8 by omega)]
    go_upto_region 5 with fail
    rw [show (128 : Int) = ((size64 l : Nat) : Int) by rw [HS.out]; rfl]
    generalize size64 l = sz at *
    (try go_upto_region 5 with fail); refine wp_region_lit ?_; refine qaa (qaf (v := .int _ _) rfl rfl) rfl ?_; (try simp only [Act.put, lyy]); refine qaa (run_mk8 rfl rfl rfl (by omega)) rfl ?_; (try simp only [Act.put, lyy]); refine qaa (qag (v := .slice (some _) _ _) rfl rfl) rfl ?_; (try simp only [Act.put, lyy]); refine qac ?_; have A1 := Arr.new w (z8 sz) 5; have b1 : Below w.heap.size w (w.alloc (.cells (z8 sz).toArray 5)) := (Below.refl _ _).alloc (Nat.le_refl _) _; replace HL := Lib.hid (HL.out.below b1); have HA := Lib.hid A1; clear A1; generalize w.alloc (.cells (z8 sz).toArray 5) = u1 at *; go_upto_region 6 with fail; refine wp_region_lit ?_; refine qaa (qaf (v := .slice (some _) _ _) rfl rfl) rfl ?_; (try simp only [Act.put, lyy]); refine qaa (qaf (v := .slice _ _ _) rfl rfl) rfl ?_; (try simp only [Act.put, lyy]); refine qaa (run_cpy (l := qck l) (m := List.replicate sz 0) rfl rfl rfl HL.out HA.out (by rw [HLL.out]; omega) (by rw [HLL.out, List.length_replicate]; omega)) rfl ?_; (try simp only [Act.put, lyy]); rw [HLL.out]; refine qac ?_; replace HA := Lib.hid (HA.out.front (vs := (qck l).map b8) (by unfold z8; rw [List.length_map, List.length_map, List.length_replicate, HLL.out]; omega)); rw [z8_app] at HA; replace b1 := qas (Nat.le_refl w.heap.size) ((qck l).map b8) 0 b1; generalize u1.setCells w.heap.size 0 ((qck l).map b8) = u2 at *; have hm : (qck l ++ List.replicate (sz - (qck l).length) 0).length = sz := (by rw [List.length_append, List.length_replicate, HLL.out]; omega); clear HL HS HLL; generalize qck l ++ List.replicate (sz - (qck l).length) 0 = m at *; go_upto_region 7 with fail; refine wp_region_lit ?_; refine qaa (qaf (v := .slice (some _) _ _) rfl rfl) rfl ?_; (try simp only [Act.put, lyy]); refine qaa (qaf (v := .slice _ _ _) rfl rfl) rfl ?_; (try simp only [Act.put, lyy]); refine qaa (qch rfl Tryz.underlying24 rfl) rfl ?_; (try simp only [Act.put, lyy]); refine qaa (qa7 rfl Tryz.underlying24 (by kernel_rfl) rfl rfl (by omega)) rfl ?_; (try simp only [Act.put, lyy]); rw [Nat.zero_add]; refine qae (qcl (a := 128) rfl rfl rfl (HA.out.c r _ (qa5 b8 0 (by omega))) (HA.out.f _)) rfl rfl ?_; refine qac ?_; replace HA := Lib.hid (HA.out.set (i := r) (by rw [List.length_map]; omega) (b8 128)); rw [qbw] at HA; replace b1 := b1.setCell (p := ⟨w.heap.size, r, none⟩) (Nat.le_refl _) (b8 128); generalize u2.setCell ⟨w.heap.size, r, none⟩ (b8 128) = u3 at *; replace hm : (m.set r 128).length = sz := (by rw [List.length_set]; exact hm); generalize m.set r 128 = m2 at *; subst hm; go_upto_region 8 with fail; refine wp_region_lit ?_; refine qaa (qaf (v := .slice (some _) _ _) rfl rfl) rfl ?_; (try simp only [Act.put, lyy]); refine qaa (qaf (v := .slice _ _ _) rfl rfl) rfl ?_; (try simp only [Act.put, lyy]); refine qaa (qch rfl Tryz.underlying24 rfl) rfl ?_; (try simp only [Act.put, lyy]); refine qbi (qam enters_put rfl rfl rfl rfl) rfl (put_any w.heap.size l.length m2.length m2 u3 HA.out (by omega) (by omega) HN.out) (fun v u4 hR => ?_); (try simp only [Act.put, lyy]); refine qac ?_; obtain ⟨A4, b4⟩ := hR; have HA4 := Lib.hid A4; clear A4; go_upto_region 9 with fail; refine wp_region_lit ?_; refine qaa (qaf (v := .slice (some _) _ _) rfl rfl) rfl ?_; (try simp only [Act.put, lyy]); refine qaa (qag (v := .slice (some _) _ _) rfl rfl) rfl ?_; (try simp only [Act.put, lyy]); refine qac ?_; go_wp2_with fail; refine bodyPost_ret (results_tmp Tryz.results85 _ _ _) rfl ⟨_, rfl, ?_, b1.trans b4⟩; rw [HT.out, ← putB_len m2 l.length]; exact Sl.arr HA4.out (by rw [putB_len]; exact Nat.le_refl _)
end Go.Proofs.YtfdjmdfaidiliaaGreatDoor
namespace Go.Proofs.YtfdjmdfaidiliaaGreatDoor
open Go.RowKit
set_option maxRecDepth 20000
def bg64 (i : Nat) : BitVec 64 := btab.getD i 0
def begT64 : Nat → List (BitVec 64)
  | 0 => List.replicate 8 0
  | i + 1 => (begT64 i).set i (bg64 i)
def endS64 (l : List (BitVec 8)) : List (BitVec 64) := qb5 (qb5 (begT64 8) l) (tail64 l)
def digB64 (st : List (BitVec 64)) (i : Nat) : BitVec 8 := (st.getD (i / 8) 0 >>> (8 * 8 - 8 - i % 8 * 8)).setWidth 8
def digT64 (st : List (BitVec 64)) : Nat → List (BitVec 8)
  | 0 => List.replicate 64 0
  | i + 1 => (digT64 st i).set i (digB64 st i)
def sum64 (l : List (BitVec 8)) : List (BitVec 8) := digT64 (endS64 l) 64
theorem begT_len64 : ∀ i, (begT64 i).length = 8
  | 0 => rfl
  | i + 1 => by rw [begT64, List.length_set, begT_len64 i]
theorem qda (st : List (BitVec 64)) : ∀ i, (digT64 st i).length = 64
  | 0 => rfl
  | i + 1 => by rw [digT64, List.length_set, qda st i]
theorem sum_len64 (l : List (BitVec 8)) : (sum64 l).length = 64 := qda _ _
theorem size_d64 {l : List (BitVec 8)} (h : l.length = 64) : (Tryz.prog.info? 28).map (·.size) = some (l.map b8).length := by
  rw [List.length_map, h]; kernel_rfl
theorem run_shrj64 {w : World} {ρ : Operand → Value} {o : Oper} {t t' : TypeId} {x y : Operand} {a : BitVec 64} {n : Nat} (ho : o.op = .binOp .shr t x y t') (hx : ρ x = b64 a) (hy : ρ y = .int .i64 (n : Int)) (hn : n ≤ 64) : (execOp ρ o).run Tryz.prog w = .ok (.value (b64 (a >>> n))) w := by
  obtain ⟨dst, op, type, pos, after, guard⟩ := o
  subst ho
  unfold b64 at *
  have e : (a.toNat : Int) / 2 ^ n = (((a >>> n).toNat : Nat) : Int) := by
    rw [BitVec.toNat_ushiftRight, Nat.shiftRight_eq_div_pow]; simp
  generalize (a >>> n).toNat = z at *
  have hn0 : (0 : Int) ≤ (n : Int) := by omega
  go_simp
  try exact e
structure SumI64 (w : World) (st : List (BitVec 64)) (u : World) : Prop where
  bl : Below w.heap.size w u
  R : Arr w.heap.size (z8 64) u
  A : Arr (w.heap.size + 1) (st.map b64) u
  len : st.length = 8
theorem SumI64.below {w u u' : World} {st : List (BitVec 64)} (h : SumI64 w st u) (hb : Below u.heap.size u u') : SumI64 w st u' :=
  ⟨h.bl.trans (hb.mono h.bl.size), h.R.below hb, h.A.below hb, h.len⟩
theorem SumI64.cell {w u : World} {st : List (BitVec 64)} (h : SumI64 w st u) {i : Nat} (hi : i < 8) : u.cell? ⟨w.heap.size + 1, i, none⟩ = some (b64 (st.getD i 0)) :=
  h.A.c i _ (qa5 b64 0 (by rw [h.len]; exact hi))
theorem SumI64.set {w u : World} {st : List (BitVec 64)} (h : SumI64 w st u) {i : Nat} (hi : i < 8) (v : BitVec 64) : SumI64 w (st.set i v) (u.setCell ⟨w.heap.size + 1, i, none⟩ (b64 v)) :=
  ⟨h.bl.setCell (p := ⟨w.heap.size + 1, i, none⟩) (by simp) _, h.R.far (by omega) _ _, by rw [← qbw]; exact h.A.set (by rw [List.length_map, h.len]; exact hi) _, by rw [List.length_set, h.len]⟩
theorem SumI64.put {w u : World} {st st' : List (BitVec 64)} (h : SumI64 w st u) (hl : st'.length = 8) : SumI64 w st' (u.setCells (w.heap.size + 1) 0 (st'.map b64)) :=
  ⟨qas (by omega) _ _ h.bl, h.R.farAll (by omega) _ _, h.A.put (by rw [List.length_map, List.length_map, h.len, hl]), hl⟩
theorem enters_blocks64 : Enters 84 := qao Tryz.func84 (by kernel_rfl) rfl
structure DigI64 (w : World) (g : Nat) (st : List (BitVec 64)) (d : List (BitVec 8)) (u : World) : Prop where
  I : SumI64 w st u
  D : Arr g (d.map b8) u
  len : d.length = 64
theorem DigI64.cell {w u : World} {g : Nat} {st : List (BitVec 64)} {d : List (BitVec 8)} (h : DigI64 w g st d u) {i : Nat} (hi : i < 64) : u.cell? ⟨g, i, none⟩ = some (b8 (d.getD i 0)) :=
  h.D.c i _ (qa5 b8 0 (by rw [h.len]; exact hi))
theorem DigI64.set {w u : World} {g : Nat} {st : List (BitVec 64)} {d : List (BitVec 8)} (h : DigI64 w g st d u) (hg : w.heap.size + 1 < g) {i : Nat} (hi : i < 64) (v : BitVec 8) : DigI64 w g st (d.set i v) (u.setCell ⟨g, i, none⟩ (b8 v)) :=
  ⟨⟨h.I.bl.setCell (p := ⟨g, i, none⟩) (by show w.heap.size ≤ g; omega) _, h.I.R.far (by omega) _ _, h.I.A.far (by omega) _ _, h.I.len⟩, by rw [← qbw]; exact h.D.set (by rw [List.length_map, h.len]; exact hi) _, by rw [List.length_set, h.len]⟩
set_option maxHeartbeats 1000000 in
theorem sum64_any (v : Value) (l : List (BitVec 8)) (w : World) (hv : Sl v l w) (hn : l.length < 1152921504606846976) (hT : Tabs w) :
    Calls Tryz.prog 58 #[v] w fun e w' => e = .returned (.agg ((sum64 l).map b8).toArray) ∧ Below w.heap.size w w' := by
  have HN := Lib.hid hn; clear hn
  have HT := Lib.hid hT; clear hT
  have HV := Lib.hid hv; clear hv
  go_enter Tryz.func58, Tryz.ntmps58
  go_upto_region 0 with fail; refine wp_region_lit ?_
  refine qaa (qar (vs := z8 64) rfl (by kernel_rfl)) rfl ?_; (try simp only [Act.put, lyy])
  refine qac ?_
  go_upto_region 1 with fail; refine wp_region_lit ?_
  refine qaa (qar (vs := z64 8) rfl (by kernel_rfl)) rfl ?_; (try simp only [Act.put, lyy])
  refine qac ?_
  have hI : Hid (SumI64 w (begT64 0) ((w.alloc (.cells (z8 64).toArray 28)).alloc (.cells (z64 8).toArray 66))) := Lib.hid
    ⟨((Below.refl _ _).alloc (Nat.le_refl _) _).alloc (by simp) _, (Arr.new w _ _).below ((Below.refl _ _).alloc (Nat.le_refl _) _), Arr.at (by simp) (z64 8) _, rfl⟩
  rw [show (w.alloc (.cells (z8 64).toArray 28)).heap.size = w.heap.size + 1 by simp]
  generalize (w.alloc (.cells (z8 64).toArray 28)).alloc (.cells (z64 8).toArray 66) = u0 at *
  go_upto_region 2 with fail; refine wp_region_lit ?_
  refine qaa (qaf (v := .int _ _) rfl rfl) rfl ?_; (try simp only [Act.put, lyy])
  refine qac ?_
  go_wp2_with fail
  go_loopw [7] (fun s u => ∃ k : Nat, k ≤ 8 ∧ s = .int .i64 (k : Int) ∧ SumI64 w (begT64 k) u) (fun s _ => (8 - intOf s).toNat)
  case atStart => exact ⟨0, by omega, rfl, hI.out⟩
  case round =>
    obtain ⟨k, hk, rfl, hJ⟩ := hrel
    replace hI := Lib.hid hJ
    clear hJ
    by_cases hlt : k = 8
    · subst hlt
      have hk1 : ¬ (((8 : Nat) : Int) < 8) := by omega
      have HE : Hid (sum64 l = digT64 (qb5 (qb5 (begT64 8) l) (tail64 l)) 64) := Lib.hid rfl
      have hlen := hI.out.len
      have HL := Lib.hid (size_s64 hlen)
      generalize begT64 8 = st at *
      go_upto_region 7 with fail; refine wp_region_lit ?_
      clear hk1
      refine qaa (run_ldA (vs := st.map b64) rfl Tryz.underlying66 HL.out rfl hI.out.A.range) rfl ?_; (try simp only [Act.put, lyy])
      refine qaa (qaf (v := v) rfl rfl) rfl ?_; (try simp only [Act.put, lyy])
      refine qai (qam enters_blocks64 rfl rfl rfl rfl) rfl (blocks64_any st v l _ hlen (HV.out.below hI.out.bl) (by have := HN.out; omega) (HT.out.below hI.out.bl)) (fun u1 hb1 => ?_); (try simp only [Act.put, lyy])
      replace hI := Lib.hid (hI.out.below hb1)
      clear hb1
      refine qaa (qaf (v := v) rfl rfl) rfl ?_; (try simp only [Act.put, lyy])
      refine qbi (qam enters_ending rfl rfl rfl rfl) rfl (ending64_any v l _ (HV.out.below hI.out.bl) HN.out) (fun v2 u2 hR => ?_); (try simp only [Act.put, lyy])
      obtain ⟨S2, hb2⟩ := hR
      replace hI := Lib.hid (hI.out.below hb2)
      clear hb2
      have HS := Lib.hid S2; clear S2
      have hlen2 : (qb5 st l).length = 8 := by rw [mixA_len64, hlen]
      refine qai (qam enters_blocks64 rfl rfl rfl rfl) rfl (blocks64_any (qb5 st l) v2 (tail64 l) _ hlen2 HS.out (by have := tail_len64 l; have := size_le64 l; omega) (HT.out.below hI.out.bl)) (fun u3 hb3 => ?_); (try simp only [Act.put, lyy])
      replace hI := Lib.hid (hI.out.below hb3)
      clear hb3 HS
      have hlen3 : (qb5 (qb5 st l) (tail64 l)).length = 8 := by rw [mixA_len64, hlen2]
      generalize qb5 (qb5 st l) (tail64 l) = st2 at *
      refine qae (run_stA (vs := st2.map b64) rfl (size_s64 hlen3) rfl rfl (one64 _) (by rw [List.length_map, hlen3, ← hlen, ← List.length_map (f := b64)]; exact hI.out.A.there)) rfl rfl ?_
      refine qac ?_
      replace hI := Lib.hid (hI.out.put hlen3)
      generalize u3.setCells (w.heap.size + 1) 0 (st2.map b64) = u4 at *
      clear hlen hlen2 HL
      go_upto_region 8 with fail; refine wp_region_lit ?_
      refine qaa (qar (vs := z8 64) rfl (by kernel_rfl)) rfl ?_; (try simp only [Act.put, lyy])
      refine qac ?_
      have hg : w.heap.size + 1 < u4.heap.size := hI.out.A.lt
      have hD : Hid (DigI64 w u4.heap.size st2 (digT64 st2 0) (u4.alloc (.cells (z8 64).toArray 28))) := Lib.hid ⟨hI.out.below ((Below.refl _ _).alloc (Nat.le_refl _) _), Arr.new u4 (z8 64) _, rfl⟩
      clear hI
      generalize u4.alloc (.cells (z8 64).toArray 28) = u5 at *
      generalize u4.heap.size = g at *
      go_upto_region 9 with fail; refine wp_region_lit ?_
      refine qaa (qaf (v := .int _ _) rfl rfl) rfl ?_; (try simp only [Act.put, lyy])
      refine qac ?_
      go_wp2_with fail
      go_loopw [22] (fun s u => ∃ k : Nat, k ≤ 64 ∧ s = .int .i64 (k : Int) ∧ DigI64 w g st2 (digT64 st2 k) u) (fun s _ => (64 - intOf s).toNat)
      case atStart => exact ⟨0, by omega, rfl, hD.out⟩
      case round =>
        obtain ⟨k, hk, rfl, hJ⟩ := hrel
        replace hD := Lib.hid hJ
        clear hJ
        by_cases hlt : k = 64
        · subst hlt
          have hk1 : ¬ (((64 : Nat) : Int) < 64) := by omega
          have hT := (hD.out.I.R.put (l' := (digT64 st2 64).map b8) (by rw [List.length_map, qda]; rfl)).range
          have HL := Lib.hid (size_d64 (qda st2 64))
          have hdl := qda st2 64
          generalize digT64 st2 64 = W at *
          go_upto_region 14 with fail; refine wp_region_lit ?_
          refine qaa (run_ldA (vs := W.map b8) rfl Tryz.underlying28 HL.out rfl hD.out.D.range) rfl ?_; (try simp only [Act.put, lyy])
          refine qae (run_stA (vs := W.map b8) rfl HL.out rfl rfl (one8 W) (by rw [List.length_map, hdl]; exact hD.out.I.R.there)) rfl rfl ?_
          refine qac ?_
          go_wp2_with fail
          refine bodyPost_ret (v := .agg (W.map b8).toArray) ?_ rfl ⟨by rw [HE.out], qas (Nat.le_refl _) _ _ hD.out.I.bl⟩
          exact results_arr Tryz.results58 rfl Tryz.underlying28 HL.out hT
        · have hk1 : (k : Int) < 64 := by omega
          have hk2 : k < 64 := by omega
          go_upto_region 11 with fail; refine wp_region_lit ?_
          refine qaa (qaf (v := .int _ _) rfl rfl) rfl ?_; (try simp only [Act.put, lyy]); refine qaa (qag (v := .int _ _) rfl rfl) rfl ?_; (try simp only [Act.put, lyy])
          refine qac ?_
          go_upto_region 12 with fail; refine wp_region_lit ?_
          refine qaa (qaf (v := .int _ _) rfl rfl) rfl ?_; (try simp only [Act.put, lyy]); refine qaa (qaf (v := .int _ _) rfl rfl) rfl ?_; (try simp only [Act.put, lyy])
          refine qaa (run_quo rfl rfl rfl (by omega) (by omega) (by omega)) rfl ?_; (try simp only [Act.put, lyy])
          rw [show ((k : Int) / 8) = ((k / 8 : Nat) : Int) by omega]
          refine qaa (qay rfl Tryz.underlying66 (by kernel_rfl) rfl rfl (by omega)) rfl ?_; (try simp only [Act.put, lyy])
          refine qaa (qaz rfl rfl (hD.out.I.cell (i := k / 8) (by omega))) rfl ?_; (try simp only [Act.put, lyy])
          refine qaa (qaf (v := .int _ _) rfl rfl) rfl ?_; (try simp only [Act.put, lyy])
          refine qaa (run_rem rfl rfl rfl (by omega) (by omega)) rfl ?_; (try simp only [Act.put, lyy])
          refine qaa (run_mul rfl rfl rfl (by omega) (by omega)) rfl ?_; (try simp only [Act.put, lyy])
          refine qaa (qb6 rfl rfl rfl (by omega) (by omega)) rfl ?_; (try simp only [Act.put, lyy])
          rw [show ((56 : Int) - (k : Int) % 8 * 8) = ((8 * 8 - 8 - k % 8 * 8 : Nat) : Int) by omega]
          refine qaa (run_shrj64 rfl rfl rfl (by omega)) rfl ?_; (try simp only [Act.put, lyy])
          refine qaa (run_cv64_8 rfl rfl) rfl ?_; (try simp only [Act.put, lyy])
          refine qaa (qay rfl Tryz.underlying28 (by kernel_rfl) rfl rfl hk2) rfl ?_; (try simp only [Act.put, lyy])
          refine qae (qcl rfl rfl rfl (hD.out.cell hk2) (hD.out.D.f _)) rfl rfl ?_
          refine qac ?_
          go_wp2_with fail
          go_roundw
          case rel => exact ⟨k + 1, by omega, by go_num, hD.out.set hg hk2 _⟩
          case measure => simp [intOf]; omega
    · have hk1 : (k : Int) < 8 := by omega
      have hk2 : k < 8 := by omega
      go_upto_region 4 with fail; refine wp_region_lit ?_
      refine qaa (qaf (v := .int _ _) rfl rfl) rfl ?_; (try simp only [Act.put, lyy]); refine qaa (qag (v := .int _ _) rfl rfl) rfl ?_; (try simp only [Act.put, lyy])
      refine qac ?_
      go_upto_region 5 with fail; refine wp_region_lit ?_
      refine qaa (qaf (v := .int _ _) rfl rfl) rfl ?_; (try simp only [Act.put, lyy]); refine qaa (qaf (v := .int _ _) rfl rfl) rfl ?_; (try simp only [Act.put, lyy])
      refine qaa (qay (g := 3) rfl Tryz.underlying66 (by kernel_rfl) rfl rfl hk2) rfl ?_; (try simp only [Act.put, lyy])
      refine qaa (qaz rfl rfl ((HT.out.below hI.out.bl).bc hk2)) rfl ?_; (try simp only [Act.put, lyy])
      skip
      refine qaa (qay rfl Tryz.underlying66 (by kernel_rfl) rfl rfl hk2) rfl ?_; (try simp only [Act.put, lyy])
      refine qae (run_st64 rfl rfl rfl (hI.out.cell hk2) (hI.out.A.f _)) rfl rfl ?_
      refine qac ?_
      go_wp2_with fail
      go_roundw
      case rel => exact ⟨k + 1, by omega, by go_num, hI.out.set hk2 _⟩
      case measure => simp [intOf]; omega
theorem enters_sum64 : Enters 58 := qao Tryz.func58 (by kernel_rfl) rfl
end Go.Proofs.YtfdjmdfaidiliaaGreatDoor
