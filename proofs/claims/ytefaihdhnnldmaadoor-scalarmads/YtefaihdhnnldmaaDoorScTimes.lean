/- What scalar's addTimes answers. -/
import Derived.Test.YtefaihdhnnldmaaDoorScJoin
import Derived.Test.YtefaihdhnnldmaaDoorScShift
import Derived.Test.YtefaihdhnnldmaaDoorLateT
namespace Go.Proofs.YtefaihdhnnldmaaDoor
open Go.RowKit
set_option maxRecDepth 20000

/-- What has been added up to bit i, and what is added next. -/
def tmN (n a b i : Nat) : List (BitVec 64) := wd ((n + a * (b % 2 ^ i)) % 2 ^ 512) 8
def tmS (a i : Nat) : List (BitVec 64) := wd (a * 2 ^ i % 2 ^ 512) 8
theorem tm_mod {n a b i M : Nat} : ((n + a * (b % 2 ^ i)) % M % M + b / 2 ^ i % 2 * (a * 2 ^ i % M % M)) % M = (n + a * (b % 2 ^ (i + 1))) % M := by
  rw [Nat.mod_mod, Nat.mod_mod, Nat.mod_add_mod, ← Nat.add_mod_mod, Nat.mul_mod_mod, Nat.add_mod_mod]
  congr 1
  rw [Nat.pow_succ, Nat.mod_mul, Nat.mul_add, Nat.add_assoc, Nat.mul_comm (b / 2 ^ i % 2), Nat.mul_assoc]
theorem tmN_step (n a b i : Nat) {bt : BitVec 64} (hb : bt.toNat = b / 2 ^ i % 2) {r : List (BitVec 64)} {c : BitVec 64} (h : AddI (tmN n a b i) ((tmS a i).map (· &&& -bt)) 8 r c) : r = tmN n a b (i + 1) := by
  have hl : (tmN n a b i).length = 8 := wd_len _ _
  rw [← hl] at h
  have hd := h.done (by rw [List.length_map, hl]; exact wd_len _ _)
  refine wd_eq (by rw [h.len, hl]) ?_
  have hle : bt.toNat ≤ 1 := by rw [hb]; have := Nat.mod_lt (b / 2 ^ i) (show 2 > 0 by omega); omega
  rw [hd, hl, lv_mask _ hle, hb, tmN, tmS, lv_wd, lv_wd, show 64 * 8 = 512 by rfl, tm_mod]
theorem tmS_step (a i : Nat) : shl (tmS a i) 0 = tmS a (i + 1) := by
  have hl : (tmS a i).length = 8 := wd_len _ _
  refine wd_eq (by rw [shl_len, hl]) ?_
  have e : a * 2 ^ (i + 1) = 2 * (a * 2 ^ i) := by rw [Nat.pow_succ, ← Nat.mul_assoc, Nat.mul_comm]
  rw [lv_shl _ _ (by decide), hl, tmS, lv_wd, show 64 * 8 = 512 by rfl, Nat.mod_mod, show (0 : BitVec 64).toNat = 0 by rfl, Nat.add_zero, Nat.mul_mod_mod, e]
theorem tmN_zero {l : List (BitVec 64)} (hl : l.length = 8) (a b : Nat) : tmN (lv l) a b 0 = l := by
  have h := lv_lt l
  rw [hl, show 64 * 8 = 512 by rfl] at h
  unfold tmN
  rw [show b % 2 ^ 0 = 0 from Nat.mod_one b, Nat.mul_zero, Nat.add_zero, Nat.mod_eq_of_lt h, wd_of hl]
theorem pow_up {x a b : Nat} (h : x < 2 ^ a) (hab : a < b) : x < 2 ^ b := Nat.lt_trans h (Nat.pow_lt_pow_right (by omega) hab)
theorem tmS_zeroE {l : List (BitVec 64)} (hl : l.length = 4) {E : Nat} (hE : 64 * 4 < E) : l ++ List.replicate 4 0 = wd (lv l * 2 ^ 0 % 2 ^ E) 8 := by
  have h := lv_lt l
  rw [hl] at h
  refine wd_eq (by rw [List.length_append, hl]; rfl) ?_
  rw [lv_append, show lv (List.replicate 4 0) = 0 by decide, Nat.mul_zero, Nat.add_zero, Nat.pow_zero, Nat.mul_one, Nat.mod_eq_of_lt (pow_up h hE)]
theorem tmS_zero {l : List (BitVec 64)} (hl : l.length = 4) : tmS (lv l) 0 = l ++ List.replicate 4 0 := by
  unfold tmS
  exact (tmS_zeroE (E := 512) hl (by decide)).symm
theorem tmN_end {l : List (BitVec 64)} (hl : l.length = 4) (n a : Nat) : tmN n a (lv l) 256 = wd ((n + a * lv l) % 2 ^ 512) 8 := by
  have h := lv_lt l
  rw [hl, show 64 * 4 = 256 by rfl] at h
  unfold tmN
  rw [Nat.mod_eq_of_lt h]
theorem getD_and (L : List (BitVec 64)) (k : BitVec 64) {j : Nat} (h : j < L.length) : (L.map (· &&& k)).getD j 0 = L.getD j 0 &&& k := by simp [h]
theorem build4 : Tryd.prog.built 48 [] = some ((List.replicate 4 (0 : BitVec 64)).map b64).toArray := by kernel_rfl
set_option maxHeartbeats 8000000 in
theorem stimes_any (l m p : List (BitVec 64)) (w : World) (hl : l.length = 8) (hm : m.length = 4) (hp : p.length = 4) : Calls Tryd.prog 24 #[.agg (l.map b64).toArray, .agg (m.map b64).toArray, .agg (p.map b64).toArray] w fun e w' => e = .returned (.agg ((wd ((lv l + lv m * lv p) % 2 ^ 512) 8).map b64).toArray) ∧ Below w.heap.size w w' := by
  obtain ⟨N, hN⟩ : ∃ N, N = tmN (lv l) (lv m) (lv p) := ⟨_, rfl⟩
  obtain ⟨A, hA⟩ : ∃ A, A = tmS (lv m) := ⟨_, rfl⟩
  have NL : Hid (∀ i, (N i).length = 8) := Lib.hid (by rw [hN]; exact fun i => wd_len _ _)
  have AL : Hid (∀ i, (A i).length = 8) := Lib.hid (by rw [hA]; exact fun i => wd_len _ _)
  have NS : Hid (∀ i r c, AddI (N i) ((A i).map (· &&& -(p.getD (i / 64) 0 >>> (i % 64) &&& 1#64))) 8 r c → r = N (i + 1)) := Lib.hid (by rw [hN, hA]; exact fun i r c h => tmN_step _ _ _ i (bitW_of p i) h)
  have AS : Hid (∀ i, shl (A i) 0 = A (i + 1)) := Lib.hid (by rw [hA]; exact fun i => tmS_step _ i)
  have N0 : Hid (N 0 = l) := Lib.hid (by rw [hN, tmN_zero hl])
  have A0 : Hid ((m ++ List.replicate 4 0) = A 0) := Lib.hid (by rw [hA, tmS_zero hm])
  have NE : Hid (N 256 = wd ((lv l + lv m * lv p) % 2 ^ 512) 8) := Lib.hid (by rw [hN, tmN_end hp])
  clear hN hA
  rw [← NE.out]
  clear NE
  have CJ : Hid (∀ u : World, Calls Tryd.prog 22 #[.agg (m.map b64).toArray, .agg ((List.replicate 4 (0 : BitVec 64)).map b64).toArray] u fun e w' => e = .returned (.agg ((A 0).map b64).toArray) ∧ Below u.heap.size u w') := Lib.hid fun u => by rw [← A0.out]; exact sjoin_any m (List.replicate 4 0) u hm rfl
  clear A0
  have SM := Lib.hid (szS4 hm)
  have SA := Lib.hid (szS8 (AL.out 0))
  have LA : Hid (((A 0).map b64).length = (z64 8).length) := Lib.hid (by rw [List.length_map, AL.out, z64_len])
  have BD := Lib.hid build4
  generalize (List.replicate 4 (0 : BitVec 64)).map b64 = Z4 at *
  have hM := Lib.hid (Mv.nil w)
  go_enter Tryd.func24, Tryd.ntmps24
  go_upto_region 0 with fail; refine wp_region_lit ?_
  refine wpList_val (run_boxL8 (vs := l.map b64) rfl rfl) rfl ?_; (try simp only [Act.put, List.setIfInBounds_toArray, List.set_cons_zero, List.set_cons_succ]); replace hM := Lib.hid (hM.out.new (l.map b64) 50); generalize w.alloc (.cells (l.map b64).toArray 50) = a1 at *; generalize w.heap.size = g1 at *
  refine wpList_val (run_boxL8 (vs := m.map b64) rfl rfl) rfl ?_; (try simp only [Act.put, List.setIfInBounds_toArray, List.set_cons_zero, List.set_cons_succ]); replace hM := Lib.hid (hM.out.new (m.map b64) 48); generalize a1.alloc (.cells (m.map b64).toArray 48) = a2 at *; generalize a1.heap.size = g2 at *
  refine wpList_val (run_boxL8 (vs := p.map b64) rfl rfl) rfl ?_; (try simp only [Act.put, List.setIfInBounds_toArray, List.set_cons_zero, List.set_cons_succ]); replace hM := Lib.hid (hM.out.new (p.map b64) 48); generalize a2.alloc (.cells (p.map b64).toArray 48) = a3 at *; generalize a2.heap.size = g3 at *
  refine wpList_val (run_alc (vs := z64 8) rfl (by kernel_rfl)) rfl ?_; (try simp only [Act.put, List.setIfInBounds_toArray, List.set_cons_zero, List.set_cons_succ]); replace hM := Lib.hid (hM.out.new (z64 8) 50); generalize a3.alloc (.cells (z64 8).toArray 50) = a4 at *; generalize a3.heap.size = g4 at *
  refine wpList_end ?_
  go_upto_region 1 with fail; refine wp_region_lit ?_
  refine wpList_val (run_ldM (vs := m.map b64) rfl Tryd.underlying48 rfl SM.out rfl ((hM.out.get (i := 2) rfl).range)) rfl ?_; (try simp only [Act.put, List.setIfInBounds_toArray, List.set_cons_zero, List.set_cons_succ])
  refine wpList_val (run_bldW0 (cells := Z4.toArray) rfl BD.out) rfl ?_; (try simp only [Act.put, List.setIfInBounds_toArray, List.set_cons_zero, List.set_cons_succ])
  refine wpList_enter (run_call2 enters_sjoin rfl rfl rfl rfl) rfl (CJ.out _) (fun a5 hb => ?_); (try simp only [Act.put, List.setIfInBounds_toArray, List.set_cons_zero, List.set_cons_succ]); replace hM := Lib.hid (hM.out.below hb); clear hb
  refine wpList_val (run_alc (vs := z64 8) rfl (by kernel_rfl)) rfl ?_; (try simp only [Act.put, List.setIfInBounds_toArray, List.set_cons_zero, List.set_cons_succ]); replace hM := Lib.hid (hM.out.new (z64 8) 50); generalize a5.alloc (.cells (z64 8).toArray 50) = a6 at *; generalize a5.heap.size = g5 at *
  refine wpList_skip (run_stM (vs := (A 0).map b64) rfl SA.out rfl rfl (one64s _) (by rw [LA.out]; exact (hM.out.get (i := 0) rfl).there)) rfl rfl ?_; replace hM := Lib.hid (hM.out.put 0 rfl (m := (A 0).map b64) (LA.out))
  refine wpList_end ?_
  generalize a6.setCells g5 0 ((A 0).map b64) = a7 at *
  rw [← N0.out] at hM
  clear N0 CJ SM SA LA BD
  go_upto_region 2 with fail; refine wp_region_lit ?_
  (repeat ((first | refine wpList_val (run_mv (v := b32 _) rfl rfl) rfl ?_ | refine wpList_val (run_mv (v := b64 _) rfl rfl) rfl ?_ | refine wpList_val (run_mv (v := b8 _) rfl rfl) rfl ?_ | refine wpList_val (run_mv (v := .int _ _) rfl rfl) rfl ?_ | refine wpList_val (run_mv (v := .bool _) rfl rfl) rfl ?_ | refine wpList_val (run_mv (v := .slice (some _) _ _) rfl rfl) rfl ?_ | refine wpList_val (run_mv (v := .slice _ _ _) rfl rfl) rfl ?_ | refine wpList_val (run_mv (v := .pointer (some _)) rfl rfl) rfl ?_ | refine wpList_val (run_mv (v := .agg _) rfl rfl) rfl ?_ | refine wpList_val (run_asg (v := b32 _) rfl rfl) rfl ?_ | refine wpList_val (run_asg (v := b64 _) rfl rfl) rfl ?_ | refine wpList_val (run_asg (v := b8 _) rfl rfl) rfl ?_ | refine wpList_val (run_asg (v := .int _ _) rfl rfl) rfl ?_ | refine wpList_val (run_asg (v := .bool _) rfl rfl) rfl ?_ | refine wpList_val (run_asg (v := .slice (some _) _ _) rfl rfl) rfl ?_ | refine wpList_val (run_asg (v := .slice _ _ _) rfl rfl) rfl ?_ | refine wpList_val (run_asg (v := .pointer (some _)) rfl rfl) rfl ?_ | refine wpList_val (run_asg (v := .agg _) rfl rfl) rfl ?_ | refine wpList_val (run_mv rfl rfl) rfl ?_ | refine wpList_val (run_asg rfl rfl) rfl ?_ | refine wpList_val (run_xor32 rfl rfl rfl) rfl ?_ | refine wpList_val (run_and32 rfl rfl rfl) rfl ?_ | refine wpList_val (run_or32 rfl rfl rfl) rfl ?_ | refine wpList_val (run_add32 rfl rfl rfl) rfl ?_ | refine wpList_val (run_not32 rfl rfl) rfl ?_ | refine wpList_val (run_xor64 rfl rfl rfl) rfl ?_ | refine wpList_val (run_and64 rfl rfl rfl) rfl ?_ | refine wpList_val (run_or64 rfl rfl rfl) rfl ?_ | refine wpList_val (run_add64 rfl rfl rfl) rfl ?_ | refine wpList_val (run_not64 rfl rfl) rfl ?_ | refine wpList_val (run_xor8 rfl rfl rfl) rfl ?_ | refine wpList_val (run_and8 rfl rfl rfl) rfl ?_ | refine wpList_val (run_or8 rfl rfl rfl) rfl ?_ | refine wpList_val (run_add8 rfl rfl rfl) rfl ?_ | refine wpList_val (run_not8 rfl rfl) rfl ?_ | refine wpList_val (run_cv64_32 rfl rfl) rfl ?_ | refine wpList_val (run_cv8_32 rfl rfl) rfl ?_ | refine wpList_val (run_cv8_64 rfl rfl) rfl ?_ | refine wpList_val (run_cv32_8 rfl rfl) rfl ?_ | refine wpList_val (run_cv64_8 rfl rfl) rfl ?_); (try simp only [Act.put, List.setIfInBounds_toArray, List.set_cons_zero, List.set_cons_succ])))
  refine wpList_end ?_
  go_wp2_with fail
  go_loopw [15] (fun s u => ∃ i : Nat, i ≤ 256 ∧ s = .int .i64 (i : Int) ∧ Mv w [(g5, (A i).map b64), (g4, z64 8), (g3, p.map b64), (g2, m.map b64), (g1, (N i).map b64)] u) (fun s _ => (256 - intOf s).toNat)
  case atStart => exact ⟨0, by omega, rfl, hM.out⟩
  case round =>
    obtain ⟨i, hi, rfl, hJ⟩ := hrel
    replace hM := Lib.hid hJ
    clear hJ
    by_cases hlt : i = 256
    · subst hlt
      have hk1 : ¬ (((256 : Nat) : Int) < 256) := by omega
      have SZ := Lib.hid (szS8 (NL.out 256))
      have L1 : Hid (((N 256).map b64).length = (z64 8).length) := Lib.hid (by rw [List.length_map, NL.out, z64_len])
      go_upto_region 14 with fail; refine wp_region_lit ?_
      refine wpList_val (run_ldM (vs := (N 256).map b64) rfl Tryd.underlying50 rfl SZ.out rfl ((hM.out.get (i := 4) rfl).range)) rfl ?_; (try simp only [Act.put, List.setIfInBounds_toArray, List.set_cons_zero, List.set_cons_succ])
      refine wpList_skip (run_stM (vs := (N 256).map b64) rfl SZ.out rfl rfl (one64s _) (by rw [L1.out]; exact (hM.out.get (i := 1) rfl).there)) rfl rfl ?_; replace hM := Lib.hid (hM.out.put 1 rfl (m := (N 256).map b64) (L1.out))
      refine wpList_end ?_; go_wp2_with fail; refine bodyPost_ret (v := .agg ((N 256).map b64).toArray) (results_rowB Tryd.results24 rfl Tryd.underlying50 rfl SZ.out (hM.out.get (i := 1) rfl).range) rfl ⟨rfl, hM.out.bl⟩
    · have hk1 : (i : Int) < 256 := by omega
      have hi2 : i < 256 := by omega
      have HL := Lib.hid (get_map b64 0 (l := p) (i := i / 64) (by omega))
      have NX := Lib.hid (NS.out i)
      have AX := Lib.hid (AS.out i)
      have hNl := NL.out i
      have hAl := AL.out i
      have R0 := Lib.hid (AddI.start (N i) ((A i).map (· &&& -(p.getD (i / 64) 0 >>> (i % 64) &&& 1#64))))
      have RS : Hid (∀ (j : Nat) (r : List (BitVec 64)) (c : BitVec 64), AddI (N i) ((A i).map (· &&& -(p.getD (i / 64) 0 >>> (i % 64) &&& 1#64))) j r c → j < 8 → AddI (N i) ((A i).map (· &&& -(p.getD (i / 64) 0 >>> (i % 64) &&& 1#64))) (j + 1) (r.set j (adw (r.getD j 0) ((A i).getD j 0 &&& -(p.getD (i / 64) 0 >>> (i % 64) &&& 1#64)) c)) (adc (r.getD j 0) ((A i).getD j 0 &&& -(p.getD (i / 64) 0 >>> (i % 64) &&& 1#64)) c)) := Lib.hid fun j r c h hj => by
        have h2 := h.step (by rw [List.length_map, hNl, hAl]) (by omega)
        rw [getD_and _ _ (by omega)] at h2
        exact h2
      generalize hmk : (A i).map (· &&& -(p.getD (i / 64) 0 >>> (i % 64) &&& 1#64)) = MK at *
      clear hmk
      generalize hNi : N i = Ni at *
      clear hNi
      generalize hAi : A i = Ai at *
      clear hAi
      have EN : Hid (∀ r c, AddI Ni MK 8 r c → r.map b64 = (N (i + 1)).map b64) := Lib.hid fun r c h => by rw [NX.out r c h]
      have EA : Hid ((shl Ai 0).map b64 = (A (i + 1)).map b64) := Lib.hid (by rw [AX.out])
      generalize hNn : (N (i + 1)).map b64 = Nn at *
      generalize hAn : (A (i + 1)).map b64 = An at *
      have ENn := Lib.hid hNn
      have EAn := Lib.hid hAn
      clear hNn hAn
      clear NX AX
      generalize p.getD (i / 64) 0 = x at *
      go_upto_region 4 with fail; refine wp_region_lit ?_
      (repeat ((first | refine wpList_val (run_mv (v := b32 _) rfl rfl) rfl ?_ | refine wpList_val (run_mv (v := b64 _) rfl rfl) rfl ?_ | refine wpList_val (run_mv (v := b8 _) rfl rfl) rfl ?_ | refine wpList_val (run_mv (v := .int _ _) rfl rfl) rfl ?_ | refine wpList_val (run_mv (v := .bool _) rfl rfl) rfl ?_ | refine wpList_val (run_mv (v := .slice (some _) _ _) rfl rfl) rfl ?_ | refine wpList_val (run_mv (v := .slice _ _ _) rfl rfl) rfl ?_ | refine wpList_val (run_mv (v := .pointer (some _)) rfl rfl) rfl ?_ | refine wpList_val (run_mv (v := .agg _) rfl rfl) rfl ?_ | refine wpList_val (run_asg (v := b32 _) rfl rfl) rfl ?_ | refine wpList_val (run_asg (v := b64 _) rfl rfl) rfl ?_ | refine wpList_val (run_asg (v := b8 _) rfl rfl) rfl ?_ | refine wpList_val (run_asg (v := .int _ _) rfl rfl) rfl ?_ | refine wpList_val (run_asg (v := .bool _) rfl rfl) rfl ?_ | refine wpList_val (run_asg (v := .slice (some _) _ _) rfl rfl) rfl ?_ | refine wpList_val (run_asg (v := .slice _ _ _) rfl rfl) rfl ?_ | refine wpList_val (run_asg (v := .pointer (some _)) rfl rfl) rfl ?_ | refine wpList_val (run_asg (v := .agg _) rfl rfl) rfl ?_ | refine wpList_val (run_mv rfl rfl) rfl ?_ | refine wpList_val (run_asg rfl rfl) rfl ?_ | refine wpList_val (run_xor32 rfl rfl rfl) rfl ?_ | refine wpList_val (run_and32 rfl rfl rfl) rfl ?_ | refine wpList_val (run_or32 rfl rfl rfl) rfl ?_ | refine wpList_val (run_add32 rfl rfl rfl) rfl ?_ | refine wpList_val (run_not32 rfl rfl) rfl ?_ | refine wpList_val (run_xor64 rfl rfl rfl) rfl ?_ | refine wpList_val (run_and64 rfl rfl rfl) rfl ?_ | refine wpList_val (run_or64 rfl rfl rfl) rfl ?_ | refine wpList_val (run_add64 rfl rfl rfl) rfl ?_ | refine wpList_val (run_not64 rfl rfl) rfl ?_ | refine wpList_val (run_xor8 rfl rfl rfl) rfl ?_ | refine wpList_val (run_and8 rfl rfl rfl) rfl ?_ | refine wpList_val (run_or8 rfl rfl rfl) rfl ?_ | refine wpList_val (run_add8 rfl rfl rfl) rfl ?_ | refine wpList_val (run_not8 rfl rfl) rfl ?_ | refine wpList_val (run_cv64_32 rfl rfl) rfl ?_ | refine wpList_val (run_cv8_32 rfl rfl) rfl ?_ | refine wpList_val (run_cv8_64 rfl rfl) rfl ?_ | refine wpList_val (run_cv32_8 rfl rfl) rfl ?_ | refine wpList_val (run_cv64_8 rfl rfl) rfl ?_); (try simp only [Act.put, List.setIfInBounds_toArray, List.set_cons_zero, List.set_cons_succ])))
      refine wpList_end ?_
      go_upto_region 5 with fail; refine wp_region_lit ?_
      (repeat ((first | refine wpList_val (run_mv (v := b32 _) rfl rfl) rfl ?_ | refine wpList_val (run_mv (v := b64 _) rfl rfl) rfl ?_ | refine wpList_val (run_mv (v := b8 _) rfl rfl) rfl ?_ | refine wpList_val (run_mv (v := .int _ _) rfl rfl) rfl ?_ | refine wpList_val (run_mv (v := .bool _) rfl rfl) rfl ?_ | refine wpList_val (run_mv (v := .slice (some _) _ _) rfl rfl) rfl ?_ | refine wpList_val (run_mv (v := .slice _ _ _) rfl rfl) rfl ?_ | refine wpList_val (run_mv (v := .pointer (some _)) rfl rfl) rfl ?_ | refine wpList_val (run_mv (v := .agg _) rfl rfl) rfl ?_ | refine wpList_val (run_asg (v := b32 _) rfl rfl) rfl ?_ | refine wpList_val (run_asg (v := b64 _) rfl rfl) rfl ?_ | refine wpList_val (run_asg (v := b8 _) rfl rfl) rfl ?_ | refine wpList_val (run_asg (v := .int _ _) rfl rfl) rfl ?_ | refine wpList_val (run_asg (v := .bool _) rfl rfl) rfl ?_ | refine wpList_val (run_asg (v := .slice (some _) _ _) rfl rfl) rfl ?_ | refine wpList_val (run_asg (v := .slice _ _ _) rfl rfl) rfl ?_ | refine wpList_val (run_asg (v := .pointer (some _)) rfl rfl) rfl ?_ | refine wpList_val (run_asg (v := .agg _) rfl rfl) rfl ?_ | refine wpList_val (run_mv rfl rfl) rfl ?_ | refine wpList_val (run_asg rfl rfl) rfl ?_ | refine wpList_val (run_xor32 rfl rfl rfl) rfl ?_ | refine wpList_val (run_and32 rfl rfl rfl) rfl ?_ | refine wpList_val (run_or32 rfl rfl rfl) rfl ?_ | refine wpList_val (run_add32 rfl rfl rfl) rfl ?_ | refine wpList_val (run_not32 rfl rfl) rfl ?_ | refine wpList_val (run_xor64 rfl rfl rfl) rfl ?_ | refine wpList_val (run_and64 rfl rfl rfl) rfl ?_ | refine wpList_val (run_or64 rfl rfl rfl) rfl ?_ | refine wpList_val (run_add64 rfl rfl rfl) rfl ?_ | refine wpList_val (run_not64 rfl rfl) rfl ?_ | refine wpList_val (run_xor8 rfl rfl rfl) rfl ?_ | refine wpList_val (run_and8 rfl rfl rfl) rfl ?_ | refine wpList_val (run_or8 rfl rfl rfl) rfl ?_ | refine wpList_val (run_add8 rfl rfl rfl) rfl ?_ | refine wpList_val (run_not8 rfl rfl) rfl ?_ | refine wpList_val (run_cv64_32 rfl rfl) rfl ?_ | refine wpList_val (run_cv8_32 rfl rfl) rfl ?_ | refine wpList_val (run_cv8_64 rfl rfl) rfl ?_ | refine wpList_val (run_cv32_8 rfl rfl) rfl ?_ | refine wpList_val (run_cv64_8 rfl rfl) rfl ?_); (try simp only [Act.put, List.setIfInBounds_toArray, List.set_cons_zero, List.set_cons_succ])))
      refine wpList_val (run_quoN (a := i) (b := 64) rfl rfl rfl (by omega) (by omega)) rfl ?_; (try simp only [Act.put, List.setIfInBounds_toArray, List.set_cons_zero, List.set_cons_succ])
      refine wpList_val (run_ix0 (i := i / 64) rfl Tryd.underlying48 (by kernel_rfl) rfl rfl (by omega)) rfl ?_; (try simp only [Act.put, List.setIfInBounds_toArray, List.set_cons_zero, List.set_cons_succ])
      refine wpList_val (run_ld64 rfl rfl ((hM.out.get (i := 2) rfl).c _ _ HL.out)) rfl ?_; (try simp only [Act.put, List.setIfInBounds_toArray, List.set_cons_zero, List.set_cons_succ])
      (repeat ((first | refine wpList_val (run_mv (v := b32 _) rfl rfl) rfl ?_ | refine wpList_val (run_mv (v := b64 _) rfl rfl) rfl ?_ | refine wpList_val (run_mv (v := b8 _) rfl rfl) rfl ?_ | refine wpList_val (run_mv (v := .int _ _) rfl rfl) rfl ?_ | refine wpList_val (run_mv (v := .bool _) rfl rfl) rfl ?_ | refine wpList_val (run_mv (v := .slice (some _) _ _) rfl rfl) rfl ?_ | refine wpList_val (run_mv (v := .slice _ _ _) rfl rfl) rfl ?_ | refine wpList_val (run_mv (v := .pointer (some _)) rfl rfl) rfl ?_ | refine wpList_val (run_mv (v := .agg _) rfl rfl) rfl ?_ | refine wpList_val (run_asg (v := b32 _) rfl rfl) rfl ?_ | refine wpList_val (run_asg (v := b64 _) rfl rfl) rfl ?_ | refine wpList_val (run_asg (v := b8 _) rfl rfl) rfl ?_ | refine wpList_val (run_asg (v := .int _ _) rfl rfl) rfl ?_ | refine wpList_val (run_asg (v := .bool _) rfl rfl) rfl ?_ | refine wpList_val (run_asg (v := .slice (some _) _ _) rfl rfl) rfl ?_ | refine wpList_val (run_asg (v := .slice _ _ _) rfl rfl) rfl ?_ | refine wpList_val (run_asg (v := .pointer (some _)) rfl rfl) rfl ?_ | refine wpList_val (run_asg (v := .agg _) rfl rfl) rfl ?_ | refine wpList_val (run_mv rfl rfl) rfl ?_ | refine wpList_val (run_asg rfl rfl) rfl ?_ | refine wpList_val (run_xor32 rfl rfl rfl) rfl ?_ | refine wpList_val (run_and32 rfl rfl rfl) rfl ?_ | refine wpList_val (run_or32 rfl rfl rfl) rfl ?_ | refine wpList_val (run_add32 rfl rfl rfl) rfl ?_ | refine wpList_val (run_not32 rfl rfl) rfl ?_ | refine wpList_val (run_xor64 rfl rfl rfl) rfl ?_ | refine wpList_val (run_and64 rfl rfl rfl) rfl ?_ | refine wpList_val (run_or64 rfl rfl rfl) rfl ?_ | refine wpList_val (run_add64 rfl rfl rfl) rfl ?_ | refine wpList_val (run_not64 rfl rfl) rfl ?_ | refine wpList_val (run_xor8 rfl rfl rfl) rfl ?_ | refine wpList_val (run_and8 rfl rfl rfl) rfl ?_ | refine wpList_val (run_or8 rfl rfl rfl) rfl ?_ | refine wpList_val (run_add8 rfl rfl rfl) rfl ?_ | refine wpList_val (run_not8 rfl rfl) rfl ?_ | refine wpList_val (run_cv64_32 rfl rfl) rfl ?_ | refine wpList_val (run_cv8_32 rfl rfl) rfl ?_ | refine wpList_val (run_cv8_64 rfl rfl) rfl ?_ | refine wpList_val (run_cv32_8 rfl rfl) rfl ?_ | refine wpList_val (run_cv64_8 rfl rfl) rfl ?_); (try simp only [Act.put, List.setIfInBounds_toArray, List.set_cons_zero, List.set_cons_succ])))
      refine wpList_val (run_remN (a := i) (b := 64) rfl rfl rfl (by omega)) rfl ?_; (try simp only [Act.put, List.setIfInBounds_toArray, List.set_cons_zero, List.set_cons_succ])
      refine wpList_val (run_shrW (n := i % 64) rfl rfl rfl (by omega)) rfl ?_; (try simp only [Act.put, List.setIfInBounds_toArray, List.set_cons_zero, List.set_cons_succ])
      refine wpList_val (run_and64 (b := 1#64) rfl rfl rfl) rfl ?_; (try simp only [Act.put, List.setIfInBounds_toArray, List.set_cons_zero, List.set_cons_succ])
      refine wpList_val (run_negW rfl rfl) rfl ?_; (try simp only [Act.put, List.setIfInBounds_toArray, List.set_cons_zero, List.set_cons_succ])
      generalize -(x >>> (i % 64) &&& 1#64) = mk at *
      clear HL
      (repeat ((first | refine wpList_val (run_mv (v := b32 _) rfl rfl) rfl ?_ | refine wpList_val (run_mv (v := b64 _) rfl rfl) rfl ?_ | refine wpList_val (run_mv (v := b8 _) rfl rfl) rfl ?_ | refine wpList_val (run_mv (v := .int _ _) rfl rfl) rfl ?_ | refine wpList_val (run_mv (v := .bool _) rfl rfl) rfl ?_ | refine wpList_val (run_mv (v := .slice (some _) _ _) rfl rfl) rfl ?_ | refine wpList_val (run_mv (v := .slice _ _ _) rfl rfl) rfl ?_ | refine wpList_val (run_mv (v := .pointer (some _)) rfl rfl) rfl ?_ | refine wpList_val (run_mv (v := .agg _) rfl rfl) rfl ?_ | refine wpList_val (run_asg (v := b32 _) rfl rfl) rfl ?_ | refine wpList_val (run_asg (v := b64 _) rfl rfl) rfl ?_ | refine wpList_val (run_asg (v := b8 _) rfl rfl) rfl ?_ | refine wpList_val (run_asg (v := .int _ _) rfl rfl) rfl ?_ | refine wpList_val (run_asg (v := .bool _) rfl rfl) rfl ?_ | refine wpList_val (run_asg (v := .slice (some _) _ _) rfl rfl) rfl ?_ | refine wpList_val (run_asg (v := .slice _ _ _) rfl rfl) rfl ?_ | refine wpList_val (run_asg (v := .pointer (some _)) rfl rfl) rfl ?_ | refine wpList_val (run_asg (v := .agg _) rfl rfl) rfl ?_ | refine wpList_val (run_mv rfl rfl) rfl ?_ | refine wpList_val (run_asg rfl rfl) rfl ?_ | refine wpList_val (run_xor32 rfl rfl rfl) rfl ?_ | refine wpList_val (run_and32 rfl rfl rfl) rfl ?_ | refine wpList_val (run_or32 rfl rfl rfl) rfl ?_ | refine wpList_val (run_add32 rfl rfl rfl) rfl ?_ | refine wpList_val (run_not32 rfl rfl) rfl ?_ | refine wpList_val (run_xor64 rfl rfl rfl) rfl ?_ | refine wpList_val (run_and64 rfl rfl rfl) rfl ?_ | refine wpList_val (run_or64 rfl rfl rfl) rfl ?_ | refine wpList_val (run_add64 rfl rfl rfl) rfl ?_ | refine wpList_val (run_not64 rfl rfl) rfl ?_ | refine wpList_val (run_xor8 rfl rfl rfl) rfl ?_ | refine wpList_val (run_and8 rfl rfl rfl) rfl ?_ | refine wpList_val (run_or8 rfl rfl rfl) rfl ?_ | refine wpList_val (run_add8 rfl rfl rfl) rfl ?_ | refine wpList_val (run_not8 rfl rfl) rfl ?_ | refine wpList_val (run_cv64_32 rfl rfl) rfl ?_ | refine wpList_val (run_cv8_32 rfl rfl) rfl ?_ | refine wpList_val (run_cv8_64 rfl rfl) rfl ?_ | refine wpList_val (run_cv32_8 rfl rfl) rfl ?_ | refine wpList_val (run_cv64_8 rfl rfl) rfl ?_); (try simp only [Act.put, List.setIfInBounds_toArray, List.set_cons_zero, List.set_cons_succ])))
      refine wpList_end ?_
      go_upto_region 6 with fail; refine wp_region_lit ?_
      refine wpList_val (run_asg (v := b64 0) rfl rfl) rfl ?_; (try simp only [Act.put, List.setIfInBounds_toArray, List.set_cons_zero, List.set_cons_succ])
      refine wpList_end ?_
      go_upto_region 7 with fail; refine wp_region_lit ?_
      (repeat ((first | refine wpList_val (run_mv (v := b32 _) rfl rfl) rfl ?_ | refine wpList_val (run_mv (v := b64 _) rfl rfl) rfl ?_ | refine wpList_val (run_mv (v := b8 _) rfl rfl) rfl ?_ | refine wpList_val (run_mv (v := .int _ _) rfl rfl) rfl ?_ | refine wpList_val (run_mv (v := .bool _) rfl rfl) rfl ?_ | refine wpList_val (run_mv (v := .slice (some _) _ _) rfl rfl) rfl ?_ | refine wpList_val (run_mv (v := .slice _ _ _) rfl rfl) rfl ?_ | refine wpList_val (run_mv (v := .pointer (some _)) rfl rfl) rfl ?_ | refine wpList_val (run_mv (v := .agg _) rfl rfl) rfl ?_ | refine wpList_val (run_asg (v := b32 _) rfl rfl) rfl ?_ | refine wpList_val (run_asg (v := b64 _) rfl rfl) rfl ?_ | refine wpList_val (run_asg (v := b8 _) rfl rfl) rfl ?_ | refine wpList_val (run_asg (v := .int _ _) rfl rfl) rfl ?_ | refine wpList_val (run_asg (v := .bool _) rfl rfl) rfl ?_ | refine wpList_val (run_asg (v := .slice (some _) _ _) rfl rfl) rfl ?_ | refine wpList_val (run_asg (v := .slice _ _ _) rfl rfl) rfl ?_ | refine wpList_val (run_asg (v := .pointer (some _)) rfl rfl) rfl ?_ | refine wpList_val (run_asg (v := .agg _) rfl rfl) rfl ?_ | refine wpList_val (run_mv rfl rfl) rfl ?_ | refine wpList_val (run_asg rfl rfl) rfl ?_ | refine wpList_val (run_xor32 rfl rfl rfl) rfl ?_ | refine wpList_val (run_and32 rfl rfl rfl) rfl ?_ | refine wpList_val (run_or32 rfl rfl rfl) rfl ?_ | refine wpList_val (run_add32 rfl rfl rfl) rfl ?_ | refine wpList_val (run_not32 rfl rfl) rfl ?_ | refine wpList_val (run_xor64 rfl rfl rfl) rfl ?_ | refine wpList_val (run_and64 rfl rfl rfl) rfl ?_ | refine wpList_val (run_or64 rfl rfl rfl) rfl ?_ | refine wpList_val (run_add64 rfl rfl rfl) rfl ?_ | refine wpList_val (run_not64 rfl rfl) rfl ?_ | refine wpList_val (run_xor8 rfl rfl rfl) rfl ?_ | refine wpList_val (run_and8 rfl rfl rfl) rfl ?_ | refine wpList_val (run_or8 rfl rfl rfl) rfl ?_ | refine wpList_val (run_add8 rfl rfl rfl) rfl ?_ | refine wpList_val (run_not8 rfl rfl) rfl ?_ | refine wpList_val (run_cv64_32 rfl rfl) rfl ?_ | refine wpList_val (run_cv8_32 rfl rfl) rfl ?_ | refine wpList_val (run_cv8_64 rfl rfl) rfl ?_ | refine wpList_val (run_cv32_8 rfl rfl) rfl ?_ | refine wpList_val (run_cv64_8 rfl rfl) rfl ?_); (try simp only [Act.put, List.setIfInBounds_toArray, List.set_cons_zero, List.set_cons_succ])))
      refine wpList_end ?_
      go_wp2_with fail
      go_loopw [10, 27] (fun s6 s u => ∃ (j : Nat) (r : List (BitVec 64)) (c : BitVec 64), j ≤ 8 ∧ s6 = b64 c ∧ s = .int .i64 (j : Int) ∧ AddI Ni MK j r c ∧ Mv w [(g5, Ai.map b64), (g4, z64 8), (g3, p.map b64), (g2, m.map b64), (g1, r.map b64)] u) (fun _ s _ => (8 - intOf s).toNat)
      case atStart => exact ⟨0, Ni, 0, by omega, rfl, rfl, R0.out, hM.out⟩
      case round =>
        obtain ⟨j, r, c, hj, rfl, rfl, hR, hJ⟩ := hrel
        replace hM := Lib.hid hJ
        have hrl : r.length = 8 := by rw [hR.len, hNl]
        have hc := hR.bit
        have HR := Lib.hid hR
        clear hJ hR
        by_cases hlt2 : j = 8
        · subst hlt2
          have hk2 : ¬ (((8 : Nat) : Int) < 8) := by omega
          rw [EN.out r c HR.out] at hM
          have LX : Hid (((shl Ai 0).map b64).length = (Ai.map b64).length) := Lib.hid (by rw [List.length_map, List.length_map, shl_len])
          rw [EA.out] at LX
          go_upto_region 12 with fail; refine wp_region_lit ?_
          refine wpList_val (run_slW rfl Tryd.underlying50 (by kernel_rfl) rfl) rfl ?_; (try simp only [Act.put, List.setIfInBounds_toArray, List.set_cons_zero, List.set_cons_succ])
          refine wpList_callR (run_call2 enters_shift rfl rfl rfl rfl) rfl (shift_any Ai 0 _ 8 _ hAl (by omega) (hM.out.get (i := 0) rfl)) (fun v9 a9 hR => ?_)
          (try simp only [Act.put, List.setIfInBounds_toArray, List.set_cons_zero, List.set_cons_succ])
          rw [EA.out] at hR
          subst hR
          replace hM := Lib.hid (hM.out.put 0 rfl (m := An) LX.out)
          refine wpList_end ?_
          go_wp2_with fail
          exact ⟨⟨i + 1, by omega, by go_num, by rw [ENn.out, EAn.out]; exact hM.out⟩, by simp [intOf]; omega⟩
        · have hk2 : (j : Int) < 8 := by omega
          have hj2 : j < 8 := by omega
          have HL := Lib.hid (get_map b64 0 (l := r) (i := j) (by omega))
          have HB := Lib.hid (get_map b64 0 (l := Ai) (i := j) (by omega))
          have FL : Hid (j < (r.map b64).length) := Lib.hid (by rw [List.length_map]; omega)
          have NX := Lib.hid (RS.out j r c HR.out hj2)
          generalize r.getD j 0 = x1 at *
          generalize Ai.getD j 0 = y1 at *
          go_upto_region 9 with fail; refine wp_region_lit ?_
          (repeat ((first | refine wpList_val (run_mv (v := b32 _) rfl rfl) rfl ?_ | refine wpList_val (run_mv (v := b64 _) rfl rfl) rfl ?_ | refine wpList_val (run_mv (v := b8 _) rfl rfl) rfl ?_ | refine wpList_val (run_mv (v := .int _ _) rfl rfl) rfl ?_ | refine wpList_val (run_mv (v := .bool _) rfl rfl) rfl ?_ | refine wpList_val (run_mv (v := .slice (some _) _ _) rfl rfl) rfl ?_ | refine wpList_val (run_mv (v := .slice _ _ _) rfl rfl) rfl ?_ | refine wpList_val (run_mv (v := .pointer (some _)) rfl rfl) rfl ?_ | refine wpList_val (run_mv (v := .agg _) rfl rfl) rfl ?_ | refine wpList_val (run_asg (v := b32 _) rfl rfl) rfl ?_ | refine wpList_val (run_asg (v := b64 _) rfl rfl) rfl ?_ | refine wpList_val (run_asg (v := b8 _) rfl rfl) rfl ?_ | refine wpList_val (run_asg (v := .int _ _) rfl rfl) rfl ?_ | refine wpList_val (run_asg (v := .bool _) rfl rfl) rfl ?_ | refine wpList_val (run_asg (v := .slice (some _) _ _) rfl rfl) rfl ?_ | refine wpList_val (run_asg (v := .slice _ _ _) rfl rfl) rfl ?_ | refine wpList_val (run_asg (v := .pointer (some _)) rfl rfl) rfl ?_ | refine wpList_val (run_asg (v := .agg _) rfl rfl) rfl ?_ | refine wpList_val (run_mv rfl rfl) rfl ?_ | refine wpList_val (run_asg rfl rfl) rfl ?_ | refine wpList_val (run_xor32 rfl rfl rfl) rfl ?_ | refine wpList_val (run_and32 rfl rfl rfl) rfl ?_ | refine wpList_val (run_or32 rfl rfl rfl) rfl ?_ | refine wpList_val (run_add32 rfl rfl rfl) rfl ?_ | refine wpList_val (run_not32 rfl rfl) rfl ?_ | refine wpList_val (run_xor64 rfl rfl rfl) rfl ?_ | refine wpList_val (run_and64 rfl rfl rfl) rfl ?_ | refine wpList_val (run_or64 rfl rfl rfl) rfl ?_ | refine wpList_val (run_add64 rfl rfl rfl) rfl ?_ | refine wpList_val (run_not64 rfl rfl) rfl ?_ | refine wpList_val (run_xor8 rfl rfl rfl) rfl ?_ | refine wpList_val (run_and8 rfl rfl rfl) rfl ?_ | refine wpList_val (run_or8 rfl rfl rfl) rfl ?_ | refine wpList_val (run_add8 rfl rfl rfl) rfl ?_ | refine wpList_val (run_not8 rfl rfl) rfl ?_ | refine wpList_val (run_cv64_32 rfl rfl) rfl ?_ | refine wpList_val (run_cv8_32 rfl rfl) rfl ?_ | refine wpList_val (run_cv8_64 rfl rfl) rfl ?_ | refine wpList_val (run_cv32_8 rfl rfl) rfl ?_ | refine wpList_val (run_cv64_8 rfl rfl) rfl ?_); (try simp only [Act.put, List.setIfInBounds_toArray, List.set_cons_zero, List.set_cons_succ])))
          refine wpList_end ?_
          go_upto_region 10 with fail
          refine wp_region_noPanic ?_; refine wp_region_late (S := Till 15 (fun V => Below wr.heap.size wr V)) (by kernel_rfl) (.inr (Below.refl _ _).drew) (fun _ => ?_); have hS : Below wr.heap.size wr wr.drew := (Below.refl _ _).drew
          refine wpAnyD_take 0 rfl rfl (by kernel_rfl) (by kernel_rfl) (by kernel_rfl) (by kernel_rfl) (by kernel_rfl) (fun _ _ _ h => h) rfl (fun V hV => run_mv (v := .int _ _) rfl rfl) hS ?_; (try simp only [Act.put, List.setIfInBounds_toArray, List.set_cons_zero, List.set_cons_succ])
          refine wpAnyD_take 1 rfl rfl (by kernel_rfl) (by kernel_rfl) (by kernel_rfl) (by kernel_rfl) (by kernel_rfl) (fun _ _ _ h => h) rfl (fun V hV => run_mv (v := .int _ _) rfl rfl) hS ?_; (try simp only [Act.put, List.setIfInBounds_toArray, List.set_cons_zero, List.set_cons_succ])
          refine wpAnyD_take 2 rfl rfl (by kernel_rfl) (by kernel_rfl) (by kernel_rfl) (by kernel_rfl) (by kernel_rfl) (fun _ _ _ h => h) rfl (fun V hV => run_ix0 (i := j) rfl Tryd.underlying50 (by kernel_rfl) rfl rfl hj2) hS ?_; (try simp only [Act.put, List.setIfInBounds_toArray, List.set_cons_zero, List.set_cons_succ])
          refine wpAnyD_take 3 rfl rfl (by kernel_rfl) (by kernel_rfl) (by kernel_rfl) (by kernel_rfl) (by kernel_rfl) (fun _ _ _ h => h) rfl (fun V hV => run_ld64 rfl rfl (((hM.out.below hV).get (i := 4) rfl).c _ _ HL.out)) hS ?_; (try simp only [Act.put, List.setIfInBounds_toArray, List.set_cons_zero, List.set_cons_succ])
          refine wpAnyD_take 4 rfl rfl (by kernel_rfl) (by kernel_rfl) (by kernel_rfl) (by kernel_rfl) (by kernel_rfl) (fun _ _ _ h => h) rfl (fun V hV => run_mv (v := .int _ _) rfl rfl) hS ?_; (try simp only [Act.put, List.setIfInBounds_toArray, List.set_cons_zero, List.set_cons_succ])
          refine wpAnyD_take 5 rfl rfl (by kernel_rfl) (by kernel_rfl) (by kernel_rfl) (by kernel_rfl) (by kernel_rfl) (fun _ _ _ h => h) rfl (fun V hV => run_ix0 (i := j) rfl Tryd.underlying50 (by kernel_rfl) rfl rfl hj2) hS ?_; (try simp only [Act.put, List.setIfInBounds_toArray, List.set_cons_zero, List.set_cons_succ])
          refine wpAnyD_take 6 rfl rfl (by kernel_rfl) (by kernel_rfl) (by kernel_rfl) (by kernel_rfl) (by kernel_rfl) (fun _ _ _ h => h) rfl (fun V hV => run_ld64 rfl rfl (((hM.out.below hV).get (i := 0) rfl).c _ _ HB.out)) hS ?_; (try simp only [Act.put, List.setIfInBounds_toArray, List.set_cons_zero, List.set_cons_succ])
          refine wpAnyD_take 7 rfl rfl (by kernel_rfl) (by kernel_rfl) (by kernel_rfl) (by kernel_rfl) (by kernel_rfl) (fun _ _ _ h => h) rfl (fun V hV => run_mv (v := b64 _) rfl rfl) hS ?_; (try simp only [Act.put, List.setIfInBounds_toArray, List.set_cons_zero, List.set_cons_succ])
          refine wpAnyD_take 8 rfl rfl (by kernel_rfl) (by kernel_rfl) (by kernel_rfl) (by kernel_rfl) (by kernel_rfl) (fun _ _ _ h => h) rfl (fun V hV => run_and64 rfl rfl rfl) hS ?_; (try simp only [Act.put, List.setIfInBounds_toArray, List.set_cons_zero, List.set_cons_succ])
          refine wpAnyD_take 9 rfl rfl (by kernel_rfl) (by kernel_rfl) (by kernel_rfl) (by kernel_rfl) (by kernel_rfl) (fun _ _ _ h => h) rfl (fun V hV => run_mv (v := b64 _) rfl rfl) hS ?_; (try simp only [Act.put, List.setIfInBounds_toArray, List.set_cons_zero, List.set_cons_succ])
          refine wpAnyD_take 10 rfl rfl (by kernel_rfl) (by kernel_rfl) (by kernel_rfl) (by kernel_rfl) (by kernel_rfl) (fun _ _ _ h => h) rfl (fun V hV => run_addW hc rfl rfl rfl rfl rfl) hS ?_; (try simp only [Act.put, List.setIfInBounds_toArray, List.set_cons_zero, List.set_cons_succ])
          refine wpAnyD_take 11 rfl rfl (by kernel_rfl) (by kernel_rfl) (by kernel_rfl) (by kernel_rfl) (by kernel_rfl) (fun _ _ _ h => h) rfl (fun V hV => run_mv (v := .tuple _) rfl rfl) hS ?_; (try simp only [Act.put, List.setIfInBounds_toArray, List.set_cons_zero, List.set_cons_succ])
          refine wpAnyD_take 12 rfl rfl (by kernel_rfl) (by kernel_rfl) (by kernel_rfl) (by kernel_rfl) (by kernel_rfl) (fun _ _ _ h => h) rfl (fun V hV => run_xtr (v := b64 (adw x1 (y1 &&& mk) c)) rfl rfl rfl) hS ?_; (try simp only [Act.put, List.setIfInBounds_toArray, List.set_cons_zero, List.set_cons_succ])
          refine wpAnyD_free 13 rfl rfl (by kernel_rfl) (by kernel_rfl) (by kernel_rfl) (by kernel_rfl) (fun _ _ _ h => h) rfl (fun V => run_xtr (v := b64 (adc x1 (y1 &&& mk) c)) rfl rfl rfl) hS ?_; (try simp only [Act.put, List.setIfInBounds_toArray, List.set_cons_zero, List.set_cons_succ])
          refine wpAnyD_take 14 rfl rfl (by kernel_rfl) (by kernel_rfl) (by kernel_rfl) (by kernel_rfl) (by kernel_rfl) (fun _ _ _ h => h) rfl (fun V hV => run_ix0 (i := j) rfl Tryd.underlying50 (by kernel_rfl) rfl rfl hj2) hS ?_; (try simp only [Act.put, List.setIfInBounds_toArray, List.set_cons_zero, List.set_cons_succ])
          replace hM := Lib.hid (hM.out.below hS)
          generalize wr.drew = b4 at *
          refine wpAnyL_skip 15 (by kernel_rfl) rfl rfl rfl (run_st64 rfl rfl rfl ((hM.out.get (i := 4) rfl).c _ _ HL.out) ((hM.out.get (i := 4) rfl).f _)) (.inl rfl) ?_
          refine wpAnyD_val 16 (by kernel_rfl) rfl rfl rfl (run_asg (v := b64 _) rfl rfl) (.inl rfl) ?_; (try simp only [Act.put, List.setIfInBounds_toArray, List.set_cons_zero, List.set_cons_succ])
          refine wpAnyL_done (by kernel_rfl) ?_ _; refine NoPanic.normal ?_
          have hM2 := Lib.hid (hM.out.set 4 rfl FL.out (b64 (adw x1 (y1 &&& mk) c)))
          rw [set_map] at hM2
          generalize b4.setCell ⟨g1, j, none⟩ (b64 (adw x1 (y1 &&& mk) c)) = b5 at *
          clear hM HL HB FL hS
          go_wp2_with fail
          exact ⟨⟨j + 1, r.set j (adw x1 (y1 &&& mk) c), adc x1 (y1 &&& mk) c, by omega, rfl, by go_num, NX.out, hM2.out⟩, by simp [intOf]; omega⟩
theorem enters_stimes : Enters 24 := enters_of Tryd.func24 (by kernel_rfl) rfl
end Go.Proofs.YtefaihdhnnldmaaDoor
