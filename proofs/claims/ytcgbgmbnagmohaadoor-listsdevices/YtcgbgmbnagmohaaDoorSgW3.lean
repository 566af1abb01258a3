import Derived.Test.YtcgbgmbnagmohaaDoorLy
import Derived.Test.YtcgbgmbnagmohaaDoorScOps
import Derived.Test.YtcgbgmbnagmohaaDoorLateT
import Derived.Test.YtcgbgmbnagmohaaDoorScLess
import Derived.Test.YtcgbgmbnagmohaaDoorCatL
import Derived.Lib.AppendZeros
import Derived.Test.YtcgbgmbnagmohaaDoorSgCon
import Derived.Test.YtcgbgmbnagmohaaDoorEdEnc
import Derived.Test.YtcgbgmbnagmohaaDoorClampB
import Derived.Test.YtcgbgmbnagmohaaDoorStr
import Derived.Test.YtcgbgmbnagmohaaDoorEdDec2
import Derived.Test.YtcgbgmbnagmohaaDoorEdEq
namespace Go.Proofs.YtcgbgmbnagmohaaDoor
open Go.RowKit
set_option maxRecDepth 20000
theorem shift_cell {g : Nat} {l : List (BitVec 64)} {w : World} (hA : Arr g (l.map b64) w) (vs : List Value) {i : Nat} (hv : vs.length = i) (hi : i < l.length) : (w.setCells g 0 vs).cell? ⟨g, i, none⟩ = some (b64 (l.getD i 0)) := by
 rw [qcr _ _ _ _ _ (by omega)]
 exact hA.c i _ (qbv b64 0 hi)
theorem shift_froz {g : Nat} {l : List (BitVec 64)} {w : World} (hA : Arr g (l.map b64) w) (vs : List Value) (i : Nat) : (w.setCells g 0 vs).frozen? ⟨g, i, none⟩ = false := by
 rw [qct]; exact hA.f i
set_option maxHeartbeats 4000000 in
theorem shift_any (l : List (BitVec 64)) (b : BitVec 64) (g n : Nat) (w : World) (hn : l.length = n) (hn8 : n ≤ 8) (hA : Arr g (l.map b64) w) : Calls Tryd.prog 74 #[.slice (some ⟨g, 0, none⟩) n n, b64 b] w fun e w' => ∃ v, e = .returned v ∧ w' = w.setCells g 0 ((shl l b).map b64) := by
 have HA := Lib.hid hA; clear hA
 have HT : Hid (∀ i, i < n → ((shl l b).take (i + 1)).map b64 = ((shl l b).take i).map b64 ++ [b64 (l.getD i 0 <<< 1 ||| shb l b i)]) := Lib.hid fun i hi => by rw [shl_take l b (by omega), List.map_append]; rfl
 have HL : Hid (∀ i, i ≤ n → (((shl l b).take i).map b64).length = i) := Lib.hid fun i hi => by rw [List.length_map, List.length_take, shl_len]; omega
 have HE : Hid (((shl l b).take n).map b64 = (shl l b).map b64) := Lib.hid (by rw [List.take_of_length_le (by rw [shl_len]; omega)])
 obtain ⟨T, hT⟩ : ∃ T : Nat → List Value, T = fun i => ((shl l b).take i).map b64 := ⟨_, rfl⟩
 have HT' : Hid (∀ i, i < n → T (i + 1) = T i ++ [b64 (l.getD i 0 <<< 1 ||| shb l b i)]) := Lib.hid (by rw [hT]; exact HT.out)
 have HL' : Hid (∀ i, i ≤ n → (T i).length = i) := Lib.hid (by rw [hT]; exact HL.out)
 have HE' : Hid (T n = (shl l b).map b64) := Lib.hid (by rw [hT]; exact HE.out)
 have H0 : Hid (T 0 = []) := Lib.hid (by rw [hT]; rfl)
 have HB : Hid (∀ i, shb l b (i + 1) = l.getD i 0 >>> 63) := Lib.hid fun i => rfl
 have HB0 : Hid (shb l b 0 = b) := Lib.hid rfl
 clear hT HT HL HE
 generalize (shl l b).map b64 = X at *
 obtain ⟨B, hB⟩ : ∃ B, B = shb l b := ⟨_, rfl⟩
 rw [← hB] at HT' HB HB0
 clear hB
 go_enter Tryd.func74, Tryd.ntmps74
 go_upto_region 0 with fail; refine wp_region_lit ?_
 refine qaa (qae (v := .slice (some _) _ _) rfl rfl) rfl ?_; (try simp only [Act.put, lyy])
 refine qaa (qbe rfl Tryd.underlying114 rfl) rfl ?_; (try simp only [Act.put, lyy])
 refine qaa (qae (v := .int _ _) rfl rfl) rfl ?_; (try simp only [Act.put, lyy])
 refine qab ?_
 go_wp2_with fail
 go_loopw [1, 8] (fun s1 s u => ∃ i : Nat, i ≤ n ∧ s1 = b64 (B i) ∧ s = .int .i64 (i : Int) ∧ u = w.setCells g 0 (T i)) (fun _ s _ => ((n : Int) - intOf s).toNat)
 case atStart => exact ⟨0, by omega, by rw [HB0.out], rfl, by rw [H0.out]; rfl⟩
 case round =>
  obtain ⟨i, hi, rfl, rfl, rfl⟩ := hrel
  by_cases hlt : i = n
  ·subst hlt
   have hk1 : ¬ ((i : Int) < (i : Int)) := by omega
   go_wp2_with fail
   exact ⟨rfl, .tuple #[], by simp [results, Tryd.results74, go_sem], ⟨_, rfl⟩, by rw [HE'.out]⟩
  ·have hk1 : (i : Int) < (n : Int) := by omega
   have hi2 : i < n := by omega
   have C1 := Lib.hid (shift_cell HA.out (T i) (HL'.out i hi) (by omega))
   have F1 := Lib.hid (shift_froz HA.out (T i) i)
   have SN := Lib.hid (setCells_snoc g (b64 (l.getD i 0 <<< 1 ||| B i)) (T i) 0 w)
   rw [← HT'.out i hi2, HL'.out i hi, Nat.zero_add] at SN
   generalize w.setCells g 0 (T i) = u1 at *
   have E1 := Lib.hid (HB.out i)
   generalize B i = bi at *
   go_upto_region 2 with fail; refine wp_region_lit ?_
   refine qaa (qae (v := .int _ _) rfl rfl) rfl ?_; (try simp only [Act.put, lyy])
   refine qaa (qda (i := i) rfl Tryd.underlying114 (by kernel_rfl) rfl rfl hi2) rfl ?_; (try simp only [Act.put, lyy])
   rw [Nat.zero_add]
   refine qaa (qbu rfl rfl C1.out) rfl ?_; (try simp only [Act.put, lyy])
   refine qaa (qaf (v := .int _ _) rfl rfl) rfl ?_; (try simp only [Act.put, lyy]); refine qaa (qaf (v := b64 _) rfl rfl) rfl ?_; (try simp only [Act.put, lyy])
   refine qab ?_
   go_upto_region 3 with fail; refine wp_region_lit ?_
   refine qaa (qae (v := .slice (some _) _ _) rfl rfl) rfl ?_; (try simp only [Act.put, lyy]); refine qaa (qae (v := .int _ _) rfl rfl) rfl ?_; (try simp only [Act.put, lyy]); refine qaa (qae (v := b64 _) rfl rfl) rfl ?_; (try simp only [Act.put, lyy])
   refine qaa (run_shl64 (n := 1) rfl rfl rfl (by omega)) rfl ?_; (try simp only [Act.put, lyy])
   refine qaa (qae (v := b64 _) rfl rfl) rfl ?_; (try simp only [Act.put, lyy]); refine qaa (qcp rfl rfl rfl) rfl ?_; (try simp only [Act.put, lyy])
   refine qaa (qda (i := i) rfl Tryd.underlying114 (by kernel_rfl) rfl rfl hi2) rfl ?_; (try simp only [Act.put, lyy])
   rw [Nat.zero_add]
   refine qag (run_st64 rfl rfl rfl C1.out F1.out) rfl rfl ?_
   rw [SN.out]
   refine qab ?_
   go_upto_region 4 with fail; refine wp_region_lit ?_
   refine qaa (qae (v := b64 _) rfl rfl) rfl ?_; (try simp only [Act.put, lyy])
   refine qaa (run_shr64 (n := 63) rfl rfl rfl (by omega)) rfl ?_; (try simp only [Act.put, lyy])
   rw [← E1.out]
   refine qaa (qaf (v := b64 _) rfl rfl) rfl ?_; (try simp only [Act.put, lyy])
   refine qab ?_
   go_wp2_with fail
   exact ⟨⟨i + 1, by omega, rfl, by go_num, rfl⟩, by simp [intOf]; omega⟩
theorem enters_shift : Enters 74 := qaq Tryd.func74 (by kernel_rfl) rfl
end Go.Proofs.YtcgbgmbnagmohaaDoor
namespace Go.Proofs.YtcgbgmbnagmohaaDoor
open Go.RowKit
set_option maxRecDepth 20000
set_option maxHeartbeats 4000000 in
theorem sjoin_any (l m : List (BitVec 64)) (w : World) (hl : l.length = 4) (hm : m.length = 4) : Calls Tryd.prog 49 #[.agg (l.map b64).toArray, .agg (m.map b64).toArray] w fun e w' => e = .returned (.agg ((l ++ m).map b64).toArray) ∧ Below w.heap.size w w' := by
 have hM := Lib.hid (Mv.nil w)
 have hlm : (l ++ m).length = 8 := by rw [List.length_append, hl, hm]
 have LL : Hid ((l.map b64).length = 4) := Lib.hid (by rw [List.length_map, hl])
 have LM : Hid ((m.map b64).length = 4) := Lib.hid (by rw [List.length_map, hm])
 have LX : Hid (((l ++ m).map b64).length = 8) := Lib.hid (by rw [List.length_map, hlm])
 have E1 : Hid ((z64 8).take 0 ++ (l.map b64 ++ (z64 8).drop (0 + (l.map b64).length)) = l.map b64 ++ z64 4) := Lib.hid (by rw [LL.out]; rfl)
 have E2 : Hid ((l.map b64 ++ z64 4).take 4 ++ (m.map b64 ++ (l.map b64 ++ z64 4).drop (4 + (m.map b64).length)) = (l ++ m).map b64) := Lib.hid (by
  rw [LM.out, List.take_left' LL.out, List.drop_of_length_le (by rw [List.length_append, LL.out, z64_len]; exact Nat.le_refl _), List.append_nil, List.map_append])
 have OL := Lib.hid (one64v l)
 have OM := Lib.hid (one64v m)
 have SZ := Lib.hid (szS8 hlm)
 have OX := Lib.hid (one64s (l ++ m))
 generalize l.map b64 = L at *
 generalize m.map b64 = M at *
 generalize (l ++ m).map b64 = X at *
 go_enter Tryd.func49, Tryd.ntmps49
 go_upto_region 0 with fail; refine wp_region_lit ?_
 refine qaa (qau (vs := L) rfl rfl) rfl ?_; (try simp only [Act.put, lyy]); replace hM := Lib.hid (hM.out.new (L) 82); generalize w.alloc (.cells (L).toArray 82) = a1 at *; generalize w.heap.size = g1 at *
 refine qaa (qau (vs := M) rfl rfl) rfl ?_; (try simp only [Act.put, lyy]); replace hM := Lib.hid (hM.out.new (M) 82); generalize a1.alloc (.cells (M).toArray 82) = a2 at *; generalize a1.heap.size = g2 at *
 refine qaa (qat (vs := z64 8) rfl (by kernel_rfl)) rfl ?_; (try simp only [Act.put, lyy]); replace hM := Lib.hid (hM.out.new (z64 8) 84); generalize a2.alloc (.cells (z64 8).toArray 84) = a3 at *; generalize a2.heap.size = g3 at *
 refine qab ?_
 go_upto_region 1 with fail; refine wp_region_lit ?_
 refine qaa (qat (vs := z64 8) rfl (by kernel_rfl)) rfl ?_; (try simp only [Act.put, lyy]); replace hM := Lib.hid (hM.out.new (z64 8) 84); generalize a3.alloc (.cells (z64 8).toArray 84) = a4 at *; generalize a3.heap.size = g4 at *
 refine qab ?_
 go_upto_region 2 with fail; refine qbf 2 (by kernel_rfl) (by kernel_rfl) ?_
 refine qad _ (fun V hV => qai (qds rfl Tryd.underlying84 (by kernel_rfl) rfl)) ?_; (try simp only [Act.put, lyy])
 refine qad _ (fun V hV => qai (qds rfl Tryd.underlying82 (by kernel_rfl) rfl)) ?_; (try simp only [Act.put, lyy])
 refine qbh ?_; intro a5 hb; simp only [List.drop_succ_cons, List.drop_zero]
 replace hM := Lib.hid (hM.out.below hb)
 clear hb
 refine qaa (run_cpyV (vs := L) (l := z64 8) rfl Tryd.underlying114 (by kernel_rfl) rfl rfl (hM.out.get (i := 3) rfl).range (by rw [LL.out]; rfl) (hM.out.get (i := 0) rfl) (by rw [LL.out, z64_len]; omega) OL.out) rfl ?_; (try simp only [Act.put, lyy])
 refine qab ?_
 replace hM := Lib.hid (hM.out.mid 0 rfl (f := 0) (m := L) (by rw [LL.out, z64_len]; omega))
 rw [E1.out] at hM
 generalize a5.setCells g4 0 L = a6 at *
 go_upto_region 3 with fail; refine qbf 2 (by kernel_rfl) (by kernel_rfl) ?_
 refine qad _ (fun V hV => qai (run_slWl (l := 4) rfl Tryd.underlying84 (by kernel_rfl) rfl rfl (by omega))) ?_; (try simp only [Act.put, lyy])
 refine qad _ (fun V hV => qai (qds rfl Tryd.underlying82 (by kernel_rfl) rfl)) ?_; (try simp only [Act.put, lyy])
 refine qbh ?_; intro a7 hb; simp only [List.drop_succ_cons, List.drop_zero]
 replace hM := Lib.hid (hM.out.below hb)
 clear hb
 refine qaa (run_cpyV (f := 4) (vs := M) (l := L ++ z64 4) rfl Tryd.underlying114 (by kernel_rfl) rfl rfl (hM.out.get (i := 2) rfl).range (by rw [LM.out]; rfl) (hM.out.get (i := 0) rfl) (by rw [LM.out, List.length_append, LL.out, z64_len]; omega) OM.out) rfl ?_; (try simp only [Act.put, lyy])
 refine qab ?_
 replace hM := Lib.hid (hM.out.mid 0 rfl (f := 4) (m := M) (by rw [LM.out, List.length_append, LL.out, z64_len]; omega))
 rw [E2.out] at hM
 generalize a7.setCells g4 4 M = a8 at *
 go_upto_region 4 with fail; refine wp_region_lit ?_
 refine qaa (qaj (vs := X) rfl Tryd.underlying84 rfl SZ.out rfl ((hM.out.get (i := 0) rfl).range)) rfl ?_; (try simp only [Act.put, lyy])
 refine qag (qar (vs := X) rfl SZ.out rfl rfl OX.out (by rw [LX.out.trans (z64_len 8).symm]; exact (hM.out.get (i := 1) rfl).there)) rfl rfl ?_; replace hM := Lib.hid (hM.out.put 1 rfl (m := X) (LX.out.trans (z64_len 8).symm))
 refine qab ?_; go_wp2_with fail; refine bodyPost_ret (v := .agg (X).toArray) (qa8 Tryd.results49 rfl Tryd.underlying84 rfl SZ.out (hM.out.get (i := 1) rfl).range) rfl ⟨rfl, hM.out.bl⟩
theorem enters_sjoin : Enters 49 := qaq Tryd.func49 (by kernel_rfl) rfl
end Go.Proofs.YtcgbgmbnagmohaaDoor
namespace Go.Proofs.YtcgbgmbnagmohaaDoor
open Go.RowKit
set_option maxRecDepth 20000
def tmN (n a b i : Nat) : List (BitVec 64) := wd ((n + a * (b % 2 ^ i)) % 2 ^ 512) 8
def tmS (a i : Nat) : List (BitVec 64) := wd (a * 2 ^ i % 2 ^ 512) 8
theorem tm_mod {n a b i M : Nat} : ((n + a * (b % 2 ^ i)) % M % M + b / 2 ^ i % 2 * (a * 2 ^ i % M % M)) % M = (n + a * (b % 2 ^ (i + 1))) % M := by
 rw [Nat.mod_mod, Nat.mod_mod, Nat.mod_add_mod, ← Nat.add_mod_mod, Nat.mul_mod_mod, Nat.add_mod_mod]
 congr 1
 rw [Nat.pow_succ, Nat.mod_mul, Nat.mul_add, Nat.add_assoc, Nat.mul_comm (b / 2 ^ i % 2), Nat.mul_assoc]
theorem tmN_step (n a b i : Nat) {bt : BitVec 64} (hb : bt.toNat = b / 2 ^ i % 2) {r : List (BitVec 64)} {c : BitVec 64} (h : AddI (tmN n a b i) ((tmS a i).map (· &&& -bt)) 8 r c) : r = tmN n a b (i + 1) := by
 have hl : (tmN n a b i).length = 8 := qc8 _ _
 rw [← hl] at h
 have hd := h.done (by rw [List.length_map, hl]; exact qc8 _ _)
 refine wd_eq (by rw [h.len, hl]) ?_
 have hle : bt.toNat ≤ 1 := by rw [hb]; have := Nat.mod_lt (b / 2 ^ i) (show 2 > 0 by omega); omega
 rw [hd, hl, lv_mask _ hle, hb, tmN, tmS, lv_wd, lv_wd, show 64 * 8 = 512 by rfl, tm_mod]
theorem tmS_step (a i : Nat) : shl (tmS a i) 0 = tmS a (i + 1) := by
 have hl : (tmS a i).length = 8 := qc8 _ _
 refine wd_eq (by rw [shl_len, hl]) ?_
 have e : a * 2 ^ (i + 1) = 2 * (a * 2 ^ i) := by rw [Nat.pow_succ, ← Nat.mul_assoc, Nat.mul_comm]
 rw [lv_shl _ _ (by decide), hl, tmS, lv_wd, show 64 * 8 = 512 by rfl, Nat.mod_mod, show (0 : BitVec 64).toNat = 0 by rfl, Nat.add_zero, Nat.mul_mod_mod, e]
theorem tmN_zero {l : List (BitVec 64)} (hl : l.length = 8) (a b : Nat) : tmN (lv l) a b 0 = l := by
 have h := lv_lt l
 rw [hl, show 64 * 8 = 512 by rfl] at h
 unfold tmN
 rw [show b % 2 ^ 0 = 0 from Nat.mod_one b, Nat.mul_zero, Nat.add_zero, Nat.mod_eq_of_lt h, wd_of hl]
theorem pow_up {x a b : Nat} (h : x < 2 ^ a) (hab : a < b) : x < 2 ^ b := Nat.lt_trans h (Nat.pow_lt_pow_right (by omega) hab)
theorem tmS_zeroE {l : List (BitVec 64)} (hl : l.length = 4) {E : Nat} (hE : 64 * 4 < E) : l ++ List.replicate 4 0 = wd (lv l * 2 ^ 0 % 2 ^ E) 8 := by
 have h := lv_lt l
 rw [hl] at h
 refine wd_eq (by rw [List.length_append, hl]; rfl) ?_
 rw [qdu, show lv (List.replicate 4 0) = 0 by decide, Nat.mul_zero, Nat.add_zero, Nat.pow_zero, Nat.mul_one, Nat.mod_eq_of_lt (pow_up h hE)]
theorem tmS_zero {l : List (BitVec 64)} (hl : l.length = 4) : tmS (lv l) 0 = l ++ List.replicate 4 0 := by
 unfold tmS
 exact (tmS_zeroE (E := 512) hl (by decide)).symm
theorem tmN_end {l : List (BitVec 64)} (hl : l.length = 4) (n a : Nat) : tmN n a (lv l) 256 = wd ((n + a * lv l) % 2 ^ 512) 8 := by
 have h := lv_lt l
 rw [hl, show 64 * 4 = 256 by rfl] at h
 unfold tmN
 rw [Nat.mod_eq_of_lt h]
theorem getD_and (L : List (BitVec 64)) (k : BitVec 64) {j : Nat} (h : j < L.length) : (L.map (· &&& k)).getD j 0 = L.getD j 0 &&& k := by simp [h]
theorem build4 : Tryd.prog.built 82 [] = some ((List.replicate 4 (0 : BitVec 64)).map b64).toArray := by kernel_rfl
set_option maxHeartbeats 8000000 in
theorem stimes_any (l m p : List (BitVec 64)) (w : World) (hl : l.length = 8) (hm : m.length = 4) (hp : p.length = 4) : Calls Tryd.prog 51 #[.agg (l.map b64).toArray, .agg (m.map b64).toArray, .agg (p.map b64).toArray] w fun e w' => e = .returned (.agg ((wd ((lv l + lv m * lv p) % 2 ^ 512) 8).map b64).toArray) ∧ Below w.heap.size w w' := by
 obtain ⟨N, hN⟩ : ∃ N, N = tmN (lv l) (lv m) (lv p) := ⟨_, rfl⟩
 obtain ⟨A, hA⟩ : ∃ A, A = tmS (lv m) := ⟨_, rfl⟩
 have NL : Hid (∀ i, (N i).length = 8) := Lib.hid (by rw [hN]; exact fun i => qc8 _ _)
 have AL : Hid (∀ i, (A i).length = 8) := Lib.hid (by rw [hA]; exact fun i => qc8 _ _)
 have NS : Hid (∀ i r c, AddI (N i) ((A i).map (· &&& -(p.getD (i / 64) 0 >>> (i % 64) &&& 1#64))) 8 r c → r = N (i + 1)) := Lib.hid (by rw [hN, hA]; exact fun i r c h => tmN_step _ _ _ i (bitW_of p i) h)
 have AS : Hid (∀ i, shl (A i) 0 = A (i + 1)) := Lib.hid (by rw [hA]; exact fun i => tmS_step _ i)
 have N0 : Hid (N 0 = l) := Lib.hid (by rw [hN, tmN_zero hl])
 have A0 : Hid ((m ++ List.replicate 4 0) = A 0) := Lib.hid (by rw [hA, tmS_zero hm])
 have NE : Hid (N 256 = wd ((lv l + lv m * lv p) % 2 ^ 512) 8) := Lib.hid (by rw [hN, tmN_end hp])
 clear hN hA
 rw [← NE.out]
 clear NE
 have CJ : Hid (∀ u : World, Calls Tryd.prog 49 #[.agg (m.map b64).toArray, .agg ((List.replicate 4 (0 : BitVec 64)).map b64).toArray] u fun e w' => e = .returned (.agg ((A 0).map b64).toArray) ∧ Below u.heap.size u w') := Lib.hid fun u => by rw [← A0.out]; exact sjoin_any m (List.replicate 4 0) u hm rfl
 clear A0
 have SM := Lib.hid (szS4 hm)
 have SA := Lib.hid (szS8 (AL.out 0))
 have LA : Hid (((A 0).map b64).length = (z64 8).length) := Lib.hid (by rw [List.length_map, AL.out, z64_len])
 have BD := Lib.hid build4
 generalize (List.replicate 4 (0 : BitVec 64)).map b64 = Z4 at *
 have hM := Lib.hid (Mv.nil w)
 go_enter Tryd.func51, Tryd.ntmps51
 go_upto_region 0 with fail; refine wp_region_lit ?_
 refine qaa (qau (vs := l.map b64) rfl rfl) rfl ?_; (try simp only [Act.put, lyy]); replace hM := Lib.hid (hM.out.new (l.map b64) 84); generalize w.alloc (.cells (l.map b64).toArray 84) = a1 at *; generalize w.heap.size = g1 at *
 refine qaa (qau (vs := m.map b64) rfl rfl) rfl ?_; (try simp only [Act.put, lyy]); replace hM := Lib.hid (hM.out.new (m.map b64) 82); generalize a1.alloc (.cells (m.map b64).toArray 82) = a2 at *; generalize a1.heap.size = g2 at *
 refine qaa (qau (vs := p.map b64) rfl rfl) rfl ?_; (try simp only [Act.put, lyy]); replace hM := Lib.hid (hM.out.new (p.map b64) 82); generalize a2.alloc (.cells (p.map b64).toArray 82) = a3 at *; generalize a2.heap.size = g3 at *
 refine qaa (qat (vs := z64 8) rfl (by kernel_rfl)) rfl ?_; (try simp only [Act.put, lyy]); replace hM := Lib.hid (hM.out.new (z64 8) 84); generalize a3.alloc (.cells (z64 8).toArray 84) = a4 at *; generalize a3.heap.size = g4 at *
 refine qab ?_
 go_upto_region 1 with fail; refine wp_region_lit ?_
 refine qaa (qaj (vs := m.map b64) rfl Tryd.underlying82 rfl SM.out rfl ((hM.out.get (i := 2) rfl).range)) rfl ?_; (try simp only [Act.put, lyy])
 refine qaa (run_bldW0 (cells := Z4.toArray) rfl BD.out) rfl ?_; (try simp only [Act.put, lyy])
 refine qam (qao enters_sjoin rfl rfl rfl rfl) rfl (CJ.out _) (fun a5 hb => ?_); (try simp only [Act.put, lyy]); replace hM := Lib.hid (hM.out.below hb); clear hb
 refine qaa (qat (vs := z64 8) rfl (by kernel_rfl)) rfl ?_; (try simp only [Act.put, lyy]); replace hM := Lib.hid (hM.out.new (z64 8) 84); generalize a5.alloc (.cells (z64 8).toArray 84) = a6 at *; generalize a5.heap.size = g5 at *
 refine qag (qar (vs := (A 0).map b64) rfl SA.out rfl rfl (one64s _) (by rw [LA.out]; exact (hM.out.get (i := 0) rfl).there)) rfl rfl ?_; replace hM := Lib.hid (hM.out.put 0 rfl (m := (A 0).map b64) (LA.out))
 refine qab ?_
 generalize a6.setCells g5 0 ((A 0).map b64) = a7 at *
 rw [← N0.out] at hM
 clear N0 CJ SM SA LA BD
 go_upto_region 2 with fail; refine wp_region_lit ?_
 refine qaa (qae (v := .int _ _) rfl rfl) rfl ?_; (try simp only [Act.put, lyy])
 refine qab ?_
 go_wp2_with fail
 go_loopw [15] (fun s u => ∃ i : Nat, i ≤ 256 ∧ s = .int .i64 (i : Int) ∧ Mv w [(g5, (A i).map b64), (g4, z64 8), (g3, p.map b64), (g2, m.map b64), (g1, (N i).map b64)] u) (fun s _ => (256 - intOf s).toNat)
 case atStart => exact ⟨0, by omega, rfl, hM.out⟩
 case round =>
  obtain ⟨i, hi, rfl, hJ⟩ := hrel
  replace hM := Lib.hid hJ
  clear hJ
  by_cases hlt : i = 256
  ·subst hlt
   have hk1 : ¬ (((256 : Nat) : Int) < 256) := by omega
   have SZ := Lib.hid (szS8 (NL.out 256))
   have L1 : Hid (((N 256).map b64).length = (z64 8).length) := Lib.hid (by rw [List.length_map, NL.out, z64_len])
   go_upto_region 14 with fail; refine wp_region_lit ?_
   refine qaa (qaj (vs := (N 256).map b64) rfl Tryd.underlying84 rfl SZ.out rfl ((hM.out.get (i := 4) rfl).range)) rfl ?_; (try simp only [Act.put, lyy])
   refine qag (qar (vs := (N 256).map b64) rfl SZ.out rfl rfl (one64s _) (by rw [L1.out]; exact (hM.out.get (i := 1) rfl).there)) rfl rfl ?_; replace hM := Lib.hid (hM.out.put 1 rfl (m := (N 256).map b64) (L1.out))
   refine qab ?_; go_wp2_with fail; refine bodyPost_ret (v := .agg ((N 256).map b64).toArray) (qa8 Tryd.results51 rfl Tryd.underlying84 rfl SZ.out (hM.out.get (i := 1) rfl).range) rfl ⟨rfl, hM.out.bl⟩
  ·have hk1 : (i : Int) < 256 := by omega
   have hi2 : i < 256 := by omega
   have HL := Lib.hid (qbv b64 0 (l := p) (i := i / 64) (by omega))
   have NX := Lib.hid (NS.out i)
   have AX := Lib.hid (AS.out i)
   have hNl := NL.out i
   have hAl := AL.out i
   have R0 := Lib.hid (AddI.start (N i) ((A i).map (· &&& -(p.getD (i / 64) 0 >>> (i % 64) &&& 1#64))))
   have RS : Hid (∀ (j : Nat) (r : List (BitVec 64)) (c : BitVec 64), AddI (N i) ((A i).map (· &&& -(p.getD (i / 64) 0 >>> (i % 64) &&& 1#64))) j r c → j < 8 → AddI (N i) ((A i).map (· &&& -(p.getD (i / 64) 0 >>> (i % 64) &&& 1#64))) (j + 1) (r.set j (adw (r.getD j 0) ((A i).getD j 0 &&& -(p.getD (i / 64) 0 >>> (i % 64) &&& 1#64)) c)) (adc (r.getD j 0) ((A i).getD j 0 &&& -(p.getD (i / 64) 0 >>> (i % 64) &&& 1#64)) c)) := Lib.hid fun j r c h hj => by
    have h2 := h.step (by rw [List.length_map, hNl, hAl]) (by omega)
    rw [getD_and _ _ (by omega)] at h2
    exact h2
   generalize hmk : (A i).map (· &&& -(p.getD (i / 64) 0 >>> (i % 64) &&& 1#64)) = MK at *
   clear hmk
   generalize hNi : N i = Ni at *
   clear hNi
   generalize hAi : A i = Ai at *
   clear hAi
   have EN : Hid (∀ r c, AddI Ni MK 8 r c → r.map b64 = (N (i + 1)).map b64) := Lib.hid fun r c h => by rw [NX.out r c h]
   have EA : Hid ((shl Ai 0).map b64 = (A (i + 1)).map b64) := Lib.hid (by rw [AX.out])
   generalize hNn : (N (i + 1)).map b64 = Nn at *
   generalize hAn : (A (i + 1)).map b64 = An at *
   have ENn := Lib.hid hNn
   have EAn := Lib.hid hAn
   clear hNn hAn
   clear NX AX
   generalize p.getD (i / 64) 0 = x at *
   go_upto_region 4 with fail; refine wp_region_lit ?_
   refine qaa (qae (v := .int _ _) rfl rfl) rfl ?_; (try simp only [Act.put, lyy]); refine qaa (qaf (v := .int _ _) rfl rfl) rfl ?_; (try simp only [Act.put, lyy])
   refine qab ?_
   go_upto_region 5 with fail; refine wp_region_lit ?_
   refine qaa (qae (v := .int _ _) rfl rfl) rfl ?_; (try simp only [Act.put, lyy])
   refine qaa (run_quoN (a := i) (b := 64) rfl rfl rfl (by omega) (by omega)) rfl ?_; (try simp only [Act.put, lyy])
   refine qaa (qbk (i := i / 64) rfl Tryd.underlying82 (by kernel_rfl) rfl rfl (by omega)) rfl ?_; (try simp only [Act.put, lyy])
   refine qaa (qbu rfl rfl ((hM.out.get (i := 2) rfl).c _ _ HL.out)) rfl ?_; (try simp only [Act.put, lyy])
   refine qaa (qae (v := .int _ _) rfl rfl) rfl ?_; (try simp only [Act.put, lyy])
   refine qaa (run_remN (a := i) (b := 64) rfl rfl rfl (by omega)) rfl ?_; (try simp only [Act.put, lyy])
   refine qaa (run_shrW (n := i % 64) rfl rfl rfl (by omega)) rfl ?_; (try simp only [Act.put, lyy])
   refine qaa (qb2 (b := 1#64) rfl rfl rfl) rfl ?_; (try simp only [Act.put, lyy])
   refine qaa (run_negW rfl rfl) rfl ?_; (try simp only [Act.put, lyy])
   generalize -(x >>> (i % 64) &&& 1#64) = mk at *
   clear HL
   refine qaa (qaf (v := b64 _) rfl rfl) rfl ?_; (try simp only [Act.put, lyy])
   refine qab ?_
   go_upto_region 6 with fail; refine wp_region_lit ?_
   refine qaa (qaf (v := b64 0) rfl rfl) rfl ?_; (try simp only [Act.put, lyy])
   refine qab ?_
   go_upto_region 7 with fail; refine wp_region_lit ?_
   refine qaa (qae (v := .int _ _) rfl rfl) rfl ?_; (try simp only [Act.put, lyy])
   refine qab ?_
   go_wp2_with fail
   go_loopw [10, 27] (fun s6 s u => ∃ (j : Nat) (r : List (BitVec 64)) (c : BitVec 64), j ≤ 8 ∧ s6 = b64 c ∧ s = .int .i64 (j : Int) ∧ AddI Ni MK j r c ∧ Mv w [(g5, Ai.map b64), (g4, z64 8), (g3, p.map b64), (g2, m.map b64), (g1, r.map b64)] u) (fun _ s _ => (8 - intOf s).toNat)
   case atStart => exact ⟨0, Ni, 0, by omega, rfl, rfl, R0.out, hM.out⟩
   case round =>
    obtain ⟨j, r, c, hj, rfl, rfl, hR, hJ⟩ := hrel
    replace hM := Lib.hid hJ
    have hrl : r.length = 8 := by rw [hR.len, hNl]
    have hc := hR.bit
    have HR := Lib.hid hR
    clear hJ hR
    by_cases hlt2 : j = 8
    ·subst hlt2
     have hk2 : ¬ (((8 : Nat) : Int) < 8) := by omega
     rw [EN.out r c HR.out] at hM
     have LX : Hid (((shl Ai 0).map b64).length = (Ai.map b64).length) := Lib.hid (by rw [List.length_map, List.length_map, shl_len])
     rw [EA.out] at LX
     go_upto_region 12 with fail; refine wp_region_lit ?_
     refine qaa (qds rfl Tryd.underlying84 (by kernel_rfl) rfl) rfl ?_; (try simp only [Act.put, lyy])
     refine qbj (qao enters_shift rfl rfl rfl rfl) rfl (shift_any Ai 0 _ 8 _ hAl (by omega) (hM.out.get (i := 0) rfl)) (fun v9 a9 hR => ?_)
     (try simp only [Act.put, lyy])
     rw [EA.out] at hR
     subst hR
     replace hM := Lib.hid (hM.out.put 0 rfl (m := An) LX.out)
     refine qab ?_
     go_wp2_with fail
     exact ⟨⟨i + 1, by omega, by go_num, by rw [ENn.out, EAn.out]; exact hM.out⟩, by simp [intOf]; omega⟩
    ·have hk2 : (j : Int) < 8 := by omega
     have hj2 : j < 8 := by omega
     have HL := Lib.hid (qbv b64 0 (l := r) (i := j) (by omega))
     have HB := Lib.hid (qbv b64 0 (l := Ai) (i := j) (by omega))
     have FL : Hid (j < (r.map b64).length) := Lib.hid (by rw [List.length_map]; omega)
     have NX := Lib.hid (RS.out j r c HR.out hj2)
     generalize r.getD j 0 = x1 at *
     generalize Ai.getD j 0 = y1 at *
     go_upto_region 9 with fail; refine wp_region_lit ?_
     refine qaa (qae (v := .int _ _) rfl rfl) rfl ?_; (try simp only [Act.put, lyy]); refine qaa (qaf (v := .int _ _) rfl rfl) rfl ?_; (try simp only [Act.put, lyy])
     refine qab ?_
     go_upto_region 10 with fail
     refine wp_region_noPanic ?_; refine qay (S := Till 15 (fun V => Below wr.heap.size wr V)) (by kernel_rfl) (.inr (Below.refl _ _).drew) (fun _ => ?_); have hS : Below wr.heap.size wr wr.drew := (Below.refl _ _).drew
     refine qak 0 rfl rfl (by kernel_rfl) (by kernel_rfl) (by kernel_rfl) (by kernel_rfl) (by kernel_rfl) (fun _ _ _ h => h) rfl (fun V hV => qae (v := .int _ _) rfl rfl) hS ?_; (try simp only [Act.put, lyy])
     refine qak 1 rfl rfl (by kernel_rfl) (by kernel_rfl) (by kernel_rfl) (by kernel_rfl) (by kernel_rfl) (fun _ _ _ h => h) rfl (fun V hV => qae (v := .int _ _) rfl rfl) hS ?_; (try simp only [Act.put, lyy])
     refine qak 2 rfl rfl (by kernel_rfl) (by kernel_rfl) (by kernel_rfl) (by kernel_rfl) (by kernel_rfl) (fun _ _ _ h => h) rfl (fun V hV => qbk (i := j) rfl Tryd.underlying84 (by kernel_rfl) rfl rfl hj2) hS ?_; (try simp only [Act.put, lyy])
     refine qak 3 rfl rfl (by kernel_rfl) (by kernel_rfl) (by kernel_rfl) (by kernel_rfl) (by kernel_rfl) (fun _ _ _ h => h) rfl (fun V hV => qbu rfl rfl (((hM.out.below hV).get (i := 4) rfl).c _ _ HL.out)) hS ?_; (try simp only [Act.put, lyy])
     refine qak 4 rfl rfl (by kernel_rfl) (by kernel_rfl) (by kernel_rfl) (by kernel_rfl) (by kernel_rfl) (fun _ _ _ h => h) rfl (fun V hV => qae (v := .int _ _) rfl rfl) hS ?_; (try simp only [Act.put, lyy])
     refine qak 5 rfl rfl (by kernel_rfl) (by kernel_rfl) (by kernel_rfl) (by kernel_rfl) (by kernel_rfl) (fun _ _ _ h => h) rfl (fun V hV => qbk (i := j) rfl Tryd.underlying84 (by kernel_rfl) rfl rfl hj2) hS ?_; (try simp only [Act.put, lyy])
     refine qak 6 rfl rfl (by kernel_rfl) (by kernel_rfl) (by kernel_rfl) (by kernel_rfl) (by kernel_rfl) (fun _ _ _ h => h) rfl (fun V hV => qbu rfl rfl (((hM.out.below hV).get (i := 0) rfl).c _ _ HB.out)) hS ?_; (try simp only [Act.put, lyy])
     refine qak 7 rfl rfl (by kernel_rfl) (by kernel_rfl) (by kernel_rfl) (by kernel_rfl) (by kernel_rfl) (fun _ _ _ h => h) rfl (fun V hV => qae (v := b64 _) rfl rfl) hS ?_; (try simp only [Act.put, lyy])
     refine qak 8 rfl rfl (by kernel_rfl) (by kernel_rfl) (by kernel_rfl) (by kernel_rfl) (by kernel_rfl) (fun _ _ _ h => h) rfl (fun V hV => qb2 rfl rfl rfl) hS ?_; (try simp only [Act.put, lyy])
     refine qak 9 rfl rfl (by kernel_rfl) (by kernel_rfl) (by kernel_rfl) (by kernel_rfl) (by kernel_rfl) (fun _ _ _ h => h) rfl (fun V hV => qae (v := b64 _) rfl rfl) hS ?_; (try simp only [Act.put, lyy])
     refine qak 10 rfl rfl (by kernel_rfl) (by kernel_rfl) (by kernel_rfl) (by kernel_rfl) (by kernel_rfl) (fun _ _ _ h => h) rfl (fun V hV => run_addW hc rfl rfl rfl rfl rfl) hS ?_; (try simp only [Act.put, lyy])
     refine qak 11 rfl rfl (by kernel_rfl) (by kernel_rfl) (by kernel_rfl) (by kernel_rfl) (by kernel_rfl) (fun _ _ _ h => h) rfl (fun V hV => qae (v := .tuple _) rfl rfl) hS ?_; (try simp only [Act.put, lyy])
     refine qak 12 rfl rfl (by kernel_rfl) (by kernel_rfl) (by kernel_rfl) (by kernel_rfl) (by kernel_rfl) (fun _ _ _ h => h) rfl (fun V hV => qbt (v := b64 (adw x1 (y1 &&& mk) c)) rfl rfl rfl) hS ?_; (try simp only [Act.put, lyy])
     refine wpAnyD_free 13 rfl rfl (by kernel_rfl) (by kernel_rfl) (by kernel_rfl) (by kernel_rfl) (fun _ _ _ h => h) rfl (fun V => qbt (v := b64 (adc x1 (y1 &&& mk) c)) rfl rfl rfl) hS ?_; (try simp only [Act.put, lyy])
     refine qak 14 rfl rfl (by kernel_rfl) (by kernel_rfl) (by kernel_rfl) (by kernel_rfl) (by kernel_rfl) (fun _ _ _ h => h) rfl (fun V hV => qbk (i := j) rfl Tryd.underlying84 (by kernel_rfl) rfl rfl hj2) hS ?_; (try simp only [Act.put, lyy])
     replace hM := Lib.hid (hM.out.below hS)
     generalize wr.drew = b4 at *
     refine qbo 15 (by kernel_rfl) rfl rfl rfl (run_st64 rfl rfl rfl ((hM.out.get (i := 4) rfl).c _ _ HL.out) ((hM.out.get (i := 4) rfl).f _)) (.inl rfl) ?_
     refine qcj 16 (by kernel_rfl) rfl rfl rfl (qaf (v := b64 _) rfl rfl) (.inl rfl) ?_; (try simp only [Act.put, lyy])
     refine qa2 (by kernel_rfl) ?_ _; refine NoPanic.normal ?_
     have hM2 := Lib.hid (hM.out.set 4 rfl FL.out (b64 (adw x1 (y1 &&& mk) c)))
     rw [qc3] at hM2
     generalize b4.setCell ⟨g1, j, none⟩ (b64 (adw x1 (y1 &&& mk) c)) = b5 at *
     clear hM HL HB FL hS
     go_wp2_with fail
     exact ⟨⟨j + 1, r.set j (adw x1 (y1 &&& mk) c), adc x1 (y1 &&& mk) c, by omega, rfl, by go_num, NX.out, hM2.out⟩, by simp [intOf]; omega⟩
theorem enters_stimes : Enters 51 := qaq Tryd.func51 (by kernel_rfl) rfl
end Go.Proofs.YtcgbgmbnagmohaaDoor
namespace Go.Proofs.YtcgbgmbnagmohaaDoor
open Go.RowKit
set_option maxRecDepth 20000
set_option maxHeartbeats 4000000 in
theorem sread_any (k : List (BitVec 8)) (w : World) (hk : k.length = 32) : Calls Tryd.prog 50 #[.agg (k.map b8).toArray] w fun e w' => e = .returned (.agg ((wd (leB k) 4).map b64).toArray) ∧ Below w.heap.size w w' := by
 have HS : Hid (∀ (i : Nat) (l : List (BitVec 64)), RdI k i l → i < 32 → RdI k (i + 1) (l.set (i / 8) (l.getD (i / 8) 0 ||| (k.getD i 0).setWidth 64 <<< (i % 8 * 8)))) := Lib.hid fun i l h hi => h.step hk hi
 have HD : Hid (∀ l, RdI k 32 l → l = wd (leB k) 4) := Lib.hid fun l h => h.done hk
 have R0 := Lib.hid (RdI.start k)
 generalize wd (leB k) 4 = R at *
 have hM := Lib.hid (Mv.nil w)
 go_enter Tryd.func50, Tryd.ntmps50
 go_upto_region 0 with fail; refine wp_region_lit ?_
 refine qaa (qau (vs := k.map b8) rfl rfl) rfl ?_; (try simp only [Act.put, lyy]); replace hM := Lib.hid (hM.out.new (k.map b8) 24); generalize w.alloc (.cells (k.map b8).toArray 24) = a1 at *; generalize w.heap.size = g1 at *
 refine qaa (qat (vs := z64 4) rfl (by kernel_rfl)) rfl ?_; (try simp only [Act.put, lyy]); replace hM := Lib.hid (hM.out.new (z64 4) 82); generalize a1.alloc (.cells (z64 4).toArray 82) = a2 at *; generalize a1.heap.size = g2 at *
 refine qab ?_
 go_upto_region 1 with fail; refine wp_region_lit ?_
 refine qaa (qat (vs := z64 4) rfl (by kernel_rfl)) rfl ?_; (try simp only [Act.put, lyy]); replace hM := Lib.hid (hM.out.new (z64 4) 82); generalize a2.alloc (.cells (z64 4).toArray 82) = a3 at *; generalize a2.heap.size = g3 at *
 refine qab ?_
 go_upto_region 2 with fail; refine wp_region_lit ?_
 refine qaa (qaj (vs := k.map b8) rfl Tryd.underlying24 rfl (szKy hk) rfl ((hM.out.get (i := 2) rfl).range)) rfl ?_; (try simp only [Act.put, lyy])
 refine qaa (qae (v := .int _ _) rfl rfl) rfl ?_; (try simp only [Act.put, lyy])
 refine qab ?_
 go_wp2_with fail
 go_loopw [7] (fun s u => ∃ (n : Nat) (l : List (BitVec 64)), n ≤ 32 ∧ s = .int .i64 (n : Int) ∧ RdI k n l ∧ Mv w [(g3, l.map b64), (g2, z64 4), (g1, k.map b8)] u) (fun s _ => (32 - intOf s).toNat)
 case atStart => exact ⟨0, List.replicate 4 0, by omega, rfl, R0.out, hM.out⟩
 case round =>
  obtain ⟨n, l, hn, rfl, hR, hJ⟩ := hrel
  replace hM := Lib.hid hJ
  have hll : l.length = 4 := hR.len
  have HR := Lib.hid hR
  clear hJ hR
  by_cases hlt : n = 32
  ·subst hlt
   have hk1 : ¬ (((32 : Nat) : Int) < 32) := by omega
   have E := Lib.hid (HD.out l HR.out)
   have SZ := Lib.hid (szS4 hll)
   have L1 : Hid ((l.map b64).length = (z64 4).length) := Lib.hid (by rw [List.length_map, hll]; rfl)
   go_upto_region 7 with fail; refine wp_region_lit ?_
   refine qaa (qaj (vs := l.map b64) rfl Tryd.underlying82 rfl SZ.out rfl ((hM.out.get (i := 0) rfl).range)) rfl ?_; (try simp only [Act.put, lyy])
   refine qag (qar (vs := l.map b64) rfl SZ.out rfl rfl (one64s _) (by rw [L1.out]; exact (hM.out.get (i := 1) rfl).there)) rfl rfl ?_; replace hM := Lib.hid (hM.out.put 1 rfl (m := l.map b64) (L1.out))
   refine qab ?_; go_wp2_with fail; refine bodyPost_ret (v := .agg (l.map b64).toArray) (qa8 Tryd.results50 rfl Tryd.underlying82 rfl SZ.out (hM.out.get (i := 1) rfl).range) rfl ⟨by rw [E.out], hM.out.bl⟩
  ·have hk1 : (n : Int) < 32 := by omega
   have hn2 : n < 32 := by omega
   have HG := Lib.hid (qbv b8 0 (l := k) (i := n) (by omega))
   have HL := Lib.hid (qbv b64 0 (l := l) (i := n / 8) (by omega))
   have FL : Hid (n / 8 < (l.map b64).length) := Lib.hid (by rw [List.length_map]; omega)
   have NX := Lib.hid (HS.out n l HR.out hn2)
   go_upto_region 4 with fail; refine wp_region_lit ?_
   refine qaa (qae (v := .int _ _) rfl rfl) rfl ?_; (try simp only [Act.put, lyy])
   refine qaa (run_ixv (i := n) rfl Tryd.underlying24 (by kernel_rfl) (by rfl) rfl rfl hn2 HG.out) rfl ?_; (try simp only [Act.put, lyy])
   refine qaa (qaf (v := .int _ _) rfl rfl) rfl ?_; (try simp only [Act.put, lyy]); refine qaa (qaf (v := b8 _) rfl rfl) rfl ?_; (try simp only [Act.put, lyy])
   refine qab ?_
   go_upto_region 5 with fail; refine qbf 12 (by kernel_rfl) (by kernel_rfl) ?_
   refine qad _ (fun V hV => qai (qae (v := .int _ _) rfl rfl)) ?_; (try simp only [Act.put, lyy])
   refine qad _ (fun V hV => qai (run_quoN (a := n) (b := 8) rfl rfl rfl (by omega) (by omega))) ?_; (try simp only [Act.put, lyy])
   refine qad _ (fun V hV => qai (qbk (i := n / 8) rfl Tryd.underlying82 (by kernel_rfl) rfl rfl (by omega))) ?_; (try simp only [Act.put, lyy])
   refine qad _ (fun V hV => qai (qbu rfl rfl (((hM.out.below hV).get (i := 0) rfl).c _ _ HL.out))) ?_; (try simp only [Act.put, lyy])
   refine qad _ (fun V hV => qai (qae (v := b8 _) rfl rfl)) ?_; (try simp only [Act.put, lyy]); refine qad _ (fun V hV => qai (qce rfl rfl)) ?_; (try simp only [Act.put, lyy]); refine qad _ (fun V hV => qai (qae (v := .int _ _) rfl rfl)) ?_; (try simp only [Act.put, lyy])
   refine qad _ (fun V hV => qai (run_remN (a := n) (b := 8) rfl rfl rfl (by omega))) ?_; (try simp only [Act.put, lyy])
   refine qad _ (fun V hV => qai (run_mulN (a := n % 8) (b := 8) rfl rfl rfl (by omega))) ?_; (try simp only [Act.put, lyy])
   refine qad _ (fun V hV => qai (run_shlW (n := n % 8 * 8) rfl rfl rfl (by omega))) ?_; (try simp only [Act.put, lyy])
   refine qad _ (fun V hV => qai (qcp rfl rfl rfl)) ?_; (try simp only [Act.put, lyy])
   refine qad _ (fun V hV => qai (qbk (i := n / 8) rfl Tryd.underlying82 (by kernel_rfl) rfl rfl (by omega))) ?_; (try simp only [Act.put, lyy])
   refine qbh ?_; intro a4 hb; simp only [List.drop_succ_cons, List.drop_zero]
   replace hM := Lib.hid (hM.out.below hb)
   clear hb
   refine qag (run_st64 rfl rfl rfl ((hM.out.get (i := 0) rfl).c _ _ HL.out) ((hM.out.get (i := 0) rfl).f _)) rfl rfl ?_
   refine qab ?_
   generalize hx : l.getD (n / 8) 0 ||| (k.getD n 0).setWidth 64 <<< (n % 8 * 8) = x at *
   clear hx
   have hM2 := Lib.hid (hM.out.set 0 rfl FL.out (b64 x))
   rw [qc3] at hM2
   generalize a4.setCell ⟨g3, n / 8, none⟩ (b64 x) = a5 at *
   clear hM HG HL FL
   go_wp2_with fail
   exact ⟨⟨n + 1, l.set (n / 8) x, by omega, by go_num, NX.out, hM2.out⟩, by simp [intOf]; omega⟩
theorem qc5 : Enters 50 := qaq Tryd.func50 (by kernel_rfl) rfl
set_option maxHeartbeats 4000000 in
theorem sbytes_any (l : List (BitVec 64)) (w : World) (hl : l.length = 4) : Calls Tryd.prog 53 #[.agg (l.map b64).toArray] w fun e w' => e = .returned (.agg ((sk (lv l)).map b8).toArray) ∧ Below w.heap.size w w' := by
 have HK : Hid (∀ i, i < 32 → ((l.getD (i / 8) 0) >>> (i % 8 * 8)).setWidth 8 = (sk (lv l)).getD i 0) := Lib.hid fun i hi => by rw [byteW_of, sk_get _ hi]
 have hkl := sk_len (lv l)
 generalize sk (lv l) = kb at *
 have hM := Lib.hid (Mv.nil w)
 go_enter Tryd.func53, Tryd.ntmps53
 go_upto_region 0 with fail; refine wp_region_lit ?_
 refine qaa (qau (vs := l.map b64) rfl rfl) rfl ?_; (try simp only [Act.put, lyy]); replace hM := Lib.hid (hM.out.new (l.map b64) 82); generalize w.alloc (.cells (l.map b64).toArray 82) = a1 at *; generalize w.heap.size = g1 at *
 refine qaa (qat (vs := z8 32) rfl (by kernel_rfl)) rfl ?_; (try simp only [Act.put, lyy]); replace hM := Lib.hid (hM.out.new (z8 32) 24); generalize a1.alloc (.cells (z8 32).toArray 24) = a2 at *; generalize a1.heap.size = g2 at *
 refine qab ?_
 go_upto_region 1 with fail; refine wp_region_lit ?_
 refine qaa (qat (vs := z8 32) rfl (by kernel_rfl)) rfl ?_; (try simp only [Act.put, lyy]); replace hM := Lib.hid (hM.out.new (z8 32) 24); generalize a2.alloc (.cells (z8 32).toArray 24) = a3 at *; generalize a2.heap.size = g3 at *
 refine qab ?_
 go_upto_region 2 with fail; refine wp_region_lit ?_
 refine qaa (qae (v := .int _ _) rfl rfl) rfl ?_; (try simp only [Act.put, lyy])
 refine qab ?_
 go_wp2_with fail
 go_loopw [5] (fun s u => ∃ n : Nat, n ≤ 32 ∧ s = .int .i64 (n : Int) ∧ Mv w [(g3, (flB kb n).map b8), (g2, z8 32), (g1, l.map b64)] u) (fun s _ => (32 - intOf s).toNat)
 case atStart => exact ⟨0, by omega, rfl, by rw [flB_zero]; exact hM.out⟩
 case round =>
  obtain ⟨n, hn, rfl, hJ⟩ := hrel
  replace hM := Lib.hid hJ
  clear hJ
  by_cases hlt : n = 32
  ·subst hlt
   have hk1 : ¬ (((32 : Nat) : Int) < 32) := by omega
   rw [flB_all hkl] at hM
   have SZ := Lib.hid (szKy hkl)
   have L1 : Hid ((kb.map b8).length = (z8 32).length) := Lib.hid (by rw [z8_32, List.length_map, hkl])
   go_upto_region 7 with fail; refine wp_region_lit ?_
   refine qaa (qaj (vs := kb.map b8) rfl Tryd.underlying24 rfl SZ.out rfl ((hM.out.get (i := 0) rfl).range)) rfl ?_; (try simp only [Act.put, lyy])
   refine qag (qar (vs := kb.map b8) rfl SZ.out rfl rfl (one8s _) (by rw [L1.out]; exact (hM.out.get (i := 1) rfl).there)) rfl rfl ?_; replace hM := Lib.hid (hM.out.put 1 rfl (m := kb.map b8) (L1.out))
   refine qab ?_; go_wp2_with fail; refine bodyPost_ret (v := .agg (kb.map b8).toArray) (qa8 Tryd.results53 rfl Tryd.underlying24 rfl SZ.out (hM.out.get (i := 1) rfl).range) rfl ⟨rfl, hM.out.bl⟩
  ·have hk1 : (n : Int) < 32 := by omega
   have hn2 : n < 32 := by omega
   have E1 := Lib.hid (HK.out n hn2)
   have FS := Lib.hid (flB_set hkl (n := n) hn2)
   have FL : Hid (n < ((flB kb n).map b8).length) := Lib.hid (by rw [List.length_map, flB_len hkl hn]; omega)
   have HG := Lib.hid (qbv b8 0 (l := flB kb n) (i := n) (by rw [flB_len hkl hn]; omega))
   have HL := Lib.hid (qbv b64 0 (l := l) (i := n / 8) (by omega))
   go_upto_region 4 with fail; refine wp_region_lit ?_
   refine qaa (qae (v := .int _ _) rfl rfl) rfl ?_; (try simp only [Act.put, lyy]); refine qaa (qaf (v := .int _ _) rfl rfl) rfl ?_; (try simp only [Act.put, lyy])
   refine qab ?_
   go_upto_region 5 with fail; refine wp_region_lit ?_
   refine qaa (qae (v := .int _ _) rfl rfl) rfl ?_; (try simp only [Act.put, lyy]); refine qaa (qae (v := .int _ _) rfl rfl) rfl ?_; (try simp only [Act.put, lyy])
   refine qaa (run_quoN (a := n) (b := 8) rfl rfl rfl (by omega) (by omega)) rfl ?_; (try simp only [Act.put, lyy])
   refine qaa (qbk (i := n / 8) rfl Tryd.underlying82 (by kernel_rfl) rfl rfl (by omega)) rfl ?_; (try simp only [Act.put, lyy])
   refine qaa (qbu rfl rfl ((hM.out.get (i := 2) rfl).c _ _ HL.out)) rfl ?_; (try simp only [Act.put, lyy])
   refine qaa (qae (v := .int _ _) rfl rfl) rfl ?_; (try simp only [Act.put, lyy])
   refine qaa (run_remN (a := n) (b := 8) rfl rfl rfl (by omega)) rfl ?_; (try simp only [Act.put, lyy])
   refine qaa (run_mulN (a := n % 8) (b := 8) rfl rfl rfl (by omega)) rfl ?_; (try simp only [Act.put, lyy])
   refine qaa (run_shrW (n := n % 8 * 8) rfl rfl rfl (by omega)) rfl ?_; (try simp only [Act.put, lyy])
   refine qaa (qcf rfl rfl) rfl ?_; (try simp only [Act.put, lyy])
   rw [E1.out]
   refine qaa (qbk (i := n) rfl Tryd.underlying24 (by kernel_rfl) rfl rfl (by omega)) rfl ?_; (try simp only [Act.put, lyy])
   refine qag (run_st8 rfl rfl rfl ((hM.out.get (i := 0) rfl).c n _ HG.out) ((hM.out.get (i := 0) rfl).f n)) rfl rfl ?_
   refine qab ?_
   have hM2 := Lib.hid (hM.out.set 0 rfl FL.out (b8 (kb.getD n 0)))
   rw [FS.out] at hM2
   generalize wr.setCell ⟨g3, n, none⟩ (b8 (kb.getD n 0)) = a8 at *
   clear hM HG FL FS HL
   go_wp2_with fail
   exact ⟨⟨n + 1, by omega, by go_num, hM2.out⟩, by simp [intOf]; omega⟩
theorem enters_sbytes : Enters 53 := qaq Tryd.func53 (by kernel_rfl) rfl
end Go.Proofs.YtcgbgmbnagmohaaDoor
namespace Go.Proofs.YtcgbgmbnagmohaaDoor
open Go.RowKit
set_option maxRecDepth 20000
def rstW (N k : Nat) : List (BitVec 64) := wd (N / 2 ^ k % ell) 4
theorem rstW_len (N k : Nat) : (rstW N k).length = 4 := qc8 _ _
theorem ell_half : 2 * ell + 2 < 2 ^ 256 := by decide +kernel
theorem twice_arith {x b e M : Nat} (hx : x < e) (hb : b < 2) (h : 2 * e + 2 < M) : (2 * (x % M) + b) % M = 2 * x + b := by
 rw [Nat.mod_eq_of_lt (show x < M by omega), Nat.mod_eq_of_lt (by omega)]
theorem rstW_step (N i : Nat) {b : BitVec 64} (hb : b.toNat = N / 2 ^ i % 2) : wd (lessN (lv (shl (rstW N (i + 1)) b))) 4 = rstW N i := by
 have hb2 : b.toNat < 2 := by rw [hb]; exact Nat.mod_lt _ (by omega)
 have hx : N / 2 ^ (i + 1) % ell < ell := Nat.mod_lt _ ell_pos
 rw [lv_shl _ _ (by omega), rstW_len, rstW, lv_wd, show 64 * 4 = 256 by rfl, twice_arith hx hb2 ell_half]
 unfold rstW lessN
 rw [left_step N i rfl (by rw [hb])]
theorem div_part {a b c M : Nat} (h : a = b + M * c) (hb : b < M) : a / M = c := by
 rw [h, Nat.add_mul_div_left _ _ (by omega), Nat.div_eq_of_lt hb, Nat.zero_add]
theorem rstW_start {l : List (BitVec 64)} (hl : l.length = 8) : (l.drop 5) ++ [0] = rstW (lv l) (64 * 5) := by
 unfold rstW
 refine wd_eq (by rw [List.length_append, List.length_drop, hl]; rfl) ?_
 have h1 := lv_drop l 5 (by omega)
 have h2 := lv_lt (l.take 5)
 have h3 := lv_lt (l.drop 5)
 rw [List.length_take, hl, show min 5 8 = 5 by rfl] at h2
 rw [List.length_drop, hl] at h3
 have e := div_part h1 h2
 have h4 : 2 ^ (64 * (8 - 5)) < ell := by decide +kernel
 rw [e, Nat.mod_eq_of_lt (Nat.lt_trans h3 h4), qdu]
 simp [lv]
theorem rstW_end (N : Nat) : rstW N 0 = wd (N % ell) 4 := by unfold rstW; rw [Nat.pow_zero, Nat.div_one]
set_option maxHeartbeats 8000000 in
theorem srest_any (l : List (BitVec 64)) (w : World) (hl : l.length = 8) (hG : SG w) : Calls Tryd.prog 52 #[.agg (l.map b64).toArray] w fun e w' => e = .returned (.agg ((wd (lv l % ell) 4).map b64).toArray) ∧ Below w.heap.size w w' := by
 have HG := Lib.hid hG; clear hG
 obtain ⟨T, hT⟩ : ∃ T, T = rstW (lv l) := ⟨_, rfl⟩
 have TL : Hid (∀ i, (T i).length = 4) := Lib.hid (by rw [hT]; exact rstW_len _)
 have TS : Hid (∀ i, wd (lessN (lv (shl (T (i + 1)) (l.getD (i / 64) 0 >>> (i % 64) &&& 1#64)))) 4 = T i) := Lib.hid (by rw [hT]; exact fun i => rstW_step _ i (bitW_of l i))
 have T0 : Hid (T 320 = (l.drop 5) ++ [0]) := Lib.hid (by rw [hT, rstW_start hl])
 have TE : Hid (T 0 = wd (lv l % ell) 4) := Lib.hid (by rw [hT, rstW_end])
 clear hT
 rw [← TE.out]
 clear TE
 have E0 : Hid ((z64 4).take 0 ++ ((l.drop 5).map b64 ++ (z64 4).drop (0 + ((l.drop 5).map b64).length)) = (T 320).map b64) := Lib.hid (by
  rw [T0.out, List.length_map, List.length_drop, hl, List.map_append]; rfl)
 have LD : Hid (((l.drop 5).map b64).length = 3) := Lib.hid (by rw [List.length_map, List.length_drop, hl])
 have RD : Hid (∀ (V : World) (g : Nat), Arr g (l.map b64) V → V.rangeAt g (0 + 5) ((l.drop 5).map b64)) := Lib.hid fun V g h => by rw [List.map_drop]; exact qcd h.range
 have OD := Lib.hid (one64v (l.drop 5))
 generalize (l.drop 5).map b64 = D at *
 clear T0
 have hM := Lib.hid (Mv.nil w)
 go_enter Tryd.func52, Tryd.ntmps52
 go_upto_region 0 with fail; refine wp_region_lit ?_
 refine qaa (qau (vs := l.map b64) rfl rfl) rfl ?_; (try simp only [Act.put, lyy]); replace hM := Lib.hid (hM.out.new (l.map b64) 84); generalize w.alloc (.cells (l.map b64).toArray 84) = a1 at *; generalize w.heap.size = g1 at *
 refine qaa (qat (vs := z64 4) rfl (by kernel_rfl)) rfl ?_; (try simp only [Act.put, lyy]); replace hM := Lib.hid (hM.out.new (z64 4) 82); generalize a1.alloc (.cells (z64 4).toArray 82) = a2 at *; generalize a1.heap.size = g2 at *
 refine qab ?_
 go_upto_region 1 with fail; refine wp_region_lit ?_
 refine qaa (qat (vs := z64 4) rfl (by kernel_rfl)) rfl ?_; (try simp only [Act.put, lyy]); replace hM := Lib.hid (hM.out.new (z64 4) 82); generalize a2.alloc (.cells (z64 4).toArray 82) = a3 at *; generalize a2.heap.size = g3 at *
 refine qab ?_
 go_upto_region 2 with fail; refine qbf 2 (by kernel_rfl) (by kernel_rfl) ?_
 refine qad _ (fun V hV => qai (qds rfl Tryd.underlying82 (by kernel_rfl) rfl)) ?_; (try simp only [Act.put, lyy])
 refine qad _ (fun V hV => qai (run_slWl (l := 5) rfl Tryd.underlying84 (by kernel_rfl) rfl rfl (by omega))) ?_; (try simp only [Act.put, lyy])
 refine qbh ?_; intro a4 hb; simp only [List.drop_succ_cons, List.drop_zero]
 replace hM := Lib.hid (hM.out.below hb)
 clear hb
 refine qaa (run_cpyV (vs := D) (l := z64 4) rfl Tryd.underlying114 (by kernel_rfl) rfl rfl (RD.out _ _ (hM.out.get (i := 2) rfl)) (by rw [LD.out]; rfl) (hM.out.get (i := 0) rfl) (by rw [LD.out, z64_len]; omega) OD.out) rfl ?_; (try simp only [Act.put, lyy])
 refine qab ?_
 replace hM := Lib.hid (hM.out.mid 0 rfl (f := 0) (m := D) (by rw [LD.out, z64_len]; omega))
 rw [E0.out] at hM
 generalize a4.setCells g3 0 D = a5 at *
 go_upto_region 3 with fail; refine wp_region_lit ?_
 refine qaa (qaf (v := .int _ _) rfl rfl) rfl ?_; (try simp only [Act.put, lyy])
 refine qab ?_
 go_wp2_with fail
 go_loopw [4] (fun s u => ∃ k : Nat, k ≤ 320 ∧ s = .int .i64 ((k : Int) - 1) ∧ Mv w [(g3, (T k).map b64), (g2, z64 4), (g1, l.map b64)] u) (fun s _ => (intOf s + 1).toNat)
 case atStart => exact ⟨320, by omega, rfl, hM.out⟩
 case round =>
  obtain ⟨k, hk, rfl, hJ⟩ := hrel
  replace hM := Lib.hid hJ
  clear hJ
  rcases Nat.eq_zero_or_pos k with rfl | hpos
  ·have hk1 : ¬ ((0 : Int) ≤ ((0 : Nat) : Int) - 1) := by omega
   have SZ := Lib.hid (szS4 (TL.out 0))
   have L1 : Hid (((T 0).map b64).length = (z64 4).length) := Lib.hid (by rw [List.length_map, TL.out]; rfl)
   go_upto_region 8 with fail; refine wp_region_lit ?_
   refine qaa (qaj (vs := (T 0).map b64) rfl Tryd.underlying82 rfl SZ.out rfl ((hM.out.get (i := 0) rfl).range)) rfl ?_; (try simp only [Act.put, lyy])
   refine qag (qar (vs := (T 0).map b64) rfl SZ.out rfl rfl (one64s _) (by rw [L1.out]; exact (hM.out.get (i := 1) rfl).there)) rfl rfl ?_; replace hM := Lib.hid (hM.out.put 1 rfl (m := (T 0).map b64) (L1.out))
   refine qab ?_; go_wp2_with fail; refine bodyPost_ret (v := .agg ((T 0).map b64).toArray) (qa8 Tryd.results52 rfl Tryd.underlying82 rfl SZ.out (hM.out.get (i := 1) rfl).range) rfl ⟨rfl, hM.out.bl⟩
  ·obtain ⟨i, rfl⟩ : ∃ i, k = i + 1 := ⟨k - 1, by omega⟩
   have hk1 : (0 : Int) ≤ ((i + 1 : Nat) : Int) - 1 := by omega
   have ei : ((i + 1 : Nat) : Int) - 1 = (i : Int) := by omega
   have hi : i < 320 := by omega
   have HL := Lib.hid (qbv b64 0 (l := l) (i := i / 64) (by omega))
   have TN := Lib.hid (TS.out i)
   have hT1 := TL.out (i + 1)
   have hT0 := TL.out i
   generalize T (i + 1) = X at *
   generalize hTi : T i = Y at *
   have ETi := Lib.hid hTi
   clear hTi
   generalize l.getD (i / 64) 0 = x at *
   have hXl : (shl X (x >>> (i % 64) &&& 1#64)).length = 4 := by rw [shl_len, hT1]
   have LX : Hid (((shl X (x >>> (i % 64) &&& 1#64)).map b64).length = (X.map b64).length) := Lib.hid (by rw [List.length_map, List.length_map, shl_len])
   have SX := Lib.hid (szS4 hXl)
   have SY := Lib.hid (szS4 hT0)
   have LY : Hid ((Y.map b64).length = ((shl X (x >>> (i % 64) &&& 1#64)).map b64).length) := Lib.hid (by rw [List.length_map, List.length_map, hT0, hXl])
   have CL : Hid (∀ u : World, SG u → Calls Tryd.prog 75 #[.agg ((shl X (x >>> (i % 64) &&& 1#64)).map b64).toArray] u fun e w' => e = .returned (.agg (Y.map b64).toArray) ∧ Below u.heap.size u w') := Lib.hid fun u h => by rw [← TN.out]; exact sless_any _ u hXl h
   rw [ei]
   go_upto_region 6 with fail
   refine wp_region_noPanic ?_; refine qay (S := Till 9 (fun V => Below wr.heap.size wr V)) (by kernel_rfl) (.inr (Below.refl _ _).drew) (fun _ => ?_); have hS : Below wr.heap.size wr wr.drew := (Below.refl _ _).drew
   refine qak 0 rfl rfl (by kernel_rfl) (by kernel_rfl) (by kernel_rfl) (by kernel_rfl) (by kernel_rfl) (fun _ _ _ h => h) rfl (fun V hV => qds rfl Tryd.underlying82 (by kernel_rfl) rfl) hS ?_; (try simp only [Act.put, lyy])
   refine qak 1 rfl rfl (by kernel_rfl) (by kernel_rfl) (by kernel_rfl) (by kernel_rfl) (by kernel_rfl) (fun _ _ _ h => h) rfl (fun V hV => qae (v := .int _ _) rfl rfl) hS ?_; (try simp only [Act.put, lyy])
   refine qak 2 rfl rfl (by kernel_rfl) (by kernel_rfl) (by kernel_rfl) (by kernel_rfl) (by kernel_rfl) (fun _ _ _ h => h) rfl (fun V hV => run_quoN (a := i) (b := 64) rfl rfl rfl (by omega) (by omega)) hS ?_; (try simp only [Act.put, lyy])
   refine qak 3 rfl rfl (by kernel_rfl) (by kernel_rfl) (by kernel_rfl) (by kernel_rfl) (by kernel_rfl) (fun _ _ _ h => h) rfl (fun V hV => qbk (i := i / 64) rfl Tryd.underlying84 (by kernel_rfl) rfl rfl (by omega)) hS ?_; (try simp only [Act.put, lyy])
   refine qak 4 rfl rfl (by kernel_rfl) (by kernel_rfl) (by kernel_rfl) (by kernel_rfl) (by kernel_rfl) (fun _ _ _ h => h) rfl (fun V hV => qbu rfl rfl (((hM.out.below hV).get (i := 2) rfl).c _ _ HL.out)) hS ?_; (try simp only [Act.put, lyy])
   refine qak 5 rfl rfl (by kernel_rfl) (by kernel_rfl) (by kernel_rfl) (by kernel_rfl) (by kernel_rfl) (fun _ _ _ h => h) rfl (fun V hV => qae (v := .int _ _) rfl rfl) hS ?_; (try simp only [Act.put, lyy])
   refine qak 6 rfl rfl (by kernel_rfl) (by kernel_rfl) (by kernel_rfl) (by kernel_rfl) (by kernel_rfl) (fun _ _ _ h => h) rfl (fun V hV => run_remN (a := i) (b := 64) rfl rfl rfl (by omega)) hS ?_; (try simp only [Act.put, lyy])
   refine qak 7 rfl rfl (by kernel_rfl) (by kernel_rfl) (by kernel_rfl) (by kernel_rfl) (by kernel_rfl) (fun _ _ _ h => h) rfl (fun V hV => run_shrW (n := i % 64) rfl rfl rfl (by omega)) hS ?_; (try simp only [Act.put, lyy])
   refine qak 8 rfl rfl (by kernel_rfl) (by kernel_rfl) (by kernel_rfl) (by kernel_rfl) (by kernel_rfl) (fun _ _ _ h => h) rfl (fun V hV => qb2 (b := 1#64) rfl rfl rfl) hS ?_; (try simp only [Act.put, lyy])
   replace hM := Lib.hid (hM.out.below hS)
   generalize wr.drew = a6 at *
   refine wpAnyD_callD 9 (by kernel_rfl) rfl rfl rfl (qao enters_shift rfl rfl rfl rfl) (shift_any X _ _ 4 _ hT1 (by omega) (hM.out.get (i := 0) rfl)) (by kernel_rfl) (fun v9 a7 hR => ?_); (try simp only [Act.put, lyy])
   refine qa2 (by kernel_rfl) ?_ _; refine NoPanic.normal ?_
   generalize shl X (x >>> (i % 64) &&& 1#64) = Z at *
   subst hR
   replace hM := Lib.hid (hM.out.put 0 rfl (m := Z.map b64) LX.out)
   generalize a6.setCells g3 0 (Z.map b64) = a7 at *
   clear hS
   go_upto_region 7 with fail; refine wp_region_lit ?_
   refine qaa (qaj (vs := Z.map b64) rfl Tryd.underlying82 rfl SX.out rfl ((hM.out.get (i := 0) rfl).range)) rfl ?_; (try simp only [Act.put, lyy])
   refine qam (qap enters_sless rfl rfl rfl) rfl (CL.out _ (HG.out.below hM.out.bl)) (fun a8 hb => ?_); (try simp only [Act.put, lyy]); replace hM := Lib.hid (hM.out.below hb); clear hb
   refine qag (qar (vs := Y.map b64) rfl SY.out rfl rfl (one64s _) (by rw [LY.out]; exact (hM.out.get (i := 0) rfl).there)) rfl rfl ?_; replace hM := Lib.hid (hM.out.put 0 rfl (m := Y.map b64) (LY.out))
   refine qab ?_
   generalize a8.setCells g3 0 (Y.map b64) = a9 at *
   go_wp2_with fail
   exact ⟨⟨i, by omega, by go_num, by rw [ETi.out]; exact hM.out⟩, by simp [intOf]⟩
theorem enters_srest : Enters 52 := qaq Tryd.func52 (by kernel_rfl) rfl
end Go.Proofs.YtcgbgmbnagmohaaDoor
namespace Go.Proofs.YtcgbgmbnagmohaaDoor
open Go.RowKit
set_option maxRecDepth 20000
theorem lv_key {k : List (BitVec 8)} (hk : k.length = 32) : lv (wd (leB k) 4) = leB k := by
 have h := leB_lt k
 rw [hk] at h
 have e : (256 : Nat) ^ 32 = 2 ^ (64 * 4) := by decide +kernel
 rw [lv_wd, Nat.mod_eq_of_lt (by rw [← e]; exact h)]
theorem sk_word {n : Nat} (h : n < ell) : sk (lv (wd n 4)) = sk n := by
 have e : (256 : Nat) ^ 32 = 2 ^ (64 * 4) := by decide +kernel
 rw [lv_wd, Nat.mod_eq_of_lt (by rw [← e]; exact Nat.lt_trans h ell_lt)]
theorem mad_fits {a b c X : Nat} (ha : a < X) (hb : b < X) (hc : c < X) : c + a * b < X * X := by
 have h1 : a * b ≤ (X - 1) * (X - 1) := Nat.mul_le_mul (by omega) (by omega)
 obtain ⟨x, rfl⟩ : ∃ x, X = x + 1 := ⟨X - 1, by omega⟩
 have e : (x + 1) * (x + 1) = x * x + 2 * x + 1 := by rw [Nat.add_mul, Nat.mul_add]; omega
 rw [Nat.add_sub_cancel] at h1
 omega
theorem mad_pow {n k e : Nat} (h : n < 2 ^ e * 2 ^ e) (hk : 64 * k = e + e) : n < 2 ^ (64 * k) := by
 rw [hk, Nat.pow_add]; exact h
theorem pow_256 (m : Nat) : 256 ^ m = 2 ^ (8 * m) := by rw [Nat.pow_mul]
theorem mad_wd {n k E : Nat} (h : n < 2 ^ (64 * k)) (hE : E = 64 * k) : lv (wd (n % 2 ^ E) k) = n := by
 subst hE
 rw [Nat.mod_eq_of_lt h, lv_wd, Nat.mod_eq_of_lt h]
theorem mad_wordsE (a b c : List (BitVec 8)) {m k E : Nat} (ha : a.length = m) (hb : b.length = m) (hc : c.length = m) (hk : 64 * k = 8 * m + 8 * m) (hE : E = 64 * k) : lv (wd ((leB c + leB a * leB b) % 2 ^ E) k) = leB a * leB b + leB c := by
 have h1 := leB_lt a
 have h2 := leB_lt b
 have h3 := leB_lt c
 rw [ha, pow_256] at h1
 rw [hb, pow_256] at h2
 rw [hc, pow_256] at h3
 rw [Nat.add_comm (leB a * leB b)]
 exact mad_wd (mad_pow (mad_fits h1 h2 h3) hk) hE
theorem mad_words (a b c : List (BitVec 8)) (ha : a.length = 32) (hb : b.length = 32) (hc : c.length = 32) : lv (wd ((leB c + leB a * leB b) % 2 ^ 512) 8) = leB a * leB b + leB c :=
 mad_wordsE (m := 32) (k := 8) (E := 512) a b c ha hb hc (by decide) (by decide)
set_option maxHeartbeats 8000000 in
theorem scanon_any (k : List (BitVec 8)) (w : World) (hk : k.length = 32) (hG : SG w) : Calls Tryd.prog 38 #[.agg (k.map b8).toArray] w fun e w' => e = .returned (.bool (decide (leB k < ell))) ∧ Below w.heap.size w w' := by
 have HG := Lib.hid hG; clear hG
 have hkl := qc8 (leB k) 4
 have hol := qc8 ell 4
 have CR : Hid (∀ u : World, Calls Tryd.prog 50 #[.agg (k.map b8).toArray] u fun e w' => e = .returned (.agg ((wd (leB k) 4).map b64).toArray) ∧ Below u.heap.size u w') := Lib.hid fun u => sread_any k u hk
 have CM : Hid (∀ u : World, Calls Tryd.prog 54 #[.agg ((wd (leB k) 4).map b64).toArray, .agg ((wd ell 4).map b64).toArray] u fun e w' => e = .returned (.tuple #[.agg ((wd ((lv (wd (leB k) 4) + 2 ^ 256 - lv (wd ell 4)) % 2 ^ 256) 4).map b64).toArray, b64 (if lv (wd (leB k) 4) < lv (wd ell 4) then 1 else 0)]) ∧ Below u.heap.size u w') := Lib.hid fun u => sminus_any _ _ u hkl hol
 rw [lv_ell, lv_key hk] at CM
 have HE : Hid (decide ((if leB k < ell then (1 : BitVec 64) else 0) = 1) = decide (leB k < ell)) := Lib.hid (by
  by_cases h : leB k < ell
  ·simp [h]
  ·simp [h])
 have hRl := qc8 ((leB k + 2 ^ 256 - ell) % 2 ^ 256) 4
 have RO : Hid (∀ V, SG V → V.rangeAt 0 0 ((wd ell 4).map b64)) := Lib.hid fun V h => h.r
 generalize wd ((leB k + 2 ^ 256 - ell) % 2 ^ 256) 4 = R at *
 generalize wd ell 4 = O at *
 generalize wd (leB k) 4 = K at *
 generalize (if leB k < ell then (1 : BitVec 64) else 0) = C at *
 generalize decide (leB k < ell) = res at *
 have SO := Lib.hid (szS4 hol)
 have SR := Lib.hid (szS4 hRl)
 have SK := Lib.hid (szKy hk)
 have LR : Hid ((R.map b64).length = (z64 4).length) := Lib.hid (by rw [List.length_map, hRl]; rfl)
 have hM := Lib.hid (Mv.nil w)
 go_enter Tryd.func38, Tryd.ntmps38
 go_upto_region 0 with fail; refine wp_region_lit ?_
 refine qaa (qau (vs := k.map b8) rfl rfl) rfl ?_; (try simp only [Act.put, lyy]); replace hM := Lib.hid (hM.out.new (k.map b8) 24); generalize w.alloc (.cells (k.map b8).toArray 24) = a1 at *; generalize w.heap.size = g1 at *
 refine qaa (qaf (v := .bool _) rfl rfl) rfl ?_; (try simp only [Act.put, lyy])
 refine qab ?_
 go_upto_region 1 with fail
 go_cut [4] (fun s4 u => s4 = b64 C ∧ Below w.heap.size w u)
 case first =>
  have hD : Hid (∀ V, Below a1.heap.size a1 V → V.rangeAt 0 0 (O.map b64)) := Lib.hid fun V hV => RO.out _ (HG.out.below (hM.out.below hV).bl)
  refine wp_region_noPanic ?_; refine qay (S := fun _ V => Below a1.heap.size a1 V) (by kernel_rfl) ((Below.refl _ _).drew) (fun hS => ?_)
  refine qac 0 rfl rfl (by kernel_rfl) (by kernel_rfl) (by kernel_rfl) (fun _ _ _ h => h) rfl (fun V hV => qaj (vs := k.map b8) rfl Tryd.underlying24 rfl SK.out rfl ((hM.out.below hV).get (i := 0) rfl).range) hS ?_; (try simp only [Act.put, lyy])
  refine qac 2 rfl rfl (by kernel_rfl) (by kernel_rfl) (by kernel_rfl) (fun _ _ _ h => h) rfl (fun V hV => qaj (vs := O.map b64) rfl Tryd.underlying82 rfl SO.out rfl (hD.out V hV)) hS ?_; (try simp only [Act.put, lyy])
  generalize a1.drew = aX at *
  refine qdl 1 7 (by kernel_rfl) ?_ ?_
  ·refine wpOp_call 1 rfl rfl rfl (qap qc5 rfl rfl rfl) (qbq (CR.out _)) (fun v c1 hR => ?_); (try simp only [Act.put, lyy])
   obtain ⟨rfl, hb⟩ := hR
   replace hS := hS.trans (hb.mono hS.size)
   clear hb
   refine ⟨hS, ?_⟩
   refine qdl 3 7 (by kernel_rfl) ?_ ?_
   ·refine wpOp_call 3 rfl rfl rfl (qao enters_sminus rfl rfl rfl rfl) (qbq (CM.out _)) (fun v c2 hR => ?_); (try simp only [Act.put, lyy])
    obtain ⟨rfl, hb⟩ := hR
    replace hS := hS.trans (hb.mono hS.size)
    clear hb
    refine ⟨hS, ?_⟩
    refine qac 4 rfl rfl (by kernel_rfl) (by kernel_rfl) (by kernel_rfl) (fun _ _ _ h => h) rfl (fun V hV => qae (v := .tuple #[.agg (R.map b64).toArray, b64 C]) rfl rfl) hS ?_; (try simp only [Act.put, lyy])
    refine qac 5 rfl rfl (by kernel_rfl) (by kernel_rfl) (by kernel_rfl) (fun _ _ _ h => h) rfl (fun V hV => qbt (v := .agg (R.map b64).toArray) rfl rfl rfl) hS ?_; (try simp only [Act.put, lyy])
    refine qac 6 rfl rfl (by kernel_rfl) (by kernel_rfl) (by kernel_rfl) (fun _ _ _ h => h) rfl (fun V hV => qbt (v := b64 C) rfl rfl rfl) hS ?_; (try simp only [Act.put, lyy])
    refine wpAnyL_val 7 (by kernel_rfl) rfl rfl rfl (qat (vs := z64 4) rfl (by kernel_rfl)) (hS.alloc hS.size _) ?_; (try simp only [Act.put, lyy])
    have A1 := Lib.hid (Arr.new c2 (z64 4) 82)
    have hg := hS.size
    replace hS := hS.alloc hg (.cells (z64 4).toArray 82)
    generalize c2.alloc (.cells (z64 4).toArray 82) = d_c2 at *
    generalize c2.heap.size = g at *
    refine qbo 8 (by kernel_rfl) rfl rfl rfl (qar (vs := R.map b64) rfl SR.out rfl rfl (one64s _) (by rw [LR.out]; exact A1.out.there)) (qa1 hg _ _ hS) ?_
    replace hS := qa1 hg (R.map b64) 0 hS
    refine qac 9 rfl rfl (by kernel_rfl) (by kernel_rfl) (by kernel_rfl) (fun _ _ _ h => h) rfl (fun V hV => qaf (v := b64 C) rfl rfl) hS ?_; (try simp only [Act.put, lyy])
    refine qa2 (by kernel_rfl) ?_ _; refine NoPanic.normal ?_
    go_wp2_with fail
    go_meet
    exact ⟨rfl, hM.out.bl.trans (hS.mono hM.out.bl.size)⟩
   ·refine wpOp_val 7 rfl rfl rfl (qat (vs := z64 4) rfl (by kernel_rfl)) ?_; (try simp only [Act.put, lyy])
    have A1 := Lib.hid (Arr.new c1 (z64 4) 82)
    have hg := hS.size
    replace hS := hS.alloc hg (.cells (z64 4).toArray 82)
    generalize c1.alloc (.cells (z64 4).toArray 82) = d_c1 at *
    generalize c1.heap.size = g at *
    refine ⟨hS, ?_⟩
    refine qbi 3 (by kernel_rfl) rfl rfl rfl (qao enters_sminus rfl rfl rfl rfl) (qbq (CM.out _)) (fun v w h => hS.trans (h.2.mono hS.size)) (fun v c3 hR => ?_); (try simp only [Act.put, lyy])
    obtain ⟨rfl, hb⟩ := hR
    replace hS := hS.trans (hb.mono hS.size)
    replace A1 := Lib.hid (A1.out.below hb)
    clear hb
    refine qac 4 rfl rfl (by kernel_rfl) (by kernel_rfl) (by kernel_rfl) (fun _ _ _ h => h) rfl (fun V hV => qae (v := .tuple #[.agg (R.map b64).toArray, b64 C]) rfl rfl) hS ?_; (try simp only [Act.put, lyy])
    refine qac 5 rfl rfl (by kernel_rfl) (by kernel_rfl) (by kernel_rfl) (fun _ _ _ h => h) rfl (fun V hV => qbt (v := .agg (R.map b64).toArray) rfl rfl rfl) hS ?_; (try simp only [Act.put, lyy])
    refine qac 6 rfl rfl (by kernel_rfl) (by kernel_rfl) (by kernel_rfl) (fun _ _ _ h => h) rfl (fun V hV => qbt (v := b64 C) rfl rfl rfl) hS ?_; (try simp only [Act.put, lyy])
    refine qbo 8 (by kernel_rfl) rfl rfl rfl (qar (vs := R.map b64) rfl SR.out rfl rfl (one64s _) (by rw [LR.out]; exact A1.out.there)) (qa1 hg _ _ hS) ?_
    replace hS := qa1 hg (R.map b64) 0 hS
    refine qac 9 rfl rfl (by kernel_rfl) (by kernel_rfl) (by kernel_rfl) (fun _ _ _ h => h) rfl (fun V hV => qaf (v := b64 C) rfl rfl) hS ?_; (try simp only [Act.put, lyy])
    refine qa2 (by kernel_rfl) ?_ _; refine NoPanic.normal ?_
    go_wp2_with fail
    go_meet
    exact ⟨rfl, hM.out.bl.trans (hS.mono hM.out.bl.size)⟩
  ·refine wpOp_val 7 rfl rfl rfl (qat (vs := z64 4) rfl (by kernel_rfl)) ?_; (try simp only [Act.put, lyy])
   have A1 := Lib.hid (Arr.new aX (z64 4) 82)
   have hg := hS.size
   replace hS := hS.alloc hg (.cells (z64 4).toArray 82)
   generalize aX.alloc (.cells (z64 4).toArray 82) = d_aX at *
   generalize aX.heap.size = g at *
   refine ⟨hS, ?_⟩
   refine qbi 1 (by kernel_rfl) rfl rfl rfl (qap qc5 rfl rfl rfl) (qbq (CR.out _)) (fun v w h => hS.trans (h.2.mono hS.size)) (fun v c4 hR => ?_); (try simp only [Act.put, lyy])
   obtain ⟨rfl, hb⟩ := hR
   replace hS := hS.trans (hb.mono hS.size)
   replace A1 := Lib.hid (A1.out.below hb)
   clear hb
   refine qbi 3 (by kernel_rfl) rfl rfl rfl (qao enters_sminus rfl rfl rfl rfl) (qbq (CM.out _)) (fun v w h => hS.trans (h.2.mono hS.size)) (fun v c5 hR => ?_); (try simp only [Act.put, lyy])
   obtain ⟨rfl, hb⟩ := hR
   replace hS := hS.trans (hb.mono hS.size)
   replace A1 := Lib.hid (A1.out.below hb)
   clear hb
   refine qac 4 rfl rfl (by kernel_rfl) (by kernel_rfl) (by kernel_rfl) (fun _ _ _ h => h) rfl (fun V hV => qae (v := .tuple #[.agg (R.map b64).toArray, b64 C]) rfl rfl) hS ?_; (try simp only [Act.put, lyy])
   refine qac 5 rfl rfl (by kernel_rfl) (by kernel_rfl) (by kernel_rfl) (fun _ _ _ h => h) rfl (fun V hV => qbt (v := .agg (R.map b64).toArray) rfl rfl rfl) hS ?_; (try simp only [Act.put, lyy])
   refine qac 6 rfl rfl (by kernel_rfl) (by kernel_rfl) (by kernel_rfl) (fun _ _ _ h => h) rfl (fun V hV => qbt (v := b64 C) rfl rfl rfl) hS ?_; (try simp only [Act.put, lyy])
   refine qbo 8 (by kernel_rfl) rfl rfl rfl (qar (vs := R.map b64) rfl SR.out rfl rfl (one64s _) (by rw [LR.out]; exact A1.out.there)) (qa1 hg _ _ hS) ?_
   replace hS := qa1 hg (R.map b64) 0 hS
   refine qac 9 rfl rfl (by kernel_rfl) (by kernel_rfl) (by kernel_rfl) (fun _ _ _ h => h) rfl (fun V hV => qaf (v := b64 C) rfl rfl) hS ?_; (try simp only [Act.put, lyy])
   refine qa2 (by kernel_rfl) ?_ _; refine NoPanic.normal ?_
   go_wp2_with fail
   go_meet
   exact ⟨rfl, hM.out.bl.trans (hS.mono hM.out.bl.size)⟩
 case rest =>
  obtain ⟨rfl, bl⟩ := hcut
  generalize hw7 : wc = a7 at *
  clear hw7
  go_upto_region 2 with fail; refine wp_region_lit ?_
  refine qaa (qae (v := b64 _) rfl rfl) rfl ?_; (try simp only [Act.put, lyy])
  refine qaa (run_eqW rfl rfl rfl HE.out) rfl ?_; (try simp only [Act.put, lyy])
  refine qaa (qaf (v := .bool _) rfl rfl) rfl ?_; (try simp only [Act.put, lyy])
  refine qab ?_
  go_wp2_with fail
  go_ret
  exact ⟨rfl, bl⟩
theorem enters_scanon : Enters 38 := qaq Tryd.func38 (by kernel_rfl) rfl
set_option maxHeartbeats 8000000 in
theorem smad_any (a b c : List (BitVec 8)) (w : World) (ha : a.length = 32) (hb : b.length = 32) (hc : c.length = 32) (hG : SG w) : Calls Tryd.prog 36 #[.agg (a.map b8).toArray, .agg (b.map b8).toArray, .agg (c.map b8).toArray] w fun e w' => e = .returned (.agg ((sk ((leB a * leB b + leB c) % ell)).map b8).toArray) ∧ Below w.heap.size w w' := by
 have HG := Lib.hid hG; clear hG
 obtain ⟨A, hA⟩ : ∃ A, A = wd (leB a) 4 := ⟨_, rfl⟩
 obtain ⟨B, hB⟩ : ∃ B, B = wd (leB b) 4 := ⟨_, rfl⟩
 obtain ⟨C, hC⟩ : ∃ C, C = wd (leB c) 4 := ⟨_, rfl⟩
 have lA : A.length = 4 := by rw [hA]; exact qc8 _ _
 have lB : B.length = 4 := by rw [hB]; exact qc8 _ _
 have lC : C.length = 4 := by rw [hC]; exact qc8 _ _
 have CA : Hid (∀ u : World, Calls Tryd.prog 50 #[.agg (a.map b8).toArray] u fun e w' => e = .returned (.agg (A.map b64).toArray) ∧ Below u.heap.size u w') := Lib.hid fun u => by rw [hA]; exact sread_any a u ha
 have CB : Hid (∀ u : World, Calls Tryd.prog 50 #[.agg (b.map b8).toArray] u fun e w' => e = .returned (.agg (B.map b64).toArray) ∧ Below u.heap.size u w') := Lib.hid fun u => by rw [hB]; exact sread_any b u hb
 have CC : Hid (∀ u : World, Calls Tryd.prog 50 #[.agg (c.map b8).toArray] u fun e w' => e = .returned (.agg (C.map b64).toArray) ∧ Below u.heap.size u w') := Lib.hid fun u => by rw [hC]; exact sread_any c u hc
 have lJ : (C ++ List.replicate 4 0).length = 8 := by rw [List.length_append, lC]; rfl
 have CJ : Hid (∀ u : World, Calls Tryd.prog 49 #[.agg (C.map b64).toArray, .agg ((List.replicate 4 (0 : BitVec 64)).map b64).toArray] u fun e w' => e = .returned (.agg ((C ++ List.replicate 4 0).map b64).toArray) ∧ Below u.heap.size u w') := Lib.hid fun u => sjoin_any C (List.replicate 4 0) u lC rfl
 have eJ : lv (C ++ List.replicate 4 0) = leB c := by rw [qdu, show lv (List.replicate 4 0) = 0 by decide, Nat.mul_zero, Nat.add_zero, hC, lv_key hc]
 have eN : lv (wd ((leB c + leB a * leB b) % 2 ^ 512) 8) = leB a * leB b + leB c := mad_words a b c ha hb hc
 have CT : Hid (∀ u : World, Calls Tryd.prog 51 #[.agg ((C ++ List.replicate 4 0).map b64).toArray, .agg (A.map b64).toArray, .agg (B.map b64).toArray] u fun e w' => e = .returned (.agg ((wd ((leB c + leB a * leB b) % 2 ^ 512) 8).map b64).toArray) ∧ Below u.heap.size u w') := Lib.hid fun u => by
  have h := stimes_any (C ++ List.replicate 4 0) A B u lJ lA lB
  rwa [eJ, hA, hB, lv_key ha, lv_key hb, ← hA, ← hB] at h
 have CR : Hid (∀ u : World, SG u → Calls Tryd.prog 52 #[.agg ((wd ((leB c + leB a * leB b) % 2 ^ 512) 8).map b64).toArray] u fun e w' => e = .returned (.agg ((wd ((leB a * leB b + leB c) % ell) 4).map b64).toArray) ∧ Below u.heap.size u w') := Lib.hid fun u h => by
  have h := srest_any (wd ((leB c + leB a * leB b) % 2 ^ 512) 8) u (qc8 _ _) h
  rwa [eN] at h
 have CY : Hid (∀ u : World, Calls Tryd.prog 53 #[.agg ((wd ((leB a * leB b + leB c) % ell) 4).map b64).toArray] u fun e w' => e = .returned (.agg ((sk ((leB a * leB b + leB c) % ell)).map b8).toArray) ∧ Below u.heap.size u w') := Lib.hid fun u => by
  have h := sbytes_any (wd ((leB a * leB b + leB c) % ell) 4) u (qc8 _ _)
  rwa [sk_word (Nat.mod_lt _ ell_pos)] at h
 have hkl := sk_len ((leB a * leB b + leB c) % ell)
 clear hA hB hC eJ eN lJ
 generalize sk ((leB a * leB b + leB c) % ell) = kb at *
 generalize wd ((leB a * leB b + leB c) % ell) 4 = Y at *
 generalize wd ((leB c + leB a * leB b) % 2 ^ 512) 8 = N at *
 generalize C ++ List.replicate 4 0 = J at *
 have BD := Lib.hid build4
 generalize (List.replicate 4 (0 : BitVec 64)).map b64 = Z4 at *
 have SA := Lib.hid (szKy ha)
 have SB := Lib.hid (szKy hb)
 have SC := Lib.hid (szKy hc)
 have SZ := Lib.hid (szKy hkl)
 have L1 : Hid ((kb.map b8).length = (z8 32).length) := Lib.hid (by rw [z8_32, List.length_map, hkl])
 have hM := Lib.hid (Mv.nil w)
 go_enter Tryd.func36, Tryd.ntmps36
 go_upto_region 0 with fail; refine wp_region_lit ?_
 refine qaa (qau (vs := a.map b8) rfl rfl) rfl ?_; (try simp only [Act.put, lyy]); replace hM := Lib.hid (hM.out.new (a.map b8) 24); generalize w.alloc (.cells (a.map b8).toArray 24) = a1 at *; generalize w.heap.size = g1 at *
 refine qaa (qau (vs := b.map b8) rfl rfl) rfl ?_; (try simp only [Act.put, lyy]); replace hM := Lib.hid (hM.out.new (b.map b8) 24); generalize a1.alloc (.cells (b.map b8).toArray 24) = a2 at *; generalize a1.heap.size = g2 at *
 refine qaa (qau (vs := c.map b8) rfl rfl) rfl ?_; (try simp only [Act.put, lyy]); replace hM := Lib.hid (hM.out.new (c.map b8) 24); generalize a2.alloc (.cells (c.map b8).toArray 24) = a3 at *; generalize a2.heap.size = g3 at *
 refine qaa (qat (vs := z8 32) rfl (by kernel_rfl)) rfl ?_; (try simp only [Act.put, lyy]); replace hM := Lib.hid (hM.out.new (z8 32) 24); generalize a3.alloc (.cells (z8 32).toArray 24) = a4 at *; generalize a3.heap.size = g4 at *
 refine qab ?_
 have hD : Hid (∀ V, Below a4.heap.size a4 V → SG V) := Lib.hid fun V hV => HG.out.below (hM.out.below hV).bl
 go_upto_region 1 with fail; refine qbf 11 (by kernel_rfl) (by kernel_rfl) ?_
 refine qad _ (fun V hV => qai (qaj (vs := c.map b8) rfl Tryd.underlying24 rfl SC.out rfl (((hM.out.below hV).get (i := 1) rfl).range))) ?_; (try simp only [Act.put, lyy])
 refine qad _ (fun V hV => qax (qap qc5 rfl rfl rfl) (CC.out V)) ?_; (try simp only [Act.put, lyy])
 refine qad _ (fun V hV => qai (run_bldW0 (cells := Z4.toArray) rfl BD.out)) ?_; (try simp only [Act.put, lyy])
 refine qad _ (fun V hV => qax (qao enters_sjoin rfl rfl rfl rfl) (CJ.out V)) ?_; (try simp only [Act.put, lyy])
 refine qad _ (fun V hV => qai (qaj (vs := a.map b8) rfl Tryd.underlying24 rfl SA.out rfl (((hM.out.below hV).get (i := 3) rfl).range))) ?_; (try simp only [Act.put, lyy])
 refine qad _ (fun V hV => qax (qap qc5 rfl rfl rfl) (CA.out V)) ?_; (try simp only [Act.put, lyy])
 refine qad _ (fun V hV => qai (qaj (vs := b.map b8) rfl Tryd.underlying24 rfl SB.out rfl (((hM.out.below hV).get (i := 2) rfl).range))) ?_; (try simp only [Act.put, lyy])
 refine qad _ (fun V hV => qax (qap qc5 rfl rfl rfl) (CB.out V)) ?_; (try simp only [Act.put, lyy])
 refine qad _ (fun V hV => qax (qbx enters_stimes rfl rfl rfl rfl rfl) (CT.out V)) ?_; (try simp only [Act.put, lyy])
 refine qad _ (fun V hV => qax (qap enters_srest rfl rfl rfl) (CR.out V (hD.out V hV))) ?_; (try simp only [Act.put, lyy])
 refine qad _ (fun V hV => qax (qap enters_sbytes rfl rfl rfl) (CY.out V)) ?_; (try simp only [Act.put, lyy])
 refine qbh ?_; intro a5 hb; simp only [List.drop_succ_cons, List.drop_zero]
 replace hM := Lib.hid (hM.out.below hb)
 clear hb
 refine qag (qar (vs := kb.map b8) rfl SZ.out rfl rfl (one8s _) (by rw [L1.out]; exact (hM.out.get (i := 0) rfl).there)) rfl rfl ?_; replace hM := Lib.hid (hM.out.put 0 rfl (m := kb.map b8) (L1.out))
 refine qab ?_; go_wp2_with fail; refine bodyPost_ret (v := .agg (kb.map b8).toArray) (qa8 Tryd.results36 rfl Tryd.underlying24 rfl SZ.out (hM.out.get (i := 0) rfl).range) rfl ⟨rfl, hM.out.bl⟩
theorem enters_smad : Enters 36 := qaq Tryd.func36 (by kernel_rfl) rfl
set_option maxHeartbeats 8000000 in
theorem sreduce_any (s : List (BitVec 8)) (w : World) (hs : s.length = 64) (hG : SG w) : Calls Tryd.prog 48 #[.agg (s.map b8).toArray] w fun e w' => e = .returned (.agg ((sk (leB s % ell)).map b8).toArray) ∧ Below w.heap.size w w' := by
 have HG := Lib.hid hG; clear hG
 obtain ⟨a, ha⟩ : ∃ a, a = s.take 32 := ⟨_, rfl⟩
 obtain ⟨b, hb⟩ : ∃ b, b = s.drop 32 := ⟨_, rfl⟩
 have la : a.length = 32 := by rw [ha, List.length_take, hs]; rfl
 have lb : b.length = 32 := by rw [hb, List.length_drop, hs]
 have es : s = a ++ b := by rw [ha, hb, List.take_append_drop]
 have R1 : Hid (∀ (V : World) (g : Nat), Arr g (s.map b8) V → V.rangeAt g 0 (a.map b8)) := Lib.hid fun V g h => by rw [ha, List.map_take]; exact qcc h.range
 have R2 : Hid (∀ (V : World) (g : Nat), Arr g (s.map b8) V → V.rangeAt g (0 + 32) (b.map b8)) := Lib.hid fun V g h => by rw [hb, List.map_drop]; exact qcd h.range
 have eV : leB s = lv (wd (leB a) 4 ++ wd (leB b) 4) := by
  have e : (256 : Nat) ^ 32 = 2 ^ (64 * 4) := by decide +kernel
  rw [es, leB_append, la, qdu, qc8, lv_key la, lv_key lb, e]
 clear ha hb es
 rw [eV]
 clear eV
 have CA : Hid (∀ u : World, Calls Tryd.prog 50 #[.agg (a.map b8).toArray] u fun e w' => e = .returned (.agg ((wd (leB a) 4).map b64).toArray) ∧ Below u.heap.size u w') := Lib.hid fun u => sread_any a u la
 have CB : Hid (∀ u : World, Calls Tryd.prog 50 #[.agg (b.map b8).toArray] u fun e w' => e = .returned (.agg ((wd (leB b) 4).map b64).toArray) ∧ Below u.heap.size u w') := Lib.hid fun u => sread_any b u lb
 have l1 := qc8 (leB a) 4
 have l2 := qc8 (leB b) 4
 generalize wd (leB a) 4 = A at *
 generalize wd (leB b) 4 = B at *
 have CJ : Hid (∀ u : World, Calls Tryd.prog 49 #[.agg (A.map b64).toArray, .agg (B.map b64).toArray] u fun e w' => e = .returned (.agg ((A ++ B).map b64).toArray) ∧ Below u.heap.size u w') := Lib.hid fun u => sjoin_any A B u l1 l2
 have lJ : (A ++ B).length = 8 := by rw [List.length_append, l1, l2]
 generalize A ++ B = J at *
 have CR : Hid (∀ u : World, SG u → Calls Tryd.prog 52 #[.agg (J.map b64).toArray] u fun e w' => e = .returned (.agg ((wd (lv J % ell) 4).map b64).toArray) ∧ Below u.heap.size u w') := Lib.hid fun u h => srest_any J u lJ h
 have CY : Hid (∀ u : World, Calls Tryd.prog 53 #[.agg ((wd (lv J % ell) 4).map b64).toArray] u fun e w' => e = .returned (.agg ((sk (lv J % ell)).map b8).toArray) ∧ Below u.heap.size u w') := Lib.hid fun u => by
  have h := sbytes_any (wd (lv J % ell) 4) u (qc8 _ _)
  rwa [sk_word (Nat.mod_lt _ ell_pos)] at h
 have hkl := sk_len (lv J % ell)
 generalize sk (lv J % ell) = kb at *
 generalize wd (lv J % ell) 4 = Y at *
 have SA := Lib.hid (szKy la)
 have SB := Lib.hid (szKy lb)
 have SZ := Lib.hid (szKy hkl)
 have L1 : Hid ((kb.map b8).length = (z8 32).length) := Lib.hid (by rw [z8_32, List.length_map, hkl])
 have hM := Lib.hid (Mv.nil w)
 go_enter Tryd.func48, Tryd.ntmps48
 go_upto_region 0 with fail; refine wp_region_lit ?_
 refine qaa (qau (vs := s.map b8) rfl rfl) rfl ?_; (try simp only [Act.put, lyy]); replace hM := Lib.hid (hM.out.new (s.map b8) 27); generalize w.alloc (.cells (s.map b8).toArray 27) = a1 at *; generalize w.heap.size = g1 at *
 refine qaa (qat (vs := z8 32) rfl (by kernel_rfl)) rfl ?_; (try simp only [Act.put, lyy]); replace hM := Lib.hid (hM.out.new (z8 32) 24); generalize a1.alloc (.cells (z8 32).toArray 24) = a2 at *; generalize a1.heap.size = g2 at *
 refine qab ?_
 have hD : Hid (∀ V, Below a2.heap.size a2 V → SG V) := Lib.hid fun V hV => HG.out.below (hM.out.below hV).bl
 go_upto_region 1 with fail; refine qbf 11 (by kernel_rfl) (by kernel_rfl) ?_
 refine qad _ (fun V hV => qai (run_slWh (h := 32) rfl Tryd.underlying27 (by kernel_rfl) rfl rfl (by omega))) ?_; (try simp only [Act.put, lyy])
 refine qad _ (fun V hV => qai (run_s2a rfl Tryd.underlying24 rfl (by omega))) ?_; (try simp only [Act.put, lyy])
 refine qad _ (fun V hV => qai (qaj (vs := a.map b8) rfl Tryd.underlying24 rfl SA.out rfl (R1.out _ _ ((hM.out.below hV).get (i := 1) rfl)))) ?_; (try simp only [Act.put, lyy])
 refine qad _ (fun V hV => qax (qap qc5 rfl rfl rfl) (CA.out V)) ?_; (try simp only [Act.put, lyy])
 refine qad _ (fun V hV => qai (run_slWl (l := 32) rfl Tryd.underlying27 (by kernel_rfl) rfl rfl (by omega))) ?_; (try simp only [Act.put, lyy])
 refine qad _ (fun V hV => qai (run_s2a rfl Tryd.underlying24 rfl (by omega))) ?_; (try simp only [Act.put, lyy])
 refine qad _ (fun V hV => qai (qaj (vs := b.map b8) rfl Tryd.underlying24 rfl SB.out rfl (R2.out _ _ ((hM.out.below hV).get (i := 1) rfl)))) ?_; (try simp only [Act.put, lyy])
 refine qad _ (fun V hV => qax (qap qc5 rfl rfl rfl) (CB.out V)) ?_; (try simp only [Act.put, lyy])
 refine qad _ (fun V hV => qax (qao enters_sjoin rfl rfl rfl rfl) (CJ.out V)) ?_; (try simp only [Act.put, lyy])
 refine qad _ (fun V hV => qax (qap enters_srest rfl rfl rfl) (CR.out V (hD.out V hV))) ?_; (try simp only [Act.put, lyy])
 refine qad _ (fun V hV => qax (qap enters_sbytes rfl rfl rfl) (CY.out V)) ?_; (try simp only [Act.put, lyy])
 refine qbh ?_; intro a5 hb; simp only [List.drop_succ_cons, List.drop_zero]
 replace hM := Lib.hid (hM.out.below hb)
 clear hb
 refine qag (qar (vs := kb.map b8) rfl SZ.out rfl rfl (one8s _) (by rw [L1.out]; exact (hM.out.get (i := 0) rfl).there)) rfl rfl ?_; replace hM := Lib.hid (hM.out.put 0 rfl (m := kb.map b8) (L1.out))
 refine qab ?_; go_wp2_with fail; refine bodyPost_ret (v := .agg (kb.map b8).toArray) (qa8 Tryd.results48 rfl Tryd.underlying24 rfl SZ.out (hM.out.get (i := 0) rfl).range) rfl ⟨rfl, hM.out.bl⟩
theorem enters_sreduce : Enters 48 := qaq Tryd.func48 (by kernel_rfl) rfl
end Go.Proofs.YtcgbgmbnagmohaaDoor
namespace Go.Proofs.YtcgbgmbnagmohaaDoor
open Go.RowKit
set_option maxRecDepth 20000
theorem zero_size (n : Nat) : (Builtin.zeroCells (Value.int .u8 0).cells n).size = n := by
 show ((Array.range (n * 1)).map _).size = n
 simp
set_option maxHeartbeats 2000000 in
theorem grow_any (n : Nat) (w : World) (hn : n ≤ 16000000) : Calls Tryd.prog 87 #[.slice none 0 0, .int .i64 (n : Int)] w fun e w' => ∃ v', e = .returned v' ∧ S5 w v' [] w' := by
 go_enter Tryd.func87, Tryd.ntmps87
 go_upto_region 1 with fail; refine wp_region_lit ?_
 refine qaa (qae (v := .int _ _) rfl rfl) rfl ?_; (try simp only [Act.put, lyy])
 refine qaa (qbr (c := false) rfl rfl rfl (decide_eq_false (by omega))) rfl ?_; (try simp only [Act.put, lyy])
 refine qab ?_
 go_upto_region 3 with fail; refine wp_region_lit ?_
 refine qaa (qae (v := .int _ _) rfl rfl) rfl ?_; (try simp only [Act.put, lyy]); refine qaa (qae (v := .slice _ _ _) rfl rfl) rfl ?_; (try simp only [Act.put, lyy])
 refine qaa (run_cap rfl Tryd.underlying22 rfl) rfl ?_; (try simp only [Act.put, lyy])
 refine qaa (qae (v := .slice _ _ _) rfl rfl) rfl ?_; (try simp only [Act.put, lyy])
 refine qaa (qbe rfl Tryd.underlying22 rfl) rfl ?_; (try simp only [Act.put, lyy])
 refine qaa (run_subN (a := 0) (b := 0) rfl rfl rfl (by omega) (by omega)) rfl ?_; (try simp only [Act.put, lyy])
 refine qaa (run_subN (a := n) (b := 0) rfl rfl rfl (by omega) (by omega)) rfl ?_; (try simp only [Act.put, lyy])
 rw [Nat.sub_zero]
 refine qaa (qaf (v := .int _ _) rfl rfl) rfl ?_; (try simp only [Act.put, lyy])
 refine qab ?_
 go_upto_region 4 with fail; refine wp_region_lit ?_
 refine qaa (qae (v := .int _ _) rfl rfl) rfl ?_; (try simp only [Act.put, lyy])
 by_cases h0 : n = 0
 ·subst h0
  refine qaa (qcu (c := false) rfl rfl rfl (decide_eq_false (by omega))) rfl ?_; (try simp only [Act.put, lyy])
  refine qab ?_
  go_upto_region 6 with fail; refine wp_region_lit ?_
  refine qaa (qae (v := .slice _ _ _) rfl rfl) rfl ?_; (try simp only [Act.put, lyy]); refine qaa (qaf (v := .slice _ _ _) rfl rfl) rfl ?_; (try simp only [Act.put, lyy])
  refine qab ?_
  go_wp2_with fail
  exact bodyPost_ret (results_tmp Tryd.results87 _ _ _) rfl ⟨_, rfl, S5.none w⟩
 ·refine qaa (qcu (c := true) rfl rfl rfl (decide_eq_true (by omega))) rfl ?_; (try simp only [Act.put, lyy])
  refine qab ?_
  have hi : (Tryd.prog.info? 5).map (fun i => (i.size, i.bytes, i.zero)) = some (1, 1, some (.int .u8 0)) := by kernel_rfl
  obtain ⟨inf, h1, h2⟩ := Option.map_eq_some_iff.1 hi
  obtain ⟨e1, e2, e3⟩ : inf.size = 1 ∧ inf.bytes = 1 ∧ inf.zero = some (.int .u8 0) := by simpa using h2
  have HR : Hid (∀ ty, (Builtin.append_ #[22, 3] ty #[.slice none 0 0, .int .i64 (n : Int)]).run Tryd.prog w = .ok (.slice (some ⟨w.heap.size, 0, none⟩) n (grownCap w n 0 5)) (w.drew.alloc (.cells (Builtin.zeroCells (Value.int .u8 0).cells n ++ Builtin.zeroCells (Value.int .u8 0).cells (grownCap w n 0 5 - n)) 5))) := Lib.hid fun ty =>
   Lib.run_append_nil_zeros w 22 3 ty 5 inf (.int .u8 0) .i64 .i64 Tryd.underlying22 Tryd.underlying3 h1 e3 n (by omega) (by omega) (by omega) (by rw [e2]; omega)
  have hG1 := grownCap_ge w n 0 5
  have hG2 := grownCap_le_maxLen w n 0 5 (by unfold maxLen; omega)
  have hS : Hid (S5 w (.slice (some ⟨w.heap.size, 0, none⟩) 0 (grownCap w n 0 5)) [] (w.drew.alloc (.cells (Builtin.zeroCells (Value.int .u8 0).cells n ++ Builtin.zeroCells (Value.int .u8 0).cells (grownCap w n 0 5 - n)) 5))) := Lib.hid (by
   refine ⟨(Below.refl _ _).drew.alloc (Nat.le_refl _) _, ?_⟩
   refine And.intro rfl (Or.inr ?_)
   refine ⟨w.heap.size, grownCap w n 0 5, Builtin.zeroCells (Value.int .u8 0).cells n ++ Builtin.zeroCells (Value.int .u8 0).cells (grownCap w n 0 5 - n), rfl, Nat.le_refl _, ?_, Nat.zero_le _, hG2, ?_, ?_⟩
   ·exact Array.getElem?_push_size
   ·rw [Array.size_append, zero_size, zero_size]; omega
   ·simp)
  clear h1 h2 e1 e2 e3 hi hG2
  generalize w.drew.alloc (.cells (Builtin.zeroCells (Value.int .u8 0).cells n ++ Builtin.zeroCells (Value.int .u8 0).cells (grownCap w n 0 5 - n)) 5) = a1 at *
  generalize grownCap w n 0 5 = G at *
  go_upto_region 5 with fail; refine wp_region_lit ?_
  refine qaa (qae (v := .slice _ _ _) rfl rfl) rfl ?_; (try simp only [Act.put, lyy]); refine qaa (qae (v := .slice _ _ _) rfl rfl) rfl ?_; (try simp only [Act.put, lyy])
  refine qaa (run_cap rfl Tryd.underlying22 rfl) rfl ?_; (try simp only [Act.put, lyy])
  refine qaa (run_slh0 rfl Tryd.underlying22 (by kernel_rfl) rfl rfl) rfl ?_; (try simp only [Act.put, lyy])
  refine qaa (qae (v := .int _ _) rfl rfl) rfl ?_; (try simp only [Act.put, lyy])
  refine Lib.wpList_append_run _ rfl _ _ _ _ rfl _ _ rfl rfl _ _ (HR.out _) ?_; (try simp only [Act.put, lyy])
  refine qaa (qae (v := .slice _ _ _) rfl rfl) rfl ?_; (try simp only [Act.put, lyy])
  refine qaa (qbe rfl Tryd.underlying22 rfl) rfl ?_; (try simp only [Act.put, lyy])
  refine qaa (run_slh (h := 0) rfl Tryd.underlying22 (by kernel_rfl) rfl rfl (by omega)) rfl ?_; (try simp only [Act.put, lyy])
  refine qaa (qaf (v := .slice (some _) _ _) rfl rfl) rfl ?_; (try simp only [Act.put, List.setIfInBounds_toArray, List.set_cons_zero])
  refine qab ?_
  go_upto_region 6 with fail; refine wp_region_lit ?_
  refine qaa (qae (v := .slice (some _) _ _) rfl rfl) rfl ?_; (try simp only [Act.put, lyy]); refine qaa (qaf (v := .slice (some _) _ _) rfl rfl) rfl ?_; (try simp only [Act.put, lyy])
  refine qab ?_
  go_wp2_with fail
  exact bodyPost_ret (results_tmp Tryd.results87 _ _ _) rfl ⟨_, rfl, hS.out⟩
theorem enters_grow : Enters 87 := qaq Tryd.func87 (by kernel_rfl) rfl
set_option maxHeartbeats 4000000 in
theorem concat_any (g : Nat) (vs : List Value) (ls : List (List (BitVec 8))) (k : Nat) (w : World) (hc : Cat g vs ls w) (hk : ls.length = k) (hk2 : k ≤ 1000) (hn : ls.flatten.length ≤ 16000000) :
  Calls Tryd.prog 71 #[.slice (some ⟨g, 0, none⟩) k k] w fun e w' => ∃ v', e = .returned v' ∧ S5 w v' ls.flatten w' := by
 have HC := Lib.hid hc; clear hc
 have EA : Hid (catL ls k = ls.flatten) := Lib.hid (by rw [← hk]; exact catL_all ls)
 have HL : Hid (∀ i, (catL ls i).length ≤ 16000000) := Lib.hid fun i => Nat.le_trans (catL_le ls i) hn
 have HE : Hid (∀ i, i < k → ∃ v l, w.rangeAt g 0 vs ∧ vs[i]? = some v ∧ Sl v l w ∧ catL ls (i + 1) = catL ls i ++ l ∧ (catL ls i).length + l.length ≤ 16000000) := Lib.hid fun i hi => by
  obtain ⟨v, h1, h2⟩ := HC.out.S i (by omega)
  have e := catL_succ ls i (by omega)
  have := HL.out (i + 1)
  rw [e, List.length_append] at this
  exact ⟨v, _, HC.out.R, h1, h2, e, this⟩
 have hlt := HC.out.lt
 clear HC
 obtain ⟨F, hF⟩ : ∃ F, F = catL ls := ⟨_, rfl⟩
 have E0 : F 0 = [] := by rw [hF]; rfl
 rw [← hF] at EA HL HE
 clear hF hn
 generalize ls.flatten = out at *
 clear hk
 go_enter Tryd.func71, Tryd.ntmps71
 go_upto_region 2 with fail; refine wp_region_lit ?_
 refine qaa (qae (v := .slice (some _) _ _) rfl rfl) rfl ?_; (try simp only [Act.put, lyy])
 refine qaa (qbe rfl Tryd.underlying80 rfl) rfl ?_; (try simp only [Act.put, lyy])
 refine qaa (qae (v := .int _ _) rfl rfl) rfl ?_; (try simp only [Act.put, lyy])
 refine qab ?_
 go_wp2_with fail
 go_loopw [3, 11] (fun s1 s2 u => ∃ i : Nat, i ≤ k ∧ s1 = .int .i64 ((F i).length : Int) ∧ s2 = .int .i64 (i : Int) ∧ u = w) (fun _ s _ => (k - intOf s).toNat)
 case atStart => exact ⟨0, by omega, by rw [E0]; rfl, rfl, rfl⟩
 case round =>
  obtain ⟨i, hi, rfl, rfl, rfl⟩ := hrel
  have hLi := HL.out i
  by_cases hik : i = k
  ·subst hik
   have hk1 : ¬ (((i : Nat) : Int) < (i : Int)) := by omega
   rw [EA.out] at hLi ⊢
   generalize hw0 : wr = w0 at *
   have EW := Lib.hid hw0
   clear hw0
   go_upto_region 9 with fail; refine wp_region_lit ?_
   refine qaa (qae (v := .int _ _) rfl rfl) rfl ?_; (try simp only [Act.put, lyy])
   refine qbj (qao enters_grow rfl rfl rfl rfl) rfl (grow_any out.length _ hLi) (fun v6 c1 hR => ?_); (try simp only [Act.put, lyy])
   have hI : Hid (S5 w0 v6 (F 0) c1) := Lib.hid (by rw [E0]; exact hR)
   clear hR
   refine qaa (qaf (v := v6) rfl rfl) rfl ?_; (try simp only [Act.put, lyy])
   refine qab ?_
   go_upto_region 10 with fail; refine wp_region_lit ?_
   refine qaa (qae (v := .slice (some _) _ _) rfl rfl) rfl ?_; (try simp only [Act.put, lyy])
   refine qaa (qbe rfl Tryd.underlying80 rfl) rfl ?_; (try simp only [Act.put, lyy])
   refine qaa (qae (v := .int _ _) rfl rfl) rfl ?_; (try simp only [Act.put, lyy])
   refine qab ?_
   clear hk1 hi
   go_wp2_with fail
   go_loopw [6, 27] (fun s1 s2 u => ∃ j : Nat, j ≤ i ∧ s2 = .int .i64 (j : Int) ∧ S5 w0 s1 (F j) u) (fun _ s _ => (i - intOf s).toNat)
   case atStart => exact ⟨0, by omega, rfl, hI.out⟩
   case round =>
    obtain ⟨j, hj, rfl, hJ⟩ := hrel
    replace hI := Lib.hid hJ
    clear hJ
    by_cases hji : j = i
    ·subst hji
     have hk1 : ¬ (((j : Nat) : Int) < (j : Int)) := by omega
     rw [EA.out] at hI
     go_upto_region 15 with fail; refine wp_region_lit ?_
     refine qaa (qae (v := u6) rfl rfl) rfl ?_; (try simp only [Act.put, lyy])
     refine qaa (qaf (v := u6) rfl rfl) rfl ?_; (try simp only [Act.put, lyy])
     refine qab ?_
     go_wp2_with fail
     exact bodyPost_ret (results_tmp Tryd.results71 _ _ _) rfl ⟨_, rfl, by rw [EW.out]; exact hI.out⟩
    ·have hk1 : (j : Int) < (i : Int) := by omega
     obtain ⟨v, l, h1, h2, h3, h4, h5⟩ := HE.out j (by omega)
     have HX := Lib.hid h4; clear h4
     have C1 : Hid (wr.cell? ⟨g, j, none⟩ = some v) := Lib.hid (by
      have := qb9 h1 hlt hI.out.bl j v h2
      rwa [Nat.zero_add] at this)
     have S1 : Hid (Sl v l wr) := Lib.hid (h3.below hI.out.bl)
     clear h1 h2 h3
     go_upto_region 12 with fail; refine wp_region_lit ?_
     refine qaa (qda rfl Tryd.underlying80 (by kernel_rfl) rfl rfl (by omega)) rfl ?_; (try simp only [Act.put, lyy])
     refine qaa (run_ldSl rfl rfl (by rw [Nat.zero_add]; exact C1.out)) rfl ?_; (try simp only [Act.put, lyy])
     refine qaa (qaf (v := v) rfl rfl) rfl ?_; (try simp only [Act.put, lyy])
     refine qab ?_
     go_upto_region 13 with fail; refine wp_region_lit ?_
     refine qaa (qae (v := u6) rfl rfl) rfl ?_; (try simp only [Act.put, lyy])
     refine qaa (qae (v := v) rfl rfl) rfl ?_; (try simp only [Act.put, lyy])
     refine wpList_appG (l := F j) (m := l) rfl rfl rfl hI.out.O rfl S1.out (by omega) hI.out.bl.size (fun v2 c2 h6 hb3 => ?_); (try simp only [Act.put, lyy])
     replace hI : Hid (S5 w0 v2 (F (j + 1)) c2) := Lib.hid ⟨hI.out.bl.trans hb3, by rw [HX.out, List.length_append]; exact h6⟩
     clear h6 hb3 S1 C1
     refine qaa (qaf (v := v2) rfl rfl) rfl ?_; (try simp only [Act.put, lyy])
     refine qab ?_
     go_wp2_with fail
     go_roundw
     case rel => exact ⟨j + 1, by omega, by go_num, hI.out⟩
     case measure => simp [intOf]; omega
  ·have hk1 : (i : Int) < (k : Int) := by omega
   obtain ⟨v, l, h1, h2, h3, h4, h5⟩ := HE.out i (by omega)
   have HX := Lib.hid h4; clear h4
   have C1 := Lib.hid (h1 i v h2)
   rw [Nat.zero_add] at C1
   obtain ⟨ao, c, rfl, -, -⟩ := h3
   clear h1 h2
   go_upto_region 4 with fail; refine wp_region_lit ?_
   refine qaa (qda rfl Tryd.underlying80 (by kernel_rfl) rfl rfl (by omega)) rfl ?_; (try simp only [Act.put, lyy])
   refine qaa (run_ldSl rfl rfl (by rw [Nat.zero_add]; exact C1.out)) rfl ?_; (try simp only [Act.put, lyy])
   refine qaa (qaf (v := .slice _ _ _) rfl rfl) rfl ?_; (try simp only [Act.put, lyy])
   refine qab ?_
   go_upto_region 5 with fail; refine wp_region_lit ?_
   refine qaa (qae (v := .int _ _) rfl rfl) rfl ?_; (try simp only [Act.put, lyy]); refine qaa (qae (v := .slice _ _ _) rfl rfl) rfl ?_; (try simp only [Act.put, lyy])
   refine qaa (qbe rfl Tryd.underlying22 rfl) rfl ?_; (try simp only [Act.put, lyy])
   refine qaa (qb1 rfl rfl rfl (by omega)) rfl ?_; (try simp only [Act.put, lyy])
   refine qaa (qaf (v := .int _ _) rfl rfl) rfl ?_; (try simp only [Act.put, lyy])
   refine qab ?_
   go_upto_region 6 with fail; refine wp_region_lit ?_
   refine qaa (qae (v := .int _ _) rfl rfl) rfl ?_; (try simp only [Act.put, lyy])
   refine qaa (qbr (c := false) rfl rfl rfl (decide_eq_false (by omega))) rfl ?_; (try simp only [Act.put, lyy])
   refine qab ?_
   go_wp2_with fail
   go_roundw
   case rel => exact ⟨i + 1, by omega, by rw [HX.out, List.length_append], by go_num, trivial⟩
   case measure => simp [intOf]; omega
theorem enters_concat : Enters 71 := qaq Tryd.func71 (by kernel_rfl) rfl
end Go.Proofs.YtcgbgmbnagmohaaDoor
namespace Go.Proofs.YtcgbgmbnagmohaaDoor
open Go.RowKit
set_option maxRecDepth 20000
def SpS (w : World) (g1 g2 g3 : Nat) (S : List Value) (V : World) : Prop := ∃ x y : List Value, x.length = 32 ∧ y.length = 32 ∧ Mv w [(g3, y), (g2, x), (g1, S)] V
set_option maxHeartbeats 4000000 in
theorem sgsplit_any (s : List (BitVec 8)) (w : World) (hs : s.length = 64) : Calls Tryd.prog 37 #[.agg (s.map b8).toArray] w fun e w' => e = .returned (.tuple #[.agg ((s.take 32).map b8).toArray, .agg ((s.drop 32).map b8).toArray]) ∧ Below w.heap.size w w' := by
 have lA : (s.take 32).length = 32 := by rw [List.length_take]; omega
 have lB : (s.drop 32).length = 32 := by rw [List.length_drop]; omega
 have E1 : Hid ((s.map b8).take 32 = (s.take 32).map b8) := Lib.hid (List.map_take ..).symm
 have E2 : Hid ((s.map b8).drop 32 = (s.drop 32).map b8) := Lib.hid (List.map_drop ..).symm
 generalize s.take 32 = A at *
 generalize s.drop 32 = B at *
 generalize s.map b8 = S at *
 have SA := Lib.hid (szKy lA)
 have SB := Lib.hid (szKy lB)
 have LA : Hid ((A.map b8).length = 32) := Lib.hid (by rw [List.length_map, lA])
 have LB : Hid ((B.map b8).length = 32) := Lib.hid (by rw [List.length_map, lB])
 have hM := Lib.hid (Mv.nil w)
 go_enter Tryd.func37, Tryd.ntmps37
 go_upto_region 0 with fail; refine wp_region_lit ?_
 refine qaa (qau (vs := S) rfl rfl) rfl ?_; (try simp only [Act.put, lyy]); replace hM := Lib.hid (hM.out.new (S) 27); generalize w.alloc (.cells (S).toArray 27) = a1 at *; generalize w.heap.size = g1 at *
 refine qaa (qat (vs := z8 32) rfl (by kernel_rfl)) rfl ?_; (try simp only [Act.put, lyy]); replace hM := Lib.hid (hM.out.new (z8 32) 24); generalize a1.alloc (.cells (z8 32).toArray 24) = a2 at *; generalize a1.heap.size = g2 at *
 refine qaa (qat (vs := z8 32) rfl (by kernel_rfl)) rfl ?_; (try simp only [Act.put, lyy]); replace hM := Lib.hid (hM.out.new (z8 32) 24); generalize a2.alloc (.cells (z8 32).toArray 24) = a3 at *; generalize a2.heap.size = g3 at *
 refine qab ?_
 go_upto_region 1 with fail
 have HA1 : Hid (∀ V, SpS w g1 g2 g3 S V → V.rangeAt g1 0 (A.map b8)) := Lib.hid fun V ⟨x, y, _, _, h⟩ => by
  have := qcc (k := 32) (h.get (i := 2) rfl).range
  rw [E1.out] at this
  exact this
 have HA2 : Hid (∀ V, SpS w g1 g2 g3 S V → V.rangeAt g1 (0 + 32) (B.map b8)) := Lib.hid fun V ⟨x, y, _, _, h⟩ => by
  have := qcd (k := 32) (h.get (i := 2) rfl).range
  rw [E2.out] at this
  exact this
 replace hM := Lib.hid (hM.out.below (Below.refl _ _).drew)
 have h0 : SpS w g1 g2 g3 S a3.drew := ⟨_, _, z8_32, z8_32, hM.out⟩
 refine wp_region_noPanic ?_
 refine qay (S := fun _ V => SpS w g1 g2 g3 S V) (by kernel_rfl) h0 (fun hS => ?_)
 generalize a3.drew = a4 at *
 refine qac 0 rfl rfl (by kernel_rfl) (by kernel_rfl) (by kernel_rfl) (fun _ _ _ h => h) rfl (fun V hV => run_slWh (h := 32) rfl Tryd.underlying27 (by kernel_rfl) rfl rfl (by omega)) hS ?_; (try simp only [Act.put, lyy])
 refine qac 1 rfl rfl (by kernel_rfl) (by kernel_rfl) (by kernel_rfl) (fun _ _ _ h => h) rfl (fun V hV => run_s2a rfl Tryd.underlying24 rfl (by omega)) hS ?_; (try simp only [Act.put, lyy])
 refine qac 2 rfl rfl (by kernel_rfl) (by kernel_rfl) (by kernel_rfl) (fun _ _ _ h => h) rfl (fun V hV => qaj (vs := A.map b8) rfl Tryd.underlying24 rfl SA.out rfl (HA1.out V hV)) hS ?_; (try simp only [Act.put, lyy])
 refine qac 3 rfl rfl (by kernel_rfl) (by kernel_rfl) (by kernel_rfl) (fun _ _ _ h => h) rfl (fun V hV => run_slWl (l := 32) rfl Tryd.underlying27 (by kernel_rfl) rfl rfl (by omega)) hS ?_; (try simp only [Act.put, lyy])
 refine qac 4 rfl rfl (by kernel_rfl) (by kernel_rfl) (by kernel_rfl) (fun _ _ _ h => h) rfl (fun V hV => run_s2a rfl Tryd.underlying24 rfl (by omega)) hS ?_; (try simp only [Act.put, lyy])
 refine qac 5 rfl rfl (by kernel_rfl) (by kernel_rfl) (by kernel_rfl) (fun _ _ _ h => h) rfl (fun V hV => qaj (vs := B.map b8) rfl Tryd.underlying24 rfl SB.out rfl (HA2.out V hV)) hS ?_; (try simp only [Act.put, lyy])
 have hM2 := Lib.hid (hM.out.put 1 rfl (m := A.map b8) (by rw [LA.out, z8_32]))
 refine qbo 6 (by kernel_rfl) rfl rfl rfl (qar (vs := A.map b8) rfl SA.out rfl rfl (one8s _) ((hM.out.get (i := 1) rfl).thereM (by rw [LA.out, z8_32]; omega))) ⟨_, _, LA.out, z8_32, hM2.out⟩ ?_
 clear hM
 have hM3 := Lib.hid (hM2.out.put 0 rfl (m := B.map b8) (by rw [LB.out, z8_32]))
 refine qbo 7 (by kernel_rfl) rfl rfl rfl (qar (vs := B.map b8) rfl SB.out rfl rfl (one8s _) ((hM2.out.get (i := 0) rfl).thereM (by rw [LB.out, z8_32]; omega))) ⟨_, _, LA.out, LB.out, hM3.out⟩ ?_
 clear hM2
 refine qa2 (by kernel_rfl) ?_ _; refine NoPanic.normal ?_
 have hM : Hid (Mv w [(g3, B.map b8), (g2, A.map b8), (g1, S)] ((a4.setCells g2 0 (A.map b8)).setCells g3 0 (B.map b8))) := hM3
 go_wp2_with fail
 refine bodyPost_ret (v := .tuple #[.agg (A.map b8).toArray, .agg (B.map b8).toArray]) (results_two Tryd.results37 rfl rfl Tryd.underlying24 rfl SA.out SB.out (hM.out.get (i := 1) rfl).range (hM.out.get (i := 0) rfl).range) rfl ⟨rfl, hM.out.bl⟩
theorem enters_sgsplit : Enters 37 := qaq Tryd.func37 (by kernel_rfl) rfl
set_option maxHeartbeats 4000000 in
theorem sgdigest_any (g : Nat) (vs : List Value) (ls : List (List (BitVec 8))) (k : Nat) (w : World) (hc : Cat g vs ls w) (hk : ls.length = k) (hk2 : k ≤ 1000) (hn : ls.flatten.length ≤ 16000000) (hT : Tabs w) : Calls Tryd.prog 45 #[.slice (some ⟨g, 0, none⟩) k k] w fun e w' => e = .returned (.agg ((sum64 ls.flatten).map b8).toArray) ∧ Below w.heap.size w w' := by
 have HC := Lib.hid hc; clear hc
 have HT := Lib.hid hT; clear hT
 have lD := sum64_len ls.flatten
 have CC : Hid (∀ u : World, Cat g vs ls u → Calls Tryd.prog 71 #[.slice (some ⟨g, 0, none⟩) k k] u fun e w' => ∃ v', e = .returned v' ∧ S5 u v' ls.flatten w') := Lib.hid fun u h => concat_any g vs ls k u h hk hk2 hn
 have CS : Hid (∀ (v : Value) (u : World), Sl v ls.flatten u → Tabs u → Calls Tryd.prog 70 #[v] u fun e w' => e = .returned (.agg ((sum64 ls.flatten).map b8).toArray) ∧ Below u.heap.size u w') := Lib.hid fun v u h1 h2 => sum64_any v _ u h1 (by omega) h2
 generalize sum64 ls.flatten = D at *
 generalize ls.flatten = fl at *
 have SD := Lib.hid (szSg lD)
 have LD : Hid ((D.map b8).length = (z8 64).length) := Lib.hid (by unfold z8; rw [List.length_map, List.length_map, lD, List.length_replicate])
 have hM := Lib.hid (Mv.nil w)
 go_enter Tryd.func45, Tryd.ntmps45
 go_upto_region 0 with fail; refine wp_region_lit ?_
 refine qaa (qat (vs := z8 64) rfl (by kernel_rfl)) rfl ?_; (try simp only [Act.put, lyy]); replace hM := Lib.hid (hM.out.new (z8 64) 27); generalize w.alloc (.cells (z8 64).toArray 27) = a1 at *; generalize w.heap.size = g1 at *
 refine qab ?_
 go_upto_region 1 with fail; refine wp_region_lit ?_
 refine qaa (qae (v := .slice (some _) _ _) rfl rfl) rfl ?_; (try simp only [Act.put, lyy])
 refine qbj (qap enters_concat rfl rfl rfl) rfl (CC.out _ (HC.out.below hM.out.bl)) (fun v4 a2 hR => ?_); (try simp only [Act.put, lyy])
 have S4 := Lib.hid hR.sl
 replace hM := Lib.hid (hM.out.below hR.bl)
 clear hR
 refine qam (qap enters_sum64 rfl rfl rfl) rfl (CS.out v4 _ S4.out (HT.out.below hM.out.bl)) (fun a3 hb => ?_); (try simp only [Act.put, lyy]); replace hM := Lib.hid (hM.out.below hb); clear hb
 refine qag (qar (vs := D.map b8) rfl SD.out rfl rfl (one8s _) (by rw [LD.out]; exact (hM.out.get (i := 0) rfl).there)) rfl rfl ?_; replace hM := Lib.hid (hM.out.put 0 rfl (m := D.map b8) (LD.out))
 refine qab ?_; go_wp2_with fail; refine bodyPost_ret (v := .agg (D.map b8).toArray) (qa8 Tryd.results45 rfl Tryd.underlying27 rfl SD.out (hM.out.get (i := 0) rfl).range) rfl ⟨rfl, hM.out.bl⟩
theorem enters_sgdigest : Enters 45 := qaq Tryd.func45 (by kernel_rfl) rfl
set_option maxHeartbeats 4000000 in
theorem sgnum_any (g : Nat) (vs : List Value) (ls : List (List (BitVec 8))) (k : Nat) (w : World) (hc : Cat g vs ls w) (hk : ls.length = k) (hk2 : k ≤ 1000) (hn : ls.flatten.length ≤ 16000000) (hW : W9 w) : Calls Tryd.prog 34 #[.slice (some ⟨g, 0, none⟩) k k] w fun e w' => e = .returned (.agg ((nmB ls.flatten).map b8).toArray) ∧ Below w.heap.size w w' := by
 have HC := Lib.hid hc; clear hc
 have HW := Lib.hid hW; clear hW
 have lN := nmB_len ls.flatten
 have CD : Hid (∀ u : World, Cat g vs ls u → W9 u → Calls Tryd.prog 45 #[.slice (some ⟨g, 0, none⟩) k k] u fun e w' => e = .returned (.agg ((sum64 ls.flatten).map b8).toArray) ∧ Below u.heap.size u w') := Lib.hid fun u h h2 => sgdigest_any g vs ls k u h hk hk2 hn h2.t
 have CR : Hid (∀ u : World, W9 u → Calls Tryd.prog 48 #[.agg ((sum64 ls.flatten).map b8).toArray] u fun e w' => e = .returned (.agg ((nmB ls.flatten).map b8).toArray) ∧ Below u.heap.size u w') := Lib.hid fun u h => sreduce_any (sum64 ls.flatten) u (sum64_len _) h.s
 generalize nmB ls.flatten = R at *
 generalize sum64 ls.flatten = D at *
 clear hn
 generalize ls.flatten = fl at *
 have SR := Lib.hid (szKy lN)
 have LR : Hid ((R.map b8).length = (z8 32).length) := Lib.hid (by rw [z8_32, List.length_map, lN])
 have hM := Lib.hid (Mv.nil w)
 go_enter Tryd.func34, Tryd.ntmps34
 go_upto_region 0 with fail; refine wp_region_lit ?_
 refine qaa (qat (vs := z8 32) rfl (by kernel_rfl)) rfl ?_; (try simp only [Act.put, lyy]); replace hM := Lib.hid (hM.out.new (z8 32) 24); generalize w.alloc (.cells (z8 32).toArray 24) = a1 at *; generalize w.heap.size = g1 at *
 refine qab ?_
 go_upto_region 1 with fail; refine wp_region_lit ?_
 refine qaa (qae (v := .slice (some _) _ _) rfl rfl) rfl ?_; (try simp only [Act.put, lyy])
 refine qam (qap enters_sgdigest rfl rfl rfl) rfl (CD.out _ (HC.out.below hM.out.bl) (HW.out.below hM.out.bl)) (fun a2 hb => ?_); (try simp only [Act.put, lyy]); replace hM := Lib.hid (hM.out.below hb); clear hb
 refine qam (qap enters_sreduce rfl rfl rfl) rfl (CR.out _ (HW.out.below hM.out.bl)) (fun a3 hb => ?_); (try simp only [Act.put, lyy]); replace hM := Lib.hid (hM.out.below hb); clear hb
 refine qag (qar (vs := R.map b8) rfl SR.out rfl rfl (one8s _) (by rw [LR.out]; exact (hM.out.get (i := 0) rfl).there)) rfl rfl ?_; replace hM := Lib.hid (hM.out.put 0 rfl (m := R.map b8) (LR.out))
 refine qab ?_; go_wp2_with fail; refine bodyPost_ret (v := .agg (R.map b8).toArray) (qa8 Tryd.results34 rfl Tryd.underlying24 rfl SR.out (hM.out.get (i := 0) rfl).range) rfl ⟨rfl, hM.out.bl⟩
theorem enters_sgnum : Enters 34 := qaq Tryd.func34 (by kernel_rfl) rfl
set_option maxHeartbeats 4000000 in
theorem sgtimes_any (k : List (BitVec 8)) (w : World) (hk : k.length = 32) (hG : EG w) : Calls Tryd.prog 33 #[.agg (k.map b8).toArray] w fun e w' => e = .returned (.agg ((tmB (leB k)).map b8).toArray) ∧ Below w.heap.size w w' := by
 have HG := Lib.hid hG; clear hG
 obtain ⟨B, hB⟩ : ∃ B, B = bs := ⟨_, rfl⟩
 obtain ⟨Q, hQ⟩ : ∃ Q, Q = pmul bs (leB k) := ⟨_, rfl⟩
 have nB : B.Nm := by rw [hB]; exact bs_ok.nm
 have nQ : Q.Nm := by rw [hQ]; exact (pmul_ok _ _).nm
 have e1 : mulP (leB k) B = Q := by rw [hB, hQ, mul_bs]
 have CB : Hid (∀ u : World, EG u → Calls Tryd.prog 41 #[] u fun e w' => e = .returned (.agg (ptL B).toArray) ∧ Below u.heap.size u w') := Lib.hid fun u h => by rw [hB]; exact base_any u h
 have CM : Hid (∀ u : World, EG u → Calls Tryd.prog 40 #[.agg (k.map b8).toArray, .agg (ptL B).toArray] u fun e w' => e = .returned (.agg (ptL Q).toArray) ∧ Below u.heap.size u w') := Lib.hid fun u h => by rw [← e1]; exact mulP_any k B u hk nB h
 have CE : Hid (∀ u : World, EG u → Calls Tryd.prog 47 #[.agg (ptL Q).toArray] u fun e w' => e = .returned (.agg ((tmB (leB k)).map b8).toArray) ∧ Below u.heap.size u w') := Lib.hid fun u hg => by
  have h := encode_any Q u nQ hg
  rw [hQ] at h
  rw [hQ]; exact h
 have hl := tmB_len (leB k)
 clear hB hQ e1
 generalize tmB (leB k) = R at *
 have SK := Lib.hid (szKy hk)
 have SR := Lib.hid (szKy hl)
 have LR : Hid ((R.map b8).length = (z8 32).length) := Lib.hid (by rw [z8_32, List.length_map, hl])
 have hM := Lib.hid (Mv.nil w)
 go_enter Tryd.func33, Tryd.ntmps33
 go_upto_region 0 with fail; refine wp_region_lit ?_
 refine qaa (qau (vs := k.map b8) rfl rfl) rfl ?_; (try simp only [Act.put, lyy]); replace hM := Lib.hid (hM.out.new (k.map b8) 24); generalize w.alloc (.cells (k.map b8).toArray 24) = a1 at *; generalize w.heap.size = g1 at *
 refine qaa (qat (vs := z8 32) rfl (by kernel_rfl)) rfl ?_; (try simp only [Act.put, lyy]); replace hM := Lib.hid (hM.out.new (z8 32) 24); generalize a1.alloc (.cells (z8 32).toArray 24) = a2 at *; generalize a1.heap.size = g2 at *
 refine qab ?_
 go_upto_region 1 with fail; refine qbf 4 (by kernel_rfl) (by kernel_rfl) ?_
 refine qad _ (fun V hV => qai (qaj (vs := k.map b8) rfl Tryd.underlying24 rfl SK.out rfl (((hM.out.below hV).get (i := 1) rfl).range))) ?_; (try simp only [Act.put, lyy])
 refine qad _ (fun V hV => qax (qdt enters_base rfl rfl) (CB.out V (HG.out.below (hM.out.below hV).bl))) ?_; (try simp only [Act.put, lyy])
 refine qad _ (fun V hV => qax (qao enters_mulP rfl rfl rfl rfl) (CM.out V (HG.out.below (hM.out.below hV).bl))) ?_; (try simp only [Act.put, lyy])
 refine qad _ (fun V hV => qax (qap enters_encode rfl rfl rfl) (CE.out V (HG.out.below (hM.out.below hV).bl))) ?_; (try simp only [Act.put, lyy])
 refine qbh ?_; intro a5 hb; simp only [List.drop_succ_cons, List.drop_zero]
 replace hM := Lib.hid (hM.out.below hb)
 clear hb
 refine qag (qar (vs := R.map b8) rfl SR.out rfl rfl (one8s _) (by rw [LR.out]; exact (hM.out.get (i := 0) rfl).there)) rfl rfl ?_; replace hM := Lib.hid (hM.out.put 0 rfl (m := R.map b8) (LR.out))
 refine qab ?_; go_wp2_with fail; refine bodyPost_ret (v := .agg (R.map b8).toArray) (qa8 Tryd.results33 rfl Tryd.underlying24 rfl SR.out (hM.out.get (i := 0) rfl).range) rfl ⟨rfl, hM.out.bl⟩
theorem enters_sgtimes : Enters 33 := qaq Tryd.func33 (by kernel_rfl) rfl
set_option maxHeartbeats 4000000 in
theorem sgjoin_any (l m : List (BitVec 8)) (w : World) (hl : l.length = 32) (hm : m.length = 32) : Calls Tryd.prog 35 #[.agg (l.map b8).toArray, .agg (m.map b8).toArray] w fun e w' => e = .returned (.agg ((l ++ m).map b8).toArray) ∧ Below w.heap.size w w' := by
 have hM := Lib.hid (Mv.nil w)
 have hlm : (l ++ m).length = 64 := by rw [List.length_append, hl, hm]
 have LL : Hid ((l.map b8).length = 32) := Lib.hid (by rw [List.length_map, hl])
 have LM : Hid ((m.map b8).length = 32) := Lib.hid (by rw [List.length_map, hm])
 have LZ : Hid ((z8 64).length = 64) := Lib.hid (by unfold z8; rw [List.length_map, List.length_replicate])
 have LX : Hid (((l ++ m).map b8).length = (z8 64).length) := Lib.hid (by rw [List.length_map, hlm, LZ.out])
 have E1 : Hid ((z8 64).take 0 ++ (l.map b8 ++ (z8 64).drop (0 + (l.map b8).length)) = l.map b8 ++ z8 32) := Lib.hid (by rw [LL.out]; rfl)
 have E2 : Hid ((l.map b8 ++ z8 32).take 32 ++ (m.map b8 ++ (l.map b8 ++ z8 32).drop (32 + (m.map b8).length)) = (l ++ m).map b8) := Lib.hid (by
  rw [LM.out, List.take_left' LL.out, List.drop_of_length_le (by rw [List.length_append, LL.out, z8_32]; exact Nat.le_refl _), List.append_nil, List.map_append])
 have OL : Hid (∀ v ∈ l.map b8, v.oneCell' = true) := Lib.hid fun v hv => by rw [List.mem_map] at hv; obtain ⟨x, _, rfl⟩ := hv; rfl
 have OM : Hid (∀ v ∈ m.map b8, v.oneCell' = true) := Lib.hid fun v hv => by rw [List.mem_map] at hv; obtain ⟨x, _, rfl⟩ := hv; rfl
 have SZ := Lib.hid (szSg hlm)
 have OX := Lib.hid (one8s (l ++ m))
 generalize l.map b8 = L at *
 generalize m.map b8 = M at *
 generalize (l ++ m).map b8 = X at *
 go_enter Tryd.func35, Tryd.ntmps35
 go_upto_region 0 with fail; refine wp_region_lit ?_
 refine qaa (qau (vs := L) rfl rfl) rfl ?_; (try simp only [Act.put, lyy]); replace hM := Lib.hid (hM.out.new (L) 24); generalize w.alloc (.cells (L).toArray 24) = a1 at *; generalize w.heap.size = g1 at *
 refine qaa (qau (vs := M) rfl rfl) rfl ?_; (try simp only [Act.put, lyy]); replace hM := Lib.hid (hM.out.new (M) 24); generalize a1.alloc (.cells (M).toArray 24) = a2 at *; generalize a1.heap.size = g2 at *
 refine qaa (qat (vs := z8 64) rfl (by kernel_rfl)) rfl ?_; (try simp only [Act.put, lyy]); replace hM := Lib.hid (hM.out.new (z8 64) 27); generalize a2.alloc (.cells (z8 64).toArray 27) = a3 at *; generalize a2.heap.size = g3 at *
 refine qab ?_
 go_upto_region 1 with fail; refine wp_region_lit ?_
 refine qaa (qat (vs := z8 64) rfl (by kernel_rfl)) rfl ?_; (try simp only [Act.put, lyy]); replace hM := Lib.hid (hM.out.new (z8 64) 27); generalize a3.alloc (.cells (z8 64).toArray 27) = a4 at *; generalize a3.heap.size = g4 at *
 refine qab ?_
 go_upto_region 2 with fail; refine qbf 2 (by kernel_rfl) (by kernel_rfl) ?_
 refine qad _ (fun V hV => qai (run_slWh (h := 32) rfl Tryd.underlying27 (by kernel_rfl) rfl rfl (by omega))) ?_; (try simp only [Act.put, lyy])
 refine qad _ (fun V hV => qai (qds rfl Tryd.underlying24 (by kernel_rfl) rfl)) ?_; (try simp only [Act.put, lyy])
 refine qbh ?_; intro a5 hb; simp only [List.drop_succ_cons, List.drop_zero]
 replace hM := Lib.hid (hM.out.below hb)
 clear hb
 refine qaa (run_cpyV (vs := L) (l := z8 64) rfl Tryd.underlying22 (by kernel_rfl) rfl rfl (hM.out.get (i := 3) rfl).range (by rw [LL.out]; rfl) (hM.out.get (i := 0) rfl) (by rw [LL.out, LZ.out]; omega) OL.out) rfl ?_; (try simp only [Act.put, lyy])
 refine qab ?_
 replace hM := Lib.hid (hM.out.mid 0 rfl (f := 0) (m := L) (by rw [LL.out, LZ.out]; omega))
 rw [E1.out] at hM
 generalize a5.setCells g4 0 L = a6 at *
 go_upto_region 3 with fail; refine qbf 2 (by kernel_rfl) (by kernel_rfl) ?_
 refine qad _ (fun V hV => qai (run_slWl (l := 32) rfl Tryd.underlying27 (by kernel_rfl) rfl rfl (by omega))) ?_; (try simp only [Act.put, lyy])
 refine qad _ (fun V hV => qai (qds rfl Tryd.underlying24 (by kernel_rfl) rfl)) ?_; (try simp only [Act.put, lyy])
 refine qbh ?_; intro a7 hb; simp only [List.drop_succ_cons, List.drop_zero]
 replace hM := Lib.hid (hM.out.below hb)
 clear hb
 refine qaa (run_cpyV (f := 32) (vs := M) (l := L ++ z8 32) rfl Tryd.underlying22 (by kernel_rfl) rfl rfl (hM.out.get (i := 2) rfl).range (by rw [LM.out]; rfl) (hM.out.get (i := 0) rfl) (by rw [LM.out, List.length_append, LL.out, z8_32]; omega) OM.out) rfl ?_; (try simp only [Act.put, lyy])
 refine qab ?_
 replace hM := Lib.hid (hM.out.mid 0 rfl (f := 32) (m := M) (by rw [LM.out, List.length_append, LL.out, z8_32]; omega))
 rw [E2.out] at hM
 generalize a7.setCells g4 32 M = a8 at *
 go_upto_region 4 with fail; refine wp_region_lit ?_
 refine qaa (qaj (vs := X) rfl Tryd.underlying27 rfl SZ.out rfl ((hM.out.get (i := 0) rfl).range)) rfl ?_; (try simp only [Act.put, lyy])
 refine qag (qar (vs := X) rfl SZ.out rfl rfl OX.out (by rw [LX.out]; exact (hM.out.get (i := 1) rfl).there)) rfl rfl ?_; replace hM := Lib.hid (hM.out.put 1 rfl (m := X) (LX.out))
 refine qab ?_; go_wp2_with fail; refine bodyPost_ret (v := .agg (X).toArray) (qa8 Tryd.results35 rfl Tryd.underlying27 rfl SZ.out (hM.out.get (i := 1) rfl).range) rfl ⟨rfl, hM.out.bl⟩
theorem enters_sgjoin : Enters 35 := qaq Tryd.func35 (by kernel_rfl) rfl
end Go.Proofs.YtcgbgmbnagmohaaDoor
namespace Go.Proofs.YtcgbgmbnagmohaaDoor
open Go.RowKit
set_option maxRecDepth 20000
theorem flat1g (a : List (BitVec 8)) : [a].flatten = a := by simp
theorem flat2g (a b : List (BitVec 8)) : [a, b].flatten = a ++ b := by simp
theorem flat3g (a b c : List (BitVec 8)) : [a, b, c].flatten = a ++ b ++ c := by simp
theorem qc6 (w : World) (vs : Array Value) (t : TypeId) : Below w.heap.size w (w.alloc (.cells vs t)) := (Below.refl _ _).alloc (Nat.le_refl _) _
def ExS (w : World) (g1 g2 g3 g4 g5 : Nat) (S F L : List Value) (V : World) : Prop := ∃ x y : List Value, x.length = 32 ∧ y.length = 32 ∧ Mv w [(g5, L), (g4, F), (g3, y), (g2, x), (g1, S)] V
set_option maxHeartbeats 4000000 in
theorem sgexpand_any (s : List (BitVec 8)) (w : World) (hs : s.length = 32) (hW : W9 w) : Calls Tryd.prog 32 #[.agg (s.map b8).toArray] w fun e w' => e = .returned (.tuple #[.agg ((secA s).map b8).toArray, .agg (((sum64 s).drop 32).map b8).toArray]) ∧ Below w.heap.size w w' := by
 have HW := Lib.hid hW; clear hW
 have lD := sum64_len s
 have lF : ((sum64 s).take 32).length = 32 := by rw [List.length_take]; omega
 have lL : ((sum64 s).drop 32).length = 32 := by rw [List.length_drop]; omega
 have lC := secA_len s
 have CD : Hid (∀ (g : Nat) (v : Value) (u : World), Cat g [v] [s] u → W9 u → Calls Tryd.prog 45 #[.slice (some ⟨g, 0, none⟩) 1 1] u fun e w' => e = .returned (.agg ((sum64 s).map b8).toArray) ∧ Below u.heap.size u w') := Lib.hid fun g v u h h2 => by
  have h := sgdigest_any g [v] [s] 1 u h rfl (by omega) (by rw [flat1g]; omega) h2.t
  rw [flat1g] at h; exact h
 have CS : Hid (∀ u : World, Calls Tryd.prog 37 #[.agg ((sum64 s).map b8).toArray] u fun e w' => e = .returned (.tuple #[.agg (((sum64 s).take 32).map b8).toArray, .agg (((sum64 s).drop 32).map b8).toArray]) ∧ Below u.heap.size u w') := Lib.hid fun u => sgsplit_any (sum64 s) u lD
 have CK : Hid (∀ u : World, Calls Tryd.prog 46 #[.agg (((sum64 s).take 32).map b8).toArray] u fun e w' => e = .returned (.agg ((secA s).map b8).toArray) ∧ Below u.heap.size u w') := Lib.hid fun u => clampB_any _ u lF
 generalize secA s = C at *
 generalize (sum64 s).take 32 = F at *
 generalize (sum64 s).drop 32 = L at *
 generalize sum64 s = D at *
 have SK := Lib.hid (szKy hs)
 have SF := Lib.hid (szKy lF)
 have SL := Lib.hid (szKy lL)
 have SC := Lib.hid (szKy lC)
 have LF : Hid ((F.map b8).length = (z8 32).length) := Lib.hid (by rw [z8_32, List.length_map, lF])
 have LL : Hid ((L.map b8).length = (z8 32).length) := Lib.hid (by rw [z8_32, List.length_map, lL])
 have LC : Hid ((C.map b8).length = (z8 32).length) := Lib.hid (by rw [z8_32, List.length_map, lC])
 have hM := Lib.hid (Mv.nil w)
 go_enter Tryd.func32, Tryd.ntmps32
 go_upto_region 0 with fail; refine wp_region_lit ?_
 refine qaa (qau (vs := s.map b8) rfl rfl) rfl ?_; (try simp only [Act.put, lyy]); replace hM := Lib.hid (hM.out.new (s.map b8) 24); generalize w.alloc (.cells (s.map b8).toArray 24) = a1 at *; generalize w.heap.size = g1 at *
 refine qaa (qat (vs := z8 32) rfl (by kernel_rfl)) rfl ?_; (try simp only [Act.put, lyy]); replace hM := Lib.hid (hM.out.new (z8 32) 24); generalize a1.alloc (.cells (z8 32).toArray 24) = a2 at *; generalize a1.heap.size = g2 at *
 refine qaa (qat (vs := z8 32) rfl (by kernel_rfl)) rfl ?_; (try simp only [Act.put, lyy]); replace hM := Lib.hid (hM.out.new (z8 32) 24); generalize a2.alloc (.cells (z8 32).toArray 24) = a3 at *; generalize a2.heap.size = g3 at *
 refine qab ?_
 go_upto_region 1 with fail; refine wp_region_lit ?_
 refine qaa (qds rfl Tryd.underlying24 (by kernel_rfl) rfl) rfl ?_; (try simp only [Act.put, lyy])
 have HCt : Hid (Cat a3.heap.size [.slice (some ⟨g1, 0, none⟩) 32 32] [s] (a3.alloc (.cells #[.slice (some ⟨g1, 0, none⟩) 32 32] 22))) := Lib.hid (cat_row a3 _ [s] fun i hi => match i, hi with
  | 0, _ => ⟨_, rfl, sl_own (hM.out.get (i := 2) rfl) hs⟩
  | i + 1, hi => absurd hi (by simp))
 refine qaa (run_bsl (cells := #[.slice (some ⟨g1, 0, none⟩) 32 32]) (z := .slice none 0 0) rfl Tryd.underlying80 (by kernel_rfl) (by omega) (by omega) (by kernel_rfl)) rfl ?_; (try simp only [Act.put, lyy])
 replace hM := Lib.hid (hM.out.below (qc6 a3 #[.slice (some ⟨g1, 0, none⟩) 32 32] 22))
 generalize a3.alloc (.cells #[.slice (some ⟨g1, 0, none⟩) 32 32] 22) = a4 at *
 generalize a3.heap.size = gc at *
 refine qam (qap enters_sgdigest rfl rfl rfl) rfl (CD.out gc _ _ HCt.out (HW.out.below hM.out.bl)) (fun a5 hb => ?_); (try simp only [Act.put, lyy]); replace hM := Lib.hid (hM.out.below hb); clear hb
 clear HCt
 refine qam (qap enters_sgsplit rfl rfl rfl) rfl (CS.out _) (fun a6 hb => ?_); (try simp only [Act.put, lyy]); replace hM := Lib.hid (hM.out.below hb); clear hb
 refine qaa (qae (v := .tuple _) rfl rfl) rfl ?_; (try simp only [Act.put, lyy])
 refine qaa (qbt (v := .agg (F.map b8).toArray) rfl rfl rfl) rfl ?_; (try simp only [Act.put, lyy])
 refine qaa (qbt (v := .agg (L.map b8).toArray) rfl rfl rfl) rfl ?_; (try simp only [Act.put, lyy])
 refine qaa (qat (vs := z8 32) rfl (by kernel_rfl)) rfl ?_; (try simp only [Act.put, lyy]); replace hM := Lib.hid (hM.out.new (z8 32) 24); generalize a6.alloc (.cells (z8 32).toArray 24) = a7 at *; generalize a6.heap.size = g4 at *
 refine qaa (qat (vs := z8 32) rfl (by kernel_rfl)) rfl ?_; (try simp only [Act.put, lyy]); replace hM := Lib.hid (hM.out.new (z8 32) 24); generalize a7.alloc (.cells (z8 32).toArray 24) = a8 at *; generalize a7.heap.size = g5 at *
 refine qag (qar (vs := F.map b8) rfl SF.out rfl rfl (one8s _) (by rw [LF.out]; exact (hM.out.get (i := 1) rfl).there)) rfl rfl ?_; replace hM := Lib.hid (hM.out.put 1 rfl (m := F.map b8) (LF.out))
 generalize a8.setCells g4 0 (F.map b8) = a9 at *
 refine qag (qar (vs := L.map b8) rfl SL.out rfl rfl (one8s _) (by rw [LL.out]; exact (hM.out.get (i := 0) rfl).there)) rfl rfl ?_; replace hM := Lib.hid (hM.out.put 0 rfl (m := L.map b8) (LL.out))
 refine qab ?_
 replace hM : Hid (Mv w [(g5, L.map b8), (g4, F.map b8), (g3, z8 32), (g2, z8 32), (g1, s.map b8)] (a9.setCells g5 0 (L.map b8))) := hM
 generalize a9.setCells g5 0 (L.map b8) = b1 at *
 generalize s.map b8 = S at *
 go_upto_region 2 with fail
 have HF : Hid (∀ V, ExS w g1 g2 g3 g4 g5 S (F.map b8) (L.map b8) V → V.rangeAt g4 0 (F.map b8)) := Lib.hid fun V ⟨x, y, _, _, h⟩ => (h.get (i := 1) rfl).range
 have HL : Hid (∀ V, ExS w g1 g2 g3 g4 g5 S (F.map b8) (L.map b8) V → V.rangeAt g5 0 (L.map b8)) := Lib.hid fun V ⟨x, y, _, _, h⟩ => (h.get (i := 0) rfl).range
 replace hM := Lib.hid (hM.out.below (Below.refl _ _).drew)
 have h0 : ExS w g1 g2 g3 g4 g5 S (F.map b8) (L.map b8) b1.drew := ⟨_, _, z8_32, z8_32, hM.out⟩
 refine wp_region_noPanic ?_
 refine qay (S := fun _ V => ExS w g1 g2 g3 g4 g5 S (F.map b8) (L.map b8) V) (by kernel_rfl) h0 (fun hS => ?_)
 generalize b1.drew = b2 at *
 refine qac 0 rfl rfl (by kernel_rfl) (by kernel_rfl) (by kernel_rfl) (fun _ _ _ h => h) rfl (fun V hV => qaj (vs := F.map b8) rfl Tryd.underlying24 rfl SF.out rfl (HF.out V hV)) hS ?_; (try simp only [Act.put, lyy])
 refine qac 2 rfl rfl (by kernel_rfl) (by kernel_rfl) (by kernel_rfl) (fun _ _ _ h => h) rfl (fun V hV => qaj (vs := L.map b8) rfl Tryd.underlying24 rfl SL.out rfl (HL.out V hV)) hS ?_; (try simp only [Act.put, lyy])
 refine qbi (R := fun v w' => v = .agg (C.map b8).toArray ∧ Below b2.heap.size b2 w') 1 (by kernel_rfl) rfl rfl rfl (qap enters_clampB rfl rfl rfl) (qbq (CK.out _)) (fun v w' h => ⟨_, _, z8_32, z8_32, hM.out.below h.2⟩) (fun v b3 h => ?_); (try simp only [Act.put, lyy])
 obtain ⟨rfl, hb⟩ := h
 replace hM := Lib.hid (hM.out.below hb)
 clear hb hS h0
 have hM2 := Lib.hid (hM.out.put 3 rfl (m := C.map b8) LC.out)
 refine qbo 3 (by kernel_rfl) rfl rfl rfl (qar (vs := C.map b8) rfl SC.out rfl rfl (one8s _) ((hM.out.get (i := 3) rfl).thereM (by rw [LC.out]; omega))) ⟨_, _, LC.out.trans z8_32, z8_32, hM2.out⟩ ?_
 clear hM
 have hM3 := Lib.hid (hM2.out.put 2 rfl (m := L.map b8) LL.out)
 refine qbo 4 (by kernel_rfl) rfl rfl rfl (qar (vs := L.map b8) rfl SL.out rfl rfl (one8s _) ((hM2.out.get (i := 2) rfl).thereM (by rw [LL.out]; omega))) ⟨_, _, LC.out.trans z8_32, LL.out.trans z8_32, hM3.out⟩ ?_
 clear hM2
 refine qa2 (by kernel_rfl) ?_ _; refine NoPanic.normal ?_
 have hM : Hid (Mv w [(g5, L.map b8), (g4, F.map b8), (g3, L.map b8), (g2, C.map b8), (g1, S)] ((b3.setCells g2 0 (C.map b8)).setCells g3 0 (L.map b8))) := hM3
 go_wp2_with fail
 refine bodyPost_ret (v := .tuple #[.agg (C.map b8).toArray, .agg (L.map b8).toArray]) (results_two Tryd.results32 rfl rfl Tryd.underlying24 rfl SC.out SL.out (hM.out.get (i := 3) rfl).range (hM.out.get (i := 2) rfl).range) rfl ⟨rfl, hM.out.bl⟩
theorem enters_sgexpand : Enters 32 := qaq Tryd.func32 (by kernel_rfl) rfl
set_option maxHeartbeats 4000000 in
theorem sgpublic_any (k : List (BitVec 8)) (w : World) (hk : k.length = 32) (hW : W9 w) : Calls Tryd.prog 23 #[.agg (k.map b8).toArray] w fun e w' => e = .returned (.agg ((pubB k).map b8).toArray) ∧ Below w.heap.size w w' := by
 have HW := Lib.hid hW; clear hW
 have lA := secA_len k
 have lH : ((sum64 k).drop 32).length = 32 := by rw [List.length_drop, sum64_len]
 have lP := pubB_len k
 have CX : Hid (∀ u : World, W9 u → Calls Tryd.prog 32 #[.agg (k.map b8).toArray] u fun e w' => e = .returned (.tuple #[.agg ((secA k).map b8).toArray, .agg (((sum64 k).drop 32).map b8).toArray]) ∧ Below u.heap.size u w') := Lib.hid fun u h => sgexpand_any k u hk h
 have CT : Hid (∀ u : World, W9 u → Calls Tryd.prog 33 #[.agg ((secA k).map b8).toArray] u fun e w' => e = .returned (.agg ((pubB k).map b8).toArray) ∧ Below u.heap.size u w') := Lib.hid fun u h => sgtimes_any _ u lA h.e
 generalize pubB k = P at *
 generalize secA k = A at *
 generalize (sum64 k).drop 32 = H at *
 have SK := Lib.hid (szKy hk)
 have SA := Lib.hid (szKy lA)
 have SH := Lib.hid (szKy lH)
 have SP := Lib.hid (szKy lP)
 have LA : Hid ((A.map b8).length = (z8 32).length) := Lib.hid (by rw [z8_32, List.length_map, lA])
 have LH : Hid ((H.map b8).length = (z8 32).length) := Lib.hid (by rw [z8_32, List.length_map, lH])
 have LP : Hid ((P.map b8).length = (z8 32).length) := Lib.hid (by rw [z8_32, List.length_map, lP])
 have hM := Lib.hid (Mv.nil w)
 go_enter Tryd.func23, Tryd.ntmps23
 go_upto_region 0 with fail; refine wp_region_lit ?_
 refine qaa (qau (vs := k.map b8) rfl rfl) rfl ?_; (try simp only [Act.put, lyy]); replace hM := Lib.hid (hM.out.new (k.map b8) 24); generalize w.alloc (.cells (k.map b8).toArray 24) = a1 at *; generalize w.heap.size = g1 at *
 refine qaa (qat (vs := z8 32) rfl (by kernel_rfl)) rfl ?_; (try simp only [Act.put, lyy]); replace hM := Lib.hid (hM.out.new (z8 32) 24); generalize a1.alloc (.cells (z8 32).toArray 24) = a2 at *; generalize a1.heap.size = g2 at *
 refine qab ?_
 go_upto_region 1 with fail; refine wp_region_lit ?_
 refine qaa (qaj (vs := k.map b8) rfl Tryd.underlying24 rfl SK.out rfl ((hM.out.get (i := 1) rfl).range)) rfl ?_; (try simp only [Act.put, lyy])
 refine qam (qap enters_sgexpand rfl rfl rfl) rfl (CX.out _ (HW.out.below hM.out.bl)) (fun a3 hb => ?_); (try simp only [Act.put, lyy]); replace hM := Lib.hid (hM.out.below hb); clear hb
 refine qaa (qae (v := .tuple _) rfl rfl) rfl ?_; (try simp only [Act.put, lyy])
 refine qaa (qbt (v := .agg (A.map b8).toArray) rfl rfl rfl) rfl ?_; (try simp only [Act.put, lyy])
 refine qaa (qbt (v := .agg (H.map b8).toArray) rfl rfl rfl) rfl ?_; (try simp only [Act.put, lyy])
 refine qaa (qat (vs := z8 32) rfl (by kernel_rfl)) rfl ?_; (try simp only [Act.put, lyy]); replace hM := Lib.hid (hM.out.new (z8 32) 24); generalize a3.alloc (.cells (z8 32).toArray 24) = a4 at *; generalize a3.heap.size = g3 at *
 refine qaa (qat (vs := z8 32) rfl (by kernel_rfl)) rfl ?_; (try simp only [Act.put, lyy]); replace hM := Lib.hid (hM.out.new (z8 32) 24); generalize a4.alloc (.cells (z8 32).toArray 24) = a5 at *; generalize a4.heap.size = g4 at *
 refine qag (qar (vs := A.map b8) rfl SA.out rfl rfl (one8s _) (by rw [LA.out]; exact (hM.out.get (i := 1) rfl).there)) rfl rfl ?_; replace hM := Lib.hid (hM.out.put 1 rfl (m := A.map b8) (LA.out))
 generalize a5.setCells g3 0 (A.map b8) = a6 at *
 refine qag (qar (vs := H.map b8) rfl SH.out rfl rfl (one8s _) (by rw [LH.out]; exact (hM.out.get (i := 0) rfl).there)) rfl rfl ?_; replace hM := Lib.hid (hM.out.put 0 rfl (m := H.map b8) (LH.out))
 refine qab ?_
 replace hM : Hid (Mv w [(g4, H.map b8), (g3, A.map b8), (g2, z8 32), (g1, k.map b8)] (a6.setCells g4 0 (H.map b8))) := hM
 generalize a6.setCells g4 0 (H.map b8) = a7 at *
 go_upto_region 2 with fail; refine wp_region_lit ?_
 refine qaa (qaj (vs := A.map b8) rfl Tryd.underlying24 rfl SA.out rfl ((hM.out.get (i := 1) rfl).range)) rfl ?_; (try simp only [Act.put, lyy])
 refine qam (qap enters_sgtimes rfl rfl rfl) rfl (CT.out _ (HW.out.below hM.out.bl)) (fun a8 hb => ?_); (try simp only [Act.put, lyy]); replace hM := Lib.hid (hM.out.below hb); clear hb
 refine qag (qar (vs := P.map b8) rfl SP.out rfl rfl (one8s _) (by rw [LP.out]; exact (hM.out.get (i := 2) rfl).there)) rfl rfl ?_; replace hM := Lib.hid (hM.out.put 2 rfl (m := P.map b8) (LP.out))
 refine qab ?_; go_wp2_with fail; refine bodyPost_ret (v := .agg (P.map b8).toArray) (qa8 Tryd.results23 rfl Tryd.underlying24 rfl SP.out (hM.out.get (i := 2) rfl).range) rfl ⟨rfl, hM.out.bl⟩
theorem pubC : PubC := fun k u hk hW => sgpublic_any k u hk hW
set_option maxHeartbeats 8000000 in
theorem sgsign_any (k : List (BitVec 8)) (vb : Value) (b : List (BitVec 8)) (w : World) (hk : k.length = 32) (hb : Sl vb b w) (hbl : b.length ≤ 300) (hW : W9 w) : Calls Tryd.prog 24 #[.agg (k.map b8).toArray, vb] w fun e w' => e = .returned (.agg ((sigB k b).map b8).toArray) ∧ Below w.heap.size w w' := by
 have HW := Lib.hid hW; clear hW
 have HB := Lib.hid hb
 obtain ⟨ab, cb, rfl, -, -⟩ := hb
 have lA := secA_len k
 have lH : ((sum64 k).drop 32).length = 32 := by rw [List.length_drop, sum64_len]
 have lP := pubB_len k
 have lR := sgR_len k b
 have lF := sgF_len k b
 have lN := sgK_len k b
 have lS := sgS_len k b
 have lG := sigB_len k b
 have CX : Hid (∀ u : World, W9 u → Calls Tryd.prog 32 #[.agg (k.map b8).toArray] u fun e w' => e = .returned (.tuple #[.agg ((secA k).map b8).toArray, .agg (((sum64 k).drop 32).map b8).toArray]) ∧ Below u.heap.size u w') := Lib.hid fun u h => sgexpand_any k u hk h
 have CT : Hid (∀ u : World, W9 u → Calls Tryd.prog 33 #[.agg ((secA k).map b8).toArray] u fun e w' => e = .returned (.agg ((pubB k).map b8).toArray) ∧ Below u.heap.size u w') := Lib.hid fun u h => sgtimes_any _ u lA h.e
 have CN : Hid (∀ (g : Nat) (v1 v2 : Value) (u : World), Cat g [v1, v2] [(sum64 k).drop 32, b] u → W9 u → Calls Tryd.prog 34 #[.slice (some ⟨g, 0, none⟩) 2 2] u fun e w' => e = .returned (.agg ((sgR k b).map b8).toArray) ∧ Below u.heap.size u w') := Lib.hid fun g v1 v2 u h h2 => by
  have h := sgnum_any g [v1, v2] [(sum64 k).drop 32, b] 2 u h rfl (by omega) (by rw [flat2g, List.length_append]; omega) h2
  rw [flat2g] at h; exact h
 have CF : Hid (∀ u : World, W9 u → Calls Tryd.prog 33 #[.agg ((sgR k b).map b8).toArray] u fun e w' => e = .returned (.agg ((sgF k b).map b8).toArray) ∧ Below u.heap.size u w') := Lib.hid fun u h => sgtimes_any _ u lR h.e
 have CK : Hid (∀ (g : Nat) (v1 v2 v3 : Value) (u : World), Cat g [v1, v2, v3] [sgF k b, pubB k, b] u → W9 u → Calls Tryd.prog 34 #[.slice (some ⟨g, 0, none⟩) 3 3] u fun e w' => e = .returned (.agg ((sgK k b).map b8).toArray) ∧ Below u.heap.size u w') := Lib.hid fun g v1 v2 v3 u h h2 => by
  have h := sgnum_any g [v1, v2, v3] [sgF k b, pubB k, b] 3 u h rfl (by omega) (by rw [flat3g, List.length_append, List.length_append]; omega) h2
  rw [flat3g] at h; exact h
 have CM : Hid (∀ u : World, W9 u → Calls Tryd.prog 36 #[.agg ((sgK k b).map b8).toArray, .agg ((secA k).map b8).toArray, .agg ((sgR k b).map b8).toArray] u fun e w' => e = .returned (.agg ((sgS k b).map b8).toArray) ∧ Below u.heap.size u w') := Lib.hid fun u h => smad_any _ _ _ u lN lA lR h.s
 have CJ : Hid (∀ u : World, Calls Tryd.prog 35 #[.agg ((sgF k b).map b8).toArray, .agg ((sgS k b).map b8).toArray] u fun e w' => e = .returned (.agg ((sigB k b).map b8).toArray) ∧ Below u.heap.size u w') := Lib.hid fun u => sgjoin_any _ _ u lF lS
 generalize sigB k b = G at *
 generalize sgS k b = Y at *
 generalize sgK k b = N at *
 generalize sgF k b = F0 at *
 generalize sgR k b = R at *
 generalize pubB k = P at *
 generalize secA k = A at *
 generalize (sum64 k).drop 32 = H at *
 have SK := Lib.hid (szKy hk)
 have SA := Lib.hid (szKy lA)
 have SH := Lib.hid (szKy lH)
 have SP := Lib.hid (szKy lP)
 have SR := Lib.hid (szKy lR)
 have SF := Lib.hid (szKy lF)
 have SG2 := Lib.hid (szSg lG)
 have LA : Hid ((A.map b8).length = (z8 32).length) := Lib.hid (by rw [z8_32, List.length_map, lA])
 have LH : Hid ((H.map b8).length = (z8 32).length) := Lib.hid (by rw [z8_32, List.length_map, lH])
 have LP : Hid ((P.map b8).length = (z8 32).length) := Lib.hid (by rw [z8_32, List.length_map, lP])
 have LR : Hid ((R.map b8).length = (z8 32).length) := Lib.hid (by rw [z8_32, List.length_map, lR])
 have LF : Hid ((F0.map b8).length = (z8 32).length) := Lib.hid (by rw [z8_32, List.length_map, lF])
 have LG : Hid ((G.map b8).length = (z8 64).length) := Lib.hid (by unfold z8; rw [List.length_map, List.length_map, lG, List.length_replicate])
 have hM := Lib.hid (Mv.nil w)
 go_enter Tryd.func24, Tryd.ntmps24
 go_upto_region 0 with fail; refine wp_region_lit ?_
 refine qaa (qau (vs := k.map b8) rfl rfl) rfl ?_; (try simp only [Act.put, lyy]); replace hM := Lib.hid (hM.out.new (k.map b8) 24); generalize w.alloc (.cells (k.map b8).toArray 24) = a1 at *; generalize w.heap.size = g1 at *
 refine qaa (qat (vs := z8 64) rfl (by kernel_rfl)) rfl ?_; (try simp only [Act.put, lyy]); replace hM := Lib.hid (hM.out.new (z8 64) 27); generalize a1.alloc (.cells (z8 64).toArray 27) = a2 at *; generalize a1.heap.size = g2 at *
 refine qab ?_
 go_upto_region 1 with fail; refine wp_region_lit ?_
 refine qaa (qaj (vs := k.map b8) rfl Tryd.underlying24 rfl SK.out rfl ((hM.out.get (i := 1) rfl).range)) rfl ?_; (try simp only [Act.put, lyy])
 refine qam (qap enters_sgexpand rfl rfl rfl) rfl (CX.out _ (HW.out.below hM.out.bl)) (fun a3 hb => ?_); (try simp only [Act.put, lyy]); replace hM := Lib.hid (hM.out.below hb); clear hb
 refine qaa (qae (v := .tuple _) rfl rfl) rfl ?_; (try simp only [Act.put, lyy])
 refine qaa (qbt (v := .agg (A.map b8).toArray) rfl rfl rfl) rfl ?_; (try simp only [Act.put, lyy])
 refine qaa (qbt (v := .agg (H.map b8).toArray) rfl rfl rfl) rfl ?_; (try simp only [Act.put, lyy])
 refine qaa (qat (vs := z8 32) rfl (by kernel_rfl)) rfl ?_; (try simp only [Act.put, lyy]); replace hM := Lib.hid (hM.out.new (z8 32) 24); generalize a3.alloc (.cells (z8 32).toArray 24) = a4 at *; generalize a3.heap.size = g3 at *
 refine qaa (qat (vs := z8 32) rfl (by kernel_rfl)) rfl ?_; (try simp only [Act.put, lyy]); replace hM := Lib.hid (hM.out.new (z8 32) 24); generalize a4.alloc (.cells (z8 32).toArray 24) = a5 at *; generalize a4.heap.size = g4 at *
 refine qag (qar (vs := A.map b8) rfl SA.out rfl rfl (one8s _) (by rw [LA.out]; exact (hM.out.get (i := 1) rfl).there)) rfl rfl ?_; replace hM := Lib.hid (hM.out.put 1 rfl (m := A.map b8) (LA.out))
 generalize a5.setCells g3 0 (A.map b8) = a6 at *
 refine qag (qar (vs := H.map b8) rfl SH.out rfl rfl (one8s _) (by rw [LH.out]; exact (hM.out.get (i := 0) rfl).there)) rfl rfl ?_; replace hM := Lib.hid (hM.out.put 0 rfl (m := H.map b8) (LH.out))
 refine qab ?_
 replace hM : Hid (Mv w [(g4, H.map b8), (g3, A.map b8), (g2, z8 64), (g1, k.map b8)] (a6.setCells g4 0 (H.map b8))) := hM
 generalize a6.setCells g4 0 (H.map b8) = a7 at *
 go_upto_region 2 with fail; refine wp_region_lit ?_
 refine qaa (qaj (vs := A.map b8) rfl Tryd.underlying24 rfl SA.out rfl ((hM.out.get (i := 1) rfl).range)) rfl ?_; (try simp only [Act.put, lyy])
 refine qam (qap enters_sgtimes rfl rfl rfl) rfl (CT.out _ (HW.out.below hM.out.bl)) (fun a8 hb => ?_); (try simp only [Act.put, lyy]); replace hM := Lib.hid (hM.out.below hb); clear hb
 refine qaa (qat (vs := z8 32) rfl (by kernel_rfl)) rfl ?_; (try simp only [Act.put, lyy]); replace hM := Lib.hid (hM.out.new (z8 32) 24); generalize a8.alloc (.cells (z8 32).toArray 24) = a9 at *; generalize a8.heap.size = g5 at *
 refine qag (qar (vs := P.map b8) rfl SP.out rfl rfl (one8s _) (by rw [LP.out]; exact (hM.out.get (i := 0) rfl).there)) rfl rfl ?_; replace hM := Lib.hid (hM.out.put 0 rfl (m := P.map b8) (LP.out))
 refine qab ?_
 replace hM : Hid (Mv w [(g5, P.map b8), (g4, H.map b8), (g3, A.map b8), (g2, z8 64), (g1, k.map b8)] (a9.setCells g5 0 (P.map b8))) := hM
 generalize a9.setCells g5 0 (P.map b8) = b1 at *
 go_upto_region 3 with fail; refine wp_region_lit ?_
 refine qaa (qds rfl Tryd.underlying24 (by kernel_rfl) rfl) rfl ?_; (try simp only [Act.put, lyy])
 refine qaa (qae (v := .slice _ _ _) rfl rfl) rfl ?_; (try simp only [Act.put, lyy])
 have HCt : Hid (Cat b1.heap.size [.slice (some ⟨g4, 0, none⟩) 32 32, .slice ab b.length cb] [H, b] (b1.alloc (.cells #[.slice (some ⟨g4, 0, none⟩) 32 32, .slice ab b.length cb] 22))) := Lib.hid (cat_row b1 _ [H, b] fun i hi => match i, hi with
  | 0, _ => ⟨_, rfl, sl_own (hM.out.get (i := 1) rfl) lH⟩
  | 1, _ => ⟨_, rfl, HB.out.below hM.out.bl⟩
  | i + 2, hi => absurd hi (by simp))
 refine qaa (run_bsl (cells := #[.slice (some ⟨g4, 0, none⟩) 32 32, .slice ab b.length cb]) (z := .slice none 0 0) rfl Tryd.underlying80 (by kernel_rfl) (by omega) (by omega) (by kernel_rfl)) rfl ?_; (try simp only [Act.put, lyy])
 replace hM := Lib.hid (hM.out.below (qc6 b1 #[.slice (some ⟨g4, 0, none⟩) 32 32, .slice ab b.length cb] 22))
 generalize b1.alloc (.cells #[.slice (some ⟨g4, 0, none⟩) 32 32, .slice ab b.length cb] 22) = b2 at *
 generalize b1.heap.size = gc at *
 refine qam (qap enters_sgnum rfl rfl rfl) rfl (CN.out gc _ _ _ HCt.out (HW.out.below hM.out.bl)) (fun b3 hb => ?_); (try simp only [Act.put, lyy]); replace hM := Lib.hid (hM.out.below hb); clear hb
 clear HCt
 refine qaa (qat (vs := z8 32) rfl (by kernel_rfl)) rfl ?_; (try simp only [Act.put, lyy]); replace hM := Lib.hid (hM.out.new (z8 32) 24); generalize b3.alloc (.cells (z8 32).toArray 24) = b4 at *; generalize b3.heap.size = g6 at *
 refine qag (qar (vs := R.map b8) rfl SR.out rfl rfl (one8s _) (by rw [LR.out]; exact (hM.out.get (i := 0) rfl).there)) rfl rfl ?_; replace hM := Lib.hid (hM.out.put 0 rfl (m := R.map b8) (LR.out))
 refine qab ?_
 replace hM : Hid (Mv w [(g6, R.map b8), (g5, P.map b8), (g4, H.map b8), (g3, A.map b8), (g2, z8 64), (g1, k.map b8)] (b4.setCells g6 0 (R.map b8))) := hM
 generalize b4.setCells g6 0 (R.map b8) = b5 at *
 go_upto_region 4 with fail; refine wp_region_lit ?_
 refine qaa (qaj (vs := R.map b8) rfl Tryd.underlying24 rfl SR.out rfl ((hM.out.get (i := 0) rfl).range)) rfl ?_; (try simp only [Act.put, lyy])
 refine qam (qap enters_sgtimes rfl rfl rfl) rfl (CF.out _ (HW.out.below hM.out.bl)) (fun b6 hb => ?_); (try simp only [Act.put, lyy]); replace hM := Lib.hid (hM.out.below hb); clear hb
 refine qaa (qat (vs := z8 32) rfl (by kernel_rfl)) rfl ?_; (try simp only [Act.put, lyy]); replace hM := Lib.hid (hM.out.new (z8 32) 24); generalize b6.alloc (.cells (z8 32).toArray 24) = b7 at *; generalize b6.heap.size = g7 at *
 refine qag (qar (vs := F0.map b8) rfl SF.out rfl rfl (one8s _) (by rw [LF.out]; exact (hM.out.get (i := 0) rfl).there)) rfl rfl ?_; replace hM := Lib.hid (hM.out.put 0 rfl (m := F0.map b8) (LF.out))
 refine qab ?_
 replace hM : Hid (Mv w [(g7, F0.map b8), (g6, R.map b8), (g5, P.map b8), (g4, H.map b8), (g3, A.map b8), (g2, z8 64), (g1, k.map b8)] (b7.setCells g7 0 (F0.map b8))) := hM
 generalize b7.setCells g7 0 (F0.map b8) = b8' at *
 go_upto_region 5 with fail
 refine wp_region_noPanic ?_; refine qay (S := Till 10 (fun V => Below b8'.heap.size b8' V)) (by kernel_rfl) (.inr (Below.refl _ _).drew) (fun _ => ?_); have hS : Below b8'.heap.size b8' b8'.drew := (Below.refl _ _).drew
 generalize b8'.drew = c1 at *
 refine qak 0 rfl rfl (by kernel_rfl) (by kernel_rfl) (by kernel_rfl) (by kernel_rfl) (by kernel_rfl) (fun _ _ _ h => h) rfl (fun V hV => qaj (vs := F0.map b8) rfl Tryd.underlying24 rfl SF.out rfl ((hM.out.below hV).get (i := 0) rfl).range) hS ?_; (try simp only [Act.put, lyy])
 refine qak 1 rfl rfl (by kernel_rfl) (by kernel_rfl) (by kernel_rfl) (by kernel_rfl) (by kernel_rfl) (fun _ _ _ h => h) rfl (fun V hV => qds rfl Tryd.underlying24 (by kernel_rfl) rfl) hS ?_; (try simp only [Act.put, lyy])
 refine qak 2 rfl rfl (by kernel_rfl) (by kernel_rfl) (by kernel_rfl) (by kernel_rfl) (by kernel_rfl) (fun _ _ _ h => h) rfl (fun V hV => qds rfl Tryd.underlying24 (by kernel_rfl) rfl) hS ?_; (try simp only [Act.put, lyy])
 refine qak 3 rfl rfl (by kernel_rfl) (by kernel_rfl) (by kernel_rfl) (by kernel_rfl) (by kernel_rfl) (fun _ _ _ h => h) rfl (fun V hV => qae (v := .slice _ _ _) rfl rfl) hS ?_; (try simp only [Act.put, lyy])
 refine qak 6 rfl rfl (by kernel_rfl) (by kernel_rfl) (by kernel_rfl) (by kernel_rfl) (by kernel_rfl) (fun _ _ _ h => h) rfl (fun V hV => qaj (vs := A.map b8) rfl Tryd.underlying24 rfl SA.out rfl ((hM.out.below hV).get (i := 4) rfl).range) hS ?_; (try simp only [Act.put, lyy])
 refine qak 7 rfl rfl (by kernel_rfl) (by kernel_rfl) (by kernel_rfl) (by kernel_rfl) (by kernel_rfl) (fun _ _ _ h => h) rfl (fun V hV => qaj (vs := R.map b8) rfl Tryd.underlying24 rfl SR.out rfl ((hM.out.below hV).get (i := 1) rfl).range) hS ?_; (try simp only [Act.put, lyy])
 replace hM := Lib.hid (hM.out.below hS)
 have HCt : Hid (Cat c1.heap.size [.slice (some ⟨g7, 0, none⟩) 32 32, .slice (some ⟨g5, 0, none⟩) 32 32, .slice ab b.length cb] [F0, P, b] (c1.alloc (.cells #[.slice (some ⟨g7, 0, none⟩) 32 32, .slice (some ⟨g5, 0, none⟩) 32 32, .slice ab b.length cb] 22))) := Lib.hid (cat_row c1 _ [F0, P, b] fun i hi => match i, hi with
  | 0, _ => ⟨_, rfl, sl_own (hM.out.get (i := 0) rfl) lF⟩
  | 1, _ => ⟨_, rfl, sl_own (hM.out.get (i := 2) rfl) lP⟩
  | 2, _ => ⟨_, rfl, HB.out.below hM.out.bl⟩
  | i + 3, hi => absurd hi (by simp))
 refine qcj 4 (by kernel_rfl) rfl rfl rfl (run_bsl (cells := #[.slice (some ⟨g7, 0, none⟩) 32 32, .slice (some ⟨g5, 0, none⟩) 32 32, .slice ab b.length cb]) (z := .slice none 0 0) rfl Tryd.underlying80 (by kernel_rfl) (by omega) (by omega) (by kernel_rfl)) (.inr (hS.alloc hS.size _)) ?_; (try simp only [Act.put, lyy])
 have hb := qc6 c1 #[.slice (some ⟨g7, 0, none⟩) 32 32, .slice (some ⟨g5, 0, none⟩) 32 32, .slice ab b.length cb] 22
 replace hM := Lib.hid (hM.out.below hb)
 replace hS := hS.trans (hb.mono hS.size)
 clear hb
 generalize c1.alloc (.cells #[.slice (some ⟨g7, 0, none⟩) 32 32, .slice (some ⟨g5, 0, none⟩) 32 32, .slice ab b.length cb] 22) = c2 at *
 generalize c1.heap.size = gd at *
 refine wpAnyD_call 5 (by kernel_rfl) rfl rfl rfl (qap enters_sgnum rfl rfl rfl) (CK.out gd _ _ _ _ HCt.out (HW.out.below hM.out.bl)) (fun w hb => hS.trans (hb.mono hS.size)) (fun c3 hb => ?_); (try simp only [Act.put, lyy])
 replace hM := Lib.hid (hM.out.below hb)
 replace hS := hS.trans (hb.mono hS.size)
 clear hb HCt
 refine wpAnyD_call 8 (by kernel_rfl) rfl rfl rfl (qbx enters_smad rfl rfl rfl rfl rfl) (CM.out _ (HW.out.below hM.out.bl)) (fun w hb => hS.trans (hb.mono hS.size)) (fun c4 hb => ?_); (try simp only [Act.put, lyy])
 replace hM := Lib.hid (hM.out.below hb)
 replace hS := hS.trans (hb.mono hS.size)
 clear hb
 refine wpAnyD_call 9 (by kernel_rfl) rfl rfl rfl (qao enters_sgjoin rfl rfl rfl rfl) (CJ.out _) (fun w hb => hS.trans (hb.mono hS.size)) (fun c5 hb => ?_); (try simp only [Act.put, lyy])
 replace hM := Lib.hid (hM.out.below hb)
 clear hb
 refine qbo 10 (by kernel_rfl) rfl rfl rfl (qar (vs := G.map b8) rfl SG2.out rfl rfl (one8s _) ((hM.out.get (i := 5) rfl).thereM (by rw [LG.out]; omega))) (.inl rfl) ?_
 refine qa2 (by kernel_rfl) ?_ _; refine NoPanic.normal ?_
 replace hM := Lib.hid (hM.out.put 5 rfl (m := G.map b8) LG.out)
 go_wp2_with fail
 refine bodyPost_ret (v := .agg (G.map b8).toArray) (qa8 Tryd.results24 rfl Tryd.underlying27 rfl SG2.out (hM.out.get (i := 5) rfl).range) rfl ⟨rfl, hM.out.bl⟩
theorem sigC : SigC := fun k vb b u hk hb hbl hW => sgsign_any k vb b u hk hb hbl hW
end Go.Proofs.YtcgbgmbnagmohaaDoor
namespace Go.Proofs.YtcgbgmbnagmohaaDoor
open Go.RowKit
set_option maxRecDepth 20000
theorem decR_nm (n : Nat) : (decR n).1.Nm := by
 have h0 : Num 0 := num_small (by omega) (by omega)
 have hz : zPt.Nm := ⟨h0, h0⟩
 unfold decR
 split
 ·split
  ·exact evP_nm (qa0 _)
  ·split
   ·exact hz
   ·exact (negP_ok _).nm
 ·exact hz
section
variable {w : World} {ρ : Operand → Value} {o : Oper} {t : TypeId} {x : Operand}
theorem run_notF (ho : o.op = .unOp .not t x) (hx : ρ x = .bool false) : (execOp ρ o).run Tryd.prog w = .ok (.value (.bool true)) w := qdf ho hx
theorem qc7 (ho : o.op = .unOp .not t x) (hx : ρ x = .bool true) : (execOp ρ o).run Tryd.prog w = .ok (.value (.bool false)) w := qdf ho hx
end
set_option maxHeartbeats 8000000 in
theorem sgverify_any (p : List (BitVec 8)) (vb : Value) (b s : List (BitVec 8)) (w : World) (hp : p.length = 32) (hs : s.length = 64) (hb : Sl vb b w) (hbl : b.length ≤ 300) (hW : W9 w) : Calls Tryd.prog 27 #[.agg (p.map b8).toArray, vb, .agg (s.map b8).toArray] w fun e w' => e = .returned (.bool (verB p b s)) ∧ Below w.heap.size w w' := by
 have HW := Lib.hid hW; clear hW
 have HB := Lib.hid hb
 obtain ⟨ab, cb, rfl, -, -⟩ := hb
 have lX : (s.take 32).length = 32 := by rw [List.length_take]; omega
 have lY : (s.drop 32).length = 32 := by rw [List.length_drop]; omega
 have lN := nmB_len (s.take 32 ++ p ++ b)
 have EV : Hid (verB p b s = (decide (leB (s.drop 32) < ell) && (decR (leB p)).2 && (decR (leB (s.take 32))).2 && decide (mulP (leB (s.drop 32)) bs = addP (decR (leB (s.take 32))).1 (mulP (leB (nmB (s.take 32 ++ p ++ b))) (decR (leB p)).1)))) := Lib.hid rfl
 have nP := decR_nm (leB p)
 have nQ := decR_nm (leB (s.take 32))
 have nB : bs.Nm := bs_ok.nm
 have n1 : (mulP (leB (s.drop 32)) bs).Nm := (mulP_ok _ _).nm
 have n2 : (mulP (leB (nmB (s.take 32 ++ p ++ b))) (decR (leB p)).1).Nm := (mulP_ok _ _).nm
 have n3 : (addP (decR (leB (s.take 32))).1 (mulP (leB (nmB (s.take 32 ++ p ++ b))) (decR (leB p)).1)).Nm := (addP_ok _ _).nm
 have CS : Hid (∀ u : World, Calls Tryd.prog 37 #[.agg (s.map b8).toArray] u fun e w' => e = .returned (.tuple #[.agg ((s.take 32).map b8).toArray, .agg ((s.drop 32).map b8).toArray]) ∧ Below u.heap.size u w') := Lib.hid fun u => sgsplit_any s u hs
 have CC : Hid (∀ u : World, W9 u → Calls Tryd.prog 38 #[.agg ((s.drop 32).map b8).toArray] u fun e w' => e = .returned (.bool (decide (leB (s.drop 32) < ell))) ∧ Below u.heap.size u w') := Lib.hid fun u h => scanon_any _ u lY h.s
 have CP : Hid (∀ u : World, W9 u → Calls Tryd.prog 39 #[.agg (p.map b8).toArray] u fun e w' => e = .returned (.tuple #[.agg (ptL (decR (leB p)).1).toArray, .bool (decR (leB p)).2]) ∧ Below u.heap.size u w') := Lib.hid fun u h => decode_any p u hp h.e
 have CQ : Hid (∀ u : World, W9 u → Calls Tryd.prog 39 #[.agg ((s.take 32).map b8).toArray] u fun e w' => e = .returned (.tuple #[.agg (ptL (decR (leB (s.take 32))).1).toArray, .bool (decR (leB (s.take 32))).2]) ∧ Below u.heap.size u w') := Lib.hid fun u h => decode_any _ u lX h.e
 have CN : Hid (∀ (g : Nat) (v1 v2 v3 : Value) (u : World), Cat g [v1, v2, v3] [s.take 32, p, b] u → W9 u → Calls Tryd.prog 34 #[.slice (some ⟨g, 0, none⟩) 3 3] u fun e w' => e = .returned (.agg ((nmB (s.take 32 ++ p ++ b)).map b8).toArray) ∧ Below u.heap.size u w') := Lib.hid fun g v1 v2 v3 u h h2 => by
  have h := sgnum_any g [v1, v2, v3] [s.take 32, p, b] 3 u h rfl (by omega) (by rw [flat3g, List.length_append, List.length_append]; omega) h2
  rw [flat3g] at h; exact h
 have CB : Hid (∀ u : World, W9 u → Calls Tryd.prog 41 #[] u fun e w' => e = .returned (.agg (ptL bs).toArray) ∧ Below u.heap.size u w') := Lib.hid fun u h => base_any u h.e
 have C1 : Hid (∀ u : World, W9 u → Calls Tryd.prog 40 #[.agg ((s.drop 32).map b8).toArray, .agg (ptL bs).toArray] u fun e w' => e = .returned (.agg (ptL (mulP (leB (s.drop 32)) bs)).toArray) ∧ Below u.heap.size u w') := Lib.hid fun u h => mulP_any _ _ u lY nB h.e
 have C2 : Hid (∀ u : World, W9 u → Calls Tryd.prog 40 #[.agg ((nmB (s.take 32 ++ p ++ b)).map b8).toArray, .agg (ptL (decR (leB p)).1).toArray] u fun e w' => e = .returned (.agg (ptL (mulP (leB (nmB (s.take 32 ++ p ++ b))) (decR (leB p)).1)).toArray) ∧ Below u.heap.size u w') := Lib.hid fun u h => mulP_any _ _ u lN nP h.e
 have C3 : Hid (∀ u : World, W9 u → Calls Tryd.prog 42 #[.agg (ptL (decR (leB (s.take 32))).1).toArray, .agg (ptL (mulP (leB (nmB (s.take 32 ++ p ++ b))) (decR (leB p)).1)).toArray] u fun e w' => e = .returned (.agg (ptL (addP (decR (leB (s.take 32))).1 (mulP (leB (nmB (s.take 32 ++ p ++ b))) (decR (leB p)).1))).toArray) ∧ Below u.heap.size u w') := Lib.hid fun u h => addP_any _ _ u nQ n2 h.e
 generalize verB p b s = VV at *
 generalize addP (decR (leB (s.take 32))).1 (mulP (leB (nmB (s.take 32 ++ p ++ b))) (decR (leB p)).1) = A3 at *
 generalize mulP (leB (nmB (s.take 32 ++ p ++ b))) (decR (leB p)).1 = A2 at *
 generalize mulP (leB (s.drop 32)) bs = A1' at *
 generalize bs = B at *
 generalize decide (leB (s.drop 32) < ell) = cc at *
 generalize (decR (leB p)).1 = P1 at *
 generalize (decR (leB p)).2 = o1 at *
 generalize (decR (leB (s.take 32))).1 = Q1 at *
 generalize (decR (leB (s.take 32))).2 = o2 at *
 generalize nmB (s.take 32 ++ p ++ b) = N at *
 generalize s.take 32 = X at *
 generalize s.drop 32 = Y at *
 have SP := Lib.hid (szKy hp)
 have SS := Lib.hid (szSg hs)
 have SX := Lib.hid (szKy lX)
 have SY := Lib.hid (szKy lY)
 have SN := Lib.hid (szKy lN)
 have LX : Hid ((X.map b8).length = (z8 32).length) := Lib.hid (by rw [z8_32, List.length_map, lX])
 have LY : Hid ((Y.map b8).length = (z8 32).length) := Lib.hid (by rw [z8_32, List.length_map, lY])
 have LN : Hid ((N.map b8).length = (z8 32).length) := Lib.hid (by rw [z8_32, List.length_map, lN])
 have hM := Lib.hid (Mv.nil w)
 go_enter Tryd.func27, Tryd.ntmps27
 go_upto_region 0 with fail; refine wp_region_lit ?_
 refine qaa (qau (vs := p.map b8) rfl rfl) rfl ?_; (try simp only [Act.put, lyy]); replace hM := Lib.hid (hM.out.new (p.map b8) 24); generalize w.alloc (.cells (p.map b8).toArray 24) = a1 at *; generalize w.heap.size = g1 at *
 refine qaa (qau (vs := s.map b8) rfl rfl) rfl ?_; (try simp only [Act.put, lyy]); replace hM := Lib.hid (hM.out.new (s.map b8) 27); generalize a1.alloc (.cells (s.map b8).toArray 27) = a2 at *; generalize a1.heap.size = g2 at *
 refine qaa (qaf (v := .bool false) rfl rfl) rfl ?_; (try simp only [Act.put, lyy])
 refine qab ?_
 go_upto_region 1 with fail; refine wp_region_lit ?_
 refine qaa (qaj (vs := s.map b8) rfl Tryd.underlying27 rfl SS.out rfl ((hM.out.get (i := 0) rfl).range)) rfl ?_; (try simp only [Act.put, lyy])
 refine qam (qap enters_sgsplit rfl rfl rfl) rfl (CS.out _) (fun a3 hb => ?_); (try simp only [Act.put, lyy]); replace hM := Lib.hid (hM.out.below hb); clear hb
 refine qaa (qae (v := .tuple _) rfl rfl) rfl ?_; (try simp only [Act.put, lyy])
 refine qaa (qbt (v := .agg (X.map b8).toArray) rfl rfl rfl) rfl ?_; (try simp only [Act.put, lyy])
 refine qaa (qbt (v := .agg (Y.map b8).toArray) rfl rfl rfl) rfl ?_; (try simp only [Act.put, lyy])
 refine qaa (qat (vs := z8 32) rfl (by kernel_rfl)) rfl ?_; (try simp only [Act.put, lyy]); replace hM := Lib.hid (hM.out.new (z8 32) 24); generalize a3.alloc (.cells (z8 32).toArray 24) = a4 at *; generalize a3.heap.size = g3 at *
 refine qaa (qat (vs := z8 32) rfl (by kernel_rfl)) rfl ?_; (try simp only [Act.put, lyy]); replace hM := Lib.hid (hM.out.new (z8 32) 24); generalize a4.alloc (.cells (z8 32).toArray 24) = a5 at *; generalize a4.heap.size = g4 at *
 refine qag (qar (vs := X.map b8) rfl SX.out rfl rfl (one8s _) (by rw [LX.out]; exact (hM.out.get (i := 1) rfl).there)) rfl rfl ?_; replace hM := Lib.hid (hM.out.put 1 rfl (m := X.map b8) (LX.out))
 generalize a5.setCells g3 0 (X.map b8) = a6 at *
 refine qag (qar (vs := Y.map b8) rfl SY.out rfl rfl (one8s _) (by rw [LY.out]; exact (hM.out.get (i := 0) rfl).there)) rfl rfl ?_; replace hM := Lib.hid (hM.out.put 0 rfl (m := Y.map b8) (LY.out))
 refine qab ?_
 replace hM : Hid (Mv w [(g4, Y.map b8), (g3, X.map b8), (g2, s.map b8), (g1, p.map b8)] (a6.setCells g4 0 (Y.map b8))) := hM
 generalize a6.setCells g4 0 (Y.map b8) = a7 at *
 go_upto_region 2 with fail; refine wp_region_lit ?_
 refine qaa (qaj (vs := Y.map b8) rfl Tryd.underlying24 rfl SY.out rfl ((hM.out.get (i := 0) rfl).range)) rfl ?_; (try simp only [Act.put, lyy])
 refine qam (qap enters_scanon rfl rfl rfl) rfl (CC.out _ (HW.out.below hM.out.bl)) (fun a8 hb => ?_); (try simp only [Act.put, lyy]); replace hM := Lib.hid (hM.out.below hb); clear hb
 cases cc
 ·refine qaa (run_notF rfl rfl) rfl ?_; (try simp only [Act.put, lyy])
  refine qab ?_
  go_upto_region 3 with fail; refine wp_region_lit ?_
  refine qaa (qaf (v := .bool false) rfl rfl) rfl ?_; (try simp only [Act.put, lyy])
  refine qab ?_
  go_wp2_with fail
  go_ret
  exact ⟨by rw [EV.out]; rfl, hM.out.bl⟩
 ·refine qaa (qc7 rfl rfl) rfl ?_; (try simp only [Act.put, lyy])
  refine qab ?_
  go_upto_region 4 with fail; refine wp_region_lit ?_
  refine qaa (qaj (vs := p.map b8) rfl Tryd.underlying24 rfl SP.out rfl ((hM.out.get (i := 3) rfl).range)) rfl ?_; (try simp only [Act.put, lyy])
  refine qam (qap enters_decode rfl rfl rfl) rfl (CP.out _ (HW.out.below hM.out.bl)) (fun a9 hb => ?_); (try simp only [Act.put, lyy]); replace hM := Lib.hid (hM.out.below hb); clear hb
  refine qaa (qae (v := .tuple _) rfl rfl) rfl ?_; (try simp only [Act.put, lyy])
  refine qaa (qbt (v := .agg (ptL P1).toArray) rfl rfl rfl) rfl ?_; (try simp only [Act.put, lyy])
  refine qaa (qbt (v := .bool o1) rfl rfl rfl) rfl ?_; (try simp only [Act.put, lyy])
  refine qaa (qat (vs := zq 8) rfl (by kernel_rfl)) rfl ?_; (try simp only [Act.put, lyy]); replace hM := Lib.hid (hM.out.new (zq 8) 68); generalize a9.alloc (.cells (zq 8).toArray 68) = b1 at *; generalize a9.heap.size = g5 at *
  refine qag (qar (vs := ptL P1) rfl (szPt _) rfl rfl (onePt _) ((hM.out.get (i := 0) rfl).there)) rfl rfl ?_; replace hM := Lib.hid (hM.out.put 0 rfl (m := ptL P1) rfl); generalize b1.setCells g5 0 (ptL P1) = b2 at *
  refine qaa (qaf (v := .bool o1) rfl rfl) rfl ?_; (try simp only [Act.put, lyy])
  refine qab ?_
  go_upto_region 5 with fail; refine wp_region_lit ?_
  refine qaa (qaj (vs := X.map b8) rfl Tryd.underlying24 rfl SX.out rfl ((hM.out.get (i := 2) rfl).range)) rfl ?_; (try simp only [Act.put, lyy])
  refine qam (qap enters_decode rfl rfl rfl) rfl (CQ.out _ (HW.out.below hM.out.bl)) (fun b3 hb => ?_); (try simp only [Act.put, lyy]); replace hM := Lib.hid (hM.out.below hb); clear hb
  refine qaa (qae (v := .tuple _) rfl rfl) rfl ?_; (try simp only [Act.put, lyy])
  refine qaa (qbt (v := .agg (ptL Q1).toArray) rfl rfl rfl) rfl ?_; (try simp only [Act.put, lyy])
  refine qaa (qbt (v := .bool o2) rfl rfl rfl) rfl ?_; (try simp only [Act.put, lyy])
  refine qaa (qat (vs := zq 8) rfl (by kernel_rfl)) rfl ?_; (try simp only [Act.put, lyy]); replace hM := Lib.hid (hM.out.new (zq 8) 68); generalize b3.alloc (.cells (zq 8).toArray 68) = b4 at *; generalize b3.heap.size = g6 at *
  refine qag (qar (vs := ptL Q1) rfl (szPt _) rfl rfl (onePt _) ((hM.out.get (i := 0) rfl).there)) rfl rfl ?_; replace hM := Lib.hid (hM.out.put 0 rfl (m := ptL Q1) rfl); generalize b4.setCells g6 0 (ptL Q1) = e1 at *
  refine qaa (qaf (v := .bool o2) rfl rfl) rfl ?_; (try simp only [Act.put, lyy])
  refine qab ?_
  replace hM : Hid (Mv w [(g6, ptL Q1), (g5, ptL P1), (g4, Y.map b8), (g3, X.map b8), (g2, s.map b8), (g1, p.map b8)] e1) := hM
  cases o1
  ·go_upto_region 6 with fail; refine wp_region_lit ?_
   refine qaa (qae (v := .bool false) rfl rfl) rfl ?_; (try simp only [Act.put, lyy])
   refine qaa (run_notF rfl rfl) rfl ?_; (try simp only [Act.put, lyy])
   refine qaa (qae (v := .bool true) rfl rfl) rfl ?_; (try simp only [Act.put, lyy])
   refine qa3 rfl ?_; (try simp only [Act.put, lyy])
   refine qa3 rfl ?_; (try simp only [Act.put, lyy])
   refine qaa (qaz (b := true) (v := .bool true) rfl rfl rfl) rfl ?_; (try simp only [Act.put, lyy])
   refine qab ?_
   go_upto_region 7 with fail; refine wp_region_lit ?_
   refine qaa (qaf (v := .bool false) rfl rfl) rfl ?_; (try simp only [Act.put, lyy])
   refine qab ?_
   go_wp2_with fail
   go_ret
   exact ⟨by rw [EV.out]; rfl, hM.out.bl⟩
  cases o2
  ·go_upto_region 6 with fail; refine wp_region_lit ?_
   refine qaa (qae (v := .bool true) rfl rfl) rfl ?_; (try simp only [Act.put, lyy])
   refine qaa (qc7 rfl rfl) rfl ?_; (try simp only [Act.put, lyy])
   refine qaa (qae (v := .bool false) rfl rfl) rfl ?_; (try simp only [Act.put, lyy])
   refine qah (qae (v := .bool false) rfl rfl) rfl ?_; (try simp only [Act.put, lyy])
   refine qah (run_notF rfl rfl) rfl ?_; (try simp only [Act.put, lyy])
   refine qaa (qaz (b := false) (v := .bool true) rfl rfl rfl) rfl ?_; (try simp only [Act.put, lyy])
   refine qab ?_
   go_upto_region 7 with fail; refine wp_region_lit ?_
   refine qaa (qaf (v := .bool false) rfl rfl) rfl ?_; (try simp only [Act.put, lyy])
   refine qab ?_
   go_wp2_with fail
   go_ret
   exact ⟨by rw [EV.out]; rfl, hM.out.bl⟩
  go_upto_region 6 with fail; refine wp_region_lit ?_
  refine qaa (qae (v := .bool true) rfl rfl) rfl ?_; (try simp only [Act.put, lyy])
  refine qaa (qc7 rfl rfl) rfl ?_; (try simp only [Act.put, lyy])
  refine qaa (qae (v := .bool false) rfl rfl) rfl ?_; (try simp only [Act.put, lyy])
  refine qah (qae (v := .bool true) rfl rfl) rfl ?_; (try simp only [Act.put, lyy])
  refine qah (qc7 rfl rfl) rfl ?_; (try simp only [Act.put, lyy])
  refine qaa (qaz (b := false) (v := .bool false) rfl rfl rfl) rfl ?_; (try simp only [Act.put, lyy])
  refine qab ?_
  go_upto_region 8 with fail
  have HCat : Hid (∀ V, Below e1.heap.size e1 V → Cat V.heap.size [.slice (some ⟨g3, 0, none⟩) 32 32, .slice (some ⟨g1, 0, none⟩) 32 32, .slice ab b.length cb] [X, p, b] (V.alloc (.cells #[.slice (some ⟨g3, 0, none⟩) 32 32, .slice (some ⟨g1, 0, none⟩) 32 32, .slice ab b.length cb] 22))) := Lib.hid fun V hV => cat_row V _ [X, p, b] fun i hi => match i, hi with
   | 0, _ => ⟨_, rfl, sl_own ((hM.out.below hV).get (i := 3) rfl) lX⟩
   | 1, _ => ⟨_, rfl, sl_own ((hM.out.below hV).get (i := 5) rfl) hp⟩
   | 2, _ => ⟨_, rfl, HB.out.below (hM.out.below hV).bl⟩
   | i + 3, hi => absurd hi (by simp)
  go_cut [13] (fun s13 u => ∃ g, s13 = .pointer (some ⟨g, 0, none⟩) ∧ Mv w [(g, N.map b8), (g6, ptL Q1), (g5, ptL P1), (g4, Y.map b8), (g3, X.map b8), (g2, s.map b8), (g1, p.map b8)] u)
  case first =>
   refine wp_region_noPanic ?_; refine qay (S := fun _ V => Below e1.heap.size e1 V) (by kernel_rfl) ((Below.refl _ _).drew) (fun hS => ?_)
   generalize e1.drew = e2 at *
   refine qac 0 rfl rfl (by kernel_rfl) (by kernel_rfl) (by kernel_rfl) (fun _ _ _ h => h) rfl (fun V hV => qds rfl Tryd.underlying24 (by kernel_rfl) rfl) hS ?_; (try simp only [Act.put, lyy])
   refine qac 1 rfl rfl (by kernel_rfl) (by kernel_rfl) (by kernel_rfl) (fun _ _ _ h => h) rfl (fun V hV => qds rfl Tryd.underlying24 (by kernel_rfl) rfl) hS ?_; (try simp only [Act.put, lyy])
   refine qac 2 rfl rfl (by kernel_rfl) (by kernel_rfl) (by kernel_rfl) (fun _ _ _ h => h) rfl (fun V hV => qae (v := .slice _ _ _) rfl rfl) hS ?_; (try simp only [Act.put, lyy])
   refine qdl 3 5 (by kernel_rfl) ?_ ?_
   ·refine wpOp_val 3 rfl rfl rfl (run_bsl (cells := #[.slice (some ⟨g3, 0, none⟩) 32 32, .slice (some ⟨g1, 0, none⟩) 32 32, .slice ab b.length cb]) (z := .slice none 0 0) rfl Tryd.underlying80 (by kernel_rfl) (by omega) (by omega) (by kernel_rfl)) ?_; (try simp only [Act.put, lyy])
    have HCt := Lib.hid (HCat.out _ hS)
    replace hS := hS.alloc hS.size (.cells #[.slice (some ⟨g3, 0, none⟩) 32 32, .slice (some ⟨g1, 0, none⟩) 32 32, .slice ab b.length cb] 22)
    generalize e2.alloc (.cells #[.slice (some ⟨g3, 0, none⟩) 32 32, .slice (some ⟨g1, 0, none⟩) 32 32, .slice ab b.length cb] 22) = f1 at *
    generalize e2.heap.size = gc at *
    refine ⟨hS, ?_⟩
    refine qdl 4 5 (by kernel_rfl) ?_ ?_
    ·refine wpOp_call 4 rfl rfl rfl (qap enters_sgnum rfl rfl rfl) (qbq (CN.out gc _ _ _ _ HCt.out (HW.out.below (hM.out.below hS).bl))) (fun v f2 hR => ?_); (try simp only [Act.put, lyy])
     obtain ⟨rfl, hb⟩ := hR
     replace hS := hS.trans (hb.mono hS.size)
     clear hb HCt
     refine ⟨hS, ?_⟩
     refine wpAnyL_val 5 (by kernel_rfl) rfl rfl rfl (qat (vs := z8 32) rfl (by kernel_rfl)) (hS.alloc hS.size _) ?_; (try simp only [Act.put, lyy])
     have hg := hS.size
     have A1 := Lib.hid (Arr.new f2 (z8 32) 24)
     replace hS := hS.alloc hg (.cells (z8 32).toArray 24)
     generalize f2.alloc (.cells (z8 32).toArray 24) = f3 at *
     generalize f2.heap.size = gA at *
     refine qbo 6 (by kernel_rfl) rfl rfl rfl (qar (vs := N.map b8) rfl SN.out rfl rfl (one8s _) (A1.out.thereM (by rw [LN.out]; omega))) (qa1 hg _ _ hS) ?_
     replace hS := qa1 hg (N.map b8) 0 hS
     replace A1 := Lib.hid (A1.out.put (l' := N.map b8) LN.out)
     generalize f3.setCells gA 0 (N.map b8) = wz at *
     refine qa2 (by kernel_rfl) ?_ _; refine NoPanic.normal ?_
     go_wp2_with fail
     go_meet
     exact ⟨gA, rfl, hM.out.add hS hg A1.out⟩
    ·refine wpOp_val 5 rfl rfl rfl (qat (vs := z8 32) rfl (by kernel_rfl)) ?_; (try simp only [Act.put, lyy])
     replace HCt := Lib.hid (HCt.out.below (qc6 f1 (z8 32).toArray 24))
     have hg := hS.size
     have A1 := Lib.hid (Arr.new f1 (z8 32) 24)
     replace hS := hS.alloc hg (.cells (z8 32).toArray 24)
     generalize f1.alloc (.cells (z8 32).toArray 24) = f2 at *
     generalize f1.heap.size = gA at *
     refine ⟨hS, ?_⟩
     refine qbi 4 (by kernel_rfl) rfl rfl rfl (qap enters_sgnum rfl rfl rfl) (qbq (CN.out gc _ _ _ _ HCt.out (HW.out.below (hM.out.below hS).bl))) (fun v w h => hS.trans (h.2.mono hS.size)) (fun v f3 hR => ?_); (try simp only [Act.put, lyy])
     obtain ⟨rfl, hb⟩ := hR
     replace hS := hS.trans (hb.mono hS.size)
     replace A1 := Lib.hid (A1.out.below hb)
     clear hb HCt
     refine qbo 6 (by kernel_rfl) rfl rfl rfl (qar (vs := N.map b8) rfl SN.out rfl rfl (one8s _) (A1.out.thereM (by rw [LN.out]; omega))) (qa1 hg _ _ hS) ?_
     replace hS := qa1 hg (N.map b8) 0 hS
     replace A1 := Lib.hid (A1.out.put (l' := N.map b8) LN.out)
     generalize f3.setCells gA 0 (N.map b8) = wz at *
     refine qa2 (by kernel_rfl) ?_ _; refine NoPanic.normal ?_
     go_wp2_with fail
     go_meet
     exact ⟨gA, rfl, hM.out.add hS hg A1.out⟩
   ·refine wpOp_val 5 rfl rfl rfl (qat (vs := z8 32) rfl (by kernel_rfl)) ?_; (try simp only [Act.put, lyy])
    have hg := hS.size
    have A1 := Lib.hid (Arr.new e2 (z8 32) 24)
    replace hS := hS.alloc hg (.cells (z8 32).toArray 24)
    generalize e2.alloc (.cells (z8 32).toArray 24) = f1 at *
    generalize e2.heap.size = gA at *
    refine ⟨hS, ?_⟩
    refine wpAnyL_val 3 (by kernel_rfl) rfl rfl rfl (run_bsl (cells := #[.slice (some ⟨g3, 0, none⟩) 32 32, .slice (some ⟨g1, 0, none⟩) 32 32, .slice ab b.length cb]) (z := .slice none 0 0) rfl Tryd.underlying80 (by kernel_rfl) (by omega) (by omega) (by kernel_rfl)) (hS.alloc hS.size _) ?_; (try simp only [Act.put, lyy])
    have HCt := Lib.hid (HCat.out _ hS)
    replace A1 := Lib.hid (A1.out.below (qc6 f1 #[.slice (some ⟨g3, 0, none⟩) 32 32, .slice (some ⟨g1, 0, none⟩) 32 32, .slice ab b.length cb] 22))
    replace hS := hS.alloc hS.size (.cells #[.slice (some ⟨g3, 0, none⟩) 32 32, .slice (some ⟨g1, 0, none⟩) 32 32, .slice ab b.length cb] 22)
    generalize f1.alloc (.cells #[.slice (some ⟨g3, 0, none⟩) 32 32, .slice (some ⟨g1, 0, none⟩) 32 32, .slice ab b.length cb] 22) = f2 at *
    generalize f1.heap.size = gc at *
    refine qbi 4 (by kernel_rfl) rfl rfl rfl (qap enters_sgnum rfl rfl rfl) (qbq (CN.out gc _ _ _ _ HCt.out (HW.out.below (hM.out.below hS).bl))) (fun v w h => hS.trans (h.2.mono hS.size)) (fun v f3 hR => ?_); (try simp only [Act.put, lyy])
    obtain ⟨rfl, hb⟩ := hR
    replace hS := hS.trans (hb.mono hS.size)
    replace A1 := Lib.hid (A1.out.below hb)
    clear hb HCt
    refine qbo 6 (by kernel_rfl) rfl rfl rfl (qar (vs := N.map b8) rfl SN.out rfl rfl (one8s _) (A1.out.thereM (by rw [LN.out]; omega))) (qa1 hg _ _ hS) ?_
    replace hS := qa1 hg (N.map b8) 0 hS
    replace A1 := Lib.hid (A1.out.put (l' := N.map b8) LN.out)
    generalize f3.setCells gA 0 (N.map b8) = wz at *
    refine qa2 (by kernel_rfl) ?_ _; refine NoPanic.normal ?_
    go_wp2_with fail
    go_meet
    exact ⟨gA, rfl, hM.out.add hS hg A1.out⟩
  case rest =>
   obtain ⟨g7, rfl, hJ⟩ := hcut
   replace hM := Lib.hid hJ
   clear hJ
   generalize hwz : wc = h1 at *
   clear hwz
   go_upto_region 9 with fail; refine qbf 9 (by kernel_rfl) (by kernel_rfl) ?_
   refine qad _ (fun V hV => qai (qaj (vs := Y.map b8) rfl Tryd.underlying24 rfl SY.out rfl (((hM.out.below hV).get (i := 3) rfl).range))) ?_; (try simp only [Act.put, lyy])
   refine qad _ (fun V hV => qax (qdt enters_base rfl rfl) (CB.out V (HW.out.below (hM.out.below hV).bl))) ?_; (try simp only [Act.put, lyy])
   refine qad _ (fun V hV => qax (qao enters_mulP rfl rfl rfl rfl) (C1.out V (HW.out.below (hM.out.below hV).bl))) ?_; (try simp only [Act.put, lyy])
   refine qad _ (fun V hV => qai (qaj (vs := ptL Q1) rfl Tryd.underlying68 rfl (szPt _) rfl (((hM.out.below hV).get (i := 1) rfl).range))) ?_; (try simp only [Act.put, lyy])
   refine qad _ (fun V hV => qai (qaj (vs := N.map b8) rfl Tryd.underlying24 rfl SN.out rfl (((hM.out.below hV).get (i := 0) rfl).range))) ?_; (try simp only [Act.put, lyy])
   refine qad _ (fun V hV => qai (qaj (vs := ptL P1) rfl Tryd.underlying68 rfl (szPt _) rfl (((hM.out.below hV).get (i := 2) rfl).range))) ?_; (try simp only [Act.put, lyy])
   refine qad _ (fun V hV => qax (qao enters_mulP rfl rfl rfl rfl) (C2.out V (HW.out.below (hM.out.below hV).bl))) ?_; (try simp only [Act.put, lyy])
   refine qad _ (fun V hV => qax (qao enters_addP rfl rfl rfl rfl) (C3.out V (HW.out.below (hM.out.below hV).bl))) ?_; (try simp only [Act.put, lyy])
   refine qad _ (fun V hV => qai (run_eqPt n1 n3 rfl rfl rfl rfl)) ?_; (try simp only [Act.put, lyy])
   refine qbh ?_; intro h2 hb; simp only [List.drop_succ_cons, List.drop_zero]
   replace hM := Lib.hid (hM.out.below hb)
   clear hb
   refine qaa (qaf (v := .bool _) rfl rfl) rfl ?_; (try simp only [Act.put, lyy])
   refine qab ?_
   go_wp2_with fail
   go_ret
   exact ⟨by rw [EV.out]; rfl, hM.out.bl⟩
theorem verC : VerC := fun p vb b s u hp hs hb hbl hW => sgverify_any p vb b s u hp hs hb hbl hW
end Go.Proofs.YtcgbgmbnagmohaaDoor
