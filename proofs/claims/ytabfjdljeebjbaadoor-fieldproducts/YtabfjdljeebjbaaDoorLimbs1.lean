/- What keywardref01.limbs does. -/
import Derived.Test.YtabfjdljeebjbaaDoorLimbs0
namespace Go.Proofs.YtabfjdljeebjbaaDoor
open Go.RowKit

/-- The i-th limb of a number. -/
def lz (Z : Int) (i : Nat) : Int := Z / 65536 ^ i % 65536
theorem lz_bound (Z : Int) (i : Nat) : 0 ≤ lz Z i ∧ lz Z i < 65536 := by unfold lz; omega
theorem lz_word0 {Z : Int} {k : Nat} (hq : (k : Int) / 4 = 0) : w0 Z / 2 ^ (16 * (k % 4)) % 65536 = lz Z k := by
  rcases (show k = 0 ∨ k = 1 ∨ k = 2 ∨ k = 3 by omega) with rfl | rfl | rfl | rfl
  · unfold lz; rw [show (65536 : Int) ^ 0 = 1 by decide, show (2 : Int) ^ (16 * (0 % 4)) = 1 by decide]; unfold w0; omega
  · unfold lz; rw [show (65536 : Int) ^ 1 = 65536 by decide, show (2 : Int) ^ (16 * (1 % 4)) = 65536 by decide]; unfold w0; omega
  · unfold lz; rw [show (65536 : Int) ^ 2 = 4294967296 by decide, show (2 : Int) ^ (16 * (2 % 4)) = 4294967296 by decide]; unfold w0; omega
  · unfold lz; rw [show (65536 : Int) ^ 3 = 281474976710656 by decide, show (2 : Int) ^ (16 * (3 % 4)) = 281474976710656 by decide]; unfold w0; omega
theorem lz_word1 {Z : Int} {k : Nat} (hq : (k : Int) / 4 = 1) : w1 Z / 2 ^ (16 * (k % 4)) % 65536 = lz Z k := by
  rcases (show k = 4 ∨ k = 5 ∨ k = 6 ∨ k = 7 by omega) with rfl | rfl | rfl | rfl
  · unfold lz; rw [show (65536 : Int) ^ 4 = 18446744073709551616 by decide, show (2 : Int) ^ (16 * (4 % 4)) = 1 by decide]; unfold w1; omega
  · unfold lz; rw [show (65536 : Int) ^ 5 = 1208925819614629174706176 by decide, show (2 : Int) ^ (16 * (5 % 4)) = 65536 by decide]; unfold w1; omega
  · unfold lz; rw [show (65536 : Int) ^ 6 = 79228162514264337593543950336 by decide, show (2 : Int) ^ (16 * (6 % 4)) = 4294967296 by decide]; unfold w1; omega
  · unfold lz; rw [show (65536 : Int) ^ 7 = 5192296858534827628530496329220096 by decide, show (2 : Int) ^ (16 * (7 % 4)) = 281474976710656 by decide]; unfold w1; omega
theorem lz_word2 {Z : Int} {k : Nat} (hq : (k : Int) / 4 = 2) : w2 Z / 2 ^ (16 * (k % 4)) % 65536 = lz Z k := by
  rcases (show k = 8 ∨ k = 9 ∨ k = 10 ∨ k = 11 by omega) with rfl | rfl | rfl | rfl
  · unfold lz; rw [show (65536 : Int) ^ 8 = 340282366920938463463374607431768211456 by decide, show (2 : Int) ^ (16 * (8 % 4)) = 1 by decide]; unfold w2; omega
  · unfold lz; rw [show (65536 : Int) ^ 9 = 22300745198530623141535718272648361505980416 by decide, show (2 : Int) ^ (16 * (9 % 4)) = 65536 by decide]; unfold w2; omega
  · unfold lz; rw [show (65536 : Int) ^ 10 = 1461501637330902918203684832716283019655932542976 by decide, show (2 : Int) ^ (16 * (10 % 4)) = 4294967296 by decide]; unfold w2; omega
  · unfold lz; rw [show (65536 : Int) ^ 11 = 95780971304118053647396689196894323976171195136475136 by decide, show (2 : Int) ^ (16 * (11 % 4)) = 281474976710656 by decide]; unfold w2; omega
theorem lz_word3 {Z : Int} {k : Nat} (hq : (k : Int) / 4 = 3) : w3 Z / 2 ^ (16 * (k % 4)) % 65536 = lz Z k := by
  rcases (show k = 12 ∨ k = 13 ∨ k = 14 ∨ k = 15 by omega) with rfl | rfl | rfl | rfl
  · unfold lz; rw [show (65536 : Int) ^ 12 = 6277101735386680763835789423207666416102355444464034512896 by decide, show (2 : Int) ^ (16 * (12 % 4)) = 1 by decide]; unfold w3; omega
  · unfold lz; rw [show (65536 : Int) ^ 13 = 411376139330301510538742295639337626245683966408394965837152256 by decide, show (2 : Int) ^ (16 * (13 % 4)) = 65536 by decide]; unfold w3; omega
  · unfold lz; rw [show (65536 : Int) ^ 14 = 26959946667150639794667015087019630673637144422540572481103610249216 by decide, show (2 : Int) ^ (16 * (14 % 4)) = 4294967296 by decide]; unfold w3; omega
  · unfold lz; rw [show (65536 : Int) ^ 15 = 1766847064778384329583297500742918515827483896875618958121606201292619776 by decide, show (2 : Int) ^ (16 * (15 % 4)) = 281474976710656 by decide]; unfold w3; omega
theorem lz_wordT0 {Z : Int} {k : Nat} (hq : (k : Int) / 4 = 0) : (w0 Z / 2 ^ (16 * (k % 4))).tmod 65536 = lz Z k := by
  rw [Int.tmod_eq_emod_of_nonneg (Int.ediv_nonneg (w0_word Z).1 (Int.le_of_lt (Int.pow_pos (by omega)))), lz_word0 hq]
theorem lz_wordT1 {Z : Int} {k : Nat} (hq : (k : Int) / 4 = 1) : (w1 Z / 2 ^ (16 * (k % 4))).tmod 65536 = lz Z k := by
  rw [Int.tmod_eq_emod_of_nonneg (Int.ediv_nonneg (w1_word Z).1 (Int.le_of_lt (Int.pow_pos (by omega)))), lz_word1 hq]
theorem lz_wordT2 {Z : Int} {k : Nat} (hq : (k : Int) / 4 = 2) : (w2 Z / 2 ^ (16 * (k % 4))).tmod 65536 = lz Z k := by
  rw [Int.tmod_eq_emod_of_nonneg (Int.ediv_nonneg (w2_word Z).1 (Int.le_of_lt (Int.pow_pos (by omega)))), lz_word2 hq]
theorem lz_wordT3 {Z : Int} {k : Nat} (hq : (k : Int) / 4 = 3) : (w3 Z / 2 ^ (16 * (k % 4))).tmod 65536 = lz Z k := by
  rw [Int.tmod_eq_emod_of_nonneg (Int.ediv_nonneg (w3_word Z).1 (Int.le_of_lt (Int.pow_pos (by omega)))), lz_word3 hq]
def lzTo (Z : Int) (k : Nat) : List Int := (List.range 16).map fun i => if i < k then lz Z i else 0
def lzAll (Z : Int) : List Int := (List.range 16).map fun i => lz Z i
theorem lzTo_len (Z : Int) (k : Nat) : (lzTo Z k).length = 16 := by simp [lzTo]
theorem lzAll_len (Z : Int) : (lzAll Z).length = 16 := by simp [lzAll]
theorem lzTo_zero (Z : Int) : lzTo Z 0 = List.replicate 16 0 := by
  unfold lzTo
  rw [List.eq_replicate_iff]
  refine ⟨by simp, fun b hb => ?_⟩
  simp only [Nat.not_lt_zero, if_false, List.mem_map] at hb
  obtain ⟨_, _, rfl⟩ := hb
  rfl
theorem lzTo_all (Z : Int) : lzTo Z 16 = lzAll Z := by
  unfold lzTo lzAll
  apply List.map_congr_left
  intro i hi
  rw [if_pos (by simpa using hi)]
theorem lzTo_succ (Z : Int) (k : Nat) : (lzTo Z k).set k (lz Z k) = lzTo Z (k + 1) := by
  apply List.ext_getElem?
  intro i
  by_cases hi : i < 16
  · by_cases e : k = i
    · subst e; simp [lzTo, hi]
    · rw [List.getElem?_set_ne e]
      simp only [lzTo, List.getElem?_map, List.getElem?_range hi, Option.map_some]
      have : (i < k) ↔ (i < k + 1) := by omega
      simp only [this]
  · rw [List.getElem?_eq_none (by rw [List.length_set, lzTo_len]; omega), List.getElem?_eq_none (by rw [lzTo_len]; omega)]
theorem lzAll_limbs (Z : Int) : Limbs (lzAll Z) := fun b hb => by
  unfold lzAll at hb
  rw [List.mem_map] at hb
  obtain ⟨i, _, rfl⟩ := hb
  exact lz_bound Z i
theorem lzAll_nth (Z : Int) {i : Nat} (h : i < 16) : nth (lzAll Z) i = lz Z i := by simp [nth, lzAll, h]
theorem mod_mul_int {Z a b : Int} (h0 : 0 ≤ Z) (ha : 0 < a) (hb : 0 < b) : Z % a + a * (Z / a % b) = Z % (a * b) := by
  obtain ⟨n, rfl⟩ := Int.eq_ofNat_of_zero_le h0
  obtain ⟨x, rfl⟩ := Int.eq_ofNat_of_zero_le (Int.le_of_lt ha)
  obtain ⟨y, rfl⟩ := Int.eq_ofNat_of_zero_le (Int.le_of_lt hb)
  have h := congrArg (Nat.cast : Nat → Int) (Nat.mod_mul (x := n) (a := x) (b := y))
  simpa using h.symm
theorem lb_lzTo (Z : Int) (h0 : 0 ≤ Z) : ∀ k, k ≤ 16 → lb ((lzAll Z).take k) = Z % 65536 ^ k
  | 0, _ => by simp [lb, Int.emod_one]
  | k + 1, hk => by
    rw [lb_take_succ (by rw [lzAll_len]; omega), lb_lzTo Z h0 k (by omega), lzAll_nth Z (by omega)]
    unfold lz
    rw [Int.pow_succ]
    exact mod_mul_int h0 (Int.pow_pos (by omega)) (by omega)
theorem lb_lzAll {Z : Int} (h : Num Z) : lb (lzAll Z) = Z := by
  have e := lb_lzTo Z h.1 16 (Nat.le_refl _)
  rw [List.take_of_length_le (by rw [lzAll_len]; exact Nat.le_refl _), pow16, Int.emod_eq_of_lt h.1 h.2] at e
  exact e

structure LimI (w : World) (Z : Int) (g1 g2 k : Nat) (u : World) : Prop where
  bl : Below w.heap.size w u
  X : Var4 w.heap.size Z u
  R : LRow g1 (List.replicate 16 0) u
  V : LRow g2 (lzTo Z k) u

set_option maxHeartbeats 1000000 in
theorem limbs_any (X : Int) (w : World) :
    Calls Tryd.prog 33 #[feV X] w fun e w' => e = .returned (lV (lzAll X)) ∧ Below w.heap.size w w' := by
  have b1 : Below w.heap.size w (w.alloc (.cells #[.int .u64 (w0 X), .int .u64 (w1 X), .int .u64 (w2 X), .int .u64 (w3 X)] 26)) := (Below.refl _ _).alloc (Nat.le_refl _) _
  have hV := Var4.new w X
  go_enter Tryd.func33, Tryd.ntmps33
  go_upto_region 1 with fail
  have hs : w.heap.size + 1 = (w.alloc (.cells #[.int .u64 (w0 X), .int .u64 (w1 X), .int .u64 (w2 X), .int .u64 (w3 X)] 26)).heap.size := by simp
  rw [hs]
  have l0 := hV.lt
  generalize w.alloc (.cells #[.int .u64 (w0 X), .int .u64 (w1 X), .int .u64 (w2 X), .int .u64 (w3 X)] 26) = u0 at *
  clear hs
  have hR := LRow.zero u0
  have b2 : Below u0.heap.size u0 (u0.alloc (.cells #[.int .u64 0, .int .u64 0, .int .u64 0, .int .u64 0, .int .u64 0, .int .u64 0, .int .u64 0, .int .u64 0, .int .u64 0, .int .u64 0, .int .u64 0, .int .u64 0, .int .u64 0, .int .u64 0, .int .u64 0, .int .u64 0] 54)) := (Below.refl _ _).alloc (Nat.le_refl _) _
  replace hV := hV.below b2
  replace b1 := b1.trans (b2.mono b1.size)
  generalize u0.alloc (.cells #[.int .u64 0, .int .u64 0, .int .u64 0, .int .u64 0, .int .u64 0, .int .u64 0, .int .u64 0, .int .u64 0, .int .u64 0, .int .u64 0, .int .u64 0, .int .u64 0, .int .u64 0, .int .u64 0, .int .u64 0, .int .u64 0] 54) = u1 at *
  generalize u0.heap.size = g1 at *
  clear b2 u0
  have hB := LRow.zero u1
  have b2 : Below u1.heap.size u1 (u1.alloc (.cells #[.int .u64 0, .int .u64 0, .int .u64 0, .int .u64 0, .int .u64 0, .int .u64 0, .int .u64 0, .int .u64 0, .int .u64 0, .int .u64 0, .int .u64 0, .int .u64 0, .int .u64 0, .int .u64 0, .int .u64 0, .int .u64 0] 54)) := (Below.refl _ _).alloc (Nat.le_refl _) _
  have HB := Lib.hid hB; clear hB
  go_upto_region 2 with (refine wpList_store_mid rfl 54 (.tmp 3) (.tmp 5) rfl u1.heap.size 0 ((List.replicate 16 0).map (Value.int .u64)).toArray rfl rfl (by simpa using HB.out.thereAt) (by simpa using lV_size (l := List.replicate 16 0) rfl) (lV_one _) ?_)
  replace HB := Lib.hid (HB.out.storeAll (l' := List.replicate 16 0) rfl)
  replace b2 := Below.setCells (Nat.le_refl u1.heap.size) ((List.replicate 16 0).map (Value.int .u64)) 0 b2
  have l1 := hR.lt
  replace hR := hR.below b2
  replace hV := hV.below b2
  replace b1 := b1.trans (b2.mono b1.size)
  generalize (u1.alloc (.cells #[.int .u64 0, .int .u64 0, .int .u64 0, .int .u64 0, .int .u64 0, .int .u64 0, .int .u64 0, .int .u64 0, .int .u64 0, .int .u64 0, .int .u64 0, .int .u64 0, .int .u64 0, .int .u64 0, .int .u64 0, .int .u64 0] 54)).setCells u1.heap.size 0 ((List.replicate 16 0).map (Value.int .u64)) = u2 at *
  generalize u1.heap.size = g2 at *
  clear b2 u1
  have hB := HB.out
  rw [← lzTo_zero X] at hB
  clear HB
  go_wp2_with fail
  go_loopw [4] (fun s u => ∃ k : Nat, k ≤ 16 ∧ s = .int .i64 (k : Int) ∧ LimI w X g1 g2 k u) (fun s _ => (16 - intOf s).toNat)
  case atStart => exact ⟨0, by omega, rfl, b1, hV, hR, hB⟩
  case round =>
    obtain ⟨k, hk, rfl, hI⟩ := hrel
    clear b1 hV hR hB
    obtain ⟨b1, hV, hR, hB⟩ := id hI
    obtain ⟨vl, v0, v1, v2, v3, vf0, vf1, vf2, vf3⟩ := id hV
    by_cases hlt : k = 16
    · subst hlt
      rw [lzTo_all] at hB
      have hk1 : ¬ (((16 : Nat) : Int) < 16) := by omega
      have HB := Lib.hid hB; clear hB
      have HR := Lib.hid hR; clear hR
      go_wp2_with (first | refine wpList_load_mid rfl 54 (.tmp 3) rfl g2 0 rfl ((lzAll X).map (Value.int .u64)) (.array 16 23) HB.out.range Tryd.underlying54 rfl (lV_size (lzAll_len X)) ?_ | refine wpList_store_mid rfl 54 (.tmp 2) _ rfl g1 0 ((lzAll X).map (Value.int .u64)).toArray rfl rfl (by simpa [lzAll_len] using HR.out.thereAt) (by simpa using lV_size (lzAll_len X)) (lV_one _) ?_)
      have hT := World.rangeAt_setCells_same wr g1 0 ((lzAll X).map (Value.int .u64)) (by simpa [lzAll_len] using HR.out.thereAt)
      refine bodyPost_ret (v := lV (lzAll X)) ?_ rfl ⟨rfl, ?_⟩
      · exact results_limbs Tryd.results33 rfl (lzAll_len X) hT
      · exact Below.setCells (by omega) _ _ b1
    · have hk1 : (k : Int) < 16 := by omega
      have hk0 : (0 : Int) ≤ (k : Int) := by omega
      have hk3 : k < (lzTo X k).length := by rw [lzTo_len]; omega
      have hc := hB.c k hk3
      have hf := hB.f k
      have HB := Lib.hid (hB.set hk3 (lz X k)); clear hB
      have HR := Lib.hid hR; clear hR
      rcases (show (k : Int) / 4 = 0 ∨ (k : Int) / 4 = 1 ∨ (k : Int) / 4 = 2 ∨ (k : Int) / 4 = 3 by omega) with hq | hq | hq | hq
      · have hw := lz_wordT0 (Z := X) hq
        go_wp2_with fail
        exact ⟨⟨k + 1, by omega, by go_num, b1.setCell (p := ⟨g2, k, none⟩) (show w.heap.size ≤ g2 by omega) _, hV.far (by omega) _ _, HR.out.far (by omega) _ _, by rw [← lzTo_succ]; exact HB.out⟩, by simp [intOf]; omega⟩
      · have hw := lz_wordT1 (Z := X) hq
        go_wp2_with fail
        exact ⟨⟨k + 1, by omega, by go_num, b1.setCell (p := ⟨g2, k, none⟩) (show w.heap.size ≤ g2 by omega) _, hV.far (by omega) _ _, HR.out.far (by omega) _ _, by rw [← lzTo_succ]; exact HB.out⟩, by simp [intOf]; omega⟩
      · have hw := lz_wordT2 (Z := X) hq
        go_wp2_with fail
        exact ⟨⟨k + 1, by omega, by go_num, b1.setCell (p := ⟨g2, k, none⟩) (show w.heap.size ≤ g2 by omega) _, hV.far (by omega) _ _, HR.out.far (by omega) _ _, by rw [← lzTo_succ]; exact HB.out⟩, by simp [intOf]; omega⟩
      · have hw := lz_wordT3 (Z := X) hq
        go_wp2_with fail
        exact ⟨⟨k + 1, by omega, by go_num, b1.setCell (p := ⟨g2, k, none⟩) (show w.heap.size ≤ g2 by omega) _, hV.far (by omega) _ _, HR.out.far (by omega) _ _, by rw [← lzTo_succ]; exact HB.out⟩, by simp [intOf]; omega⟩
end Go.Proofs.YtabfjdljeebjbaaDoor
