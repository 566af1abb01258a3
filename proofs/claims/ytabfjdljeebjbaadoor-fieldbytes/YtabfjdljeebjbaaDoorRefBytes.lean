/- What keywardref01.Bytes does. -/
import Derived.Test.YtabfjdljeebjbaaDoorRefOf
namespace Go.Proofs.YtabfjdljeebjbaaDoor
open Go.RowKit Go.Sort

theorem bz_wordT0 {Z : Int} {k : Nat} (hq : (k : Int) / 8 = 0) : IntKind.u8.wrap ((w0 Z / 2 ^ (8 * (k % 8))).tmod 256) = bz Z k := by
  have h : 0 ≤ w0 Z / 2 ^ (8 * (k % 8)) := Int.ediv_nonneg (w0_word Z).1 (Int.pow_nonneg (by omega))
  rw [← bz_word0 hq, Int.tmod_eq_emod_of_nonneg h, Nat.mul_comm (k % 8) 8, IntKind.wrap_u8', IntKind.wrap_u8', Int.emod_emod]
theorem bz_wordT1 {Z : Int} {k : Nat} (hq : (k : Int) / 8 = 1) : IntKind.u8.wrap ((w1 Z / 2 ^ (8 * (k % 8))).tmod 256) = bz Z k := by
  have h : 0 ≤ w1 Z / 2 ^ (8 * (k % 8)) := Int.ediv_nonneg (w1_word Z).1 (Int.pow_nonneg (by omega))
  rw [← bz_word1 hq, Int.tmod_eq_emod_of_nonneg h, Nat.mul_comm (k % 8) 8, IntKind.wrap_u8', IntKind.wrap_u8', Int.emod_emod]
theorem bz_wordT2 {Z : Int} {k : Nat} (hq : (k : Int) / 8 = 2) : IntKind.u8.wrap ((w2 Z / 2 ^ (8 * (k % 8))).tmod 256) = bz Z k := by
  have h : 0 ≤ w2 Z / 2 ^ (8 * (k % 8)) := Int.ediv_nonneg (w2_word Z).1 (Int.pow_nonneg (by omega))
  rw [← bz_word2 hq, Int.tmod_eq_emod_of_nonneg h, Nat.mul_comm (k % 8) 8, IntKind.wrap_u8', IntKind.wrap_u8', Int.emod_emod]
theorem bz_wordT3 {Z : Int} {k : Nat} (hq : (k : Int) / 8 = 3) : IntKind.u8.wrap ((w3 Z / 2 ^ (8 * (k % 8))).tmod 256) = bz Z k := by
  have h : 0 ≤ w3 Z / 2 ^ (8 * (k % 8)) := Int.ediv_nonneg (w3_word Z).1 (Int.pow_nonneg (by omega))
  rw [← bz_word3 hq, Int.tmod_eq_emod_of_nonneg h, Nat.mul_comm (k % 8) 8, IntKind.wrap_u8', IntKind.wrap_u8', Int.emod_emod]

/-- Bytes' loop: k bytes are told. -/
structure RByI (w : World) (Z : Int) (g1 g2 g3 k : Nat) (u : World) : Prop where
  bl : Below w.heap.size w u
  X : Var4 g2 Z u
  R : Row g1 (List.replicate 32 0) u
  V : Row g3 (bzTo Z k) u

set_option maxHeartbeats 1000000 in
theorem refbytes_any (X : Int) (w : World) (hX : Num X) :
    Calls Tryd.prog 26 #[feV X] w fun e w' => e = .returned (kV (bzAll (X % pp))) ∧ Below w.heap.size w w' := by
  have b1 : Below w.heap.size w (w.alloc (.cells #[.int .u64 (w0 X), .int .u64 (w1 X), .int .u64 (w2 X), .int .u64 (w3 X)] 26)) := (Below.refl _ _).alloc (Nat.le_refl _) _
  have hV := Var4.new w X
  go_enter Tryd.func26, Tryd.ntmps26
  go_upto_region 1 with fail
  have hs : w.heap.size + 1 = (w.alloc (.cells #[.int .u64 (w0 X), .int .u64 (w1 X), .int .u64 (w2 X), .int .u64 (w3 X)] 26)).heap.size := by simp
  rw [hs]
  have l0 := hV.lt
  generalize w.alloc (.cells #[.int .u64 (w0 X), .int .u64 (w1 X), .int .u64 (w2 X), .int .u64 (w3 X)] 26) = u0 at *
  clear hs
  have hR := Row.zero u0
  have b2 : Below u0.heap.size u0 (u0.alloc (.cells #[.int .u8 0, .int .u8 0, .int .u8 0, .int .u8 0, .int .u8 0, .int .u8 0, .int .u8 0, .int .u8 0, .int .u8 0, .int .u8 0, .int .u8 0, .int .u8 0, .int .u8 0, .int .u8 0, .int .u8 0, .int .u8 0, .int .u8 0, .int .u8 0, .int .u8 0, .int .u8 0, .int .u8 0, .int .u8 0, .int .u8 0, .int .u8 0, .int .u8 0, .int .u8 0, .int .u8 0, .int .u8 0, .int .u8 0, .int .u8 0, .int .u8 0, .int .u8 0] 36)) := (Below.refl _ _).alloc (Nat.le_refl _) _
  replace hV := hV.below b2
  replace b1 := b1.trans (b2.mono b1.size)
  generalize u0.alloc (.cells #[.int .u8 0, .int .u8 0, .int .u8 0, .int .u8 0, .int .u8 0, .int .u8 0, .int .u8 0, .int .u8 0, .int .u8 0, .int .u8 0, .int .u8 0, .int .u8 0, .int .u8 0, .int .u8 0, .int .u8 0, .int .u8 0, .int .u8 0, .int .u8 0, .int .u8 0, .int .u8 0, .int .u8 0, .int .u8 0, .int .u8 0, .int .u8 0, .int .u8 0, .int .u8 0, .int .u8 0, .int .u8 0, .int .u8 0, .int .u8 0, .int .u8 0, .int .u8 0] 36) = u1 at *
  generalize u0.heap.size = g1 at *
  clear b2 u0
  obtain ⟨vl, v0, v1, v2, v3, vf0, vf1, vf2, vf3⟩ := id hV
  go_wp2_with fail
  refine (refcanon_any X _ hX).mono ?_
  rintro e u2 ⟨rfl, hb⟩
  replace hR := hR.below hb
  replace b1 := b1.trans (hb.mono b1.size)
  clear vl v0 v1 v2 v3 vf0 vf1 vf2 vf3
  clear hb hV
  generalize hZ : X % pp = Z at *
  have HZ := Lib.hid hZ; clear hZ
  go_upto_region 2 with fail
  have hV := Var4.new u2 Z
  have b2 : Below u2.heap.size u2 (u2.alloc (.cells #[.int .u64 (w0 Z), .int .u64 (w1 Z), .int .u64 (w2 Z), .int .u64 (w3 Z)] 26)) := (Below.refl _ _).alloc (Nat.le_refl _) _
  have l1 := hR.lt
  replace hR := hR.below b2
  replace b1 := b1.trans (b2.mono b1.size)
  generalize u2.alloc (.cells #[.int .u64 (w0 Z), .int .u64 (w1 Z), .int .u64 (w2 Z), .int .u64 (w3 Z)] 26) = u3 at *
  generalize u2.heap.size = g2 at *
  clear b2 u2
  have l2 := hV.lt
  have hB := Row.zero u3
  have b2 : Below u3.heap.size u3 (u3.alloc (.cells #[.int .u8 0, .int .u8 0, .int .u8 0, .int .u8 0, .int .u8 0, .int .u8 0, .int .u8 0, .int .u8 0, .int .u8 0, .int .u8 0, .int .u8 0, .int .u8 0, .int .u8 0, .int .u8 0, .int .u8 0, .int .u8 0, .int .u8 0, .int .u8 0, .int .u8 0, .int .u8 0, .int .u8 0, .int .u8 0, .int .u8 0, .int .u8 0, .int .u8 0, .int .u8 0, .int .u8 0, .int .u8 0, .int .u8 0, .int .u8 0, .int .u8 0, .int .u8 0] 36)) := (Below.refl _ _).alloc (Nat.le_refl _) _
  have HB := Lib.hid hB; clear hB
  go_upto_region 3 with (refine wpList_store_mid rfl 36 (.tmp 4) (.tmp 8) rfl u3.heap.size 0 ((List.replicate 32 0).map (Value.int .u8)).toArray rfl rfl (by simpa using HB.out.thereAt) (by simpa using kV_size (l := List.replicate 32 0) rfl) (kV_one _) ?_)
  replace HB := Lib.hid (HB.out.storeAll (l' := List.replicate 32 0) rfl)
  replace b2 := Below.setCells (Nat.le_refl u3.heap.size) ((List.replicate 32 0).map (Value.int .u8)) 0 b2
  replace hR := hR.below b2
  replace hV := hV.below b2
  replace b1 := b1.trans (b2.mono b1.size)
  generalize (u3.alloc (.cells #[.int .u8 0, .int .u8 0, .int .u8 0, .int .u8 0, .int .u8 0, .int .u8 0, .int .u8 0, .int .u8 0, .int .u8 0, .int .u8 0, .int .u8 0, .int .u8 0, .int .u8 0, .int .u8 0, .int .u8 0, .int .u8 0, .int .u8 0, .int .u8 0, .int .u8 0, .int .u8 0, .int .u8 0, .int .u8 0, .int .u8 0, .int .u8 0, .int .u8 0, .int .u8 0, .int .u8 0, .int .u8 0, .int .u8 0, .int .u8 0, .int .u8 0, .int .u8 0] 36)).setCells u3.heap.size 0 ((List.replicate 32 0).map (Value.int .u8)) = u2 at *
  generalize u3.heap.size = g3 at *
  clear b2 u3
  have hB := HB.out
  rw [← bzTo_zero Z] at hB
  clear HB
  go_wp2_with fail
  go_loopw [5] (fun s u => ∃ k : Nat, k ≤ 32 ∧ s = .int .i64 (k : Int) ∧ RByI w Z g1 g2 g3 k u) (fun s _ => (32 - intOf s).toNat)
  case atStart => exact ⟨0, by omega, rfl, b1, hV, hR, hB⟩
  case round =>
    obtain ⟨k, hk, rfl, hI⟩ := hrel
    clear b1 hV hR hB
    obtain ⟨b1, hV, hR, hB⟩ := id hI
    obtain ⟨vl, v0, v1, v2, v3, vf0, vf1, vf2, vf3⟩ := id hV
    by_cases hlt : k = 32
    · subst hlt
      rw [bzTo_all] at hB
      have hk1 : ¬ (((32 : Nat) : Int) < 32) := by omega
      have HB := Lib.hid hB; clear hB
      have HR := Lib.hid hR; clear hR
      go_wp2_with (first | refine wpList_load_mid rfl 36 (.tmp 4) rfl g3 0 rfl ((bzAll Z).map (Value.int .u8)) (.array 32 5) HB.out.range Tryd.underlying36 rfl (kV_size (bzAll_len Z)) ?_ | refine wpList_store_mid rfl 36 (.tmp 2) _ rfl g1 0 ((bzAll Z).map (Value.int .u8)).toArray rfl rfl (by simpa [bzAll_len] using HR.out.thereAt) (by simpa using kV_size (bzAll_len Z)) (kV_one _) ?_)
      have hT := World.rangeAt_setCells_same wr g1 0 ((bzAll Z).map (Value.int .u8)) (by simpa [bzAll_len] using HR.out.thereAt)
      refine bodyPost_ret (v := kV (bzAll Z)) ?_ rfl ⟨by rw [HZ.out], ?_⟩
      · exact results_key Tryd.results26 rfl (bzAll_len Z) hT
      · exact Below.setCells (by omega) _ _ b1
    · have hk1 : (k : Int) < 32 := by omega
      have hk0 : (0 : Int) ≤ (k : Int) := by omega
      have hk2 : k < 32 := by omega
      have hk3 : k < (bzTo Z k).length := by rw [bzTo_len]; omega
      have hc := hB.c k hk3
      have hf := hB.f k
      have HB := Lib.hid (hB.set hk3 (bz Z k)); clear hB
      have HR := Lib.hid hR; clear hR
      rcases (show (k : Int) / 8 = 0 ∨ (k : Int) / 8 = 1 ∨ (k : Int) / 8 = 2 ∨ (k : Int) / 8 = 3 by omega) with hq | hq | hq | hq
      · have hw := bz_wordT0 (Z := Z) hq
        go_wp2_with fail
        exact ⟨⟨k + 1, by omega, by go_num, b1.setCell (p := ⟨g3, k, none⟩) (show w.heap.size ≤ g3 by omega) _, hV.far (by omega) _ _, HR.out.far (by omega) _ _, by rw [← bzTo_succ]; exact HB.out⟩, by simp [intOf]; omega⟩
      · have hw := bz_wordT1 (Z := Z) hq
        go_wp2_with fail
        exact ⟨⟨k + 1, by omega, by go_num, b1.setCell (p := ⟨g3, k, none⟩) (show w.heap.size ≤ g3 by omega) _, hV.far (by omega) _ _, HR.out.far (by omega) _ _, by rw [← bzTo_succ]; exact HB.out⟩, by simp [intOf]; omega⟩
      · have hw := bz_wordT2 (Z := Z) hq
        go_wp2_with fail
        exact ⟨⟨k + 1, by omega, by go_num, b1.setCell (p := ⟨g3, k, none⟩) (show w.heap.size ≤ g3 by omega) _, hV.far (by omega) _ _, HR.out.far (by omega) _ _, by rw [← bzTo_succ]; exact HB.out⟩, by simp [intOf]; omega⟩
      · have hw := bz_wordT3 (Z := Z) hq
        go_wp2_with fail
        exact ⟨⟨k + 1, by omega, by go_num, b1.setCell (p := ⟨g3, k, none⟩) (show w.heap.size ≤ g3 by omega) _, hV.far (by omega) _ _, HR.out.far (by omega) _ _, by rw [← bzTo_succ]; exact HB.out⟩, by simp [intOf]; omega⟩
end Go.Proofs.YtabfjdljeebjbaaDoor
