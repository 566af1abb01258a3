/- What keywardref01.Mul does. -/
import Derived.Test.YtabfjdljeebjbaaDoorRefMul0
namespace Go.Proofs.YtabfjdljeebjbaaDoor
open Go.RowKit Go.Sort

set_option maxHeartbeats 4000000 in
theorem refmul_any (X Y : Int) (w : World) (hX : Num X) (hY : Num Y) :
    Calls Tryd.prog 22 #[feV X, feV Y] w fun e w' => e = .returned (feV (X * Y % pp)) ∧ Below w.heap.size w w' := by
  have b1 : Below w.heap.size w (w.alloc (.cells #[.int .u64 (w0 X), .int .u64 (w1 X), .int .u64 (w2 X), .int .u64 (w3 X)] 26)) := (Below.refl _ _).alloc (Nat.le_refl _) _
  have vX := Var4.new w X
  go_enter Tryd.func22, Tryd.ntmps22
  go_upto_region 1 with fail
  have hs : w.heap.size + 1 = (w.alloc (.cells #[.int .u64 (w0 X), .int .u64 (w1 X), .int .u64 (w2 X), .int .u64 (w3 X)] 26)).heap.size := by simp
  rw [hs]
  have l0 := vX.lt
  generalize w.alloc (.cells #[.int .u64 (w0 X), .int .u64 (w1 X), .int .u64 (w2 X), .int .u64 (w3 X)] 26) = u0 at *
  clear hs
  have vY := Var4.new u0 Y
  have b2 : Below u0.heap.size u0 (u0.alloc (.cells #[.int .u64 (w0 Y), .int .u64 (w1 Y), .int .u64 (w2 Y), .int .u64 (w3 Y)] 26)) := (Below.refl _ _).alloc (Nat.le_refl _) _
  replace vX := vX.below b2
  replace b1 := b1.trans (b2.mono b1.size)
  have hs : u0.heap.size + 1 = (u0.alloc (.cells #[.int .u64 (w0 Y), .int .u64 (w1 Y), .int .u64 (w2 Y), .int .u64 (w3 Y)] 26)).heap.size := by simp
  rw [hs]
  have l1 := vY.lt
  generalize u0.alloc (.cells #[.int .u64 (w0 Y), .int .u64 (w1 Y), .int .u64 (w2 Y), .int .u64 (w3 Y)] 26) = u1 at *
  generalize u0.heap.size = gy at *
  clear hs b2 u0
  have hR := Var4.zero u1
  have b2 : Below u1.heap.size u1 (u1.alloc (.cells #[.int .u64 0, .int .u64 0, .int .u64 0, .int .u64 0] 26)) := (Below.refl _ _).alloc (Nat.le_refl _) _
  replace vX := vX.below b2
  replace vY := vY.below b2
  replace b1 := b1.trans (b2.mono b1.size)
  generalize u1.alloc (.cells #[.int .u64 0, .int .u64 0, .int .u64 0, .int .u64 0] 26) = u0 at *
  generalize u1.heap.size = g1 at *
  clear b2 u1
  have l2 := hR.lt
  obtain ⟨vl, v0, v1, v2, v3, vf0, vf1, vf2, vf3⟩ := vX
  go_wp2_with fail
  refine (limbs_any X _).mono ?_
  rintro e u1 ⟨rfl, hb⟩
  clear vl v0 v1 v2 v3 vf0 vf1 vf2 vf3
  replace vY := vY.below hb
  replace hR := hR.below hb
  replace b1 := b1.trans (hb.mono b1.size)
  replace l2 := Nat.lt_of_lt_of_le l2 hb.size
  clear hb u0
  have HA := Lib.hid (LRow.zero u1)
  have b2 : Below u1.heap.size u1 (u1.alloc (.cells #[.int .u64 0, .int .u64 0, .int .u64 0, .int .u64 0, .int .u64 0, .int .u64 0, .int .u64 0, .int .u64 0, .int .u64 0, .int .u64 0, .int .u64 0, .int .u64 0, .int .u64 0, .int .u64 0, .int .u64 0, .int .u64 0] 54)) := (Below.refl _ _).alloc (Nat.le_refl _) _
  go_upto_region 2 with (refine wpList_store_mid rfl 54 (.tmp 5) (.tmp 11) rfl u1.heap.size 0 ((lzAll X).map (Value.int .u64)).toArray rfl rfl (by simpa [lzAll_len] using HA.out.thereAt) (by simpa using lV_size (lzAll_len X)) (lV_one _) ?_)
  replace HA := Lib.hid (HA.out.storeAll (l' := lzAll X) (by rw [lzAll_len]; rfl))
  replace b2 := Below.setCells (Nat.le_refl u1.heap.size) ((lzAll X).map (Value.int .u64)) 0 b2
  replace hR := hR.below b2
  replace vY := vY.below b2
  replace b1 := b1.trans (b2.mono b1.size)
  generalize (u1.alloc (.cells #[.int .u64 0, .int .u64 0, .int .u64 0, .int .u64 0, .int .u64 0, .int .u64 0, .int .u64 0, .int .u64 0, .int .u64 0, .int .u64 0, .int .u64 0, .int .u64 0, .int .u64 0, .int .u64 0, .int .u64 0, .int .u64 0] 54)).setCells u1.heap.size 0 ((lzAll X).map (Value.int .u64)) = u0 at *
  generalize u1.heap.size = ga at *
  clear b2 u1
  have l3 := HA.out.lt
  obtain ⟨vl, v0, v1, v2, v3, vf0, vf1, vf2, vf3⟩ := vY
  go_wp2_with fail
  refine (limbs_any Y _).mono ?_
  rintro e u1 ⟨rfl, hb⟩
  clear vl v0 v1 v2 v3 vf0 vf1 vf2 vf3
  replace HA := Lib.hid (HA.out.below hb)
  replace hR := hR.below hb
  replace b1 := b1.trans (hb.mono b1.size)
  replace l3 := Nat.lt_of_lt_of_le l3 hb.size
  clear hb u0
  have HB := Lib.hid (LRow.zero u1)
  have b2 : Below u1.heap.size u1 (u1.alloc (.cells #[.int .u64 0, .int .u64 0, .int .u64 0, .int .u64 0, .int .u64 0, .int .u64 0, .int .u64 0, .int .u64 0, .int .u64 0, .int .u64 0, .int .u64 0, .int .u64 0, .int .u64 0, .int .u64 0, .int .u64 0, .int .u64 0] 54)) := (Below.refl _ _).alloc (Nat.le_refl _) _
  go_upto_region 3 with (refine wpList_store_mid rfl 54 (.tmp 6) (.tmp 13) rfl u1.heap.size 0 ((lzAll Y).map (Value.int .u64)).toArray rfl rfl (by simpa [lzAll_len] using HB.out.thereAt) (by simpa using lV_size (lzAll_len Y)) (lV_one _) ?_)
  replace HB := Lib.hid (HB.out.storeAll (l' := lzAll Y) (by rw [lzAll_len]; rfl))
  replace b2 := Below.setCells (Nat.le_refl u1.heap.size) ((lzAll Y).map (Value.int .u64)) 0 b2
  replace hR := hR.below b2
  replace HA := Lib.hid (HA.out.below b2)
  replace b1 := b1.trans (b2.mono b1.size)
  generalize (u1.alloc (.cells #[.int .u64 0, .int .u64 0, .int .u64 0, .int .u64 0, .int .u64 0, .int .u64 0, .int .u64 0, .int .u64 0, .int .u64 0, .int .u64 0, .int .u64 0, .int .u64 0, .int .u64 0, .int .u64 0, .int .u64 0, .int .u64 0] 54)).setCells u1.heap.size 0 ((lzAll Y).map (Value.int .u64)) = u0 at *
  generalize u1.heap.size = gb at *
  clear b2 u1
  have l4 := HB.out.lt
  have HC := Lib.hid (LRow.zero u0)
  have b2 : Below u0.heap.size u0 (u0.alloc (.cells #[.int .u64 0, .int .u64 0, .int .u64 0, .int .u64 0, .int .u64 0, .int .u64 0, .int .u64 0, .int .u64 0, .int .u64 0, .int .u64 0, .int .u64 0, .int .u64 0, .int .u64 0, .int .u64 0, .int .u64 0, .int .u64 0] 54)) := (Below.refl _ _).alloc (Nat.le_refl _) _
  go_upto_region 4 with (refine wpList_store_mid rfl 54 (.tmp 7) (.tmp 14) rfl u0.heap.size 0 ((List.replicate 16 0).map (Value.int .u64)).toArray rfl rfl (by simpa using HC.out.thereAt) (by simpa using lV_size (l := List.replicate 16 0) rfl) (lV_one _) ?_)
  replace HC := Lib.hid (HC.out.storeAll (l' := List.replicate 16 0) rfl)
  replace b2 := Below.setCells (Nat.le_refl u0.heap.size) ((List.replicate 16 0).map (Value.int .u64)) 0 b2
  replace hR := hR.below b2
  replace HA := Lib.hid (HA.out.below b2)
  replace HB := Lib.hid (HB.out.below b2)
  replace b1 := b1.trans (b2.mono b1.size)
  generalize (u0.alloc (.cells #[.int .u64 0, .int .u64 0, .int .u64 0, .int .u64 0, .int .u64 0, .int .u64 0, .int .u64 0, .int .u64 0, .int .u64 0, .int .u64 0, .int .u64 0, .int .u64 0, .int .u64 0, .int .u64 0, .int .u64 0, .int .u64 0] 54)).setCells u0.heap.size 0 ((List.replicate 16 0).map (Value.int .u64)) = u1 at *
  generalize u0.heap.size = gr at *
  clear b2 u0
  have EX : Hid (lb (lzAll X) = X) := Lib.hid (lb_lzAll hX)
  have EY : Hid (lb (lzAll Y) = Y) := Lib.hid (lb_lzAll hY)
  have LA := Lib.hid (lzAll_len X)
  have LB := Lib.hid (lzAll_len Y)
  have hLA := lzAll_limbs X
  have hLB := lzAll_limbs Y
  generalize lzAll X = a at *
  generalize lzAll Y = b at *
  go_wp2_with fail
  go_loopw [8, 9] (fun s _ u => ∃ i : Nat, i ≤ 16 ∧ s = .int .i64 (i : Int) ∧ MuI w a b g1 ga gb gr i 0 u) (fun s _ _ => (16 - intOf s).toNat)
  case atStart => exact ⟨0, by omega, rfl, b1, hR, HA.out, HB.out, List.replicate 16 0, 0, rfl, HC.out, fun j hj => by rw [nth_zero]; omega, by simp [lb]⟩
  case round =>
    obtain ⟨i, hi, rfl, hI⟩ := hrel
    clear b1 hR HA HB HC
    by_cases hlt : i = 16
    · subst hlt
      have hi1 : ¬ (((16 : Nat) : Int) < 16) := by omega
      obtain ⟨b1, hR, hA, hB, r, t, hr, hV, hn, ht⟩ := hI
      clear hA hB
      have HE : Hid (lb r % pp = X * Y % pp) := Lib.hid (by
        rw [List.take_of_length_le (by rw [LA.out]; omega), EX.out, EY.out, List.take_zero, show lb ([] : List Int) = 0 from rfl, Int.mul_zero, Int.mul_zero, Int.add_zero] at ht
        rw [← ht, Int.add_mul_emod_self_left])
      have HW : Hid (Wides r) := Lib.hid (wides_of_nth hr fun j hj => by have := hn j hj; omega)
      have Hr := Lib.hid hr; clear hr
      have HV := Lib.hid hV; clear hV
      clear hn ht
      go_wp2_with (refine wpList_load_mid rfl 54 (.tmp 7) rfl gr 0 rfl (r.map (Value.int .u64)) (.array 16 23) HV.out.range Tryd.underlying54 rfl (lV_size Hr.out) ?_)
      refine (fe_limbs r _ Hr.out HW.out).mono ?_
      rintro e u3 ⟨rfl, hb⟩
      rw [HE.out]
      replace hR := hR.below hb
      replace b1 := b1.trans (hb.mono b1.size)
      clear hb
      obtain ⟨vl, v0, v1, v2, v3, vf0, vf1, vf2, vf3⟩ := hR
      go_wp2_with fail
      refine bodyPost_ret (v := feV (X * Y % pp)) (by simp [results, Tryd.results22, go_sem, v0, v1, v2, v3]) rfl ⟨rfl, ?_⟩
      have hw1 : w.heap.size ≤ g1 := by omega
      exact (((b1.setCell hw1 _).setCell hw1 _).setCell hw1 _).setCell hw1 _
    · have hi1 : (i : Int) < 16 := by omega
      have hi0 : (0 : Int) ≤ (i : Int) := by omega
      go_wp2_with fail
      go_loopw [9] (fun s u => ∃ k : Nat, k ≤ 16 ∧ s = .int .i64 (k : Int) ∧ MuI w a b g1 ga gb gr i k u) (fun s _ => (16 - intOf s).toNat)
      case atStart => exact ⟨0, by omega, rfl, hI⟩
      case round =>
        obtain ⟨k, hk, rfl, hJ⟩ := hrel
        clear hI
        by_cases hk16 : k = 16
        · subst hk16
          have hk1 : ¬ (((16 : Nat) : Int) < 16) := by omega
          have HJ := Lib.hid (hJ.turn LA.out LB.out (by omega)); clear hJ
          go_wp2_with fail
          exact ⟨⟨i + 1, by omega, by go_num, HJ.out⟩, by simp [intOf]; omega⟩
        · have hk1 : (k : Int) < 16 := by omega
          have hk0 : (0 : Int) ≤ (k : Int) := by omega
          obtain ⟨b1, hR, hA, hB, r, t, hr, hV, hn, ht⟩ := hJ
          have HT := Lib.hid ht; clear ht
          have HN := Lib.hid hn; clear hn
          have HR := Lib.hid hR; clear hR
          have Hr := Lib.hid hr; clear hr
          have ca := hA.c i (by rw [LA.out]; omega)
          have cb := hB.c k (by rw [LB.out]; omega)
          have ba := hLA.nth (k := i) (by rw [LA.out]; omega)
          have bb := hLB.nth (k := k) (by rw [LB.out]; omega)
          have bp := mul_le ba.1 ba.2 bb.1 bb.2
          by_cases hik : i + k < 16
          · have hs1 : (i : Int) + k < 16 := by omega
            have cr := hV.c (i + k) (by rw [Hr.out]; omega)
            have fr := hV.f (i + k)
            have br := HN.out (i + k) hik
            go_wp2_with fail
            go_region
            go_wp2_with fail
            exact ⟨⟨k + 1, by omega, by go_num, MuI.put LB.out (by omega) (by omega) (by omega) (by omega) (by omega) b1 HR.out hA hB Hr.out hV HN.out HT.out hik bp.1 (by omega) 0 (by rw [Int.pow_add]; grind) rfl⟩, by simp [intOf]; omega⟩
          · obtain ⟨j, hj⟩ : ∃ j, i + k = j + 16 := ⟨i + k - 16, by omega⟩
            have hs1 : ¬ ((i : Int) + k < 16) := by omega
            have hj1 : (i : Int) + k - 16 = (j : Int) := by omega
            have cr := hV.c j (by rw [Hr.out]; omega)
            have fr := hV.f j
            have br := HN.out j (by omega)
            have HJ := Lib.hid hj; clear hj
            go_wp2_with fail
            go_region
            go_wp2_with fail
            have e : IntKind.u64.wrap (nth r j + IntKind.u64.wrap (38 * nth a i * nth b k)) = nth r j + 38 * (nth a i * nth b k) := by
              rw [Int.mul_assoc]
              generalize nth a i * nth b k = P at *
              simp only [IntKind.wrap_u64]
              omega
            rw [e]
            have hp := pow_turn HJ.out
            exact ⟨⟨k + 1, by omega, by go_num, MuI.put LB.out (by omega) (by omega) (by omega) (by omega) (by omega) b1 HR.out hA hB Hr.out hV HN.out HT.out (by omega) (by omega) (by omega) (65536 ^ j * (2 * (nth a i * nth b k))) (by grind) rfl⟩, by simp [intOf]; omega⟩
end Go.Proofs.YtabfjdljeebjbaaDoor
