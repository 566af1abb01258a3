/- What keywardref01.Of does. -/
import Derived.Test.YtabfjdljeebjbaaDoorLimbs6
namespace Go.Proofs.YtabfjdljeebjbaaDoor
open Go.RowKit Go.Sort

/-- Of's loop: k bytes are in. -/
structure ROfI (w : World) (l : List Int) (g1 g2 k : Nat) (u : World) : Prop where
  bl : Below w.heap.size w u
  L : Row w.heap.size l u
  R : Var4 g1 0 u
  V : Var4 g2 (le ((mask l).take k)) u
theorem ROfI.put {w u u' : World} {l : List Int} {g1 g2 k : Nat} (h : ROfI w l g1 g2 k u) (hw : w.heap.size < g2) (h12 : g1 ≠ g2) {o : Nat} {v : Value} (hu : u' = u.setCell ⟨g2, o, none⟩ v) (hV : Var4 g2 (le ((mask l).take (k + 1))) (u.setCell ⟨g2, o, none⟩ v)) : ROfI w l g1 g2 (k + 1) u' := by
  subst hu
  exact ⟨h.bl.setCell (p := ⟨g2, o, none⟩) (Nat.le_of_lt hw) _, h.L.far (by omega) _ _, h.R.far (Ne.symm h12) _ _, hV⟩

set_option maxHeartbeats 1000000 in
theorem refof_any (l : List Int) (w : World) (hl : l.length = 32) (hB : Bytes8 l) :
    Calls Tryd.prog 24 #[kV l] w fun e w' => e = .returned (feV (le (mask l) % pp)) ∧ Below w.heap.size w w' := by
  have HL := Lib.hid hl; clear hl
  have b1 : Below w.heap.size w (w.alloc (.cells (l.map (Value.int .u8)).toArray 36)) := (Below.refl _ _).alloc (Nat.le_refl _) _
  have R1 := Row.new w l
  go_enter Tryd.func24, Tryd.ntmps24
  go_upto_region 1 with fail
  have hs : w.heap.size + 1 = (w.alloc (.cells (l.map (Value.int .u8)).toArray 36)).heap.size := by simp
  rw [hs]
  have l0 := R1.lt
  generalize w.alloc (.cells (l.map (Value.int .u8)).toArray 36) = u0 at *
  clear hs
  have hR := Var4.zero u0
  have b2 : Below u0.heap.size u0 (u0.alloc (.cells #[.int .u64 0, .int .u64 0, .int .u64 0, .int .u64 0] 26)) := (Below.refl _ _).alloc (Nat.le_refl _) _
  replace R1 := R1.below b2
  replace b1 := b1.trans (b2.mono b1.size)
  generalize u0.alloc (.cells #[.int .u64 0, .int .u64 0, .int .u64 0, .int .u64 0] 26) = u1 at *
  generalize u0.heap.size = g1 at *
  clear b2 u0
  have hV := Var4.zero u1
  have b2 : Below u1.heap.size u1 (u1.alloc (.cells #[.int .u64 0, .int .u64 0, .int .u64 0, .int .u64 0] 26)) := (Below.refl _ _).alloc (Nat.le_refl _) _
  go_wp2_with fail
  have l1 := hR.lt
  replace R1 := R1.below b2
  replace hR := hR.below b2
  replace b1 := b1.trans (b2.mono b1.size)
  generalize u1.alloc (.cells #[.int .u64 0, .int .u64 0, .int .u64 0, .int .u64 0] 26) = u0 at *
  generalize u1.heap.size = g2 at *
  clear b2 u1
  have HM : Hid ((mask l).length = 32) := Lib.hid (by rw [mask_len, HL.out])
  go_loopw [4, 5] (fun s _ u => ∃ k : Nat, k ≤ 32 ∧ s = .int .i64 (k : Int) ∧ ROfI w l g1 g2 k u) (fun s _ _ => (32 - intOf s).toNat)
  case atStart => exact ⟨0, by omega, rfl, b1, R1, hR, hV⟩
  case round =>
    obtain ⟨k, hk, rfl, hI⟩ := hrel
    clear b1 R1 hV hR
    obtain ⟨b1, hL, hR, hV⟩ := id hI
    obtain ⟨vl, v0, v1, v2, v3, vf0, vf1, vf2, vf3⟩ := id hV
    by_cases hlt : k = 32
    · subst hlt
      have E : Hid (le ((mask l).take 32) = le (mask l)) := Lib.hid (by rw [List.take_of_length_le (by rw [HM.out]; omega)])
      have hN : Num (le ((mask l).take 32)) := by
        have h := le_take_bound (mask_bytes hB HL.out) (k := 32) (by rw [HM.out]; omega)
        rw [show (256 : Int) ^ 32 = 115792089237316195423570985008687907853269984665640564039457584007913129639936 by decide] at h
        exact h
      have hk1 : ¬ (((32 : Nat) : Int) < 32) := by omega
      go_wp2_with fail
      refine (refcanon_any _ _ hN).mono ?_
      rintro e u ⟨rfl, hb⟩
      rw [E.out]
      clear vl v0 v1 v2 v3 vf0 vf1 vf2 vf3
      replace hR := hR.below hb
      obtain ⟨vl, v0, v1, v2, v3, vf0, vf1, vf2, vf3⟩ := hR
      go_wp2_with fail
      refine bodyPost_ret (v := feV (le (mask l) % pp)) (by simp [results, Tryd.results24, go_sem, v0, v1, v2, v3]) rfl ⟨rfl, ?_⟩
      have hw1 : w.heap.size ≤ g1 := by omega
      have b3 := b1.trans (hb.mono b1.size)
      exact (((b3.setCell hw1 _).setCell hw1 _).setCell hw1 _).setCell hw1 _
    · have hk1 : (k : Int) < 32 := by omega
      have hk0 : (0 : Int) ≤ (k : Int) := by omega
      have hk3 : k < (mask l).length := by rw [HM.out]; omega
      have hc := hL.c k (by rw [HL.out]; omega)
      have ht := le_take_bound (mask_bytes hB HL.out) (k := k) (by omega)
      have hn := (mask_bytes hB HL.out).nth hk3
      have q0 := hn.1
      have q1 := hn.2
      have HT := Lib.hid (le_take_succ hk3)
      have hn' := hB.nth (k := k) (by rw [HL.out]; omega)
      have r0 := hn'.1
      have r1 := hn'.2
      clear hn hn'
      by_cases h31 : k = 31
      · have e31 : nth (mask l) k = nth l k % 128 := by subst h31; exact nth_set_same (by rw [HL.out]; omega) _
        have hb : ((k : Int) == 31) = true := by rw [h31]; rfl
        rw [e31] at HT q0 q1
        have hq : (k : Int) / 8 = 3 := by omega
        have H31 := Lib.hid h31; clear h31
        · obtain ⟨p0, p1, p2, p3⟩ := byte_word3 hq ht.1 ht.2 q0 q1
          rw [← HT.out] at p0 p1 p2 p3
          have P1 := Lib.hid p1; clear p1
          have P2 := Lib.hid p2; clear p2
          have P3 := Lib.hid p3; clear p3
          clear ht
          go_wp2_with fail
          exact ⟨⟨k + 1, by omega, by go_num, hI.put (by omega) (by omega) rfl (hV.put3 P1.out P2.out P3.out)⟩, by simp [intOf]; omega⟩
      · have e31 : nth (mask l) k = nth l k := nth_set_other (by omega) _
        have hb : ((k : Int) == 31) = false := beq_eq_false_iff_ne.2 (by omega)
        rw [e31] at HT q0 q1
        clear r0 r1 h31
        rcases (show (k : Int) / 8 = 0 ∨ (k : Int) / 8 = 1 ∨ (k : Int) / 8 = 2 ∨ (k : Int) / 8 = 3 by omega) with hq | hq | hq | hq
        · obtain ⟨p0, p1, p2, p3⟩ := byte_word0 hq ht.1 ht.2 q0 q1
          rw [← HT.out] at p0 p1 p2 p3
          have P1 := Lib.hid p1; clear p1
          have P2 := Lib.hid p2; clear p2
          have P3 := Lib.hid p3; clear p3
          clear ht
          go_wp2_with fail
          exact ⟨⟨k + 1, by omega, by go_num, hI.put (by omega) (by omega) rfl (hV.put0 P1.out P2.out P3.out)⟩, by simp [intOf]; omega⟩
        · obtain ⟨p0, p1, p2, p3⟩ := byte_word1 hq ht.1 ht.2 q0 q1
          rw [← HT.out] at p0 p1 p2 p3
          have P1 := Lib.hid p1; clear p1
          have P2 := Lib.hid p2; clear p2
          have P3 := Lib.hid p3; clear p3
          clear ht
          go_wp2_with fail
          exact ⟨⟨k + 1, by omega, by go_num, hI.put (by omega) (by omega) rfl (hV.put1 P1.out P2.out P3.out)⟩, by simp [intOf]; omega⟩
        · obtain ⟨p0, p1, p2, p3⟩ := byte_word2 hq ht.1 ht.2 q0 q1
          rw [← HT.out] at p0 p1 p2 p3
          have P1 := Lib.hid p1; clear p1
          have P2 := Lib.hid p2; clear p2
          have P3 := Lib.hid p3; clear p3
          clear ht
          go_wp2_with fail
          exact ⟨⟨k + 1, by omega, by go_num, hI.put (by omega) (by omega) rfl (hV.put2 P1.out P2.out P3.out)⟩, by simp [intOf]; omega⟩
        · obtain ⟨p0, p1, p2, p3⟩ := byte_word3 hq ht.1 ht.2 q0 q1
          rw [← HT.out] at p0 p1 p2 p3
          have P1 := Lib.hid p1; clear p1
          have P2 := Lib.hid p2; clear p2
          have P3 := Lib.hid p3; clear p3
          clear ht
          go_wp2_with fail
          exact ⟨⟨k + 1, by omega, by go_num, hI.put (by omega) (by omega) rfl (hV.put3 P1.out P2.out P3.out)⟩, by simp [intOf]; omega⟩
end Go.Proofs.YtabfjdljeebjbaaDoor
