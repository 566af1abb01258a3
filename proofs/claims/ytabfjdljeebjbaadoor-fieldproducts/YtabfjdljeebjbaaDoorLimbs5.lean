/- What keywardref01.fe does. -/
import Derived.Test.YtabfjdljeebjbaaDoorLimbs4
namespace Go.Proofs.YtabfjdljeebjbaaDoor
open Go.RowKit Go.Sort

theorem sub_end {r q : List Int} {b : Int} (hr : r.length = 16) (hL : Limbs r) (hq : q.length = 16) (hM : Limbs q) (b0 : 0 ≤ b) (b1 : b ≤ 1) (hlt : ¬ lb r < pp) (h : lb (q.take 16) = lb (r.take 16) - lb (prAll.take 16) + 65536 ^ 16 * b) : lb q = lb r - pp := by
  rw [List.take_of_length_le (by omega), List.take_of_length_le (by omega), List.take_of_length_le (by rw [prAll_len]; omega), prAll_lb, pow16] at h
  have h1 := lb_lt hM
  have h2 := lb_lt hL
  rw [hq, pow16] at h1
  rw [hr, pow16] at h2
  unfold pp at *
  omega

set_option maxHeartbeats 4000000 in
theorem fe_limbs (l : List Int) (w : World) (hl : l.length = 16) (hW : Wides l) :
    Calls Tryd.prog 34 #[lV l] w fun e w' => e = .returned (feV (lb l % pp)) ∧ Below w.heap.size w w' := by
  have HL := Lib.hid hl; clear hl
  have b1 : Below w.heap.size w (w.alloc (.cells (l.map (Value.int .u64)).toArray 54)) := (Below.refl _ _).alloc (Nat.le_refl _) _
  have hV := LRow.new w l
  go_enter Tryd.func34, Tryd.ntmps34
  go_upto_region 1 with fail
  have hs : w.heap.size + 1 = (w.alloc (.cells (l.map (Value.int .u64)).toArray 54)).heap.size := by simp
  rw [hs]
  have l0 := hV.lt
  generalize w.alloc (.cells (l.map (Value.int .u64)).toArray 54) = u0 at *
  clear hs
  have hR := Var4.zero u0
  have b2 : Below u0.heap.size u0 (u0.alloc (.cells #[.int .u64 0, .int .u64 0, .int .u64 0, .int .u64 0] 26)) := (Below.refl _ _).alloc (Nat.le_refl _) _
  replace hV := hV.below b2
  replace b1 := b1.trans (b2.mono b1.size)
  generalize u0.alloc (.cells #[.int .u64 0, .int .u64 0, .int .u64 0, .int .u64 0] 26) = u1 at *
  generalize u0.heap.size = g1 at *
  clear b2 u0
  have HV := Lib.hid hV; clear hV
  go_wp2_with (refine wpList_load_mid rfl 54 (.tmp 1) rfl w.heap.size 0 rfl (l.map (Value.int .u64)) (.array 16 23) HV.out.range Tryd.underlying54 rfl (lV_size HL.out) ?_)
  refine (carry_any l _ HL.out hW).mono ?_
  rintro e u2 ⟨m, hm, hM, hE, rfl, hb⟩
  have Hm := Lib.hid hm; clear hm
  have HE := Lib.hid hE; clear hE
  replace HV := Lib.hid (HV.out.below hb)
  replace hR := hR.below hb
  replace b1 := b1.trans (hb.mono b1.size)
  clear hb
  go_wp2_with (refine wpList_store_mid rfl 54 (.tmp 1) _ rfl w.heap.size 0 (m.map (Value.int .u64)).toArray rfl rfl (by simpa [HL.out, Hm.out] using HV.out.thereAt) (by simpa using lV_size Hm.out) (lV_one _) ?_)
  simp only [Act.put]
  replace HV := Lib.hid (HV.out.storeAll (l' := m) (by rw [Hm.out, HL.out]))
  replace hR := hR.farAll (c := w.heap.size) (by omega) 0 (m.map (Value.int .u64))
  replace b1 := Below.setCells (Nat.le_refl w.heap.size) (m.map (Value.int .u64)) 0 b1
  generalize u2.setCells w.heap.size 0 (m.map (Value.int .u64)) = u0 at *
  clear u2 u1
  go_loopw [3] (fun _ u => Below w.heap.size w u ∧ Var4 g1 0 u ∧ ∃ r : List Int, r.length = 16 ∧ Limbs r ∧ lb r % pp = lb l % pp ∧ LRow w.heap.size r u) (fun _ u => lbAt u w.heap.size)
  case atStart => exact ⟨b1, hR, m, Hm.out, hM, HE.out, HV.out⟩
  case round =>
    obtain ⟨bl, R, r, hr, hL, hE, hV⟩ := hrel
    clear b1 hR HV HE Hm hM u0
    have Hr := Lib.hid hr; clear hr
    have HE := Lib.hid hE; clear hE
    have HV := Lib.hid hV; clear hV
    by_cases hlt : lb r < pp
    · have hd : decide (lb r < pp) = true := decide_eq_true hlt
      go_wp2_with (refine wpList_load_mid rfl 54 (.tmp 1) rfl w.heap.size 0 rfl (r.map (Value.int .u64)) (.array 16 23) HV.out.range Tryd.underlying54 rfl (lV_size Hr.out) ?_)
      refine (least_any r _ Hr.out hL).mono ?_
      rintro e u1 ⟨rfl, hb⟩
      replace HV := Lib.hid (HV.out.below hb)
      replace R := R.below hb
      replace bl := bl.trans (hb.mono bl.size)
      clear hb
      have hV := Var4.zero u1
      have b2 : Below u1.heap.size u1 (u1.alloc (.cells #[.int .u64 0, .int .u64 0, .int .u64 0, .int .u64 0] 26)) := (Below.refl _ _).alloc (Nat.le_refl _) _
      go_wp2_with fail
      replace HV := Lib.hid (HV.out.below b2)
      have l1 := R.lt
      replace R := R.below b2
      replace bl := bl.trans (b2.mono bl.size)
      generalize u1.alloc (.cells #[.int .u64 0, .int .u64 0, .int .u64 0, .int .u64 0] 26) = u2 at *
      generalize u1.heap.size = g2 at *
      clear b2 u1
      have E : Hid (lb r = lb l % pp) := Lib.hid (by rw [← HE.out, Int.emod_eq_of_lt (lb_nonneg hL.wides) hlt])
      clear HE hlt hd
      go_loopw [7] (fun s u => ∃ k : Nat, k ≤ 16 ∧ s = .int .i64 (k : Int) ∧ OutI w r g1 g2 k u) (fun s _ => (16 - intOf s).toNat)
      case atStart => exact ⟨0, by omega, rfl, bl, HV.out, R, hV⟩
      case round =>
        obtain ⟨k, hk, rfl, hI⟩ := hrel
        clear bl HV R hV
        obtain ⟨b1, hV1, hR, hV⟩ := id hI
        obtain ⟨vl, v0, v1, v2, v3, vf0, vf1, vf2, vf3⟩ := id hV
        by_cases hlt : k = 16
        · subst hlt
          have E2 : Hid (lb (r.take 16) = lb l % pp) := Lib.hid (by rw [List.take_of_length_le (by rw [Hr.out]; omega), E.out])
          have hk1 : ¬ (((16 : Nat) : Int) < 16) := by omega
          rw [E2.out] at v0 v1 v2 v3
          obtain ⟨vl', v0', v1', v2', v3', vf0', vf1', vf2', vf3'⟩ := hR
          go_wp2_with fail
          refine bodyPost_ret (v := feV (lb l % pp)) (by simp [results, Tryd.results34, go_sem, v0', v1', v2', v3']) rfl ⟨rfl, ?_⟩
          have hw1 : w.heap.size ≤ g1 := by omega
          exact (((b1.setCell hw1 _).setCell hw1 _).setCell hw1 _).setCell hw1 _
        · have hk1 : (k : Int) < 16 := by omega
          have hk0 : (0 : Int) ≤ (k : Int) := by omega
          have hk3 : k < r.length := by rw [Hr.out]; omega
          have hc := hV1.c k hk3
          have ht := lb_take_lt hL (k := k) (by omega)
          have hn := hL.nth hk3
          have HT := Lib.hid (lb_take_succ hk3)
          rcases (show (k : Int) / 4 = 0 ∨ (k : Int) / 4 = 1 ∨ (k : Int) / 4 = 2 ∨ (k : Int) / 4 = 3 by omega) with hq | hq | hq | hq
          · obtain ⟨p0, p1, p2, p3⟩ := add_word0 hq ht.1 ht.2 hn.1 hn.2
            rw [← HT.out] at p0 p1 p2 p3
            have P1 := Lib.hid p1; clear p1
            have P2 := Lib.hid p2; clear p2
            have P3 := Lib.hid p3; clear p3
            clear ht hn
            go_wp2_with fail
            go_region
            go_wp2_with fail
            exact ⟨⟨k + 1, by omega, by go_num, hI.put (by omega) (by omega) rfl (hV.put0 P1.out P2.out P3.out)⟩, by simp [intOf]; omega⟩
          · obtain ⟨p0, p1, p2, p3⟩ := add_word1 hq ht.1 ht.2 hn.1 hn.2
            rw [← HT.out] at p0 p1 p2 p3
            have P1 := Lib.hid p1; clear p1
            have P2 := Lib.hid p2; clear p2
            have P3 := Lib.hid p3; clear p3
            clear ht hn
            go_wp2_with fail
            go_region
            go_wp2_with fail
            exact ⟨⟨k + 1, by omega, by go_num, hI.put (by omega) (by omega) rfl (hV.put1 P1.out P2.out P3.out)⟩, by simp [intOf]; omega⟩
          · obtain ⟨p0, p1, p2, p3⟩ := add_word2 hq ht.1 ht.2 hn.1 hn.2
            rw [← HT.out] at p0 p1 p2 p3
            have P1 := Lib.hid p1; clear p1
            have P2 := Lib.hid p2; clear p2
            have P3 := Lib.hid p3; clear p3
            clear ht hn
            go_wp2_with fail
            go_region
            go_wp2_with fail
            exact ⟨⟨k + 1, by omega, by go_num, hI.put (by omega) (by omega) rfl (hV.put2 P1.out P2.out P3.out)⟩, by simp [intOf]; omega⟩
          · obtain ⟨p0, p1, p2, p3⟩ := add_word3 hq ht.1 ht.2 hn.1 hn.2
            rw [← HT.out] at p0 p1 p2 p3
            have P1 := Lib.hid p1; clear p1
            have P2 := Lib.hid p2; clear p2
            have P3 := Lib.hid p3; clear p3
            clear ht hn
            go_wp2_with fail
            go_region
            go_wp2_with fail
            exact ⟨⟨k + 1, by omega, by go_num, hI.put (by omega) (by omega) rfl (hV.put3 P1.out P2.out P3.out)⟩, by simp [intOf]; omega⟩
    · have hd : decide (lb r < pp) = false := decide_eq_false hlt
      go_wp2_with (refine wpList_load_mid rfl 54 (.tmp 1) rfl w.heap.size 0 rfl (r.map (Value.int .u64)) (.array 16 23) HV.out.range Tryd.underlying54 rfl (lV_size Hr.out) ?_)
      refine (least_any r _ Hr.out hL).mono ?_
      rintro e u1 ⟨rfl, hb⟩
      have hM0 := lbAt_eq Hr.out HV.out
      have HM0 := Lib.hid hM0; clear hM0
      replace HV := Lib.hid (HV.out.below hb)
      replace R := R.below hb
      replace bl := bl.trans (hb.mono bl.size)
      clear hb
      go_wp2_with fail
      go_loopw [3, 4] (fun s3 s4 u => ∃ (k : Nat) (b : Int), k ≤ 16 ∧ s3 = .int .u64 b ∧ s4 = .int .i64 (k : Int) ∧ SubI w r g1 k b u) (fun _ s4 _ => (16 - intOf s4).toNat)
      case atStart => exact ⟨0, 0, by omega, rfl, rfl, bl, by omega, by omega, R, r, Hr.out, HV.out, fun j h => by omega, fun j _ _ => rfl, by simp [lb]⟩
      case round =>
        obtain ⟨k, b, hk, rfl, rfl, hI⟩ := hrel
        obtain ⟨bl', c0, c1, hR, q, hq, hV, h1, h2, h3⟩ := hI
        have H1 := Lib.hid h1; clear h1
        have H2 := Lib.hid h2; clear h2
        have H3 := Lib.hid h3; clear h3
        have Hq := Lib.hid hq; clear hq
        by_cases hk16 : k = 16
        · subst hk16
          have hk1 : ¬ (((16 : Nat) : Int) < 16) := by omega
          have HM : Hid (Limbs q) := Lib.hid (limbs_of_nth Hq.out H1.out)
          have HN : Hid (lb q = lb r - pp) := Lib.hid (sub_end Hr.out hL Hq.out HM.out c0 c1 (by omega) H3.out)
          have hp : 0 ≤ lb q := lb_nonneg HM.out.wides
          go_wp2_with fail
          refine ⟨⟨bl', hR, q, Hq.out, HM.out, ?_, hV⟩, ?_⟩
          · rw [HN.out, ← HE.out, Int.sub_emod_right]
          · rw [HM0.out, lbAt_eq Hq.out hV]
            have := HN.out
            unfold pp at this
            omega
        · have hk1 : (k : Int) < 16 := by omega
          have hk0 : (0 : Int) ≤ (k : Int) := by omega
          have hc := hV.c k (by rw [Hq.out]; omega)
          rw [H2.out k (by omega) (by omega)] at hc
          have hf := hV.f k
          have kc := cell_regrown hc
          have cP := Lib.hid (prime_regrown k wr)
          have hb := hL.nth (k := k) (by rw [Hr.out]; omega)
          have hpb := prL_bound k
          have q0 := hb.1
          have q1 := hb.2
          have q2 := hpb.1
          have q3 := hpb.2
          clear hb hpb
          have HS := Lib.hid (fun (u : World) (hu : Below wr.heap.size wr u) => SubI.step (x := nth r k + 65536 - prL k - b) Hr.out hL (by omega) (by omega) (bl'.trans (hu.mono bl'.size)) c0 c1 (hR.below hu) Hq.out (hV.below hu) H1.out H2.out H3.out rfl)
          go_upto_region 7 with fail
          refine wp_region_quiet_below (by kernel_rfl) (by kernel_rfl) ?_
          repeat (quiet_step (with_reducible exact cP.out _ _))
          refine wpQuiet_nil ?_
          intro _ hw'
          obtain ⟨⟨dq, osq⟩, hw''⟩ := hw'
          subst hw''
          have bq := below_regrown wr dq osq
          have e : IntKind.u64.wrap (IntKind.u64.wrap (IntKind.u64.wrap (nth r k + 65536) - prL k) - b) = nth r k + 65536 - prL k - b := by
            simp only [IntKind.wrap_u64]; omega
          rw [e]
          have hS := HS.out _ bq
          replace hf : (grow (redrawn wr dq) osq).frozen? ⟨w.heap.size, k, none⟩ = false := (hV.below bq).f k
          replace hc := (hV.below bq).c k (by rw [Hq.out]; omega)
          have x0 : 0 ≤ nth r k + 65536 - prL k - b := by omega
          have x1 : nth r k + 65536 - prL k - b < 131072 := by omega
          clear HS cP kc bq e
          generalize nth r k + 65536 - prL k - b = x at *
          generalize grow (redrawn wr dq) osq = u0 at *
          have HS := Lib.hid hS; clear hS
          clear hV H1 H2 H3 hR bl'
          go_wp2_with fail
          exact ⟨⟨k + 1, _, by omega, rfl, by go_num, HS.out⟩, by simp [intOf]; omega⟩
end Go.Proofs.YtabfjdljeebjbaaDoor
