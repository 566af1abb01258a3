/- What keywardref01.carry does. -/
import Derived.Test.YtabfjdljeebjbaaDoorLimbs2
namespace Go.Proofs.YtabfjdljeebjbaaDoor
open Go.RowKit

/-- Carried limbs of the same number by the prime are told. -/
def Carried (l : List Int) (w : World) (e : Ending) (w' : World) : Prop := ∃ m : List Int, m.length = 16 ∧ Limbs m ∧ lb m % pp = lb l % pp ∧ e = .returned (lV m) ∧ Below w.heap.size w w'

theorem nth_set_same {m : List Int} {k : Nat} (h : k < m.length) (x : Int) : nth (m.set k x) k = x := by simp [nth, h]
theorem nth_set_other {m : List Int} {k j : Nat} (h : k ≠ j) (x : Int) : nth (m.set k x) j = nth m j := by simp [nth, List.getElem?_set_ne h]
theorem take_set_lb {m : List Int} {k : Nat} (h : k < m.length) (x : Int) : lb ((m.set k x).take (k + 1)) = lb (m.take k) + 65536 ^ k * x := by
  rw [lb_take_succ (by rw [List.length_set]; exact h), nth_set_same h, List.take_set_of_le (Nat.le_refl k)]
theorem lb_set0 {m : List Int} (h : 0 < m.length) (x : Int) : lb (m.set 0 x) = lb m + (x - nth m 0) := by
  match m, h with
  | y :: t, _ => simp [lb, nth]; omega

theorem limbs_of_nth {m : List Int} (hm : m.length = 16) (h : ∀ j, j < 16 → 0 ≤ nth m j ∧ nth m j < 65536) : Limbs m := fun b hb => by
  obtain ⟨i, hi, rfl⟩ := List.getElem_of_mem hb
  have e := h i (by omega)
  unfold nth at e
  rwa [List.getElem?_eq_getElem hi, Option.getD_some] at e
theorem wides_set0 {m : List Int} (h : Limbs m) {x : Int} (h0 : 0 ≤ x) (h1 : x < 4611686018427387904) : Wides (m.set 0 x) := fun b hb => by
  rcases List.mem_or_eq_of_mem_set hb with h2 | h2
  · exact h.wides b h2
  · subst h2; exact ⟨h0, h1⟩
/-- carry's loop: k limbs are carried. -/
structure CarI (w : World) (l : List Int) (g1 k : Nat) (c : Int) (u : World) : Prop where
  bl : Below w.heap.size w u
  c0 : 0 ≤ c
  c1 : c < 140737488355328
  R : LRow g1 (List.replicate 16 0) u
  V : ∃ m : List Int, m.length = 16 ∧ LRow w.heap.size m u ∧ (∀ j, j < k → 0 ≤ nth m j ∧ nth m j < 65536) ∧ (∀ j, k ≤ j → j < 16 → nth m j = nth l j) ∧ lb (m.take k) + 65536 ^ k * c = lb (l.take k)
theorem CarI.step {w u : World} {l m : List Int} {g1 k : Nat} {c : Int} (hl : l.length = 16) (hW : Wides l) (hk : k < 16) (hg : g1 ≠ w.heap.size) (bl : Below w.heap.size w u) (c0 : 0 ≤ c) (c1 : c < 140737488355328) (R : LRow g1 (List.replicate 16 0) u)
    (hm : m.length = 16) (hV : LRow w.heap.size m u) (h1 : ∀ j, j < k → 0 ≤ nth m j ∧ nth m j < 65536) (h2 : ∀ j, k ≤ j → j < 16 → nth m j = nth l j) (h3 : lb (m.take k) + 65536 ^ k * c = lb (l.take k)) :
    CarI w l g1 (k + 1) ((c + nth l k) / 65536) (u.setCell ⟨w.heap.size, k, none⟩ (.int .u64 ((c + nth l k) % 65536))) := by
  have hb := hW.nth (k := k) (by omega)
  refine ⟨bl.setCell (p := ⟨w.heap.size, k, none⟩) (Nat.le_refl _) _, by omega, by omega, R.far (Ne.symm hg) _ _, m.set k ((c + nth l k) % 65536), by rw [List.length_set, hm], hV.set (by omega) _, ?_, ?_, ?_⟩
  · intro j hj
    by_cases e : k = j
    · subst e; rw [nth_set_same (by omega)]; omega
    · rw [nth_set_other e]; exact h1 j (by omega)
  · intro j hj hj2
    rw [nth_set_other (by omega)]; exact h2 j (by omega) hj2
  · rw [take_set_lb (by omega), lb_take_succ (by omega), ← h3, Int.pow_succ]
    generalize (65536 : Int) ^ k = M
    have e : c + nth l k = 65536 * ((c + nth l k) / 65536) + (c + nth l k) % 65536 := by omega
    generalize (c + nth l k) / 65536 = q at *
    generalize (c + nth l k) % 65536 = r at *
    have e2 : nth l k = 65536 * q + r - c := by omega
    rw [e2]; grind

set_option maxHeartbeats 2000000 in
theorem carry_upto : ∀ (n : Nat) (l : List Int) (w : World), l.length = 16 → Wides l → (lb l).toNat < n → Calls Tryd.prog 40 #[lV l] w (Carried l w)
  | 0, _, _, _, _, h => by omega
  | n + 1, l, w, hl, hW, hn => by
    have HI := Lib.hid (carry_upto n)
    have HL := Lib.hid hl; clear hl
    have b1 : Below w.heap.size w (w.alloc (.cells (l.map (Value.int .u64)).toArray 54)) := (Below.refl _ _).alloc (Nat.le_refl _) _
    have hV := LRow.new w l
    go_enter Tryd.func40, Tryd.ntmps40
    go_upto_region 1 with fail
    have hs : w.heap.size + 1 = (w.alloc (.cells (l.map (Value.int .u64)).toArray 54)).heap.size := by simp
    rw [hs]
    have l0 := hV.lt
    generalize w.alloc (.cells (l.map (Value.int .u64)).toArray 54) = u0 at *
    clear hs
    have hR := LRow.zero u0
    have b2 : Below u0.heap.size u0 (u0.alloc (.cells #[.int .u64 0, .int .u64 0, .int .u64 0, .int .u64 0, .int .u64 0, .int .u64 0, .int .u64 0, .int .u64 0, .int .u64 0, .int .u64 0, .int .u64 0, .int .u64 0, .int .u64 0, .int .u64 0, .int .u64 0, .int .u64 0] 54)) := (Below.refl _ _).alloc (Nat.le_refl _) _
    replace hV := hV.below b2
    replace b1 := b1.trans (b2.mono b1.size)
    generalize u0.alloc (.cells #[.int .u64 0, .int .u64 0, .int .u64 0, .int .u64 0, .int .u64 0, .int .u64 0, .int .u64 0, .int .u64 0, .int .u64 0, .int .u64 0, .int .u64 0, .int .u64 0, .int .u64 0, .int .u64 0, .int .u64 0, .int .u64 0] 54) = u1 at *
    generalize u0.heap.size = g1 at *
    clear b2 u0
    go_wp2_with fail
    go_loopw [3, 4] (fun s3 s4 u => ∃ (k : Nat) (c : Int), k ≤ 16 ∧ s3 = .int .u64 c ∧ s4 = .int .i64 (k : Int) ∧ CarI w l g1 k c u) (fun _ s4 _ => (16 - intOf s4).toNat)
    case atStart => exact ⟨0, 0, by omega, rfl, rfl, b1, by omega, by omega, hR, l, HL.out, hV, fun j h => by omega, fun j _ _ => rfl, by simp [lb]⟩
    case round =>
      obtain ⟨k, c, hk, rfl, rfl, hI⟩ := hrel
      clear b1 hV hR u1
      obtain ⟨b1, c0, c1, hR, m, hm, hV, h1, h2, h3⟩ := hI
      have H1 := Lib.hid h1; clear h1
      have H2 := Lib.hid h2; clear h2
      have H3 := Lib.hid h3; clear h3
      have Hm := Lib.hid hm; clear hm
      by_cases hlt : k = 16
      · subst hlt
        have hk1 : ¬ (((16 : Nat) : Int) < 16) := by omega
        have HM : Hid (Limbs m) := Lib.hid (limbs_of_nth Hm.out H1.out)
        have HN : Hid (lb m + 115792089237316195423570985008687907853269984665640564039457584007913129639936 * c = lb l) := Lib.hid (by
          have h := H3.out
          rwa [List.take_of_length_le (by rw [Hm.out]; exact Nat.le_refl _), List.take_of_length_le (by rw [HL.out]; exact Nat.le_refl _), pow16] at h)
        by_cases hc : c = 0
        · subst hc
          have HV := Lib.hid hV; clear hV
          have HR := Lib.hid hR; clear hR
          go_wp2_with (first | refine wpList_load_mid rfl 54 (.tmp 1) rfl w.heap.size 0 rfl (m.map (Value.int .u64)) (.array 16 23) HV.out.range Tryd.underlying54 rfl (lV_size Hm.out) ?_ | refine wpList_store_mid rfl 54 (.tmp 2) _ rfl g1 0 (m.map (Value.int .u64)).toArray rfl rfl (by simpa [Hm.out] using HR.out.thereAt) (by simpa using lV_size Hm.out) (lV_one _) ?_)
          have hT := World.rangeAt_setCells_same wr g1 0 (m.map (Value.int .u64)) (by simpa [Hm.out] using HR.out.thereAt)
          refine bodyPost_ret (v := lV m) ?_ rfl ⟨m, Hm.out, HM.out, by rw [← HN.out, Int.mul_zero, Int.add_zero], rfl, ?_⟩
          · exact results_limbs Tryd.results40 rfl Hm.out hT
          · exact Below.setCells (by omega) _ _ b1
        · have hz : (c == 0) = false := beq_eq_false_iff_ne.2 hc
          have hcp : 0 < c := by omega
          have hm0 := HM.out.nth (k := 0) (by rw [Hm.out]; omega)
          have q0 := hm0.1
          have q1 := hm0.2
          clear hm0 hc
          have k0 := hV.c 0 (by rw [Hm.out]; omega)
          have f0 := hV.f 0
          go_upto_region 11 with fail
          have hm0 : 0 < m.length := by rw [Hm.out]; omega
          replace hV := hV.set hm0 (nth m 0 + 38 * c)
          replace hR := hR.far (c := w.heap.size) (by omega) 0 (.int .u64 (nth m 0 + 38 * c))
          replace b1 := b1.setCell (p := ⟨w.heap.size, 0, none⟩) (Nat.le_refl _) (.int .u64 (nth m 0 + 38 * c))
          have HE : Hid (lb (m.set 0 (nth m 0 + 38 * c)) = lb m + 38 * c) := Lib.hid (by rw [lb_set0 hm0]; omega)
          have HW : Hid (Wides (m.set 0 (nth m 0 + 38 * c))) := Lib.hid (wides_set0 HM.out (by omega) (by omega))
          have HQ : Hid ((m.set 0 (nth m 0 + 38 * c)).length = 16) := Lib.hid (by rw [List.length_set, Hm.out])
          clear k0 f0
          generalize wr.setCell ⟨w.heap.size, 0, none⟩ (.int .u64 (nth m 0 + 38 * c)) = u0 at *
          generalize m.set 0 (nth m 0 + 38 * c) = m' at *
          have HV := Lib.hid hV; clear hV
          have hnn := lb_nonneg HM.out.wides
          have hlt : (lb m').toNat < n := by rw [HE.out]; have := HN.out; omega
          go_wp2_with (refine wpList_load_mid rfl 54 (.tmp 1) rfl w.heap.size 0 rfl (m'.map (Value.int .u64)) (.array 16 23) HV.out.range Tryd.underlying54 rfl (lV_size HQ.out) ?_)
          refine (HI.out m' _ HQ.out HW.out hlt).mono ?_
          rintro e u2 ⟨r, hr1, hr2, hr3, rfl, hb⟩
          have Hr1 := Lib.hid hr1; clear hr1
          have HR := Lib.hid (hR.below hb); clear hR
          go_wp2_with (refine wpList_store_mid rfl 54 (.tmp 2) _ rfl g1 0 (r.map (Value.int .u64)).toArray rfl rfl (by simpa [Hr1.out] using HR.out.thereAt) (by simpa using lV_size Hr1.out) (lV_one _) ?_)
          have hT := World.rangeAt_setCells_same u2 g1 0 (r.map (Value.int .u64)) (by simpa [Hr1.out] using HR.out.thereAt)
          refine bodyPost_ret (v := lV r) ?_ rfl ⟨r, Hr1.out, hr2, ?_, rfl, ?_⟩
          · exact results_limbs Tryd.results40 rfl Hr1.out hT
          · rw [hr3, HE.out, ← HN.out, show lb m + 115792089237316195423570985008687907853269984665640564039457584007913129639936 * c = lb m + 38 * c + pp * (2 * c) by unfold pp; omega, Int.add_mul_emod_self_left]
          · exact Below.setCells (by omega) _ _ (b1.trans (hb.mono b1.size))
      · have hk1 : (k : Int) < 16 := by omega
        have hk0 : (0 : Int) ≤ (k : Int) := by omega
        have hc := hV.c k (by rw [Hm.out]; omega)
        rw [H2.out k (by omega) (by omega)] at hc
        have hf := hV.f k
        have hb := hW.nth (k := k) (by rw [HL.out]; omega)
        have q0 := hb.1
        have q1 := hb.2
        have HS := Lib.hid (CarI.step HL.out hW (by omega) (by omega) b1 c0 c1 hR Hm.out hV H1.out H2.out H3.out)
        clear hb
        go_wp2_with fail
        exact ⟨⟨k + 1, _, by omega, rfl, by go_num, HS.out⟩, by simp [intOf]; omega⟩
theorem carry_any (l : List Int) (w : World) (hl : l.length = 16) (hW : Wides l) : Calls Tryd.prog 40 #[lV l] w (Carried l w) := carry_upto ((lb l).toNat + 1) l w hl hW (Nat.lt_succ_self _)
end Go.Proofs.YtabfjdljeebjbaaDoor
