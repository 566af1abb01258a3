/- What keywardref01.least does. -/
import Derived.Test.YtabfjdljeebjbaaDoorLimbs1
import Derived.Test.YtabfjdljeebjbaaDoorQuiet
namespace Go.Proofs.YtabfjdljeebjbaaDoor
open Go.RowKit Go.Sort

def prAll : List Int := (List.range 16).map prL
theorem prAll_len : prAll.length = 16 := by simp [prAll]
theorem prAll_lb : lb prAll = pp := by decide +kernel
theorem prAll_nth {i : Nat} (h : i < 16) : nth prAll i = prL i := by simp [nth, prAll, h]
theorem prAll_limbs : Limbs prAll := fun b hb => by
  unfold prAll at hb
  rw [List.mem_map] at hb
  obtain ⟨i, _, rfl⟩ := hb
  exact prL_bound i
theorem Limbs.take {l : List Int} (h : Limbs l) (k : Nat) : Limbs (l.take k) := fun b hb => h b (List.mem_of_mem_take hb)
theorem lb_take_lt {l : List Int} (h : Limbs l) {k : Nat} (hk : k ≤ l.length) : 0 ≤ lb (l.take k) ∧ lb (l.take k) < 65536 ^ k := by
  have h1 := lb_nonneg (h.take k).wides
  have h2 := lb_lt (h.take k)
  rw [List.length_take, Nat.min_eq_left hk] at h2
  exact ⟨h1, h2⟩
theorem drop_same {l : List Int} (hl : l.length = 16) {k : Nat} (h : ∀ j, k ≤ j → j < 16 → nth l j = prL j) : l.drop k = prAll.drop k := by
  apply List.ext_getElem?
  intro i
  rw [List.getElem?_drop, List.getElem?_drop]
  by_cases hi : k + i < 16
  · have e := h (k + i) (by omega) hi
    rw [← prAll_nth hi] at e
    unfold nth at e
    rw [List.getElem?_eq_getElem (by omega), List.getElem?_eq_getElem (by rw [prAll_len]; omega), Option.getD_some, Option.getD_some] at e
    rw [List.getElem?_eq_getElem (by omega), List.getElem?_eq_getElem (by rw [prAll_len]; omega), e]
  · rw [List.getElem?_eq_none (by omega), List.getElem?_eq_none (by rw [prAll_len]; omega)]
theorem least_at {l : List Int} (hl : l.length = 16) (hL : Limbs l) {i : Nat} (hi : i < 16) (h : ∀ j, i + 1 ≤ j → j < 16 → nth l j = prL j) (hne : nth l i ≠ prL i) : (lb l < pp) ↔ (nth l i < prL i) := by
  have e1 := lb_split l (i + 1) (by omega)
  have e2 := lb_split prAll (i + 1) (by rw [prAll_len]; omega)
  rw [prAll_lb, lb_take_succ (by rw [prAll_len]; omega), prAll_nth hi] at e2
  rw [lb_take_succ (by omega), drop_same hl h] at e1
  have b1 := lb_take_lt hL (k := i) (by omega)
  have b2 := lb_take_lt prAll_limbs (k := i) (by rw [prAll_len]; omega)
  generalize lb (l.take i) = a at *
  generalize lb (prAll.take i) = b at *
  generalize lb (prAll.drop (i + 1)) = r at *
  generalize nth l i = x at *
  generalize prL i = y at *
  generalize (65536 : Int) ^ (i + 1) * r = s at *
  generalize (65536 : Int) ^ i = M at *
  have hd : lb l - pp = a - b + M * (x - y) := by rw [e1, e2, Int.mul_sub]; omega
  constructor
  · intro hlt
    rcases Int.lt_or_gt_of_ne hne with h1 | h1
    · exact h1
    · exfalso
      have hm := Int.mul_le_mul_of_nonneg_left (show (1 : Int) ≤ x - y by omega) (show 0 ≤ M by omega)
      rw [Int.mul_one] at hm
      generalize M * (x - y) = t at *
      omega
  · intro hlt
    have hm := Int.mul_le_mul_of_nonneg_left (show x - y ≤ -1 by omega) (show 0 ≤ M by omega)
    rw [Int.mul_neg, Int.mul_one] at hm
    generalize M * (x - y) = t at *
    omega
theorem least_none {l : List Int} (hl : l.length = 16) (h : ∀ j, 0 ≤ j → j < 16 → nth l j = prL j) : ¬ lb l < pp := by
  have e := drop_same (k := 0) hl h
  rw [List.drop_zero, List.drop_zero] at e
  rw [e, prAll_lb]; omega

theorem prime_regrown (i : Nat) (u : World) : ∀ d os, Calls Tryd.prog 42 #[.int .i64 (i : Int)] (grow (redrawn u d) os) fun e w'' => e = .returned (.int .u64 (prL i)) ∧ ∃ p : Regrown, w'' = grow (redrawn u p.d) p.os := fun d os => (prime_any i _).mono fun _ _ ⟨he, hw⟩ => ⟨he, ⟨d, os⟩, hw.symm⟩

structure LeaI (w : World) (l : List Int) (k : Nat) (u : World) : Prop where
  bl : Below w.heap.size w u
  V : LRow w.heap.size l u
  eq : ∀ j, k ≤ j → j < 16 → nth l j = prL j

set_option maxHeartbeats 1000000 in
theorem least_any (l : List Int) (w : World) (hl : l.length = 16) (hL : Limbs l) :
    Calls Tryd.prog 41 #[lV l] w fun e w' => e = .returned (.bool (decide (lb l < pp))) ∧ Below w.heap.size w w' := by
  have HL := Lib.hid hl; clear hl
  have b1 : Below w.heap.size w (w.alloc (.cells (l.map (Value.int .u64)).toArray 54)) := (Below.refl _ _).alloc (Nat.le_refl _) _
  have hV := LRow.new w l
  go_enter Tryd.func41, Tryd.ntmps41
  go_wp2_with fail
  generalize w.alloc (.cells (l.map (Value.int .u64)).toArray 54) = u1 at *
  go_loopw [3] (fun s u => ∃ k : Nat, k ≤ 16 ∧ s = .int .i64 ((k : Int) - 1) ∧ LeaI w l k u) (fun s _ => (intOf s + 1).toNat)
  case atStart => exact ⟨16, by omega, rfl, b1, hV, fun j h1 h2 => by omega⟩
  case round =>
    obtain ⟨k, hk, rfl, hI⟩ := hrel
    clear b1 hV u1
    obtain ⟨b1, hV, hq⟩ := hI
    have Hq := Lib.hid hq; clear hq
    by_cases hlt : k = 0
    · subst hlt
      have hd : decide ((0 : Int) ≤ ((0 : Nat) : Int) - 1) = false := by decide
      have E : Hid (decide (lb l < pp) = false) := Lib.hid (decide_eq_false (least_none HL.out fun j _ h => Hq.out j (by omega) h))
      go_wp2_with fail
      go_ret
      exact ⟨by rw [E.out]; rfl, b1⟩
    · obtain ⟨j, rfl⟩ : ∃ j, k = j + 1 := ⟨k - 1, by omega⟩
      rw [show (((j + 1 : Nat) : Int) - 1) = (j : Int) from by omega]
      have hj : (j : Int) < 16 := by omega
      have hj0 : (0 : Int) ≤ (j : Int) := by omega
      have hjl : j < l.length := by rw [HL.out]; omega
      have hc := hV.c j hjl
      have kc := cell_regrown hc
      have cP := Lib.hid (prime_regrown j wr)
      by_cases he : nth l j = prL j
      · have hb : (nth l j != prL j) = false := by rw [he]; simp
        have He := Lib.hid he; clear he
        go_wp2_with fail
        refine wp_region_quiet_below (by kernel_rfl) (by kernel_rfl) ?_
        repeat (quiet_step (with_reducible exact cP.out _ _))
        refine wpQuiet_nil ?_
        intro _ hw'
        obtain ⟨⟨dq, osq⟩, hw''⟩ := hw'
        subst hw''
        go_wp2_with fail
        have bq := below_regrown wr dq osq
        exact ⟨⟨j, by omega, rfl, b1.trans (bq.mono b1.size), hV.below bq, fun i h1 h2 => by
          by_cases e : i = j
          · subst e; exact He.out
          · exact Hq.out i (by omega) h2⟩, by simp [intOf]⟩
      · have hb : (nth l j != prL j) = true := by rw [bne_iff_ne]; exact he
        have E : Hid (decide (lb l < pp) = decide (nth l j < prL j)) := Lib.hid (decide_eq_decide.2 (least_at HL.out hL (by omega) (fun i h1 h2 => Hq.out i h1 h2) he))
        clear he
        go_wp2_with fail
        refine wp_region_quiet_below (by kernel_rfl) (by kernel_rfl) ?_
        repeat (quiet_step (with_reducible exact cP.out _ _))
        refine wpQuiet_nil ?_
        intro _ hw'
        obtain ⟨⟨dq, osq⟩, hw''⟩ := hw'
        subst hw''
        have bq := below_regrown wr dq osq
        replace b1 := b1.trans (bq.mono b1.size)
        replace hV := hV.below bq
        clear bq kc hc cP
        generalize grow (redrawn wr dq) osq = u0 at *
        have hc := hV.c j hjl
        have kc := cell_regrown hc
        have cP := Lib.hid (prime_regrown j u0)
        go_wp2_with fail
        refine wp_region_quiet_below (by kernel_rfl) (by kernel_rfl) ?_
        repeat (quiet_step (with_reducible exact cP.out _ _))
        refine wpQuiet_nil ?_
        intro _ hw'
        obtain ⟨⟨dr, osr⟩, hw''⟩ := hw'
        subst hw''
        go_wp2_with fail
        go_ret
        exact ⟨by rw [E.out]; rfl, b1.trans ((below_regrown u0 dr osr).mono b1.size)⟩
end Go.Proofs.YtabfjdljeebjbaaDoor
