/- FieldBack: its walk. -/
import Derived.Test.YtabfjdljeebjbaaDoorKnown
namespace Go.Proofs.YtabfjdljeebjbaaDoor
open Go.RowKit

theorem xor128 : ∀ v : Fin 256, (v.val ^^^ 128) % 128 = v.val % 128 ∧ v.val ^^^ 128 < 256 := by decide +kernel
theorem xor_byte {v : Int} (h0 : 0 ≤ v) (h1 : v ≤ 255) : 0 ≤ bits .xor .u8 v 128 ∧ bits .xor .u8 v 128 ≤ 255 ∧ bits .xor .u8 v 128 % 128 = v % 128 := by
  rw [u8_xor _ _ h0 (by omega) (by omega) (by omega)]
  have h := xor128 ⟨v.toNat, by omega⟩
  simp only at h
  rw [show (128 : Int).toNat = 128 from rfl]
  omega
/-- The highest bit turned. -/
def flip (l : List Int) : List Int := l.set 31 (bits .xor .u8 (nth l 31) 128)
theorem flip_len (l : List Int) : (flip l).length = l.length := List.length_set
theorem flip_bytes {l : List Int} (hB : Bytes8 l) (hl : l.length = 32) : Bytes8 (flip l) := by
  have h := hB.nth (k := 31) (by omega)
  have hx := xor_byte h.1 h.2
  intro b hb
  rcases List.mem_or_eq_of_mem_set hb with h1 | h1
  · exact hB b h1
  · subst h1; exact ⟨hx.1, hx.2.1⟩
theorem flip_mask {l : List Int} (hB : Bytes8 l) (hl : l.length = 32) : mask (flip l) = mask l := by
  have h := hB.nth (k := 31) (by omega)
  have hx := xor_byte h.1 h.2
  have e : nth (flip l) 31 = bits .xor .u8 (nth l 31) 128 := by simp [nth, flip, hl]
  unfold mask
  rw [e, hx.2.2]
  unfold flip
  rw [List.set_set]
theorem le_bzTo (Z : Int) (h0 : 0 ≤ Z) : ∀ k, k ≤ 32 → le ((bzAll Z).take k) = Z % 256 ^ k
  | 0, _ => by simp [le, Int.emod_one]
  | k + 1, hk => by
    rw [le_take_succ (by rw [bzAll_len]; omega), le_bzTo Z h0 k (by omega), bzAll_nth Z (by omega)]
    unfold bz
    obtain ⟨n, rfl⟩ := Int.eq_ofNat_of_zero_le h0
    have h := congrArg (Nat.cast : Nat → Int) (Nat.mod_mul (x := n) (a := 256 ^ k) (b := 256))
    rw [Int.pow_succ]
    simpa using h.symm
theorem le_bzAll {Z : Int} (h : Num Z) : le (bzAll Z) = Z := by
  have e := le_bzTo Z h.1 32 (Nat.le_refl _)
  rw [List.take_of_length_le (by rw [bzAll_len]; exact Nat.le_refl _), show (256 : Int) ^ 32 = 115792089237316195423570985008687907853269984665640564039457584007913129639936 by decide, Int.emod_eq_of_lt h.1 h.2] at e
  exact e
theorem mask_small {Z : Int} (h0 : 0 ≤ Z) (h1 : Z < pp) : mask (bzAll Z) = bzAll Z := by
  have hb : nth (bzAll Z) 31 % 128 = nth (bzAll Z) 31 := by
    rw [bzAll_nth Z (by omega)]; unfold bz pp at *
    rw [show (256 : Int) ^ 31 = 452312848583266388373324160190187140051835877600158453279131187530910662656 by decide]; omega
  unfold mask
  rw [hb]
  apply List.ext_getElem?
  intro i
  by_cases e : 31 = i
  · subst e; simp [nth, bzAll_len]
  · rw [List.getElem?_set_ne e]
theorem of_bytes (X : Int) : le (mask (bzAll (X % pp))) % pp = X % pp := by
  obtain ⟨h0, h1⟩ := emod_pp_lt X
  rw [mask_small h0 h1, le_bzAll (num_emod_pp X), Int.emod_emod_of_dvd _ (Int.dvd_refl _)]

set_option maxHeartbeats 4000000 in
theorem back_walk (X : Int) (l : List Int) (w : World) (hX : Num X) (hl : l.length = 32) (hB : Bytes8 l) (hG : Globs w) :
    Calls Tryd.prog 10 #[feV X, kV l] w fun e w' => e = .returned (.bool true) ∧ Below w.heap.size w w' := by
  have b0 : Below w.heap.size w ((w.alloc (.cells #[.int .u64 (w0 X), .int .u64 (w1 X), .int .u64 (w2 X), .int .u64 (w3 X)] 26)).alloc (.cells (l.map (Value.int .u8)).toArray 36)) := by repeat' (first | exact Below.refl _ _ | assumption | refine Below.setCell ?_ ?_ _ | refine Below.alloc ?_ ?_ _ | refine Below.drew ?_ | refine Below.trans ?_ (Below.mono (by assumption) ?_) | (simp; done) | (simp; omega))
  have vX : Cells4 w.heap.size X ((w.alloc (.cells #[.int .u64 (w0 X), .int .u64 (w1 X), .int .u64 (w2 X), .int .u64 (w3 X)] 26)).alloc (.cells (l.map (Value.int .u8)).toArray 36)) := by unfold Cells4; simp [go_sem]
  have vL := Row.new (w.alloc (.cells #[.int .u64 (w0 X), .int .u64 (w1 X), .int .u64 (w2 X), .int .u64 (w3 X)] 26)) l
  have HL := Lib.hid hl; clear hl
  go_enter Tryd.func10, Tryd.ntmps10
  go_upto_region 1 with fail
  rw [show (w.alloc (.cells #[.int .u64 (w0 X), .int .u64 (w1 X), .int .u64 (w2 X), .int .u64 (w3 X)] 26)).heap.size = w.heap.size + 1 by simp] at vL
  have hs := vL.lt
  generalize (w.alloc (.cells #[.int .u64 (w0 X), .int .u64 (w1 X), .int .u64 (w2 X), .int .u64 (w3 X)] 26)).alloc (.cells (l.map (Value.int .u8)).toArray 36) = u1 at *
  have hR := Row.zero u1
  have hb2 : Below u1.heap.size u1 (u1.alloc (.cells #[.int .u8 0, .int .u8 0, .int .u8 0, .int .u8 0, .int .u8 0, .int .u8 0, .int .u8 0, .int .u8 0, .int .u8 0, .int .u8 0, .int .u8 0, .int .u8 0, .int .u8 0, .int .u8 0, .int .u8 0, .int .u8 0, .int .u8 0, .int .u8 0, .int .u8 0, .int .u8 0, .int .u8 0, .int .u8 0, .int .u8 0, .int .u8 0, .int .u8 0, .int .u8 0, .int .u8 0, .int .u8 0, .int .u8 0, .int .u8 0, .int .u8 0, .int .u8 0] 36)) := (Below.refl _ _).alloc (Nat.le_refl _) _
  have HR := Lib.hid hR; clear hR
  have HV := Lib.hid vL; clear vL
  go_upto_region 2 with (first | refine wpList_load_mid rfl 36 (.tmp 3) rfl (w.heap.size + 1) 0 rfl (l.map (Value.int .u8)) (.array 32 5) HV.out.range Tryd.underlying36 rfl (kV_size HL.out) ?_ | refine wpList_store_mid rfl 36 (.tmp 5) (.tmp 6) rfl u1.heap.size 0 (l.map (Value.int .u8)).toArray rfl rfl (by simpa [HL.out] using HR.out.thereAt) (by simpa using kV_size HL.out) (kV_one _) ?_)
  replace HR := Lib.hid (HR.out.storeAll (l' := l) (by rw [HL.out]; rfl))
  replace hb2 := Below.setCells (Nat.le_refl u1.heap.size) (l.map (Value.int .u8)) 0 hb2
  replace HV := Lib.hid (HV.out.below hb2)
  replace vX := vX.of_below (by omega) hb2
  replace b0 := b0.trans (hb2.mono b0.size)
  clear hb2
  generalize (u1.alloc (.cells #[.int .u8 0, .int .u8 0, .int .u8 0, .int .u8 0, .int .u8 0, .int .u8 0, .int .u8 0, .int .u8 0, .int .u8 0, .int .u8 0, .int .u8 0, .int .u8 0, .int .u8 0, .int .u8 0, .int .u8 0, .int .u8 0, .int .u8 0, .int .u8 0, .int .u8 0, .int .u8 0, .int .u8 0, .int .u8 0, .int .u8 0, .int .u8 0, .int .u8 0, .int .u8 0, .int .u8 0, .int .u8 0, .int .u8 0, .int .u8 0, .int .u8 0, .int .u8 0] 36)).setCells u1.heap.size 0 (l.map (Value.int .u8)) = u2 at *
  generalize u1.heap.size = g at *
  have k31 := HR.out.c 31 (by rw [HL.out]; omega)
  have f31 := HR.out.f 31
  go_upto_region 3 with fail
  replace HR : Hid (Row g (flip l) (u2.setCell ⟨g, 31, none⟩ (.int .u8 (bits .xor .u8 (nth l 31) 128)))) := Lib.hid (HR.out.set (by rw [HL.out]; omega) _)
  replace HV := Lib.hid (HV.out.far (c := g) (by omega) 31 (.int .u8 (bits .xor .u8 (nth l 31) 128)))
  replace vX : Cells4 w.heap.size X (u2.setCell ⟨g, 31, none⟩ (.int .u8 (bits .xor .u8 (nth l 31) 128))) := by
    obtain ⟨q0, q1, q2, q3⟩ := vX
    refine ⟨?_, ?_, ?_, ?_⟩
    · rw [World.cell?_setCell_far _ ⟨g, _, none⟩ ⟨w.heap.size, _, none⟩ _ (by show g ≠ w.heap.size; omega)]; exact q0
    · rw [World.cell?_setCell_far _ ⟨g, _, none⟩ ⟨w.heap.size, _, none⟩ _ (by show g ≠ w.heap.size; omega)]; exact q1
    · rw [World.cell?_setCell_far _ ⟨g, _, none⟩ ⟨w.heap.size, _, none⟩ _ (by show g ≠ w.heap.size; omega)]; exact q2
    · rw [World.cell?_setCell_far _ ⟨g, _, none⟩ ⟨w.heap.size, _, none⟩ _ (by show g ≠ w.heap.size; omega)]; exact q3
  replace b0 := b0.setCell (p := ⟨g, 31, none⟩) (show w.heap.size ≤ g by omega) (.int .u8 (bits .xor .u8 (nth l 31) 128))
  clear k31 f31
  generalize u2.setCell ⟨g, 31, none⟩ (.int .u8 (bits .xor .u8 (nth l 31) 128)) = u0 at *
  clear u1 u2 hs
  replace hG := hG.below b0
  have hl1 := HV.out.lt
  have HM : Hid ((flip l).length = 32) := Lib.hid (by rw [flip_len, HL.out])
  have HS : Hid (∀ V, Below u0.heap.size u0 V → Cells4 w.heap.size X V ∧ V.rangeAt (w.heap.size + 1) 0 (l.map (Value.int .u8)) ∧ V.rangeAt g 0 ((flip l).map (Value.int .u8))) := Lib.hid fun V hV => ⟨vX.of_below (by omega) hV, (HV.out.below hV).range, (HR.out.below hV).range⟩
  unfold Cells4 at HS vX
  have z0 := Tryd.underlying36
  have z1 := kV_size HL.out
  have z2 := kV_size HM.out
  have z3 : (l.map (Value.int .u8)).length = 32 := by rw [List.length_map, HL.out]
  have z4 : ((flip l).map (Value.int .u8)).length = 32 := by rw [List.length_map, HM.out]
  have z5 : ∀ v ∈ l.map (Value.int .u8), v.oneCell' = true := fun v hv => by rw [List.mem_map] at hv; obtain ⟨x, _, rfl⟩ := hv; rfl
  have z6 : ∀ v ∈ (flip l).map (Value.int .u8), v.oneCell' = true := fun v hv => by rw [List.mem_map] at hv; obtain ⟨x, _, rfl⟩ := hv; rfl
  have hE1 := eqFe_true (M := le (mask (bzAll (X % pp))) % pp) (Z := X % pp) (num_emod_pp _) (of_bytes X)
  have hE2 := eqFe_true (M := le (mask l) % pp) (Z := le (mask (flip l)) % pp) (num_emod_pp _) (by rw [flip_mask hB HL.out])
  have hE3 := eqFe_true (M := X % pp) (Z := X % pp) (num_emod_pp _) rfl
  have hB2 := flip_bytes hB HL.out
  refine wp_region_noPanic ?_; refine wp_region_held_drew (S := (fun u => (u.cell? ⟨w.heap.size, 0, none⟩ = some (.int .u64 (w0 X)) ∧ u.cell? ⟨w.heap.size, 1, none⟩ = some (.int .u64 (w1 X)) ∧ u.cell? ⟨w.heap.size, 2, none⟩ = some (.int .u64 (w2 X)) ∧ u.cell? ⟨w.heap.size, 3, none⟩ = some (.int .u64 (w3 X))) ∧ u.rangeAt (w.heap.size + 1) 0 (l.map (Value.int .u8)) ∧ u.rangeAt g 0 ((flip l).map (Value.int .u8)))) (by kernel_rfl) (HS.out _ (by repeat' (first | exact Below.refl _ _ | assumption | refine Below.setCell ?_ ?_ _ | refine Below.alloc ?_ ?_ _ | refine Below.drew ?_ | refine Below.trans ?_ (Below.mono (by assumption) ?_) | (simp; done) | (simp; omega)))) (fun hHeld => ?_)
  refine wpAnyH_ready (rs := [0]) (by kernel_rfl) (by simp) ?_; refine AllReadyH.cons rfl (fun K hK => ?_) AllReadyH.nil; go_simp; ((go_at_call 12; refine (known_any _ (hG.below (by first | exact Below.refl _ _ | assumption | (repeat' (first | exact Below.refl _ _ | assumption | refine Below.setCell ?_ ?_ _ | refine Below.alloc ?_ ?_ _ | refine Below.drew ?_ | refine Below.trans ?_ (Below.mono (by assumption) ?_) | (simp; done) | (simp; omega)))))).mono ?_; rintro e u1 ⟨rfl, hu1⟩; have bu1 : Below u0.heap.size u0 u1 := (by repeat' (first | exact Below.refl _ _ | assumption | refine Below.setCell ?_ ?_ _ | refine Below.alloc ?_ ?_ _ | refine Below.drew ?_ | refine Below.trans ?_ (Below.mono (by assumption) ?_) | (simp; done) | (simp; omega))); have su1 : u0.heap.size ≤ u1.heap.size := Below.size bu1; clear hu1)); clear hHeld; refine hK.out _ _ (HS.out _ (by repeat' (first | exact Below.refl _ _ | assumption | refine Below.setCell ?_ ?_ _ | refine Below.alloc ?_ ?_ _ | refine Below.drew ?_ | refine Below.trans ?_ (Below.mono (by assumption) ?_) | (simp; done) | (simp; omega)))) (fun hHeld => ?_); clear hK K; (try simp only [Act.put, List.setIfInBounds_toArray, List.set_cons_zero, List.set_cons_succ])
  (refine wpAnyH_take (i := 1) (v := ?_) rfl (by kernel_rfl) (by kernel_rfl) (by kernel_rfl) (fun _ _ _ h => h) (Or.inl ⟨by rfl, ?_⟩) hHeld ?_); rotate_left; focus (intro w hSw; (try dsimp only at hSw); (go_simp <;> with_reducible rfl)); (try simp only [Act.put, List.setIfInBounds_toArray, List.set_cons_zero, List.set_cons_succ])
  (refine wpAnyH_take (i := 2) (v := ?_) rfl (by kernel_rfl) (by kernel_rfl) (by kernel_rfl) (fun _ _ _ h => h) (Or.inl ⟨by rfl, ?_⟩) hHeld ?_); rotate_left; focus (intro w hSw; (try dsimp only at hSw); (go_simp <;> with_reducible rfl)); (try simp only [Act.put, List.setIfInBounds_toArray, List.set_cons_zero, List.set_cons_succ])
  (refine wpAnyH_take (i := 5) (v := ?_) rfl (by kernel_rfl) (by kernel_rfl) (by kernel_rfl) (fun _ _ _ h => h) (Or.inl ⟨by rfl, ?_⟩) hHeld ?_); rotate_left; focus (intro w hSw; (try dsimp only at hSw); (go_simp <;> with_reducible rfl)); (try simp only [Act.put, List.setIfInBounds_toArray, List.set_cons_zero, List.set_cons_succ])
  refine wpAnyH_ready (rs := [3]) (by kernel_rfl) (by simp) ?_; refine AllReadyH.cons rfl (fun K hK => ?_) AllReadyH.nil; go_simp; ((go_at_call 25; refine (bytes_any X _ hX (hG.O.below (by first | exact Below.refl _ _ | assumption | (repeat' (first | exact Below.refl _ _ | assumption | refine Below.setCell ?_ ?_ _ | refine Below.alloc ?_ ?_ _ | refine Below.drew ?_ | refine Below.trans ?_ (Below.mono (by assumption) ?_) | (simp; done) | (simp; omega)))))).mono ?_; rintro e u1 ⟨rfl, hu1⟩; have bu1 : Below u0.heap.size u0 u1 := (by repeat' (first | exact Below.refl _ _ | assumption | refine Below.setCell ?_ ?_ _ | refine Below.alloc ?_ ?_ _ | refine Below.drew ?_ | refine Below.trans ?_ (Below.mono (by assumption) ?_) | (simp; done) | (simp; omega))); have su1 : u0.heap.size ≤ u1.heap.size := Below.size bu1; clear hu1)); clear hHeld; refine hK.out _ _ (HS.out _ (by repeat' (first | exact Below.refl _ _ | assumption | refine Below.setCell ?_ ?_ _ | refine Below.alloc ?_ ?_ _ | refine Below.drew ?_ | refine Below.trans ?_ (Below.mono (by assumption) ?_) | (simp; done) | (simp; omega)))) (fun hHeld => ?_); clear hK K; (try simp only [Act.put, List.setIfInBounds_toArray, List.set_cons_zero, List.set_cons_succ])
  refine wpAnyH_ready (rs := [4]) (by kernel_rfl) (by simp) ?_; refine AllReadyH.cons rfl (fun K hK => ?_) AllReadyH.nil; go_simp; ((go_at_call 23; refine (of_any (bzAll (X % pp)) _ (bzAll_len _) (bzAll_bytes _) (hG.O.below (by first | exact Below.refl _ _ | assumption | (repeat' (first | exact Below.refl _ _ | assumption | refine Below.setCell ?_ ?_ _ | refine Below.alloc ?_ ?_ _ | refine Below.drew ?_ | refine Below.trans ?_ (Below.mono (by assumption) ?_) | (simp; done) | (simp; omega)))))).mono ?_; rintro e u1 ⟨rfl, hu1⟩; have bu1 : Below u0.heap.size u0 u1 := (by repeat' (first | exact Below.refl _ _ | assumption | refine Below.setCell ?_ ?_ _ | refine Below.alloc ?_ ?_ _ | refine Below.drew ?_ | refine Below.trans ?_ (Below.mono (by assumption) ?_) | (simp; done) | (simp; omega))); have su1 : u0.heap.size ≤ u1.heap.size := Below.size bu1; clear hu1)); clear hHeld; refine hK.out _ _ (HS.out _ (by repeat' (first | exact Below.refl _ _ | assumption | refine Below.setCell ?_ ?_ _ | refine Below.alloc ?_ ?_ _ | refine Below.drew ?_ | refine Below.trans ?_ (Below.mono (by assumption) ?_) | (simp; done) | (simp; omega)))) (fun hHeld => ?_); clear hK K; (try simp only [Act.put, List.setIfInBounds_toArray, List.set_cons_zero, List.set_cons_succ])
  refine wpAnyH_ready (rs := [6]) (by kernel_rfl) (by simp) ?_; refine AllReadyH.cons rfl (fun K hK => ?_) AllReadyH.nil; go_simp; ((go_at_call 19; refine (canon_any _ _ (by first | assumption | exact num_emod_pp _ | exact num_small (by omega) (by omega)) (hG.O.below (by first | exact Below.refl _ _ | assumption | (repeat' (first | exact Below.refl _ _ | assumption | refine Below.setCell ?_ ?_ _ | refine Below.alloc ?_ ?_ _ | refine Below.drew ?_ | refine Below.trans ?_ (Below.mono (by assumption) ?_) | (simp; done) | (simp; omega)))))).mono ?_; rintro e u1 ⟨rfl, hu1⟩; have bu1 : Below u0.heap.size u0 u1 := (by repeat' (first | exact Below.refl _ _ | assumption | refine Below.setCell ?_ ?_ _ | refine Below.alloc ?_ ?_ _ | refine Below.drew ?_ | refine Below.trans ?_ (Below.mono (by assumption) ?_) | (simp; done) | (simp; omega))); have su1 : u0.heap.size ≤ u1.heap.size := Below.size bu1; clear hu1)); clear hHeld; refine hK.out _ _ (HS.out _ (by repeat' (first | exact Below.refl _ _ | assumption | refine Below.setCell ?_ ?_ _ | refine Below.alloc ?_ ?_ _ | refine Below.drew ?_ | refine Below.trans ?_ (Below.mono (by assumption) ?_) | (simp; done) | (simp; omega)))) (fun hHeld => ?_); clear hK K; (try simp only [Act.put, List.setIfInBounds_toArray, List.set_cons_zero, List.set_cons_succ])
  (refine wpAnyH_take (i := 7) (v := ?_) rfl (by kernel_rfl) (by kernel_rfl) (by kernel_rfl) (fun _ _ _ h => h) (Or.inl ⟨by rfl, ?_⟩) hHeld ?_); rotate_left; focus (intro w hSw; (try dsimp only at hSw); (go_simp <;> with_reducible rfl)); (try simp only [Act.put, List.setIfInBounds_toArray, List.set_cons_zero, List.set_cons_succ])
  (refine wpAnyH_take (i := 8) (v := ?_) rfl (by kernel_rfl) (by kernel_rfl) (by kernel_rfl) (fun _ _ _ h => h) (Or.inl ⟨by rfl, ?_⟩) hHeld ?_); rotate_left; focus (intro w hSw; (try dsimp only at hSw); (go_simp <;> with_reducible rfl)); (try simp only [Act.put, List.setIfInBounds_toArray, List.set_cons_zero, List.set_cons_succ])
  (refine wpAnyH_take (i := 9) (v := ?_) rfl (by kernel_rfl) (by kernel_rfl) (by kernel_rfl) (fun _ _ _ h => h) (Or.inl ⟨by rfl, ?_⟩) hHeld ?_); rotate_left; focus (intro w hSw; (try dsimp only at hSw); (go_simp <;> with_reducible rfl)); (try simp only [Act.put, List.setIfInBounds_toArray, List.set_cons_zero, List.set_cons_succ])
  refine wpAnyH_take (i := 10) rfl (by kernel_rfl) (by kernel_rfl) (by kernel_rfl) (fun _ _ _ h => h) (yieldsIf_load_mid (by rfl) _ _ rfl _ _ rfl _ _ (fun w hSw => hSw.2.1) Tryd.underlying36 rfl z1) hHeld ?_; (try simp only [Act.put])
  refine wpAnyH_take (i := 12) rfl (by kernel_rfl) (by kernel_rfl) (by kernel_rfl) (fun _ _ _ h => h) (yieldsIf_load_mid (by rfl) _ _ rfl _ _ rfl _ _ (fun w hSw => hSw.2.2) Tryd.underlying36 rfl z2) hHeld ?_; (try simp only [Act.put])
  refine wpAnyH_ready (rs := [11]) (by kernel_rfl) (by simp) ?_; refine AllReadyH.cons rfl (fun K hK => ?_) AllReadyH.nil; go_simp; ((go_at_call 23; refine (of_any l _ HL.out hB (hG.O.below (by first | exact Below.refl _ _ | assumption | (repeat' (first | exact Below.refl _ _ | assumption | refine Below.setCell ?_ ?_ _ | refine Below.alloc ?_ ?_ _ | refine Below.drew ?_ | refine Below.trans ?_ (Below.mono (by assumption) ?_) | (simp; done) | (simp; omega)))))).mono ?_; rintro e u1 ⟨rfl, hu1⟩; have bu1 : Below u0.heap.size u0 u1 := (by repeat' (first | exact Below.refl _ _ | assumption | refine Below.setCell ?_ ?_ _ | refine Below.alloc ?_ ?_ _ | refine Below.drew ?_ | refine Below.trans ?_ (Below.mono (by assumption) ?_) | (simp; done) | (simp; omega))); have su1 : u0.heap.size ≤ u1.heap.size := Below.size bu1; clear hu1)); clear hHeld; refine hK.out _ _ (HS.out _ (by repeat' (first | exact Below.refl _ _ | assumption | refine Below.setCell ?_ ?_ _ | refine Below.alloc ?_ ?_ _ | refine Below.drew ?_ | refine Below.trans ?_ (Below.mono (by assumption) ?_) | (simp; done) | (simp; omega)))) (fun hHeld => ?_); clear hK K; (try simp only [Act.put, List.setIfInBounds_toArray, List.set_cons_zero, List.set_cons_succ])
  refine wpAnyH_ready (rs := [13]) (by kernel_rfl) (by simp) ?_; refine AllReadyH.cons rfl (fun K hK => ?_) AllReadyH.nil; go_simp; ((go_at_call 23; refine (of_any (flip l) _ HM.out hB2 (hG.O.below (by first | exact Below.refl _ _ | assumption | (repeat' (first | exact Below.refl _ _ | assumption | refine Below.setCell ?_ ?_ _ | refine Below.alloc ?_ ?_ _ | refine Below.drew ?_ | refine Below.trans ?_ (Below.mono (by assumption) ?_) | (simp; done) | (simp; omega)))))).mono ?_; rintro e u1 ⟨rfl, hu1⟩; have bu1 : Below u0.heap.size u0 u1 := (by repeat' (first | exact Below.refl _ _ | assumption | refine Below.setCell ?_ ?_ _ | refine Below.alloc ?_ ?_ _ | refine Below.drew ?_ | refine Below.trans ?_ (Below.mono (by assumption) ?_) | (simp; done) | (simp; omega))); have su1 : u0.heap.size ≤ u1.heap.size := Below.size bu1; clear hu1)); clear hHeld; refine hK.out _ _ (HS.out _ (by repeat' (first | exact Below.refl _ _ | assumption | refine Below.setCell ?_ ?_ _ | refine Below.alloc ?_ ?_ _ | refine Below.drew ?_ | refine Below.trans ?_ (Below.mono (by assumption) ?_) | (simp; done) | (simp; omega)))) (fun hHeld => ?_); clear hK K; (try simp only [Act.put, List.setIfInBounds_toArray, List.set_cons_zero, List.set_cons_succ])
  (refine wpAnyH_take (i := 14) (v := ?_) rfl (by kernel_rfl) (by kernel_rfl) (by kernel_rfl) (fun _ _ _ h => h) (Or.inl ⟨by rfl, ?_⟩) hHeld ?_); rotate_left; focus (intro w hSw; (try dsimp only at hSw); (go_simp <;> with_reducible rfl)); (try simp only [Act.put, List.setIfInBounds_toArray, List.set_cons_zero, List.set_cons_succ])
  (refine wpAnyH_take (i := 15) (v := ?_) rfl (by kernel_rfl) (by kernel_rfl) (by kernel_rfl) (fun _ _ _ h => h) (Or.inl ⟨by rfl, ?_⟩) hHeld ?_); rotate_left; focus (intro w hSw; (try dsimp only at hSw); (go_simp <;> with_reducible rfl)); (try simp only [Act.put, List.setIfInBounds_toArray, List.set_cons_zero, List.set_cons_succ])
  (refine wpAnyH_take (i := 16) (v := ?_) rfl (by kernel_rfl) (by kernel_rfl) (by kernel_rfl) (fun _ _ _ h => h) (Or.inl ⟨by rfl, ?_⟩) hHeld ?_); rotate_left; focus (intro w hSw; (try dsimp only at hSw); (go_simp <;> with_reducible rfl)); (try simp only [Act.put, List.setIfInBounds_toArray, List.set_cons_zero, List.set_cons_succ])
  (refine wpAnyH_take (i := 17) (v := ?_) rfl (by kernel_rfl) (by kernel_rfl) (by kernel_rfl) (fun _ _ _ h => h) (Or.inl ⟨by rfl, ?_⟩) hHeld ?_); rotate_left; focus (intro w hSw; (try dsimp only at hSw); (go_simp <;> with_reducible rfl)); (try simp only [Act.put, List.setIfInBounds_toArray, List.set_cons_zero, List.set_cons_succ])
  (refine wpAnyH_take (i := 20) (v := ?_) rfl (by kernel_rfl) (by kernel_rfl) (by kernel_rfl) (fun _ _ _ h => h) (Or.inl ⟨by rfl, ?_⟩) hHeld ?_); rotate_left; focus (intro w hSw; (try dsimp only at hSw); (go_simp <;> with_reducible rfl)); (try simp only [Act.put, List.setIfInBounds_toArray, List.set_cons_zero, List.set_cons_succ])
  refine wpAnyH_ready (rs := [18]) (by kernel_rfl) (by simp) ?_; refine AllReadyH.cons rfl (fun K hK => ?_) AllReadyH.nil; go_simp; ((go_at_call 19; refine (canon_any _ _ (by first | assumption | exact num_emod_pp _ | exact num_small (by omega) (by omega)) (hG.O.below (by first | exact Below.refl _ _ | assumption | (repeat' (first | exact Below.refl _ _ | assumption | refine Below.setCell ?_ ?_ _ | refine Below.alloc ?_ ?_ _ | refine Below.drew ?_ | refine Below.trans ?_ (Below.mono (by assumption) ?_) | (simp; done) | (simp; omega)))))).mono ?_; rintro e u1 ⟨rfl, hu1⟩; have bu1 : Below u0.heap.size u0 u1 := (by repeat' (first | exact Below.refl _ _ | assumption | refine Below.setCell ?_ ?_ _ | refine Below.alloc ?_ ?_ _ | refine Below.drew ?_ | refine Below.trans ?_ (Below.mono (by assumption) ?_) | (simp; done) | (simp; omega))); have su1 : u0.heap.size ≤ u1.heap.size := Below.size bu1; clear hu1)); clear hHeld; refine hK.out _ _ (HS.out _ (by repeat' (first | exact Below.refl _ _ | assumption | refine Below.setCell ?_ ?_ _ | refine Below.alloc ?_ ?_ _ | refine Below.drew ?_ | refine Below.trans ?_ (Below.mono (by assumption) ?_) | (simp; done) | (simp; omega)))) (fun hHeld => ?_); clear hK K; (try simp only [Act.put, List.setIfInBounds_toArray, List.set_cons_zero, List.set_cons_succ])
  refine wpAnyH_ready (rs := [19]) (by kernel_rfl) (by simp) ?_; refine AllReadyH.cons rfl (fun K hK => ?_) AllReadyH.nil; go_simp; ((go_at_call 19; refine (canon_any _ _ (by first | assumption | exact num_emod_pp _ | exact num_small (by omega) (by omega)) (hG.O.below (by first | exact Below.refl _ _ | assumption | (repeat' (first | exact Below.refl _ _ | assumption | refine Below.setCell ?_ ?_ _ | refine Below.alloc ?_ ?_ _ | refine Below.drew ?_ | refine Below.trans ?_ (Below.mono (by assumption) ?_) | (simp; done) | (simp; omega)))))).mono ?_; rintro e u1 ⟨rfl, hu1⟩; have bu1 : Below u0.heap.size u0 u1 := (by repeat' (first | exact Below.refl _ _ | assumption | refine Below.setCell ?_ ?_ _ | refine Below.alloc ?_ ?_ _ | refine Below.drew ?_ | refine Below.trans ?_ (Below.mono (by assumption) ?_) | (simp; done) | (simp; omega))); have su1 : u0.heap.size ≤ u1.heap.size := Below.size bu1; clear hu1)); clear hHeld; refine hK.out _ _ (HS.out _ (by repeat' (first | exact Below.refl _ _ | assumption | refine Below.setCell ?_ ?_ _ | refine Below.alloc ?_ ?_ _ | refine Below.drew ?_ | refine Below.trans ?_ (Below.mono (by assumption) ?_) | (simp; done) | (simp; omega)))) (fun hHeld => ?_); clear hK K; (try simp only [Act.put, List.setIfInBounds_toArray, List.set_cons_zero, List.set_cons_succ])
  refine wpAnyH_ready (rs := [21]) (by kernel_rfl) (by simp) ?_; refine AllReadyH.cons rfl (fun K hK => ?_) AllReadyH.nil; go_simp; ((go_at_call 19; refine (canon_any _ _ (by first | assumption | exact num_emod_pp _ | exact num_small (by omega) (by omega)) (hG.O.below (by first | exact Below.refl _ _ | assumption | (repeat' (first | exact Below.refl _ _ | assumption | refine Below.setCell ?_ ?_ _ | refine Below.alloc ?_ ?_ _ | refine Below.drew ?_ | refine Below.trans ?_ (Below.mono (by assumption) ?_) | (simp; done) | (simp; omega)))))).mono ?_; rintro e u1 ⟨rfl, hu1⟩; have bu1 : Below u0.heap.size u0 u1 := (by repeat' (first | exact Below.refl _ _ | assumption | refine Below.setCell ?_ ?_ _ | refine Below.alloc ?_ ?_ _ | refine Below.drew ?_ | refine Below.trans ?_ (Below.mono (by assumption) ?_) | (simp; done) | (simp; omega))); have su1 : u0.heap.size ≤ u1.heap.size := Below.size bu1; clear hu1)); clear hHeld; refine hK.out _ _ (HS.out _ (by repeat' (first | exact Below.refl _ _ | assumption | refine Below.setCell ?_ ?_ _ | refine Below.alloc ?_ ?_ _ | refine Below.drew ?_ | refine Below.trans ?_ (Below.mono (by assumption) ?_) | (simp; done) | (simp; omega)))) (fun hHeld => ?_); clear hK K; (try simp only [Act.put, List.setIfInBounds_toArray, List.set_cons_zero, List.set_cons_succ])
  (refine wpAnyH_take (i := 22) (v := ?_) rfl (by kernel_rfl) (by kernel_rfl) (by kernel_rfl) (fun _ _ _ h => h) (Or.inl ⟨by rfl, ?_⟩) hHeld ?_); rotate_left; focus (intro w hSw; (try dsimp only at hSw); (go_simp <;> with_reducible rfl)); (try simp only [Act.put, List.setIfInBounds_toArray, List.set_cons_zero, List.set_cons_succ])
  (refine wpAnyH_take (i := 23) (v := ?_) rfl (by kernel_rfl) (by kernel_rfl) (by kernel_rfl) (fun _ _ _ h => h) (Or.inl ⟨by rfl, ?_⟩) hHeld ?_); rotate_left; focus (intro w hSw; (try dsimp only at hSw); (go_simp <;> with_reducible rfl)); (try simp only [Act.put, List.setIfInBounds_toArray, List.set_cons_zero, List.set_cons_succ])
  (refine wpAnyH_take (i := 24) (v := ?_) rfl (by kernel_rfl) (by kernel_rfl) (by kernel_rfl) (fun _ _ _ h => h) (Or.inl ⟨by rfl, ?_⟩) hHeld ?_); rotate_left; focus (intro w hSw; (try dsimp only at hSw); (go_simp <;> with_reducible rfl)); (try simp only [Act.put, List.setIfInBounds_toArray, List.set_cons_zero, List.set_cons_succ])
  refine wpAnyH_done (by kernel_rfl) ?_ _; refine NoPanic.normal ?_
  go_wp2_with fail
  go_ret
  exact ⟨rfl, b0.trans (bu1.mono b0.size)⟩
end Go.Proofs.YtabfjdljeebjbaaDoor
