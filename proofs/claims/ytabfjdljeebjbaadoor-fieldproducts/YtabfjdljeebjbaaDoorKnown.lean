/- What keywardlaw01.known answers: the chapter's examples hold. -/
import Derived.Test.YtabfjdljeebjbaaDoorPower
import Derived.Test.YtabfjdljeebjbaaDoorBytes
namespace Go.Proofs.YtabfjdljeebjbaaDoor
open Go.RowKit

theorem m1_nth0 : nth (bzAll (-1 % pp)) 0 = 236 := by rw [bzAll_nth _ (by omega)]; unfold bz pp; decide +kernel
theorem m1_nth1 : nth (bzAll (-1 % pp)) 1 = 255 := by rw [bzAll_nth _ (by omega)]; unfold bz pp; decide +kernel
theorem m1_nth31 : nth (bzAll (-1 % pp)) 31 = 127 := by rw [bzAll_nth _ (by omega)]; unfold bz pp; decide +kernel
theorem six_seven : (42 : Int) % pp = 42 := by unfold pp; decide +kernel
theorem num_small {n : Int} (h0 : 0 ≤ n) (h1 : n < 4294967296) : Num n := by unfold Num; omega

theorem frozen_setCells (b : Nat) : ∀ (vs : List Value) (o : Nat) (w : World) (x : Addr), (w.setCells b o vs).frozen? x = w.frozen? x
  | [], _, _, _ => rfl
  | v :: r, o, w, x => by
    show ((w.setCell ⟨b, o, none⟩ v).setCells b (o + 1) r).frozen? x = _
    rw [frozen_setCells b r]; simp [go_sem]
theorem size_setCells (b : Nat) : ∀ (vs : List Value) (o : Nat) (w : World), (w.setCells b o vs).heap.size = w.heap.size
  | [], _, _ => rfl
  | v :: r, o, w => by
    show ((w.setCell ⟨b, o, none⟩ v).setCells b (o + 1) r).heap.size = _
    rw [size_setCells b r]; simp
theorem Row.storeAll {b : Nat} {l l' : List Int} {u : World} (h : Row b l u) (hl : l'.length = l.length) : Row b l' (u.setCells b 0 (l'.map (Value.int .u8))) := by
  refine ⟨by rw [size_setCells]; exact h.lt, fun i hi => ?_, fun i => by rw [frozen_setCells]; exact h.f i⟩
  have hT := World.rangeAt_setCells_same u b 0 (l'.map (Value.int .u8)) (by simpa [hl] using h.thereAt) i _ (map_getElem? hi)
  rwa [Nat.zero_add] at hT
theorem fe_word {n : Int} (hn : Word n) : Value.agg #[.int .u64 n, .int .u64 0, .int .u64 0, .int .u64 0] = feV n := by
  have h := feV_val hn word0 word0 word0
  rw [show val n 0 0 0 = n by unfold val; omega] at h
  exact h.symm
theorem Word.num {n : Int} (h : Word n) : Num n := by unfold Word Num at *; omega
theorem eq_word {M n : Int} (hM : Num M) (hn : Word n) (h : M = n) : ∀ v, (Op.equalIn 10000 26 (feV M) (.agg #[.int .u64 n, .int .u64 0, .int .u64 0, .int .u64 0])).run Tryd.prog v = .ok true v := fun v => by
  rw [fe_word hn, run_eqFe hM hn.num, decide_eq_true h]
theorem mulmodr (a b : Int) : a * (b % pp) % pp = a * b % pp := by rw [Int.mul_comm, mulmodl, Int.mul_comm]
/-- The package's numbers stand in memory. -/
structure Globs (w : World) : Prop where
  O : GCell 0 pp w
  R : GCell 3 rp w
  M : GCell 2 mp w
theorem Globs.below {w w' : World} (h : Globs w) (hb : Below w.heap.size w w') : Globs w' := ⟨h.O.below hb, h.R.below hb, h.M.below hb⟩

set_option maxHeartbeats 2000000 in
theorem known_any (w : World) (hG : Globs w) :
    Calls Tryd.prog 12 #[] w fun e w' => e = .returned (.bool true) ∧ Below w.heap.size w w' := by
  go_enter Tryd.func12, Tryd.ntmps12
  go_wp2_with fail
  refine (small_any 1 _ (by omega) (by omega)).mono ?_
  rintro e u1 ⟨rfl, hb1⟩
  go_wp2_with fail
  refine (neg_any 1 _ (num_small (by omega) (by omega)) (hG.below hb1).O).mono ?_
  rintro e u2 ⟨rfl, hb2⟩
  replace hb1 := hb1.trans (hb2.mono hb1.size)
  clear hb2
  go_wp2_with fail
  refine (bytes_any (-1 % pp) _ (num_emod_pp _) (hG.below hb1).O).mono ?_
  rintro e u3 ⟨rfl, hb2⟩
  replace hb1 := hb1.trans (hb2.mono hb1.size)
  clear hb2
  have hR := Row.zero u3
  have hb2 : Below u3.heap.size u3 (u3.alloc (.cells #[.int .u8 0, .int .u8 0, .int .u8 0, .int .u8 0, .int .u8 0, .int .u8 0, .int .u8 0, .int .u8 0, .int .u8 0, .int .u8 0, .int .u8 0, .int .u8 0, .int .u8 0, .int .u8 0, .int .u8 0, .int .u8 0, .int .u8 0, .int .u8 0, .int .u8 0, .int .u8 0, .int .u8 0, .int .u8 0, .int .u8 0, .int .u8 0, .int .u8 0, .int .u8 0, .int .u8 0, .int .u8 0, .int .u8 0, .int .u8 0, .int .u8 0, .int .u8 0] 36)) := (Below.refl _ _).alloc (Nat.le_refl _) _
  have HR := Lib.hid hR; clear hR
  go_upto_region 2 with (refine wpList_store_mid rfl 36 (.tmp 1) (.tmp 6) rfl u3.heap.size 0 ((bzAll (-1 % pp)).map (Value.int .u8)).toArray rfl rfl (by simpa [bzAll_len] using HR.out.thereAt) (by simpa using kV_size (bzAll_len (-1 % pp))) (kV_one _) ?_)
  replace HR := Lib.hid (HR.out.storeAll (l' := bzAll (-1 % pp)) (by rw [bzAll_len]; rfl))
  replace hb2 := Below.setCells (Nat.le_refl u3.heap.size) ((bzAll (-1 % pp)).map (Value.int .u8)) 0 hb2
  have hb3 := hb1.trans (hb2.mono hb1.size)
  clear hb1 hb2
  generalize (u3.alloc (.cells #[.int .u8 0, .int .u8 0, .int .u8 0, .int .u8 0, .int .u8 0, .int .u8 0, .int .u8 0, .int .u8 0, .int .u8 0, .int .u8 0, .int .u8 0, .int .u8 0, .int .u8 0, .int .u8 0, .int .u8 0, .int .u8 0, .int .u8 0, .int .u8 0, .int .u8 0, .int .u8 0, .int .u8 0, .int .u8 0, .int .u8 0, .int .u8 0, .int .u8 0, .int .u8 0, .int .u8 0, .int .u8 0, .int .u8 0, .int .u8 0, .int .u8 0, .int .u8 0] 36)).setCells u3.heap.size 0 ((bzAll (-1 % pp)).map (Value.int .u8)) = u4 at *
  generalize u3.heap.size = g at *
  clear u1 u2 u3
  go_wp2_with fail
  refine (small_any 4 _ (by omega) (by omega)).mono ?_
  rintro e u1 ⟨rfl, hb1⟩
  go_wp2_with fail
  refine (small_any 1 _ (by omega) (by omega)).mono ?_
  rintro e u2 ⟨rfl, hb2⟩
  replace hb1 := hb1.trans (hb2.mono hb1.size)
  clear hb2
  go_wp2_with fail
  have hG2 := (hG.below hb3).below hb1
  refine (root_any 4 1 _ (num_small (by omega) (by omega)) (num_small (by omega) (by omega)) hG2.O hG2.R hG2.M).mono ?_
  rintro e u3 ⟨rfl, hb2⟩
  rw [rootB_41, rootN_41]
  replace hb1 := hb1.trans (hb2.mono hb1.size)
  clear hb2 hG2
  replace HR := Lib.hid (HR.out.below hb1)
  replace hb3 := hb3.trans (hb1.mono hb3.size)
  clear hb1
  go_upto_region 3 with fail
  have hV := Var4.new u3 2
  have hb1 : Below u3.heap.size u3 (u3.alloc (.cells #[.int .u64 (w0 2), .int .u64 (w1 2), .int .u64 (w2 2), .int .u64 (w3 2)] 26)) := (Below.refl _ _).alloc (Nat.le_refl _) _
  replace HR := Lib.hid (HR.out.below hb1)
  replace hb3 := hb3.trans (hb1.mono hb3.size)
  clear hb1
  generalize u3.alloc (.cells #[.int .u64 (w0 2), .int .u64 (w1 2), .int .u64 (w2 2), .int .u64 (w3 2)] 26) = u0 at *
  generalize u3.heap.size = q at *
  clear u1 u2 u3 u4
  replace hG := hG.below hb3
  have k0 := HR.out.c 0 (by rw [bzAll_len]; omega)
  have k1 := HR.out.c 1 (by rw [bzAll_len]; omega)
  have k31 := HR.out.c 31 (by rw [bzAll_len]; omega)
  rw [m1_nth0] at k0
  rw [m1_nth1] at k1
  rw [m1_nth31] at k31
  have HS : Hid (∀ V, Below u0.heap.size u0 V → (V.cell? ⟨g, 0, none⟩ = some (.int .u8 236) ∧ V.cell? ⟨g, 1, none⟩ = some (.int .u8 255) ∧ V.cell? ⟨g, 31, none⟩ = some (.int .u8 127)) ∧ Cells4 q 2 V) := Lib.hid fun V hV' =>
    ⟨⟨by rw [hV'.cell (p := ⟨g, 0, none⟩) HR.out.lt]; exact k0, by rw [hV'.cell (p := ⟨g, 1, none⟩) HR.out.lt]; exact k1, by rw [hV'.cell (p := ⟨g, 31, none⟩) HR.out.lt]; exact k31⟩, Cells4.of_below ⟨hV.c0, hV.c1, hV.c2, hV.c3⟩ hV.lt hV'⟩
  unfold Cells4 at HS
  obtain ⟨vl, v0, v1, v2, v3, vf0, vf1, vf2, vf3⟩ := id hV
  have hE2 := eqFe_true (num_small (n := 2) (by omega) (by omega)) rfl
  have hE42 := eqFe_true (num_emod_pp 42) six_seven
  go_region_held3 (fun u => (u.cell? ⟨g, 0, none⟩ = some (.int .u8 236) ∧ u.cell? ⟨g, 1, none⟩ = some (.int .u8 255) ∧ u.cell? ⟨g, 31, none⟩ = some (.int .u8 127)) ∧ (u.cell? ⟨q, 0, none⟩ = some (.int .u64 (w0 2)) ∧ u.cell? ⟨q, 1, none⟩ = some (.int .u64 (w1 2)) ∧ u.cell? ⟨q, 2, none⟩ = some (.int .u64 (w2 2)) ∧ u.cell? ⟨q, 3, none⟩ = some (.int .u64 (w3 2)))) (exact HS.out _ (by repeat' (first | exact Below.refl _ _ | assumption | refine Below.setCell ?_ ?_ _ | refine Below.alloc ?_ ?_ _ | refine Below.drew ?_ | refine Below.trans ?_ (Below.mono (by assumption) ?_) | (simp; done) | (simp; omega))))
    (first | ((go_at_call_of 14 (Value.int IntKind.u32 2)); (go_at_call 14; refine (small_any 2 _ (by omega) (by omega)).mono ?_; rintro e u1 ⟨rfl, hu1⟩; have bu1 : Below u0.heap.size u0 u1 := (by repeat' (first | exact Below.refl _ _ | assumption | refine Below.setCell ?_ ?_ _ | refine Below.alloc ?_ ?_ _ | refine Below.drew ?_ | refine Below.trans ?_ (Below.mono (by assumption) ?_) | (simp; done) | (simp; omega))); have su1 : u0.heap.size ≤ u1.heap.size := Below.size bu1; obtain ⟨cu1, fu1⟩ := bcell hu1; have tu1 := Below.size hu1; (try simp at tu1); (try rw [Nat.add_one_le_iff] at tu1))) | ((go_at_call_of 14 (Value.int IntKind.u32 6)); (go_at_call 14; refine (small_any 6 _ (by omega) (by omega)).mono ?_; rintro e u2 ⟨rfl, hu2⟩; have bu2 : Below u0.heap.size u0 u2 := (by repeat' (first | exact Below.refl _ _ | assumption | refine Below.setCell ?_ ?_ _ | refine Below.alloc ?_ ?_ _ | refine Below.drew ?_ | refine Below.trans ?_ (Below.mono (by assumption) ?_) | (simp; done) | (simp; omega))); have su2 : u0.heap.size ≤ u2.heap.size := Below.size bu2; obtain ⟨cu2, fu2⟩ := bcell hu2; have tu2 := Below.size hu2; (try simp at tu2); (try rw [Nat.add_one_le_iff] at tu2))) | ((go_at_call_of 14 (Value.int IntKind.u32 7)); (go_at_call 14; refine (small_any 7 _ (by omega) (by omega)).mono ?_; rintro e u3 ⟨rfl, hu3⟩; have bu3 : Below u0.heap.size u0 u3 := (by repeat' (first | exact Below.refl _ _ | assumption | refine Below.setCell ?_ ?_ _ | refine Below.alloc ?_ ?_ _ | refine Below.drew ?_ | refine Below.trans ?_ (Below.mono (by assumption) ?_) | (simp; done) | (simp; omega))); have su3 : u0.heap.size ≤ u3.heap.size := Below.size bu3; obtain ⟨cu3, fu3⟩ := bcell hu3; have tu3 := Below.size hu3; (try simp at tu3); (try rw [Nat.add_one_le_iff] at tu3))) | (go_at_call 15; refine (mul_any 6 7 _ (num_small (by omega) (by omega)) (num_small (by omega) (by omega)) (hG.O.below (by repeat' (first | exact Below.refl _ _ | assumption | refine Below.setCell ?_ ?_ _ | refine Below.alloc ?_ ?_ _ | refine Below.drew ?_ | refine Below.trans ?_ (Below.mono (by assumption) ?_) | (simp; done) | (simp; omega))))).mono ?_; rintro e u4 ⟨rfl, hu4⟩; have bu4 : Below u0.heap.size u0 u4 := (by repeat' (first | exact Below.refl _ _ | assumption | refine Below.setCell ?_ ?_ _ | refine Below.alloc ?_ ?_ _ | refine Below.drew ?_ | refine Below.trans ?_ (Below.mono (by assumption) ?_) | (simp; done) | (simp; omega))); have su4 : u0.heap.size ≤ u4.heap.size := Below.size bu4; obtain ⟨cu4, fu4⟩ := bcell hu4; have tu4 := Below.size hu4; (try simp at tu4); (try rw [Nat.add_one_le_iff] at tu4)) | ((go_at_call_of 14 (Value.int IntKind.u32 42)); (go_at_call 14; refine (small_any 42 _ (by omega) (by omega)).mono ?_; rintro e u5 ⟨rfl, hu5⟩; have bu5 : Below u0.heap.size u0 u5 := (by repeat' (first | exact Below.refl _ _ | assumption | refine Below.setCell ?_ ?_ _ | refine Below.alloc ?_ ?_ _ | refine Below.drew ?_ | refine Below.trans ?_ (Below.mono (by assumption) ?_) | (simp; done) | (simp; omega))); have su5 : u0.heap.size ≤ u5.heap.size := Below.size bu5; obtain ⟨cu5, fu5⟩ := bcell hu5; have tu5 := Below.size hu5; (try simp at tu5); (try rw [Nat.add_one_le_iff] at tu5))))
  go_wp2_with fail
  go_ret
  exact ⟨rfl, hb3.trans (bu5.mono hb3.size)⟩
end Go.Proofs.YtabfjdljeebjbaaDoor
