/- What ladder.Clamp does. -/
import Derived.Test.YtegebgbmnddopaaDoorSquare
namespace Go.Proofs.YtegebgbmnddopaaDoor
open Go.RowKit

theorem clamp_low_all : ∀ b : Fin 256, bits .andNot .u8 (b.val : Int) 7 = (b.val : Int) / 8 * 8 := by decide +kernel
theorem clamp_and_all : ∀ b : Fin 256, bits .and .u8 (b.val : Int) 127 = (b.val : Int) % 128 := by decide +kernel
theorem clamp_or_all : ∀ b : Fin 256, bits .or .u8 ((b.val : Int) % 128) 64 = (b.val : Int) % 64 + 64 := by decide +kernel
theorem byte_fin {b : Int} (h0 : 0 ≤ b) (h1 : b ≤ 255) : ∃ f : Fin 256, (f.val : Int) = b := ⟨⟨b.toNat, by omega⟩, by simp; omega⟩
theorem clamp_low {b : Int} (h0 : 0 ≤ b) (h1 : b ≤ 255) : bits .andNot .u8 b 7 = b / 8 * 8 := by obtain ⟨f, rfl⟩ := byte_fin h0 h1; exact clamp_low_all f
theorem clamp_and {b : Int} (h0 : 0 ≤ b) (h1 : b ≤ 255) : bits .and .u8 b 127 = b % 128 := by obtain ⟨f, rfl⟩ := byte_fin h0 h1; exact clamp_and_all f
theorem clamp_or {b : Int} (h0 : 0 ≤ b) (h1 : b ≤ 255) : bits .or .u8 (b % 128) 64 = b % 64 + 64 := by obtain ⟨f, rfl⟩ := byte_fin h0 h1; exact clamp_or_all f

/-- A secret as it counts. -/
def clampL (l : List Int) : List Int := (l.set 0 (nth l 0 / 8 * 8)).set 31 (nth l 31 % 64 + 64)
theorem clampL_len (l : List Int) : (clampL l).length = l.length := by simp [clampL]
theorem clampL_bytes {l : List Int} (hB : Bytes8 l) (hl : l.length = 32) : Bytes8 (clampL l) := by
  have h := hB.nth (k := 31) (by omega)
  have h' := hB.nth (k := 0) (by omega)
  intro b hb
  rcases List.mem_or_eq_of_mem_set hb with h1 | h1
  · rcases List.mem_or_eq_of_mem_set h1 with h2 | h2
    · exact hB b h2
    · subst h2; omega
  · subst h1; omega

set_option maxHeartbeats 1000000 in
theorem clamp_any (l : List Int) (w : World) (hl : l.length = 32) (hB : Bytes8 l) :
    Calls Tryd.prog 8 #[kV l] w fun e w' => e = .returned (kV (clampL l)) ∧ Below w.heap.size w w' := by
  have HL := Lib.hid hl; clear hl
  have b1 : Below w.heap.size w (w.alloc (.cells (l.map (Value.int .u8)).toArray 23)) := (Below.refl _ _).alloc (Nat.le_refl _) _
  have R1 := Row.new w l
  have h0 := hB.nth (k := 0) (by rw [HL.out]; omega)
  have h31 := hB.nth (k := 31) (by rw [HL.out]; omega)
  go_enter Tryd.func8, Tryd.ntmps8
  go_upto_region 1 with fail
  have hs : w.heap.size + 1 = (w.alloc (.cells (l.map (Value.int .u8)).toArray 23)).heap.size := by simp
  rw [hs]
  have l0 := R1.lt
  generalize w.alloc (.cells (l.map (Value.int .u8)).toArray 23) = u0 at *
  clear hs
  have hR := Row.zero u0
  have b2 : Below u0.heap.size u0 (u0.alloc (.cells #[.int .u8 0, .int .u8 0, .int .u8 0, .int .u8 0, .int .u8 0, .int .u8 0, .int .u8 0, .int .u8 0, .int .u8 0, .int .u8 0, .int .u8 0, .int .u8 0, .int .u8 0, .int .u8 0, .int .u8 0, .int .u8 0, .int .u8 0, .int .u8 0, .int .u8 0, .int .u8 0, .int .u8 0, .int .u8 0, .int .u8 0, .int .u8 0, .int .u8 0, .int .u8 0, .int .u8 0, .int .u8 0, .int .u8 0, .int .u8 0, .int .u8 0, .int .u8 0] 23)) := (Below.refl _ _).alloc (Nat.le_refl _) _
  replace R1 := R1.below b2
  replace b1 := b1.trans (b2.mono b1.size)
  generalize u0.alloc (.cells #[.int .u8 0, .int .u8 0, .int .u8 0, .int .u8 0, .int .u8 0, .int .u8 0, .int .u8 0, .int .u8 0, .int .u8 0, .int .u8 0, .int .u8 0, .int .u8 0, .int .u8 0, .int .u8 0, .int .u8 0, .int .u8 0, .int .u8 0, .int .u8 0, .int .u8 0, .int .u8 0, .int .u8 0, .int .u8 0, .int .u8 0, .int .u8 0, .int .u8 0, .int .u8 0, .int .u8 0, .int .u8 0, .int .u8 0, .int .u8 0, .int .u8 0, .int .u8 0] 23) = u1 at *
  generalize u0.heap.size = g1 at *
  clear b2 u0
  have k0 := R1.c 0 (by rw [HL.out]; omega)
  have f0 := R1.f 0
  have hm := clamp_low h0.1 h0.2
  go_upto_region 2 with fail
  clear k0 f0 hm
  replace R1 : Row w.heap.size (l.set 0 (nth l 0 / 8 * 8)) (u1.setCell ⟨w.heap.size, 0, none⟩ (.int .u8 (nth l 0 / 8 * 8))) := R1.set (by rw [HL.out]; omega) _
  replace hR := hR.far (c := w.heap.size) (by omega) 0 (.int .u8 (nth l 0 / 8 * 8))
  replace b1 := b1.setCell (p := ⟨w.heap.size, 0, none⟩) (Nat.le_refl _) (.int .u8 (nth l 0 / 8 * 8))
  generalize u1.setCell ⟨w.heap.size, 0, none⟩ (.int .u8 (nth l 0 / 8 * 8)) = u2 at *
  clear u1
  have e31 : nth (l.set 0 (nth l 0 / 8 * 8)) 31 = nth l 31 := by simp [nth]
  have k0 := R1.c 31 (by rw [List.length_set, HL.out]; omega)
  rw [e31] at k0
  have f0 := R1.f 31
  have hm := clamp_and h31.1 h31.2
  clear e31
  go_upto_region 3 with fail
  clear k0 f0 hm
  replace R1 : Row w.heap.size ((l.set 0 (nth l 0 / 8 * 8)).set 31 (nth l 31 % 128)) (u2.setCell ⟨w.heap.size, 31, none⟩ (.int .u8 (nth l 31 % 128))) := R1.set (by rw [List.length_set, HL.out]; omega) _
  replace hR := hR.far (c := w.heap.size) (by omega) 31 (.int .u8 (nth l 31 % 128))
  replace b1 := b1.setCell (p := ⟨w.heap.size, 31, none⟩) (Nat.le_refl _) (.int .u8 (nth l 31 % 128))
  generalize u2.setCell ⟨w.heap.size, 31, none⟩ (.int .u8 (nth l 31 % 128)) = u3 at *
  clear u2
  have e31 : nth ((l.set 0 (nth l 0 / 8 * 8)).set 31 (nth l 31 % 128)) 31 = nth l 31 % 128 := by simp [nth, HL.out]
  have k0 := R1.c 31 (by rw [List.length_set, List.length_set, HL.out]; omega)
  rw [e31] at k0
  have f0 := R1.f 31
  have hm := clamp_or h31.1 h31.2
  clear e31
  go_upto_region 4 with fail
  clear k0 f0 hm
  replace R1 : Row w.heap.size (clampL l) (u3.setCell ⟨w.heap.size, 31, none⟩ (.int .u8 (nth l 31 % 64 + 64))) := by
    have := R1.set (i := 31) (by rw [List.length_set, List.length_set, HL.out]; omega) (nth l 31 % 64 + 64)
    rw [List.set_set] at this
    exact this
  replace hR := hR.far (c := w.heap.size) (by omega) 31 (.int .u8 (nth l 31 % 64 + 64))
  replace b1 := b1.setCell (p := ⟨w.heap.size, 31, none⟩) (Nat.le_refl _) (.int .u8 (nth l 31 % 64 + 64))
  generalize u3.setCell ⟨w.heap.size, 31, none⟩ (.int .u8 (nth l 31 % 64 + 64)) = u4 at *
  clear u3
  have HC : Hid ((clampL l).length = 32) := Lib.hid (by rw [clampL_len, HL.out])
  have HB := Lib.hid R1; clear R1
  have HR := Lib.hid hR; clear hR
  go_wp2_with (first | refine wpList_load_mid rfl 23 (.tmp 1) rfl w.heap.size 0 rfl ((clampL l).map (Value.int .u8)) (.array 32 5) HB.out.range Tryd.underlying23 rfl (kV_size HC.out) ?_ | refine wpList_store_mid rfl 23 (.tmp 2) _ rfl g1 0 ((clampL l).map (Value.int .u8)).toArray rfl rfl (by simpa [HC.out] using HR.out.thereAt) (by simpa using kV_size HC.out) (kV_one _) ?_)
  have hT := World.rangeAt_setCells_same u4 g1 0 ((clampL l).map (Value.int .u8)) (by simpa [HC.out] using HR.out.thereAt)
  refine bodyPost_ret (v := kV (clampL l)) ?_ rfl ⟨rfl, ?_⟩
  · exact results_key Tryd.results8 rfl HC.out hT
  · exact Below.setCells (by omega) _ _ b1
end Go.Proofs.YtegebgbmnddopaaDoor
