/- Bytes put into words by sums, and keywardref01.Canon. -/
import Derived.Test.YtabfjdljeebjbaaDoorLimbs5
namespace Go.Proofs.YtabfjdljeebjbaaDoor
open Go.RowKit Go.Sort

theorem byte_word0 {T v : Int} {k : Nat} (hq : (k : Int) / 8 = 0) (h0 : 0 ≤ T) (h1 : T < 256 ^ k) (_v0 : 0 ≤ v) (_v1 : v ≤ 255) :
    IntKind.u64.wrap (w0 T + IntKind.u64.wrap (v * 2 ^ (8 * (k % 8)))) = w0 (T + 256 ^ k * v) ∧ w1 T = w1 (T + 256 ^ k * v) ∧ w2 T = w2 (T + 256 ^ k * v) ∧ w3 T = w3 (T + 256 ^ k * v) := by
  rcases (show k = 0 ∨ k = 1 ∨ k = 2 ∨ k = 3 ∨ k = 4 ∨ k = 5 ∨ k = 6 ∨ k = 7 by omega) with rfl | rfl | rfl | rfl | rfl | rfl | rfl | rfl
  · rw [show (256 : Int) ^ 0 = 1 by decide] at *
    rw [show (2 : Int) ^ (8 * (0 % 8)) = 1 by decide, IntKind.wrap_u64, IntKind.wrap_u64]
    refine ⟨by unfold w0; omega, by unfold w1; omega, by unfold w2; omega, by unfold w3; omega⟩
  · rw [show (256 : Int) ^ 1 = 256 by decide] at *
    rw [show (2 : Int) ^ (8 * (1 % 8)) = 256 by decide, IntKind.wrap_u64, IntKind.wrap_u64]
    refine ⟨by unfold w0; omega, by unfold w1; omega, by unfold w2; omega, by unfold w3; omega⟩
  · rw [show (256 : Int) ^ 2 = 65536 by decide] at *
    rw [show (2 : Int) ^ (8 * (2 % 8)) = 65536 by decide, IntKind.wrap_u64, IntKind.wrap_u64]
    refine ⟨by unfold w0; omega, by unfold w1; omega, by unfold w2; omega, by unfold w3; omega⟩
  · rw [show (256 : Int) ^ 3 = 16777216 by decide] at *
    rw [show (2 : Int) ^ (8 * (3 % 8)) = 16777216 by decide, IntKind.wrap_u64, IntKind.wrap_u64]
    refine ⟨by unfold w0; omega, by unfold w1; omega, by unfold w2; omega, by unfold w3; omega⟩
  · rw [show (256 : Int) ^ 4 = 4294967296 by decide] at *
    rw [show (2 : Int) ^ (8 * (4 % 8)) = 4294967296 by decide, IntKind.wrap_u64, IntKind.wrap_u64]
    refine ⟨by unfold w0; omega, by unfold w1; omega, by unfold w2; omega, by unfold w3; omega⟩
  · rw [show (256 : Int) ^ 5 = 1099511627776 by decide] at *
    rw [show (2 : Int) ^ (8 * (5 % 8)) = 1099511627776 by decide, IntKind.wrap_u64, IntKind.wrap_u64]
    refine ⟨by unfold w0; omega, by unfold w1; omega, by unfold w2; omega, by unfold w3; omega⟩
  · rw [show (256 : Int) ^ 6 = 281474976710656 by decide] at *
    rw [show (2 : Int) ^ (8 * (6 % 8)) = 281474976710656 by decide, IntKind.wrap_u64, IntKind.wrap_u64]
    refine ⟨by unfold w0; omega, by unfold w1; omega, by unfold w2; omega, by unfold w3; omega⟩
  · rw [show (256 : Int) ^ 7 = 72057594037927936 by decide] at *
    rw [show (2 : Int) ^ (8 * (7 % 8)) = 72057594037927936 by decide, IntKind.wrap_u64, IntKind.wrap_u64]
    refine ⟨by unfold w0; omega, by unfold w1; omega, by unfold w2; omega, by unfold w3; omega⟩
theorem byte_word1 {T v : Int} {k : Nat} (hq : (k : Int) / 8 = 1) (h0 : 0 ≤ T) (h1 : T < 256 ^ k) (_v0 : 0 ≤ v) (_v1 : v ≤ 255) :
    IntKind.u64.wrap (w1 T + IntKind.u64.wrap (v * 2 ^ (8 * (k % 8)))) = w1 (T + 256 ^ k * v) ∧ w0 T = w0 (T + 256 ^ k * v) ∧ w2 T = w2 (T + 256 ^ k * v) ∧ w3 T = w3 (T + 256 ^ k * v) := by
  rcases (show k = 8 ∨ k = 9 ∨ k = 10 ∨ k = 11 ∨ k = 12 ∨ k = 13 ∨ k = 14 ∨ k = 15 by omega) with rfl | rfl | rfl | rfl | rfl | rfl | rfl | rfl
  · rw [show (256 : Int) ^ 8 = 18446744073709551616 by decide] at *
    rw [show (2 : Int) ^ (8 * (8 % 8)) = 1 by decide, IntKind.wrap_u64, IntKind.wrap_u64]
    refine ⟨by unfold w1; omega, by unfold w0; omega, by unfold w2; omega, by unfold w3; omega⟩
  · rw [show (256 : Int) ^ 9 = 4722366482869645213696 by decide] at *
    rw [show (2 : Int) ^ (8 * (9 % 8)) = 256 by decide, IntKind.wrap_u64, IntKind.wrap_u64]
    refine ⟨by unfold w1; omega, by unfold w0; omega, by unfold w2; omega, by unfold w3; omega⟩
  · rw [show (256 : Int) ^ 10 = 1208925819614629174706176 by decide] at *
    rw [show (2 : Int) ^ (8 * (10 % 8)) = 65536 by decide, IntKind.wrap_u64, IntKind.wrap_u64]
    refine ⟨by unfold w1; omega, by unfold w0; omega, by unfold w2; omega, by unfold w3; omega⟩
  · rw [show (256 : Int) ^ 11 = 309485009821345068724781056 by decide] at *
    rw [show (2 : Int) ^ (8 * (11 % 8)) = 16777216 by decide, IntKind.wrap_u64, IntKind.wrap_u64]
    refine ⟨by unfold w1; omega, by unfold w0; omega, by unfold w2; omega, by unfold w3; omega⟩
  · rw [show (256 : Int) ^ 12 = 79228162514264337593543950336 by decide] at *
    rw [show (2 : Int) ^ (8 * (12 % 8)) = 4294967296 by decide, IntKind.wrap_u64, IntKind.wrap_u64]
    refine ⟨by unfold w1; omega, by unfold w0; omega, by unfold w2; omega, by unfold w3; omega⟩
  · rw [show (256 : Int) ^ 13 = 20282409603651670423947251286016 by decide] at *
    rw [show (2 : Int) ^ (8 * (13 % 8)) = 1099511627776 by decide, IntKind.wrap_u64, IntKind.wrap_u64]
    refine ⟨by unfold w1; omega, by unfold w0; omega, by unfold w2; omega, by unfold w3; omega⟩
  · rw [show (256 : Int) ^ 14 = 5192296858534827628530496329220096 by decide] at *
    rw [show (2 : Int) ^ (8 * (14 % 8)) = 281474976710656 by decide, IntKind.wrap_u64, IntKind.wrap_u64]
    refine ⟨by unfold w1; omega, by unfold w0; omega, by unfold w2; omega, by unfold w3; omega⟩
  · rw [show (256 : Int) ^ 15 = 1329227995784915872903807060280344576 by decide] at *
    rw [show (2 : Int) ^ (8 * (15 % 8)) = 72057594037927936 by decide, IntKind.wrap_u64, IntKind.wrap_u64]
    refine ⟨by unfold w1; omega, by unfold w0; omega, by unfold w2; omega, by unfold w3; omega⟩
theorem byte_word2 {T v : Int} {k : Nat} (hq : (k : Int) / 8 = 2) (h0 : 0 ≤ T) (h1 : T < 256 ^ k) (_v0 : 0 ≤ v) (_v1 : v ≤ 255) :
    IntKind.u64.wrap (w2 T + IntKind.u64.wrap (v * 2 ^ (8 * (k % 8)))) = w2 (T + 256 ^ k * v) ∧ w0 T = w0 (T + 256 ^ k * v) ∧ w1 T = w1 (T + 256 ^ k * v) ∧ w3 T = w3 (T + 256 ^ k * v) := by
  rcases (show k = 16 ∨ k = 17 ∨ k = 18 ∨ k = 19 ∨ k = 20 ∨ k = 21 ∨ k = 22 ∨ k = 23 by omega) with rfl | rfl | rfl | rfl | rfl | rfl | rfl | rfl
  · rw [show (256 : Int) ^ 16 = 340282366920938463463374607431768211456 by decide] at *
    rw [show (2 : Int) ^ (8 * (16 % 8)) = 1 by decide, IntKind.wrap_u64, IntKind.wrap_u64]
    refine ⟨by unfold w2; omega, by unfold w0; omega, by unfold w1; omega, by unfold w3; omega⟩
  · rw [show (256 : Int) ^ 17 = 87112285931760246646623899502532662132736 by decide] at *
    rw [show (2 : Int) ^ (8 * (17 % 8)) = 256 by decide, IntKind.wrap_u64, IntKind.wrap_u64]
    refine ⟨by unfold w2; omega, by unfold w0; omega, by unfold w1; omega, by unfold w3; omega⟩
  · rw [show (256 : Int) ^ 18 = 22300745198530623141535718272648361505980416 by decide] at *
    rw [show (2 : Int) ^ (8 * (18 % 8)) = 65536 by decide, IntKind.wrap_u64, IntKind.wrap_u64]
    refine ⟨by unfold w2; omega, by unfold w0; omega, by unfold w1; omega, by unfold w3; omega⟩
  · rw [show (256 : Int) ^ 19 = 5708990770823839524233143877797980545530986496 by decide] at *
    rw [show (2 : Int) ^ (8 * (19 % 8)) = 16777216 by decide, IntKind.wrap_u64, IntKind.wrap_u64]
    refine ⟨by unfold w2; omega, by unfold w0; omega, by unfold w1; omega, by unfold w3; omega⟩
  · rw [show (256 : Int) ^ 20 = 1461501637330902918203684832716283019655932542976 by decide] at *
    rw [show (2 : Int) ^ (8 * (20 % 8)) = 4294967296 by decide, IntKind.wrap_u64, IntKind.wrap_u64]
    refine ⟨by unfold w2; omega, by unfold w0; omega, by unfold w1; omega, by unfold w3; omega⟩
  · rw [show (256 : Int) ^ 21 = 374144419156711147060143317175368453031918731001856 by decide] at *
    rw [show (2 : Int) ^ (8 * (21 % 8)) = 1099511627776 by decide, IntKind.wrap_u64, IntKind.wrap_u64]
    refine ⟨by unfold w2; omega, by unfold w0; omega, by unfold w1; omega, by unfold w3; omega⟩
  · rw [show (256 : Int) ^ 22 = 95780971304118053647396689196894323976171195136475136 by decide] at *
    rw [show (2 : Int) ^ (8 * (22 % 8)) = 281474976710656 by decide, IntKind.wrap_u64, IntKind.wrap_u64]
    refine ⟨by unfold w2; omega, by unfold w0; omega, by unfold w1; omega, by unfold w3; omega⟩
  · rw [show (256 : Int) ^ 23 = 24519928653854221733733552434404946937899825954937634816 by decide] at *
    rw [show (2 : Int) ^ (8 * (23 % 8)) = 72057594037927936 by decide, IntKind.wrap_u64, IntKind.wrap_u64]
    refine ⟨by unfold w2; omega, by unfold w0; omega, by unfold w1; omega, by unfold w3; omega⟩
theorem byte_word3 {T v : Int} {k : Nat} (hq : (k : Int) / 8 = 3) (h0 : 0 ≤ T) (h1 : T < 256 ^ k) (_v0 : 0 ≤ v) (_v1 : v ≤ 255) :
    IntKind.u64.wrap (w3 T + IntKind.u64.wrap (v * 2 ^ (8 * (k % 8)))) = w3 (T + 256 ^ k * v) ∧ w0 T = w0 (T + 256 ^ k * v) ∧ w1 T = w1 (T + 256 ^ k * v) ∧ w2 T = w2 (T + 256 ^ k * v) := by
  rcases (show k = 24 ∨ k = 25 ∨ k = 26 ∨ k = 27 ∨ k = 28 ∨ k = 29 ∨ k = 30 ∨ k = 31 by omega) with rfl | rfl | rfl | rfl | rfl | rfl | rfl | rfl
  · rw [show (256 : Int) ^ 24 = 6277101735386680763835789423207666416102355444464034512896 by decide] at *
    rw [show (2 : Int) ^ (8 * (24 % 8)) = 1 by decide, IntKind.wrap_u64, IntKind.wrap_u64]
    refine ⟨by unfold w3; omega, by unfold w0; omega, by unfold w1; omega, by unfold w2; omega⟩
  · rw [show (256 : Int) ^ 25 = 1606938044258990275541962092341162602522202993782792835301376 by decide] at *
    rw [show (2 : Int) ^ (8 * (25 % 8)) = 256 by decide, IntKind.wrap_u64, IntKind.wrap_u64]
    refine ⟨by unfold w3; omega, by unfold w0; omega, by unfold w1; omega, by unfold w2; omega⟩
  · rw [show (256 : Int) ^ 26 = 411376139330301510538742295639337626245683966408394965837152256 by decide] at *
    rw [show (2 : Int) ^ (8 * (26 % 8)) = 65536 by decide, IntKind.wrap_u64, IntKind.wrap_u64]
    refine ⟨by unfold w3; omega, by unfold w0; omega, by unfold w1; omega, by unfold w2; omega⟩
  · rw [show (256 : Int) ^ 27 = 105312291668557186697918027683670432318895095400549111254310977536 by decide] at *
    rw [show (2 : Int) ^ (8 * (27 % 8)) = 16777216 by decide, IntKind.wrap_u64, IntKind.wrap_u64]
    refine ⟨by unfold w3; omega, by unfold w0; omega, by unfold w1; omega, by unfold w2; omega⟩
  · rw [show (256 : Int) ^ 28 = 26959946667150639794667015087019630673637144422540572481103610249216 by decide] at *
    rw [show (2 : Int) ^ (8 * (28 % 8)) = 4294967296 by decide, IntKind.wrap_u64, IntKind.wrap_u64]
    refine ⟨by unfold w3; omega, by unfold w0; omega, by unfold w1; omega, by unfold w2; omega⟩
  · rw [show (256 : Int) ^ 29 = 6901746346790563787434755862277025452451108972170386555162524223799296 by decide] at *
    rw [show (2 : Int) ^ (8 * (29 % 8)) = 1099511627776 by decide, IntKind.wrap_u64, IntKind.wrap_u64]
    refine ⟨by unfold w3; omega, by unfold w0; omega, by unfold w1; omega, by unfold w2; omega⟩
  · rw [show (256 : Int) ^ 30 = 1766847064778384329583297500742918515827483896875618958121606201292619776 by decide] at *
    rw [show (2 : Int) ^ (8 * (30 % 8)) = 281474976710656 by decide, IntKind.wrap_u64, IntKind.wrap_u64]
    refine ⟨by unfold w3; omega, by unfold w0; omega, by unfold w1; omega, by unfold w2; omega⟩
  · rw [show (256 : Int) ^ 31 = 452312848583266388373324160190187140051835877600158453279131187530910662656 by decide] at *
    rw [show (2 : Int) ^ (8 * (31 % 8)) = 72057594037927936 by decide, IntKind.wrap_u64, IntKind.wrap_u64]
    refine ⟨by unfold w3; omega, by unfold w0; omega, by unfold w1; omega, by unfold w2; omega⟩

theorem refcanon_any (X : Int) (w : World) (hX : Num X) :
    Calls Tryd.prog 35 #[feV X] w fun e w' => e = .returned (feV (X % pp)) ∧ Below w.heap.size w w' := by
  have b1 : Below w.heap.size w (w.alloc (.cells #[.int .u64 (w0 X), .int .u64 (w1 X), .int .u64 (w2 X), .int .u64 (w3 X)] 26)) := (Below.refl _ _).alloc (Nat.le_refl _) _
  have hV := Var4.new w X
  go_enter Tryd.func35, Tryd.ntmps35
  go_upto_region 1 with fail
  have hs : w.heap.size + 1 = (w.alloc (.cells #[.int .u64 (w0 X), .int .u64 (w1 X), .int .u64 (w2 X), .int .u64 (w3 X)] 26)).heap.size := by simp
  rw [hs]
  have l0 := hV.lt
  generalize w.alloc (.cells #[.int .u64 (w0 X), .int .u64 (w1 X), .int .u64 (w2 X), .int .u64 (w3 X)] 26) = u0 at *
  clear hs
  have hR := Var4.zero u0
  have b2 : Below u0.heap.size u0 (u0.alloc (.cells #[.int .u64 0, .int .u64 0, .int .u64 0, .int .u64 0] 26)) := (Below.refl _ _).alloc (Nat.le_refl _) _
  replace hV := hV.below b2
  replace b1 := b1.trans (b2.mono b1.size)
  generalize u0.alloc (.cells #[.int .u64 0, .int .u64 0, .int .u64 0, .int .u64 0] 26) = u1 at *
  generalize u0.heap.size = g1 at *
  clear b2 u0
  obtain ⟨vl, v0, v1, v2, v3, vf0, vf1, vf2, vf3⟩ := id hV
  go_wp2_with fail
  refine (limbs_any X _).mono ?_
  rintro e u2 ⟨rfl, hb⟩
  replace hR := hR.below hb
  replace b1 := b1.trans (hb.mono b1.size)
  clear vl v0 v1 v2 v3 vf0 vf1 vf2 vf3
  clear hb hV
  go_wp2_with fail
  refine (fe_limbs (lzAll X) _ (lzAll_len X) (lzAll_limbs X).wides).mono ?_
  rintro e u3 ⟨rfl, hb⟩
  rw [lb_lzAll hX]
  replace hR := hR.below hb
  replace b1 := b1.trans (hb.mono b1.size)
  clear hb
  obtain ⟨vl, v0, v1, v2, v3, vf0, vf1, vf2, vf3⟩ := hR
  go_wp2_with fail
  refine bodyPost_ret (v := feV (X % pp)) (by simp [results, Tryd.results35, go_sem, v0, v1, v2, v3]) rfl ⟨rfl, ?_⟩
  have hw1 : w.heap.size ≤ g1 := by omega
  exact (((b1.setCell hw1 _).setCell hw1 _).setCell hw1 _).setCell hw1 _
end Go.Proofs.YtabfjdljeebjbaaDoor
