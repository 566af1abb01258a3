import Derived.Test.YtcgbgmbnagmohaaDoorOf
namespace Go.Proofs.YtcgbgmbnagmohaaDoor
open Go.RowKit
set_option maxRecDepth 20000
def bz (Z : Int) (i : Nat) : Int := Z / 256 ^ i % 256
theorem bz_word0 {Z : Int} {k : Nat} (hq : (k : Int) / 8 = 0) : IntKind.u8.wrap (w0 Z / 2 ^ (k % 8 * 8)) = bz Z k := by
 rcases (show k = 0 ∨ k = 1 ∨ k = 2 ∨ k = 3 ∨ k = 4 ∨ k = 5 ∨ k = 6 ∨ k = 7 by omega) with rfl | rfl | rfl | rfl | rfl | rfl | rfl | rfl
 ·unfold bz; rw [show (256 : Int) ^ 0 = 1 by decide, show (2 : Int) ^ (0 % 8 * 8) = 1 by decide, IntKind.wrap_u8']; unfold w0; omega
 ·unfold bz; rw [show (256 : Int) ^ 1 = 256 by decide, show (2 : Int) ^ (1 % 8 * 8) = 256 by decide, IntKind.wrap_u8']; unfold w0; omega
 ·unfold bz; rw [show (256 : Int) ^ 2 = 65536 by decide, show (2 : Int) ^ (2 % 8 * 8) = 65536 by decide, IntKind.wrap_u8']; unfold w0; omega
 ·unfold bz; rw [show (256 : Int) ^ 3 = 16777216 by decide, show (2 : Int) ^ (3 % 8 * 8) = 16777216 by decide, IntKind.wrap_u8']; unfold w0; omega
 ·unfold bz; rw [show (256 : Int) ^ 4 = 4294967296 by decide, show (2 : Int) ^ (4 % 8 * 8) = 4294967296 by decide, IntKind.wrap_u8']; unfold w0; omega
 ·unfold bz; rw [show (256 : Int) ^ 5 = 1099511627776 by decide, show (2 : Int) ^ (5 % 8 * 8) = 1099511627776 by decide, IntKind.wrap_u8']; unfold w0; omega
 ·unfold bz; rw [show (256 : Int) ^ 6 = 281474976710656 by decide, show (2 : Int) ^ (6 % 8 * 8) = 281474976710656 by decide, IntKind.wrap_u8']; unfold w0; omega
 ·unfold bz; rw [show (256 : Int) ^ 7 = 72057594037927936 by decide, show (2 : Int) ^ (7 % 8 * 8) = 72057594037927936 by decide, IntKind.wrap_u8']; unfold w0; omega
theorem bz_word1 {Z : Int} {k : Nat} (hq : (k : Int) / 8 = 1) : IntKind.u8.wrap (w1 Z / 2 ^ (k % 8 * 8)) = bz Z k := by
 rcases (show k = 8 ∨ k = 9 ∨ k = 10 ∨ k = 11 ∨ k = 12 ∨ k = 13 ∨ k = 14 ∨ k = 15 by omega) with rfl | rfl | rfl | rfl | rfl | rfl | rfl | rfl
 ·unfold bz; rw [show (256 : Int) ^ 8 = 18446744073709551616 by decide, show (2 : Int) ^ (8 % 8 * 8) = 1 by decide, IntKind.wrap_u8']; unfold w1; omega
 ·unfold bz; rw [show (256 : Int) ^ 9 = 4722366482869645213696 by decide, show (2 : Int) ^ (9 % 8 * 8) = 256 by decide, IntKind.wrap_u8']; unfold w1; omega
 ·unfold bz; rw [show (256 : Int) ^ 10 = 1208925819614629174706176 by decide, show (2 : Int) ^ (10 % 8 * 8) = 65536 by decide, IntKind.wrap_u8']; unfold w1; omega
 ·unfold bz; rw [show (256 : Int) ^ 11 = 309485009821345068724781056 by decide, show (2 : Int) ^ (11 % 8 * 8) = 16777216 by decide, IntKind.wrap_u8']; unfold w1; omega
 ·unfold bz; rw [show (256 : Int) ^ 12 = 79228162514264337593543950336 by decide, show (2 : Int) ^ (12 % 8 * 8) = 4294967296 by decide, IntKind.wrap_u8']; unfold w1; omega
 ·unfold bz; rw [show (256 : Int) ^ 13 = 20282409603651670423947251286016 by decide, show (2 : Int) ^ (13 % 8 * 8) = 1099511627776 by decide, IntKind.wrap_u8']; unfold w1; omega
 ·unfold bz; rw [show (256 : Int) ^ 14 = 5192296858534827628530496329220096 by decide, show (2 : Int) ^ (14 % 8 * 8) = 281474976710656 by decide, IntKind.wrap_u8']; unfold w1; omega
 ·unfold bz; rw [show (256 : Int) ^ 15 = 1329227995784915872903807060280344576 by decide, show (2 : Int) ^ (15 % 8 * 8) = 72057594037927936 by decide, IntKind.wrap_u8']; unfold w1; omega
theorem bz_word2 {Z : Int} {k : Nat} (hq : (k : Int) / 8 = 2) : IntKind.u8.wrap (w2 Z / 2 ^ (k % 8 * 8)) = bz Z k := by
 rcases (show k = 16 ∨ k = 17 ∨ k = 18 ∨ k = 19 ∨ k = 20 ∨ k = 21 ∨ k = 22 ∨ k = 23 by omega) with rfl | rfl | rfl | rfl | rfl | rfl | rfl | rfl
 ·unfold bz; rw [show (256 : Int) ^ 16 = 340282366920938463463374607431768211456 by decide, show (2 : Int) ^ (16 % 8 * 8) = 1 by decide, IntKind.wrap_u8']; unfold w2; omega
 ·unfold bz; rw [show (256 : Int) ^ 17 = 87112285931760246646623899502532662132736 by decide, show (2 : Int) ^ (17 % 8 * 8) = 256 by decide, IntKind.wrap_u8']; unfold w2; omega
 ·unfold bz; rw [show (256 : Int) ^ 18 = 22300745198530623141535718272648361505980416 by decide, show (2 : Int) ^ (18 % 8 * 8) = 65536 by decide, IntKind.wrap_u8']; unfold w2; omega
 ·unfold bz; rw [show (256 : Int) ^ 19 = 5708990770823839524233143877797980545530986496 by decide, show (2 : Int) ^ (19 % 8 * 8) = 16777216 by decide, IntKind.wrap_u8']; unfold w2; omega
 ·unfold bz; rw [show (256 : Int) ^ 20 = 1461501637330902918203684832716283019655932542976 by decide, show (2 : Int) ^ (20 % 8 * 8) = 4294967296 by decide, IntKind.wrap_u8']; unfold w2; omega
 ·unfold bz; rw [show (256 : Int) ^ 21 = 374144419156711147060143317175368453031918731001856 by decide, show (2 : Int) ^ (21 % 8 * 8) = 1099511627776 by decide, IntKind.wrap_u8']; unfold w2; omega
 ·unfold bz; rw [show (256 : Int) ^ 22 = 95780971304118053647396689196894323976171195136475136 by decide, show (2 : Int) ^ (22 % 8 * 8) = 281474976710656 by decide, IntKind.wrap_u8']; unfold w2; omega
 ·unfold bz; rw [show (256 : Int) ^ 23 = 24519928653854221733733552434404946937899825954937634816 by decide, show (2 : Int) ^ (23 % 8 * 8) = 72057594037927936 by decide, IntKind.wrap_u8']; unfold w2; omega
theorem bz_word3 {Z : Int} {k : Nat} (hq : (k : Int) / 8 = 3) : IntKind.u8.wrap (w3 Z / 2 ^ (k % 8 * 8)) = bz Z k := by
 rcases (show k = 24 ∨ k = 25 ∨ k = 26 ∨ k = 27 ∨ k = 28 ∨ k = 29 ∨ k = 30 ∨ k = 31 by omega) with rfl | rfl | rfl | rfl | rfl | rfl | rfl | rfl
 ·unfold bz; rw [show (256 : Int) ^ 24 = 6277101735386680763835789423207666416102355444464034512896 by decide, show (2 : Int) ^ (24 % 8 * 8) = 1 by decide, IntKind.wrap_u8']; unfold w3; omega
 ·unfold bz; rw [show (256 : Int) ^ 25 = 1606938044258990275541962092341162602522202993782792835301376 by decide, show (2 : Int) ^ (25 % 8 * 8) = 256 by decide, IntKind.wrap_u8']; unfold w3; omega
 ·unfold bz; rw [show (256 : Int) ^ 26 = 411376139330301510538742295639337626245683966408394965837152256 by decide, show (2 : Int) ^ (26 % 8 * 8) = 65536 by decide, IntKind.wrap_u8']; unfold w3; omega
 ·unfold bz; rw [show (256 : Int) ^ 27 = 105312291668557186697918027683670432318895095400549111254310977536 by decide, show (2 : Int) ^ (27 % 8 * 8) = 16777216 by decide, IntKind.wrap_u8']; unfold w3; omega
 ·unfold bz; rw [show (256 : Int) ^ 28 = 26959946667150639794667015087019630673637144422540572481103610249216 by decide, show (2 : Int) ^ (28 % 8 * 8) = 4294967296 by decide, IntKind.wrap_u8']; unfold w3; omega
 ·unfold bz; rw [show (256 : Int) ^ 29 = 6901746346790563787434755862277025452451108972170386555162524223799296 by decide, show (2 : Int) ^ (29 % 8 * 8) = 1099511627776 by decide, IntKind.wrap_u8']; unfold w3; omega
 ·unfold bz; rw [show (256 : Int) ^ 30 = 1766847064778384329583297500742918515827483896875618958121606201292619776 by decide, show (2 : Int) ^ (30 % 8 * 8) = 281474976710656 by decide, IntKind.wrap_u8']; unfold w3; omega
 ·unfold bz; rw [show (256 : Int) ^ 31 = 452312848583266388373324160190187140051835877600158453279131187530910662656 by decide, show (2 : Int) ^ (31 % 8 * 8) = 72057594037927936 by decide, IntKind.wrap_u8']; unfold w3; omega
def bzTo (Z : Int) (k : Nat) : List Int := (List.range 32).map fun i => if i < k then bz Z i else 0
def bzAll (Z : Int) : List Int := (List.range 32).map fun i => bz Z i
theorem bzTo_len (Z : Int) (k : Nat) : (bzTo Z k).length = 32 := by simp [bzTo]
theorem bzAll_len (Z : Int) : (bzAll Z).length = 32 := by simp [bzAll]
theorem bzTo_zero (Z : Int) : bzTo Z 0 = List.replicate 32 0 := by
 unfold bzTo
 rw [List.eq_replicate_iff]
 refine ⟨by simp, fun b hb => ?_⟩
 simp only [Nat.not_lt_zero, if_false, List.mem_map] at hb
 obtain ⟨_, _, rfl⟩ := hb
 rfl
theorem bzTo_all (Z : Int) : bzTo Z 32 = bzAll Z := by
 unfold bzTo bzAll
 apply List.map_congr_left
 intro i hi
 rw [if_pos (by simpa using hi)]
theorem bzTo_succ (Z : Int) (k : Nat) : (bzTo Z k).set k (bz Z k) = bzTo Z (k + 1) := by
 apply List.ext_getElem?
 intro i
 by_cases hi : i < 32
 ·by_cases e : k = i
  ·subst e; simp [bzTo, hi]
  ·rw [List.getElem?_set_ne e]
   simp only [bzTo, List.getElem?_map, List.getElem?_range hi, Option.map_some]
   have : (i < k) ↔ (i < k + 1) := by omega
   simp only [this]
 ·rw [List.getElem?_eq_none (by rw [List.length_set, bzTo_len]; omega), List.getElem?_eq_none (by rw [bzTo_len]; omega)]
theorem results_cellF {fn : Func} {p : Tmp} {ty : TypeId} (h : fn.results = #[.cell p ty]) (tmps : Array Value) (P : Program) (w : World) :
  (results fn tmps).run P w = ((asAddr (tmps.getD p undef)).run P w).andThen fun a w₁ => (loadVar ty a).run P w₁ := by
 simp only [results, h]
 simp [Sem.run_bind, Result.andThen]
theorem results_key {fn : Func} {p : Tmp} (h : fn.results = #[.cell p 24]) {tmps : Array Value} {w : World} {g : Nat} {l : List Int} (ht : tmps.getD p undef = .pointer (some ⟨g, 0, none⟩)) (hl : l.length = 32) (hr : w.rangeAt g 0 (l.map (Value.int .u8))) :
  (results fn tmps).run Tryd.prog w = .ok (kV l) w := by
 rw [results_cellF h, ht]
 have e := run_loadVar_mid (P := Tryd.prog) w g 0 24 (l.map (Value.int .u8)) (.array 32 5) hr Tryd.underlying24 rfl (kV_size hl)
 simp only [asAddr, Sem.run_pure, Result.andThen_ok, e]
theorem Row.zero (u : World) : Row u.heap.size (List.replicate 32 0) (u.alloc (.cells #[.int .u8 0, .int .u8 0, .int .u8 0, .int .u8 0, .int .u8 0, .int .u8 0, .int .u8 0, .int .u8 0, .int .u8 0, .int .u8 0, .int .u8 0, .int .u8 0, .int .u8 0, .int .u8 0, .int .u8 0, .int .u8 0, .int .u8 0, .int .u8 0, .int .u8 0, .int .u8 0, .int .u8 0, .int .u8 0, .int .u8 0, .int .u8 0, .int .u8 0, .int .u8 0, .int .u8 0, .int .u8 0, .int .u8 0, .int .u8 0, .int .u8 0, .int .u8 0] 24)) := Row.new u (List.replicate 32 0)
theorem Row.thereAt {b : Nat} {l : List Int} {u : World} (h : Row b l u) : u.there b 0 l.length := fun j hj => by
 rw [Nat.zero_add, h.c j hj]
 exact ⟨rfl, h.f j⟩
theorem kV_one (l : List Int) : (l.map (Value.int .u8)).toArray.all (·.oneCell') = true := all_oneCell_toArray fun v hv => by
 rw [List.mem_map] at hv
 obtain ⟨x, _, rfl⟩ := hv
 rfl
theorem Row.drew {b : Nat} {l : List Int} {u : World} (h : Row b l u) : Row b l u.drew := h.below (Below.refl _ _).drew
theorem Below.setCells {B : Nat} {a : World} {g : Nat} (hg : B ≤ g) : ∀ (vs : List Value) (o : Nat) {w : World}, Below B a w → Below B a (w.setCells g o vs)
 | [], _, _, h => h
 | v :: vs, o, _, h => Below.setCells hg vs (o + 1) (h.setCell (p := ⟨g, o, none⟩) hg v)
structure ByI (w : World) (Z : Int) (g1 g2 k : Nat) (u : World) : Prop where
 bl : Below w.heap.size w u
 X : Var4 w.heap.size Z u
 R : Row g1 (List.replicate 32 0) u
 V : Row g2 (bzTo Z k) u
set_option maxHeartbeats 1000000 in
theorem bytes_any (X : Int) (w : World) (hX : Num X) (hG : GCell 5 pp w) :
  Calls Tryd.prog 57 #[feV X] w fun e w' => e = .returned (kV (bzAll (X % pp))) ∧ Below w.heap.size w w' := by
 have b1 : Below w.heap.size w (w.alloc (.cells #[.int .u64 (w0 X), .int .u64 (w1 X), .int .u64 (w2 X), .int .u64 (w3 X)] 66)) := (Below.refl _ _).alloc (Nat.le_refl _) _
 have hV := Var4.new w X
 go_enter Tryd.func57, Tryd.ntmps57
 go_upto_region 1 with fail
 have hs : w.heap.size + 1 = (w.alloc (.cells #[.int .u64 (w0 X), .int .u64 (w1 X), .int .u64 (w2 X), .int .u64 (w3 X)] 66)).heap.size := by simp
 rw [hs]
 have l0 := hV.lt
 generalize w.alloc (.cells #[.int .u64 (w0 X), .int .u64 (w1 X), .int .u64 (w2 X), .int .u64 (w3 X)] 66) = u0 at *
 clear hs
 have hR := Row.zero u0
 have b2 : Below u0.heap.size u0 (u0.alloc (.cells #[.int .u8 0, .int .u8 0, .int .u8 0, .int .u8 0, .int .u8 0, .int .u8 0, .int .u8 0, .int .u8 0, .int .u8 0, .int .u8 0, .int .u8 0, .int .u8 0, .int .u8 0, .int .u8 0, .int .u8 0, .int .u8 0, .int .u8 0, .int .u8 0, .int .u8 0, .int .u8 0, .int .u8 0, .int .u8 0, .int .u8 0, .int .u8 0, .int .u8 0, .int .u8 0, .int .u8 0, .int .u8 0, .int .u8 0, .int .u8 0, .int .u8 0, .int .u8 0] 24)) := (Below.refl _ _).alloc (Nat.le_refl _) _
 replace hV := hV.below b2
 replace b1 := b1.trans (b2.mono b1.size)
 generalize u0.alloc (.cells #[.int .u8 0, .int .u8 0, .int .u8 0, .int .u8 0, .int .u8 0, .int .u8 0, .int .u8 0, .int .u8 0, .int .u8 0, .int .u8 0, .int .u8 0, .int .u8 0, .int .u8 0, .int .u8 0, .int .u8 0, .int .u8 0, .int .u8 0, .int .u8 0, .int .u8 0, .int .u8 0, .int .u8 0, .int .u8 0, .int .u8 0, .int .u8 0, .int .u8 0, .int .u8 0, .int .u8 0, .int .u8 0, .int .u8 0, .int .u8 0, .int .u8 0, .int .u8 0] 24) = u1 at *
 generalize u0.heap.size = g1 at *
 clear b2 u0
 replace hG := hG.below b1
 obtain ⟨vl, v0, v1, v2, v3, vf0, vf1, vf2, vf3⟩ := id hV
 go_upto_region 2 with (go_at_call 72; refine (canon_any _ _ hX hG).mono ?_; rintro e u ⟨rfl, hb⟩; clear vl v0 v1 v2 v3 vf0 vf1 vf2 vf3; replace hV := hV.below hb; replace hR := hR.below hb; replace b1 := b1.trans (hb.mono b1.size); obtain ⟨vl, v0, v1, v2, v3, vf0, vf1, vf2, vf3⟩ := id hV)
 generalize hZ : X % pp = Z at *
 have HZ := Lib.hid hZ; clear hZ
 replace hV : Var4 w.heap.size Z ((((u.setCell ⟨w.heap.size, 0, none⟩ (.int .u64 (w0 Z))).setCell ⟨w.heap.size, 1, none⟩ (.int .u64 (w1 Z))).setCell ⟨w.heap.size, 2, none⟩ (.int .u64 (w2 Z))).setCell ⟨w.heap.size, 3, none⟩ (.int .u64 (w3 Z))) := hV.set4 _
 replace hR : Row g1 (List.replicate 32 0) ((((u.setCell ⟨w.heap.size, 0, none⟩ (.int .u64 (w0 Z))).setCell ⟨w.heap.size, 1, none⟩ (.int .u64 (w1 Z))).setCell ⟨w.heap.size, 2, none⟩ (.int .u64 (w2 Z))).setCell ⟨w.heap.size, 3, none⟩ (.int .u64 (w3 Z))) := (((hR.far (by omega) _ _).far (by omega) _ _).far (by omega) _ _).far (by omega) _ _
 replace b1 : Below w.heap.size w ((((u.setCell ⟨w.heap.size, 0, none⟩ (.int .u64 (w0 Z))).setCell ⟨w.heap.size, 1, none⟩ (.int .u64 (w1 Z))).setCell ⟨w.heap.size, 2, none⟩ (.int .u64 (w2 Z))).setCell ⟨w.heap.size, 3, none⟩ (.int .u64 (w3 Z))) := set4_below (Nat.le_refl _) b1 _
 clear hb
 clear vl v0 v1 v2 v3 vf0 vf1 vf2 vf3
 generalize ((((u.setCell ⟨w.heap.size, 0, none⟩ (.int .u64 (w0 Z))).setCell ⟨w.heap.size, 1, none⟩ (.int .u64 (w1 Z))).setCell ⟨w.heap.size, 2, none⟩ (.int .u64 (w2 Z))).setCell ⟨w.heap.size, 3, none⟩ (.int .u64 (w3 Z))) = u0 at *
 clear u u1 hG hX
 go_upto_region 3 with fail
 have hB := Row.zero u0
 have b2 : Below u0.heap.size u0 (u0.alloc (.cells #[.int .u8 0, .int .u8 0, .int .u8 0, .int .u8 0, .int .u8 0, .int .u8 0, .int .u8 0, .int .u8 0, .int .u8 0, .int .u8 0, .int .u8 0, .int .u8 0, .int .u8 0, .int .u8 0, .int .u8 0, .int .u8 0, .int .u8 0, .int .u8 0, .int .u8 0, .int .u8 0, .int .u8 0, .int .u8 0, .int .u8 0, .int .u8 0, .int .u8 0, .int .u8 0, .int .u8 0, .int .u8 0, .int .u8 0, .int .u8 0, .int .u8 0, .int .u8 0] 24)) := (Below.refl _ _).alloc (Nat.le_refl _) _
 have l1 := hR.lt
 replace hR := hR.below b2
 replace hV := hV.below b2
 replace b1 := b1.trans (b2.mono b1.size)
 generalize u0.alloc (.cells #[.int .u8 0, .int .u8 0, .int .u8 0, .int .u8 0, .int .u8 0, .int .u8 0, .int .u8 0, .int .u8 0, .int .u8 0, .int .u8 0, .int .u8 0, .int .u8 0, .int .u8 0, .int .u8 0, .int .u8 0, .int .u8 0, .int .u8 0, .int .u8 0, .int .u8 0, .int .u8 0, .int .u8 0, .int .u8 0, .int .u8 0, .int .u8 0, .int .u8 0, .int .u8 0, .int .u8 0, .int .u8 0, .int .u8 0, .int .u8 0, .int .u8 0, .int .u8 0] 24) = u1 at *
 generalize u0.heap.size = g2 at *
 clear b2 u0
 rw [← bzTo_zero Z] at hB
 go_wp2_with fail
 go_loopw [7] (fun s u => ∃ k : Nat, k ≤ 32 ∧ s = .int .i64 (k : Int) ∧ ByI w Z g1 g2 k u) (fun s _ => (32 - intOf s).toNat)
 case atStart => exact ⟨0, by omega, rfl, b1, hV, hR, hB⟩
 case round =>
  obtain ⟨k, hk, rfl, hI⟩ := hrel
  clear b1 hV hR hB
  obtain ⟨b1, hV, hR, hB⟩ := id hI
  obtain ⟨vl, v0, v1, v2, v3, vf0, vf1, vf2, vf3⟩ := id hV
  by_cases hlt : k = 32
  ·subst hlt
   rw [bzTo_all] at hB
   have hk1 : ¬ (((32 : Nat) : Int) < 32) := by omega
   have HB := Lib.hid hB; clear hB
   have HR := Lib.hid hR; clear hR
   go_wp2_with (first | refine wpList_load_mid rfl 24 (.tmp 3) rfl g2 0 rfl ((bzAll Z).map (Value.int .u8)) (.array 32 5) HB.out.range Tryd.underlying24 rfl (kV_size (bzAll_len Z)) ?_ | refine wpList_store_mid rfl 24 (.tmp 2) _ rfl g1 0 ((bzAll Z).map (Value.int .u8)).toArray rfl rfl (by simpa [bzAll_len] using HR.out.thereAt) (by simpa using kV_size (bzAll_len Z)) (kV_one _) ?_)
   have hT := World.rangeAt_setCells_same wr g1 0 ((bzAll Z).map (Value.int .u8)) (by simpa [bzAll_len] using HR.out.thereAt)
   refine bodyPost_ret (v := kV (bzAll Z)) ?_ rfl ⟨by rw [HZ.out], ?_⟩
   ·exact results_key Tryd.results57 rfl (bzAll_len Z) hT
   ·exact Below.setCells (by omega) _ _ b1
  ·have hk1 : (k : Int) < 32 := by omega
   have hk0 : (0 : Int) ≤ (k : Int) := by omega
   have hk2 : k < 32 := by omega
   have hk3 : k < (bzTo Z k).length := by rw [bzTo_len]; omega
   have hc := hB.c k hk3
   have hf := hB.f k
   have HB := Lib.hid (hB.set hk3 (bz Z k)); clear hB
   have HR := Lib.hid hR; clear hR
   rcases (show (k : Int) / 8 = 0 ∨ (k : Int) / 8 = 1 ∨ (k : Int) / 8 = 2 ∨ (k : Int) / 8 = 3 by omega) with hq | hq | hq | hq
   ·have hw := bz_word0 (Z := Z) hq
    go_wp2_with fail
    exact ⟨⟨k + 1, by omega, by go_num, b1.setCell (p := ⟨g2, k, none⟩) (show w.heap.size ≤ g2 by omega) _, hV.far (by omega) _ _, HR.out.far (by omega) _ _, by rw [← bzTo_succ]; exact HB.out⟩, by simp [intOf]; omega⟩
   ·have hw := bz_word1 (Z := Z) hq
    go_wp2_with fail
    exact ⟨⟨k + 1, by omega, by go_num, b1.setCell (p := ⟨g2, k, none⟩) (show w.heap.size ≤ g2 by omega) _, hV.far (by omega) _ _, HR.out.far (by omega) _ _, by rw [← bzTo_succ]; exact HB.out⟩, by simp [intOf]; omega⟩
   ·have hw := bz_word2 (Z := Z) hq
    go_wp2_with fail
    exact ⟨⟨k + 1, by omega, by go_num, b1.setCell (p := ⟨g2, k, none⟩) (show w.heap.size ≤ g2 by omega) _, hV.far (by omega) _ _, HR.out.far (by omega) _ _, by rw [← bzTo_succ]; exact HB.out⟩, by simp [intOf]; omega⟩
   ·have hw := bz_word3 (Z := Z) hq
    go_wp2_with fail
    exact ⟨⟨k + 1, by omega, by go_num, b1.setCell (p := ⟨g2, k, none⟩) (show w.heap.size ≤ g2 by omega) _, hV.far (by omega) _ _, HR.out.far (by omega) _ _, by rw [← bzTo_succ]; exact HB.out⟩, by simp [intOf]; omega⟩
end Go.Proofs.YtcgbgmbnagmohaaDoor
