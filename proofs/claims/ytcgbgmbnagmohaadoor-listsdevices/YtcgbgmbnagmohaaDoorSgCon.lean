import Derived.Test.YtcgbgmbnagmohaaDoorCalm
import Derived.Test.YtcgbgmbnagmohaaDoorLy
import Derived.Test.YtcgbgmbnagmohaaDoorMem
import Derived.Test.YtcgbgmbnagmohaaDoorGenA
import Derived.Test.YtcgbgmbnagmohaaDoorSl
import Derived.Test.YtcgbgmbnagmohaaDoorEdDec2
import Derived.Test.YtcgbgmbnagmohaaDoorClampB
import Derived.Test.YtcgbgmbnagmohaaDoorEqKeyB
import Derived.Test.YtcgbgmbnagmohaaDoorEqKeyB
import Derived.Test.YtcgbgmbnagmohaaDoorMixB
import Derived.Test.YtcgbgmbnagmohaaDoorLateG
import Derived.Test.YtcgbgmbnagmohaaDoorScLess
import Derived.Test.YtcgbgmbnagmohaaDoorScOps
namespace Go.Proofs.YtcgbgmbnagmohaaDoor
open Go.RowKit
set_option maxRecDepth 20000
def rtab : List (BitVec 64) := [0x428a2f98d728ae22#64, 0x7137449123ef65cd#64, 0xb5c0fbcfec4d3b2f#64, 0xe9b5dba58189dbbc#64, 0x3956c25bf348b538#64, 0x59f111f1b605d019#64, 0x923f82a4af194f9b#64, 0xab1c5ed5da6d8118#64, 0xd807aa98a3030242#64, 0x12835b0145706fbe#64, 0x243185be4ee4b28c#64, 0x550c7dc3d5ffb4e2#64, 0x72be5d74f27b896f#64, 0x80deb1fe3b1696b1#64, 0x9bdc06a725c71235#64, 0xc19bf174cf692694#64, 0xe49b69c19ef14ad2#64, 0xefbe4786384f25e3#64, 0x0fc19dc68b8cd5b5#64, 0x240ca1cc77ac9c65#64, 0x2de92c6f592b0275#64, 0x4a7484aa6ea6e483#64, 0x5cb0a9dcbd41fbd4#64, 0x76f988da831153b5#64, 0x983e5152ee66dfab#64, 0xa831c66d2db43210#64, 0xb00327c898fb213f#64, 0xbf597fc7beef0ee4#64, 0xc6e00bf33da88fc2#64, 0xd5a79147930aa725#64, 0x06ca6351e003826f#64, 0x142929670a0e6e70#64, 0x27b70a8546d22ffc#64, 0x2e1b21385c26c926#64, 0x4d2c6dfc5ac42aed#64, 0x53380d139d95b3df#64, 0x650a73548baf63de#64, 0x766a0abb3c77b2a8#64, 0x81c2c92e47edaee6#64, 0x92722c851482353b#64, 0xa2bfe8a14cf10364#64, 0xa81a664bbc423001#64, 0xc24b8b70d0f89791#64, 0xc76c51a30654be30#64, 0xd192e819d6ef5218#64, 0xd69906245565a910#64, 0xf40e35855771202a#64, 0x106aa07032bbd1b8#64, 0x19a4c116b8d2d0c8#64, 0x1e376c085141ab53#64, 0x2748774cdf8eeb99#64, 0x34b0bcb5e19b48a8#64, 0x391c0cb3c5c95a63#64, 0x4ed8aa4ae3418acb#64, 0x5b9cca4f7763e373#64, 0x682e6ff3d6b2b8a3#64, 0x748f82ee5defb2fc#64, 0x78a5636f43172f60#64, 0x84c87814a1f0ab72#64, 0x8cc702081a6439ec#64, 0x90befffa23631e28#64, 0xa4506cebde82bde9#64, 0xbef9a3f7b2c67915#64, 0xc67178f2e372532b#64, 0xca273eceea26619c#64, 0xd186b8c721c0c207#64, 0xeada7dd6cde0eb1e#64, 0xf57d4f7fee6ed178#64, 0x06f067aa72176fba#64, 0x0a637dc5a2c898a6#64, 0x113f9804bef90dae#64, 0x1b710b35131c471b#64, 0x28db77f523047d84#64, 0x32caab7b40c72493#64, 0x3c9ebe0a15c9bebc#64, 0x431d67c49c100d4c#64, 0x4cc5d4becb3e42b6#64, 0x597f299cfc657e2a#64, 0x5fcb6fab3ad6faec#64, 0x6c44198c4a475817#64]
def btab : List (BitVec 64) := [0x6a09e667f3bcc908#64, 0xbb67ae8584caa73b#64, 0x3c6ef372fe94f82b#64, 0xa54ff53a5f1d36f1#64, 0x510e527fade682d1#64, 0x9b05688c2b3e6c1f#64, 0x1f83d9abfb41bd6b#64, 0x5be0cd19137e2179#64]
theorem rtab_len : rtab.length = 80 := rfl
theorem btab_len : btab.length = 8 := rfl
structure Tabs (w : World) : Prop where
 l1 : 8 < w.heap.size
 l0 : 3 < w.heap.size
 r : w.rangeAt 8 0 (rtab.map b64)
 b : w.rangeAt 3 0 (btab.map b64)
theorem Tabs.below {w w' : World} (h : Tabs w) (hb : Below w.heap.size w w') : Tabs w' :=
 ⟨Nat.lt_of_lt_of_le h.l1 hb.size, Nat.lt_of_lt_of_le h.l0 hb.size, qb9 h.r h.l1 hb, qb9 h.b h.l0 hb⟩
theorem Tabs.rc {w : World} (h : Tabs w) {i : Nat} (hi : i < 80) : w.cell? ⟨8, i, none⟩ = some (b64 (rtab.getD i 0)) := by
 have := h.r i _ (qbv b64 0 (by rw [rtab_len]; exact hi))
 rwa [Nat.zero_add] at this
theorem Tabs.bc {w : World} (h : Tabs w) {i : Nat} (hi : i < 8) : w.cell? ⟨3, i, none⟩ = some (b64 (btab.getD i 0)) := by
 have := h.b i _ (qbv b64 0 (by rw [btab_len]; exact hi))
 rwa [Nat.zero_add] at this
end Go.Proofs.YtcgbgmbnagmohaaDoor
namespace Go.Proofs.YtcgbgmbnagmohaaDoor
open Go.RowKit
set_option maxRecDepth 20000
def ror64 (x : BitVec 64) (n : Nat) : BitVec 64 := x <<< (64 - n) ||| x >>> n
theorem rot_and64 (m : Nat) (h1 : 0 < m) (h2 : m < 64) : bits .and .u64 (IntKind.u64.wrap (-(m : Int))) 63 = ((64 - m : Nat) : Int) := by
 rw [wrap64, show (-(m : Int)) % 18446744073709551616 = ((18446744073709551616 - m : Nat) : Int) by omega, show (63 : Int) = ((63 : Nat) : Int) by rfl, u64_and_nat _ _ (by omega) (by omega)]
 have e : (18446744073709551616 - m) &&& 63 = (18446744073709551616 - m) % 64 := Nat.and_two_pow_sub_one_eq_mod _ 6
 rw [e]; omega
section
variable {w : World} {ρ : Operand → Value} {o : Oper} {t t' : TypeId} {x y : Operand}
theorem run_rotand64 {m : Nat} (ho : o.op = .binOp .and t x y t') (hx : ρ x = .int .u64 (IntKind.u64.wrap (-(m : Int)))) (hy : ρ y = .int .u64 63) (h1 : 0 < m) (h2 : m < 64) : (execOp ρ o).run Tryd.prog w = .ok (.value (.int .u64 ((64 - m : Nat) : Int))) w := by
 obtain ⟨dst, op, type, pos, after, guard⟩ := o
 subst ho
 rw [← rot_and64 m h1 h2]
 generalize IntKind.u64.wrap (-(m : Int)) = z at *
 go_simp
theorem run_rotsub64 {m : Nat} (ho : o.op = .binOp .sub t x y t') (hx : ρ x = .int .u64 64) (hy : ρ y = .int .u64 ((64 - m : Nat) : Int)) (h1 : 0 < m) (h2 : m < 64) : (execOp ρ o).run Tryd.prog w = .ok (.value (.int .u64 (m : Int))) w := by
 obtain ⟨dst, op, type, pos, after, guard⟩ := o
 subst ho
 have e : IntKind.u64.wrap (64 - ((64 - m : Nat) : Int)) = (m : Int) := by rw [wrap64]; omega
 generalize ((64 - m : Nat) : Int) = z at *
 go_simp
 try exact e
end
set_option maxHeartbeats 400000 in
theorem rot64_any (x : BitVec 64) (m : Nat) (w : World) (h1 : 0 < m) (h2 : m < 64) :
  Calls Tryd.prog 99 #[b64 x, .int .i64 (-(m : Int))] w fun e w' => e = .returned (b64 (ror64 x m)) ∧ w' = w := by
 go_enter Tryd.func99, Tryd.ntmps99
 go_upto_region 1 with fail; refine wp_region_lit ?_
 refine qaa (qae (v := .int _ _) rfl rfl) rfl ?_; (try simp only [Act.put, lyy])
 refine qaa (run_cv rfl Tryd.underlying3 Tryd.underlying91 rfl) rfl ?_; (try simp only [Act.put, lyy])
 refine qaa (run_rotand64 rfl rfl rfl h1 h2) rfl ?_; (try simp only [Act.put, lyy])
 refine qaa (qaf (v := .int _ _) rfl rfl) rfl ?_; (try simp only [Act.put, lyy])
 refine qab ?_
 go_upto_region 2 with fail; refine wp_region_lit ?_
 refine qaa (qae (v := b64 _) rfl rfl) rfl ?_; (try simp only [Act.put, lyy]); refine qaa (qae (v := .int _ _) rfl rfl) rfl ?_; (try simp only [Act.put, lyy])
 refine qaa (run_shl64 rfl rfl rfl (by omega)) rfl ?_; (try simp only [Act.put, lyy])
 refine qaa (qae (v := b64 _) rfl rfl) rfl ?_; (try simp only [Act.put, lyy]); refine qaa (qae (v := .int _ _) rfl rfl) rfl ?_; (try simp only [Act.put, lyy])
 refine qaa (run_rotsub64 rfl rfl rfl h1 h2) rfl ?_; (try simp only [Act.put, lyy])
 refine qaa (run_shr64 rfl rfl rfl (by omega)) rfl ?_; (try simp only [Act.put, lyy])
 refine qaa (qcp rfl rfl rfl) rfl ?_; (try simp only [Act.put, lyy]); refine qaa (qaf (v := b64 _) rfl rfl) rfl ?_; (try simp only [Act.put, lyy])
 refine qab ?_
 go_wp2_with fail
 go_ret
 exact ⟨rfl, rfl⟩
theorem enters_rot64 : Enters 99 := qaq Tryd.func99 (by kernel_rfl) rfl
set_option maxHeartbeats 400000 in
theorem turned64_any (x : BitVec 64) (m n : Nat) (w : World) (h1 : 0 < m) (h2 : m < 64) (h3 : 0 < n) (h4 : n < 64) :
  Calls Tryd.prog 98 #[b64 x, .int .i64 (m : Int), .int .i64 (n : Int)] w fun e w' => e = .returned (b64 (ror64 x m ^^^ ror64 x n)) ∧ w' = w := by
 go_enter Tryd.func98, Tryd.ntmps98
 go_upto_region 1 with fail; refine wp_region_lit ?_
 refine qaa (qae (v := b64 _) rfl rfl) rfl ?_; (try simp only [Act.put, lyy]); refine qaa (qae (v := .int _ _) rfl rfl) rfl ?_; (try simp only [Act.put, lyy])
 refine qaa (run_neg rfl rfl (by omega) (by omega)) rfl ?_; (try simp only [Act.put, lyy])
 refine qdk (qao enters_rot64 rfl rfl rfl rfl) rfl (rot64_any x m w h1 h2) ?_; (try simp only [Act.put, lyy])
 refine qaa (qae (v := b64 _) rfl rfl) rfl ?_; (try simp only [Act.put, lyy]); refine qaa (qae (v := .int _ _) rfl rfl) rfl ?_; (try simp only [Act.put, lyy])
 refine qaa (run_neg rfl rfl (by omega) (by omega)) rfl ?_; (try simp only [Act.put, lyy])
 refine qdk (qao enters_rot64 rfl rfl rfl rfl) rfl (rot64_any x n w h3 h4) ?_; (try simp only [Act.put, lyy])
 refine qaa (qb6 rfl rfl rfl) rfl ?_; (try simp only [Act.put, lyy]); refine qaa (qaf (v := b64 _) rfl rfl) rfl ?_; (try simp only [Act.put, lyy])
 refine qab ?_
 go_wp2_with fail
 go_ret
 exact ⟨rfl, rfl⟩
theorem qdv : Enters 98 := qaq Tryd.func98 (by kernel_rfl) rfl
end Go.Proofs.YtcgbgmbnagmohaaDoor
namespace Go.Proofs.YtcgbgmbnagmohaaDoor
open Go.RowKit
set_option maxRecDepth 20000
def s164 (x : BitVec 64) : BitVec 64 := ror64 x 19 ^^^ ror64 x 61 ^^^ x >>> 6
def s064 (x : BitVec 64) : BitVec 64 := ror64 x 1 ^^^ ror64 x 8 ^^^ x >>> 7
def fill64 (l : List (BitVec 8)) : Nat → List (BitVec 64)
 | 0 => List.replicate 80 0
 | k + 1 => (fill64 l k).set (k / 8) ((fill64 l k).getD (k / 8) 0 <<< 8 ||| (l.getD k 0).setWidth 64)
def nextW64 (ws : List (BitVec 64)) (j : Nat) : BitVec 64 := s164 (ws.getD (j + 14) 0) + ws.getD (j + 9) 0 + s064 (ws.getD (j + 1) 0) + ws.getD j 0
def sched64 (ws : List (BitVec 64)) : Nat → List (BitVec 64)
 | 0 => ws
 | j + 1 => (sched64 ws j).set (j + 16) (nextW64 (sched64 ws j) j)
def qdq (l : List (BitVec 8)) : List (BitVec 64) := sched64 (fill64 l 128) (80 - 16)
theorem fill_len64 (l : List (BitVec 8)) : ∀ k, (fill64 l k).length = 80
 | 0 => rfl
 | k + 1 => by rw [fill64, List.length_set, fill_len64 l k]
theorem sched_len64 (ws : List (BitVec 64)) (h : ws.length = 80) : ∀ j, (sched64 ws j).length = 80
 | 0 => h
 | j + 1 => by rw [sched64, List.length_set, sched_len64 ws h j]
theorem spread_len64 (l : List (BitVec 8)) : (qdq l).length = 80 := sched_len64 _ (fill_len64 _ _) _
theorem one64 (l : List (BitVec 64)) : (l.map b64).toArray.all (·.oneCell') = true := one_map b64 (fun _ => rfl) l
theorem size_w64 {l : List (BitVec 64)} (h : l.length = 80) : (Tryd.prog.info? 129).map (·.size) = some (l.map b64).length := by
 rw [List.length_map, h]; kernel_rfl
structure SprI64 (w : World) (ws : List (BitVec 64)) (u : World) : Prop where
 bl : Below w.heap.size w u
 R : Arr w.heap.size (z64 80) u
 A : Arr (w.heap.size + 1) (ws.map b64) u
 len : ws.length = 80
theorem SprI64.below {w u u' : World} {ws : List (BitVec 64)} (h : SprI64 w ws u) (hb : Below u.heap.size u u') : SprI64 w ws u' :=
 ⟨h.bl.trans (hb.mono h.bl.size), h.R.below hb, h.A.below hb, h.len⟩
theorem SprI64.set {w u : World} {ws : List (BitVec 64)} (h : SprI64 w ws u) {i : Nat} (hi : i < 80) (v : BitVec 64) : SprI64 w (ws.set i v) (u.setCell ⟨w.heap.size + 1, i, none⟩ (b64 v)) :=
 ⟨h.bl.setCell (p := ⟨w.heap.size + 1, i, none⟩) (by simp) _, h.R.far (by omega) _ _, by rw [← qc3]; exact h.A.set (by rw [List.length_map, h.len]; exact hi) _, by rw [List.length_set, h.len]⟩
theorem SprI64.cell {w u : World} {ws : List (BitVec 64)} (h : SprI64 w ws u) {i : Nat} (hi : i < 80) : u.cell? ⟨w.heap.size + 1, i, none⟩ = some (b64 (ws.getD i 0)) :=
 h.A.c i _ (qbv b64 0 (by rw [h.len]; exact hi))
set_option maxHeartbeats 1000000 in
theorem spread64_any (l : List (BitVec 8)) (b f n c : Nat) (w : World) (hb : b < w.heap.size) (hr : w.rangeAt b f (l.map b8)) (hl : 128 ≤ l.length) (hc : 128 ≤ c) :
  Calls Tryd.prog 95 #[.slice (some ⟨b, f, none⟩) n c] w fun e w' => e = .returned (.agg ((qdq l).map b64).toArray) ∧ Below w.heap.size w w' := by
 go_enter Tryd.func95, Tryd.ntmps95
 go_upto_region 0 with fail; refine wp_region_lit ?_
 refine qaa (qat (vs := z64 80) rfl (by kernel_rfl)) rfl ?_; (try simp only [Act.put, lyy])
 refine qab ?_
 go_upto_region 1 with fail; refine wp_region_lit ?_
 refine qaa (qat (vs := z64 80) rfl (by kernel_rfl)) rfl ?_; (try simp only [Act.put, lyy])
 refine qab ?_
 have hI : Hid (SprI64 w (fill64 l 0) ((w.alloc (.cells (z64 80).toArray 129)).alloc (.cells (z64 80).toArray 129))) := Lib.hid
  ⟨((Below.refl _ _).alloc (Nat.le_refl _) _).alloc (by simp) _, (Arr.new w _ _).below ((Below.refl _ _).alloc (Nat.le_refl _) _), Arr.at (by simp) (z64 80) _, rfl⟩
 rw [show (w.alloc (.cells (z64 80).toArray 129)).heap.size = w.heap.size + 1 by simp]
 generalize (w.alloc (.cells (z64 80).toArray 129)).alloc (.cells (z64 80).toArray 129) = u0 at *
 go_upto_region 2 with fail; refine wp_region_lit ?_
 refine qaa (qae (v := .slice (some _) _ _) rfl rfl) rfl ?_; (try simp only [Act.put, lyy])
 refine qaa (run_slh (h := 128) rfl Tryd.underlying22 (by kernel_rfl) rfl rfl hc) rfl ?_; (try simp only [Act.put, lyy])
 refine qaa (qbe rfl Tryd.underlying22 rfl) rfl ?_; (try simp only [Act.put, lyy])
 refine qaa (qae (v := .int _ _) rfl rfl) rfl ?_; (try simp only [Act.put, lyy])
 refine qab ?_
 have HR := Lib.hid hr; clear hr
 go_wp2_with fail
 go_loopw [12] (fun s u => ∃ k : Nat, k ≤ 128 ∧ s = .int .i64 (k : Int) ∧ SprI64 w (fill64 l k) u) (fun s _ => (128 - intOf s).toNat)
 case atStart => exact ⟨0, by omega, rfl, hI.out⟩
 case round =>
  obtain ⟨k, hk, rfl, hJ⟩ := hrel
  replace hI := Lib.hid hJ
  by_cases hlt : k = 128
  ·subst hlt
   clear hJ
   have hk1 : ¬ (((128 : Nat) : Int) < 128) := by omega
   go_upto_region 7 with fail
   clear hk1 hk
   generalize hF : fill64 l 128 = ws at *
   have HF := Lib.hid hF; clear hF
   go_wp2_with fail
   go_loopw [6] (fun s u => ∃ j : Nat, j ≤ 80 - 16 ∧ s = .int .i64 ((j : Int) + 16) ∧ SprI64 w (sched64 ws j) u) (fun s _ => (80 - intOf s).toNat)
   case atStart => exact ⟨0, by omega, rfl, hI.out⟩
   case round =>
    obtain ⟨j, hj, rfl, hJ⟩ := hrel
    replace hI := Lib.hid hJ
    clear hJ
    by_cases hlt : j = 80 - 16
    ·subst hlt
     have HS : Hid (sched64 ws (80 - 16) = qdq l) := Lib.hid (by rw [← HF.out]; rfl)
     rw [HS.out] at hI
     have hT := (hI.out.R.put (l' := (qdq l).map b64) (by rw [List.length_map, spread_len64]; rfl)).range
     have HL := Lib.hid (size_w64 (spread_len64 l))
     clear HS HF
     generalize hW : qdq l = W at *
     have EW := Lib.hid hW; clear hW
     go_upto_region 13 with fail
     refine wp_region_lit ?_
     refine qaa (run_ldA (vs := W.map b64) rfl Tryd.underlying129 HL.out rfl hI.out.A.range) rfl ?_; (try simp only [Act.put, lyy])
     refine qag (run_stA (vs := W.map b64) rfl HL.out rfl rfl (one64 W) (by rw [List.length_map, hI.out.len]; exact hI.out.R.there)) rfl rfl ?_
     refine qab ?_
     go_wp2_with fail
     refine bodyPost_ret (v := .agg (W.map b64).toArray) ?_ rfl ⟨by rw [EW.out], qa1 (Nat.le_refl _) _ _ hI.out.bl⟩
     exact results_arr Tryd.results95 rfl Tryd.underlying129 HL.out hT
    ·have hj1 : (j : Int) + 16 < 80 := by omega
     have c14 := fun V hV => (hI.out.below (u' := V) hV).cell (i := j + 14) (by omega)
     have c9 := fun V hV => (hI.out.below (u' := V) hV).cell (i := j + 9) (by omega)
     have c1 := fun V hV => (hI.out.below (u' := V) hV).cell (i := j + 1) (by omega)
     have c0 := fun V hV => (hI.out.below (u' := V) hV).cell (i := j) (by omega)
     have C := Lib.hid (And.intro c14 (And.intro c9 (And.intro c1 c0)))
     clear c14 c9 c1 c0
     go_upto_region 10 with fail; refine qbf 12 (by kernel_rfl) (by kernel_rfl) ?_
     refine qad _ (fun V hV => qai (qae (v := .int _ _) rfl rfl)) ?_; (try simp only [Act.put, lyy])
     refine qad _ (fun V hV => qai (run_sub rfl rfl rfl (by omega) (by omega))) ?_; (try simp only [Act.put, lyy])
     rw [show ((j : Int) + 16 - 2) = ((j + 14 : Nat) : Int) by omega]
     refine qad _ (fun V hV => qai (qbk rfl Tryd.underlying129 (by kernel_rfl) rfl rfl (by omega))) ?_; (try simp only [Act.put, lyy])
     refine qad _ (fun V hV => qai (qbu rfl rfl (C.out.1 V hV))) ?_; (try simp only [Act.put, lyy])
     refine qad _ (fun V hV => calm_still (qbx qdv rfl rfl rfl rfl rfl) (turned64_any _ 19 61 V (by omega) (by omega) (by omega) (by omega))) ?_; (try simp only [Act.put, lyy])
     refine qad _ (fun V hV => qai (qae (v := .int _ _) rfl rfl)) ?_; (try simp only [Act.put, lyy])
     refine qad _ (fun V hV => qai (run_sub rfl rfl rfl (by omega) (by omega))) ?_; (try simp only [Act.put, lyy])
     rw [show ((j : Int) + 16 - 2) = ((j + 14 : Nat) : Int) by omega]
     refine qad _ (fun V hV => qai (qbk rfl Tryd.underlying129 (by kernel_rfl) rfl rfl (by omega))) ?_; (try simp only [Act.put, lyy])
     refine qad _ (fun V hV => qai (qbu rfl rfl (C.out.1 V hV))) ?_; (try simp only [Act.put, lyy])
     refine qad _ (fun V hV => qai (run_shr64 (n := 6) rfl rfl rfl (by omega))) ?_; (try simp only [Act.put, lyy])
     refine qad _ (fun V hV => qai (qb6 rfl rfl rfl)) ?_; (try simp only [Act.put, lyy]); refine qad _ (fun V hV => qai (qaf (v := b64 _) rfl rfl)) ?_; (try simp only [Act.put, lyy])
     refine qbh ?_; intro u1 hb1; simp only [List.drop_succ_cons, List.drop_zero]
     refine qab ?_
     replace hI := Lib.hid (hI.out.below hb1)
     replace C := Lib.hid (And.intro (fun V hV => (hI.out.below (u' := V) hV).cell (i := j + 9) (by omega)) (And.intro (fun V hV => (hI.out.below (u' := V) hV).cell (i := j + 1) (by omega)) (fun V hV => (hI.out.below (u' := V) hV).cell (i := j) (by omega))))
     clear hb1
     go_upto_region 11 with fail; refine qbf 12 (by kernel_rfl) (by kernel_rfl) ?_
     refine qad _ (fun V hV => qai (qae (v := .int _ _) rfl rfl)) ?_; (try simp only [Act.put, lyy])
     refine qad _ (fun V hV => qai (run_sub rfl rfl rfl (by omega) (by omega))) ?_; (try simp only [Act.put, lyy])
     rw [show ((j : Int) + 16 - 15) = ((j + 1 : Nat) : Int) by omega]
     refine qad _ (fun V hV => qai (qbk rfl Tryd.underlying129 (by kernel_rfl) rfl rfl (by omega))) ?_; (try simp only [Act.put, lyy])
     refine qad _ (fun V hV => qai (qbu rfl rfl (C.out.2.1 V hV))) ?_; (try simp only [Act.put, lyy])
     refine qad _ (fun V hV => calm_still (qbx qdv rfl rfl rfl rfl rfl) (turned64_any _ 1 8 V (by omega) (by omega) (by omega) (by omega))) ?_; (try simp only [Act.put, lyy])
     refine qad _ (fun V hV => qai (qae (v := .int _ _) rfl rfl)) ?_; (try simp only [Act.put, lyy])
     refine qad _ (fun V hV => qai (run_sub rfl rfl rfl (by omega) (by omega))) ?_; (try simp only [Act.put, lyy])
     rw [show ((j : Int) + 16 - 15) = ((j + 1 : Nat) : Int) by omega]
     refine qad _ (fun V hV => qai (qbk rfl Tryd.underlying129 (by kernel_rfl) rfl rfl (by omega))) ?_; (try simp only [Act.put, lyy])
     refine qad _ (fun V hV => qai (qbu rfl rfl (C.out.2.1 V hV))) ?_; (try simp only [Act.put, lyy])
     refine qad _ (fun V hV => qai (run_shr64 (n := 7) rfl rfl rfl (by omega))) ?_; (try simp only [Act.put, lyy])
     refine qad _ (fun V hV => qai (qb6 rfl rfl rfl)) ?_; (try simp only [Act.put, lyy]); refine qad _ (fun V hV => qai (qaf (v := b64 _) rfl rfl)) ?_; (try simp only [Act.put, lyy])
     refine qbh ?_; intro u2 hb1; simp only [List.drop_succ_cons, List.drop_zero]
     refine qab ?_
     replace hI := Lib.hid (hI.out.below hb1)
     replace C := Lib.hid (And.intro (fun V hV => (hI.out.below (u' := V) hV).cell (i := j + 9) (by omega)) (fun V hV => (hI.out.below (u' := V) hV).cell (i := j) (by omega)))
     clear hb1
     go_upto_region 12 with fail; refine qbf 15 (by kernel_rfl) (by kernel_rfl) ?_
     refine qad _ (fun V hV => qai (qae (v := .int _ _) rfl rfl)) ?_; (try simp only [Act.put, lyy]); refine qad _ (fun V hV => qai (qae (v := b64 _) rfl rfl)) ?_; (try simp only [Act.put, lyy]); refine qad _ (fun V hV => qai (qae (v := .int _ _) rfl rfl)) ?_; (try simp only [Act.put, lyy])
     refine qad _ (fun V hV => qai (run_sub rfl rfl rfl (by omega) (by omega))) ?_; (try simp only [Act.put, lyy])
     rw [show ((j : Int) + 16 - 7) = ((j + 9 : Nat) : Int) by omega]
     refine qad _ (fun V hV => qai (qbk rfl Tryd.underlying129 (by kernel_rfl) rfl rfl (by omega))) ?_; (try simp only [Act.put, lyy])
     refine qad _ (fun V hV => qai (qbu rfl rfl (C.out.1 V hV))) ?_; (try simp only [Act.put, lyy])
     refine qad _ (fun V hV => qai (run_add64 rfl rfl rfl)) ?_; (try simp only [Act.put, lyy]); refine qad _ (fun V hV => qai (qae (v := b64 _) rfl rfl)) ?_; (try simp only [Act.put, lyy]); refine qad _ (fun V hV => qai (run_add64 rfl rfl rfl)) ?_; (try simp only [Act.put, lyy]); refine qad _ (fun V hV => qai (qae (v := .int _ _) rfl rfl)) ?_; (try simp only [Act.put, lyy])
     refine qad _ (fun V hV => qai (run_sub rfl rfl rfl (by omega) (by omega))) ?_; (try simp only [Act.put, lyy])
     rw [show ((j : Int) + 16 - 16) = ((j : Nat) : Int) by omega]
     refine qad _ (fun V hV => qai (qbk rfl Tryd.underlying129 (by kernel_rfl) rfl rfl (by omega))) ?_; (try simp only [Act.put, lyy])
     refine qad _ (fun V hV => qai (qbu rfl rfl (C.out.2 V hV))) ?_; (try simp only [Act.put, lyy])
     refine qad _ (fun V hV => qai (run_add64 rfl rfl rfl)) ?_; (try simp only [Act.put, lyy])
     rw [show ((j : Int) + 16) = ((j + 16 : Nat) : Int) by omega]
     refine qad _ (fun V hV => qai (qbk rfl Tryd.underlying129 (by kernel_rfl) rfl rfl (by omega))) ?_; (try simp only [Act.put, lyy])
     refine qbh ?_; intro u3 hb1; simp only [List.drop_succ_cons, List.drop_zero]
     replace hI := Lib.hid (hI.out.below hb1)
     clear C hb1
     refine qag (run_st64 rfl rfl rfl (hI.out.cell (i := j + 16) (by omega)) (hI.out.A.f _)) rfl rfl ?_
     refine qab ?_
     go_wp2_with fail
     exact ⟨⟨j + 1, by omega, by go_num, hI.out.set (by omega) _⟩, by simp [intOf]; omega⟩
  ·have hk1 : (k : Int) < 128 := by omega
   have hk2 : k < 128 := by omega
   have hcell : wr.cell? ⟨b, f + k, none⟩ = some (b8 (l.getD k 0)) := qb9 HR.out hb hI.out.bl k _ (qbv b8 0 (by omega))
   have hcell2 := hI.out.cell (i := k / 8) (by omega)
   have hfr := hI.out.A.f (k / 8)
   clear hJ
   go_upto_region 4 with fail; refine wp_region_lit ?_
   refine qaa (qae (v := .int _ _) rfl rfl) rfl ?_; (try simp only [Act.put, lyy])
   refine qaa (qda rfl Tryd.underlying22 (by kernel_rfl) rfl rfl hk2) rfl ?_; (try simp only [Act.put, lyy])
   refine qaa (run_ld8 rfl rfl hcell) rfl ?_; (try simp only [Act.put, lyy])
   refine qaa (qaf (v := .int _ _) rfl rfl) rfl ?_; (try simp only [Act.put, lyy]); refine qaa (qaf (v := b8 _) rfl rfl) rfl ?_; (try simp only [Act.put, lyy])
   refine qab ?_
   go_upto_region 5 with fail; refine wp_region_lit ?_
   refine qaa (qae (v := .int _ _) rfl rfl) rfl ?_; (try simp only [Act.put, lyy])
   refine qaa (run_quo rfl rfl rfl (by omega) (by omega) (by omega)) rfl ?_; (try simp only [Act.put, lyy])
   refine qaa (qae (v := .int _ _) rfl rfl) rfl ?_; (try simp only [Act.put, lyy])
   refine qaa (run_quo rfl rfl rfl (by omega) (by omega) (by omega)) rfl ?_; (try simp only [Act.put, lyy])
   rw [show ((k : Int) / 8) = ((k / 8 : Nat) : Int) by omega]
   refine qaa (qbk rfl Tryd.underlying129 (by kernel_rfl) rfl rfl (by omega)) rfl ?_; (try simp only [Act.put, lyy])
   refine qaa (qbu rfl rfl hcell2) rfl ?_; (try simp only [Act.put, lyy])
   refine qaa (run_shl64 (n := 8) rfl rfl rfl (by omega)) rfl ?_; (try simp only [Act.put, lyy])
   refine qaa (qae (v := b8 _) rfl rfl) rfl ?_; (try simp only [Act.put, lyy]); refine qaa (qce rfl rfl) rfl ?_; (try simp only [Act.put, lyy]); refine qaa (qcp rfl rfl rfl) rfl ?_; (try simp only [Act.put, lyy])
   refine qaa (qbk rfl Tryd.underlying129 (by kernel_rfl) rfl rfl (by omega)) rfl ?_; (try simp only [Act.put, lyy])
   refine qag (run_st64 rfl rfl rfl hcell2 hfr) rfl rfl ?_
   refine qab ?_
   go_wp2_with fail
   exact ⟨⟨k + 1, by omega, by go_num, hI.out.set (by omega) _⟩, by simp [intOf]; omega⟩
end Go.Proofs.YtcgbgmbnagmohaaDoor
namespace Go.Proofs.YtcgbgmbnagmohaaDoor
open Go.RowKit
set_option maxRecDepth 20000
def S164 (x : BitVec 64) : BitVec 64 := ror64 x 14 ^^^ ror64 x 18 ^^^ ror64 x 41
def S064 (x : BitVec 64) : BitVec 64 := ror64 x 28 ^^^ ror64 x 34 ^^^ ror64 x 39
structure E64 where
 a : BitVec 64
 b : BitVec 64
 c : BitVec 64
 d : BitVec 64
 e : BitVec 64
 f : BitVec 64
 g : BitVec 64
 h : BitVec 64
def E64.list (s : E64) : List (BitVec 64) := [s.a, s.b, s.c, s.d, s.e, s.f, s.g, s.h]
def E64.of (l : List (BitVec 64)) : E64 := ⟨l.getD 0 0, l.getD 1 0, l.getD 2 0, l.getD 3 0, l.getD 4 0, l.getD 5 0, l.getD 6 0, l.getD 7 0⟩
def kt64 (t : Nat) : BitVec 64 := rtab.getD t 0
def tW64 (s : E64) (k x : BitVec 64) : BitVec 64 := s.h + S164 s.e + (s.e &&& s.f ^^^ ~~~s.e &&& s.g) + k + x
def uW64 (s : E64) : BitVec 64 := S064 s.a + (s.a &&& s.b ^^^ s.a &&& s.c ^^^ s.b &&& s.c)
def rnd64 (s : E64) (k x : BitVec 64) : E64 := ⟨tW64 s k x + uW64 s, s.a, s.b, s.c, s.d + tW64 s k x, s.e, s.f, s.g⟩
def mixN64 (ws : List (BitVec 64)) (s : E64) : Nat → E64
 | 0 => s
 | t + 1 => rnd64 (mixN64 ws s t) (kt64 t) (ws.getD t 0)
def addT64 (st xs : List (BitVec 64)) : Nat → List (BitVec 64)
 | 0 => st
 | i + 1 => (addT64 st xs i).set i ((addT64 st xs i).getD i 0 + xs.getD i 0)
def mix64 (st ws : List (BitVec 64)) : List (BitVec 64) := addT64 st (mixN64 ws (E64.of st) 80).list 8
theorem addT_len64 (st xs : List (BitVec 64)) : ∀ i, (addT64 st xs i).length = st.length
 | 0 => rfl
 | i + 1 => by rw [addT64, List.length_set, addT_len64 st xs i]
theorem mix_len64 (st ws : List (BitVec 64)) : (mix64 st ws).length = st.length := addT_len64 _ _ _
theorem size_s64 {l : List (BitVec 64)} (h : l.length = 8) : (Tryd.prog.info? 83).map (·.size) = some (l.map b64).length := by
 rw [List.length_map, h]; kernel_rfl
theorem run_bld64 {w : World} {ρ : Operand → Value} {o : Oper} {x0 x1 x2 x3 x4 x5 x6 x7 : Operand} {a b c d e f g h : BitVec 64} (ho : o.op = .build 83 #[(0, x0), (1, x1), (2, x2), (3, x3), (4, x4), (5, x5), (6, x6), (7, x7)])
  (h0 : ρ x0 = b64 a) (h1 : ρ x1 = b64 b) (h2 : ρ x2 = b64 c) (h3 : ρ x3 = b64 d) (h4 : ρ x4 = b64 e) (h5 : ρ x5 = b64 f) (h6 : ρ x6 = b64 g) (h7 : ρ x7 = b64 h) : (execOp ρ o).run Tryd.prog w = .ok (.value (.agg ((E64.mk a b c d e f g h).list.map b64).toArray)) w := by
 obtain ⟨dst, op, type, pos, after, guard⟩ := o
 subst ho
 unfold b64 at *
 unfold E64.list
 go_simp
structure MixI64 (w : World) (st : List (BitVec 64)) (u : World) : Prop where
 bl : Below w.heap.size w u
 A : Arr w.heap.size (st.map b64) u
 R : Arr (w.heap.size + 1 + 1) (z64 8) u
 len : st.length = 8
theorem MixI64.below {w u u' : World} {st : List (BitVec 64)} (h : MixI64 w st u) (hb : Below u.heap.size u u') : MixI64 w st u' :=
 ⟨h.bl.trans (hb.mono h.bl.size), h.A.below hb, h.R.below hb, h.len⟩
theorem MixI64.cell {w u : World} {st : List (BitVec 64)} (h : MixI64 w st u) {i : Nat} (hi : i < 8) : u.cell? ⟨w.heap.size, i, none⟩ = some (b64 (st.getD i 0)) :=
 h.A.c i _ (qbv b64 0 (by rw [h.len]; exact hi))
theorem MixI64.set {w u : World} {st : List (BitVec 64)} (h : MixI64 w st u) {i : Nat} (hi : i < 8) (v : BitVec 64) : MixI64 w (st.set i v) (u.setCell ⟨w.heap.size, i, none⟩ (b64 v)) :=
 ⟨h.bl.setCell (p := ⟨w.heap.size, i, none⟩) (Nat.le_refl _) _, by rw [← qc3]; exact h.A.set (by rw [List.length_map, h.len]; exact hi) _, h.R.far (by omega) _ _, by rw [List.length_set, h.len]⟩
set_option maxRecDepth 100000 in
set_option maxHeartbeats 2000000 in
theorem mix64_any (st ws : List (BitVec 64)) (w : World) (hst : st.length = 8) (hws : ws.length = 80) (hT : Tabs w) :
  Calls Tryd.prog 94 #[.agg (st.map b64).toArray, .agg (ws.map b64).toArray] w fun e w' => e = .returned (.agg ((mix64 st ws).map b64).toArray) ∧ Below w.heap.size w w' := by
 go_enter Tryd.func94, Tryd.ntmps94
 go_upto_region 0 with fail; refine wp_region_lit ?_
 refine qaa (run_box rfl rfl) rfl ?_; (try simp only [Act.put, lyy])
 refine qaa (run_box rfl rfl) rfl ?_; (try simp only [Act.put, lyy])
 refine qaa (qat (vs := z64 8) rfl (by kernel_rfl)) rfl ?_; (try simp only [Act.put, lyy])
 refine qab ?_
 have b1 : Below w.heap.size w (w.alloc (.cells (st.map b64).toArray 83)) := (Below.refl _ _).alloc (Nat.le_refl _) _
 have b2 : Below w.heap.size w ((w.alloc (.cells (st.map b64).toArray 83)).alloc (.cells (ws.map b64).toArray 129)) := b1.alloc (by simp) _
 have A1 := ((Arr.new w (st.map b64) 83).below ((Below.refl _ _).alloc (Nat.le_refl _) (.cells (ws.map b64).toArray 129))).below ((Below.refl _ _).alloc (Nat.le_refl _) (.cells (z64 8).toArray 83))
 have A2 := (Arr.at (w := w.alloc (.cells (st.map b64).toArray 83)) (n := w.heap.size + 1) (by simp) (ws.map b64) 129).below ((Below.refl _ _).alloc (Nat.le_refl _) (.cells (z64 8).toArray 83))
 have A3 := Arr.at (w := (w.alloc (.cells (st.map b64).toArray 83)).alloc (.cells (ws.map b64).toArray 129)) (n := w.heap.size + 1 + 1) (by simp) (z64 8) 83
 have hI : Hid (MixI64 w st (((w.alloc (.cells (st.map b64).toArray 83)).alloc (.cells (ws.map b64).toArray 129)).alloc (.cells (z64 8).toArray 83))) := Lib.hid ⟨b2.alloc (by simp; omega) _, A1, A3, hst⟩
 rw [show ((w.alloc (.cells (st.map b64).toArray 83)).alloc (.cells (ws.map b64).toArray 129)).heap.size = w.heap.size + 1 + 1 by simp, show (w.alloc (.cells (st.map b64).toArray 83)).heap.size = w.heap.size + 1 by simp]
 have HA := Lib.hid A2
 clear A1 A2 A3 b1 b2
 generalize ((w.alloc (.cells (st.map b64).toArray 83)).alloc (.cells (ws.map b64).toArray 129)).alloc (.cells (z64 8).toArray 83) = u0 at *
 have HT := Lib.hid hT; clear hT
 go_upto_region 1 with fail; refine qbf 24 (by kernel_rfl) (by kernel_rfl) ?_
 refine qad _ (fun V hV => qai (qbk (i := 0) rfl Tryd.underlying83 (by kernel_rfl) rfl rfl (by omega))) ?_; (try simp only [Act.put, lyy])
 refine qad _ (fun V hV => qai (qbu rfl rfl ((hI.out.below hV).cell (i := 0) (by omega)))) ?_; (try simp only [Act.put, lyy])
 refine qad _ (fun V hV => qai (qbk (i := 1) rfl Tryd.underlying83 (by kernel_rfl) rfl rfl (by omega))) ?_; (try simp only [Act.put, lyy])
 refine qad _ (fun V hV => qai (qbu rfl rfl ((hI.out.below hV).cell (i := 1) (by omega)))) ?_; (try simp only [Act.put, lyy])
 refine qad _ (fun V hV => qai (qbk (i := 2) rfl Tryd.underlying83 (by kernel_rfl) rfl rfl (by omega))) ?_; (try simp only [Act.put, lyy])
 refine qad _ (fun V hV => qai (qbu rfl rfl ((hI.out.below hV).cell (i := 2) (by omega)))) ?_; (try simp only [Act.put, lyy])
 refine qad _ (fun V hV => qai (qbk (i := 3) rfl Tryd.underlying83 (by kernel_rfl) rfl rfl (by omega))) ?_; (try simp only [Act.put, lyy])
 refine qad _ (fun V hV => qai (qbu rfl rfl ((hI.out.below hV).cell (i := 3) (by omega)))) ?_; (try simp only [Act.put, lyy])
 refine qad _ (fun V hV => qai (qbk (i := 4) rfl Tryd.underlying83 (by kernel_rfl) rfl rfl (by omega))) ?_; (try simp only [Act.put, lyy])
 refine qad _ (fun V hV => qai (qbu rfl rfl ((hI.out.below hV).cell (i := 4) (by omega)))) ?_; (try simp only [Act.put, lyy])
 refine qad _ (fun V hV => qai (qbk (i := 5) rfl Tryd.underlying83 (by kernel_rfl) rfl rfl (by omega))) ?_; (try simp only [Act.put, lyy])
 refine qad _ (fun V hV => qai (qbu rfl rfl ((hI.out.below hV).cell (i := 5) (by omega)))) ?_; (try simp only [Act.put, lyy])
 refine qad _ (fun V hV => qai (qbk (i := 6) rfl Tryd.underlying83 (by kernel_rfl) rfl rfl (by omega))) ?_; (try simp only [Act.put, lyy])
 refine qad _ (fun V hV => qai (qbu rfl rfl ((hI.out.below hV).cell (i := 6) (by omega)))) ?_; (try simp only [Act.put, lyy])
 refine qad _ (fun V hV => qai (qbk (i := 7) rfl Tryd.underlying83 (by kernel_rfl) rfl rfl (by omega))) ?_; (try simp only [Act.put, lyy])
 refine qad _ (fun V hV => qai (qbu rfl rfl ((hI.out.below hV).cell (i := 7) (by omega)))) ?_; (try simp only [Act.put, lyy])
 refine qad _ (fun V hV => qai (qaf (v := b64 _) rfl rfl)) ?_; (try simp only [Act.put, lyy]); refine qad _ (fun V hV => qai (qaf (v := b64 _) rfl rfl)) ?_; (try simp only [Act.put, lyy]); refine qad _ (fun V hV => qai (qaf (v := b64 _) rfl rfl)) ?_; (try simp only [Act.put, lyy]); refine qad _ (fun V hV => qai (qaf (v := b64 _) rfl rfl)) ?_; (try simp only [Act.put, lyy]); refine qad _ (fun V hV => qai (qaf (v := b64 _) rfl rfl)) ?_; (try simp only [Act.put, lyy]); refine qad _ (fun V hV => qai (qaf (v := b64 _) rfl rfl)) ?_; (try simp only [Act.put, lyy]); refine qad _ (fun V hV => qai (qaf (v := b64 _) rfl rfl)) ?_; (try simp only [Act.put, lyy]); refine qad _ (fun V hV => qai (qaf (v := b64 _) rfl rfl)) ?_; (try simp only [Act.put, lyy])
 refine qbh ?_; intro u1 hb1; simp only [List.drop_succ_cons, List.drop_zero]
 refine qab ?_
 replace hI := Lib.hid (hI.out.below hb1)
 replace HA := Lib.hid (HA.out.below hb1)
 clear hb1
 go_upto_region 2 with fail; refine wp_region_lit ?_
 refine qaa (run_ldA (vs := ws.map b64) rfl Tryd.underlying129 (size_w64 hws) rfl HA.out.range) rfl ?_; (try simp only [Act.put, lyy])
 refine qaa (qae (v := .int _ _) rfl rfl) rfl ?_; (try simp only [Act.put, lyy])
 refine qab ?_
 clear HA
 go_wp2_with fail
 go_loopw [5, 6, 7, 8, 9, 10, 11, 12, 38] (fun va vb vc vd ve vf vg vh vi u => ∃ (t : Nat) (s : E64), t ≤ 80 ∧ mixN64 ws (E64.of st) t = s ∧ va = b64 s.a ∧ vb = b64 s.b ∧ vc = b64 s.c ∧ vd = b64 s.d ∧ ve = b64 s.e ∧ vf = b64 s.f ∧ vg = b64 s.g ∧ vh = b64 s.h ∧ vi = .int .i64 (t : Int) ∧ MixI64 w st u) (fun _ _ _ _ _ _ _ _ vi _ => (80 - intOf vi).toNat)
 case atStart => exact ⟨0, _, by omega, rfl, rfl, rfl, rfl, rfl, rfl, rfl, rfl, rfl, rfl, hI.out⟩
 case round =>
  obtain ⟨t, s, ht, hs, rfl, rfl, rfl, rfl, rfl, rfl, rfl, rfl, rfl, hJ⟩ := hrel
  replace hI := Lib.hid hJ
  have HS := Lib.hid hs
  clear hJ hs
  by_cases hlt : t = 80
  ·subst hlt
   have hk1 : ¬ (((80 : Nat) : Int) < 80) := by omega
   go_upto_region 11 with fail; refine wp_region_lit ?_
   refine qaa (qae (v := b64 _) rfl rfl) rfl ?_; (try simp only [Act.put, lyy]); refine qaa (qae (v := b64 _) rfl rfl) rfl ?_; (try simp only [Act.put, lyy]); refine qaa (qae (v := b64 _) rfl rfl) rfl ?_; (try simp only [Act.put, lyy]); refine qaa (qae (v := b64 _) rfl rfl) rfl ?_; (try simp only [Act.put, lyy]); refine qaa (qae (v := b64 _) rfl rfl) rfl ?_; (try simp only [Act.put, lyy]); refine qaa (qae (v := b64 _) rfl rfl) rfl ?_; (try simp only [Act.put, lyy]); refine qaa (qae (v := b64 _) rfl rfl) rfl ?_; (try simp only [Act.put, lyy]); refine qaa (qae (v := b64 _) rfl rfl) rfl ?_; (try simp only [Act.put, lyy])
   refine qaa (run_bld64 rfl rfl rfl rfl rfl rfl rfl rfl rfl) rfl ?_; (try simp only [Act.put, lyy])
   refine qaa (qae (v := .int _ _) rfl rfl) rfl ?_; (try simp only [Act.put, lyy])
   refine qab ?_
   clear hk1 ht
   have HX : Hid (addT64 st s.list 8 = mix64 st ws) := Lib.hid (by rw [← HS.out]; rfl)
   clear HS
   rw [show (E64.mk s.a s.b s.c s.d s.e s.f s.g s.h).list = s.list from rfl]
   have hxs : s.list.length = 8 := rfl
   generalize s.list = xs at *
   have HXS := Lib.hid hxs; clear hxs
   go_wp2_with fail
   go_loopw [105] (fun vi u => ∃ i : Nat, i ≤ 8 ∧ vi = .int .i64 (i : Int) ∧ MixI64 w (addT64 st xs i) u) (fun vi _ => (8 - intOf vi).toNat)
   case atStart => exact ⟨0, by omega, rfl, hI.out⟩
   case round =>
    obtain ⟨i, hi, rfl, hJ⟩ := hrel
    replace hI := Lib.hid hJ
    clear hJ
    by_cases hlt : i = 8
    ·subst hlt
     have hk1 : ¬ (((8 : Nat) : Int) < 8) := by omega
     rw [HX.out] at hI
     have hlen := hI.out.len
     have hT := (hI.out.R.put (l' := (mix64 st ws).map b64) (by rw [List.length_map, hlen]; rfl)).range
     have HL := Lib.hid (size_s64 hlen)
     clear HX
     generalize hW : mix64 st ws = W at *
     have EW := Lib.hid hW; clear hW
     go_upto_region 16 with fail; refine wp_region_lit ?_
     refine qaa (run_ldA (vs := W.map b64) rfl Tryd.underlying83 HL.out rfl hI.out.A.range) rfl ?_; (try simp only [Act.put, lyy])
     refine qag (run_stA (vs := W.map b64) rfl HL.out rfl rfl (one64 W) (by rw [List.length_map, hlen]; exact hI.out.R.there)) rfl rfl ?_
     refine qab ?_
     go_wp2_with fail
     refine bodyPost_ret (v := .agg (W.map b64).toArray) ?_ rfl ⟨by rw [EW.out], qa1 (by omega) _ _ hI.out.bl⟩
     exact results_arr Tryd.results94 rfl Tryd.underlying83 HL.out hT
    ·have hk1 : (i : Int) < 8 := by omega
     have hk2 : i < 8 := by omega
     go_upto_region 13 with fail; refine wp_region_lit ?_
     refine qaa (qae (v := .int _ _) rfl rfl) rfl ?_; (try simp only [Act.put, lyy])
     refine qaa (run_ixv (vs := xs.map b64) rfl Tryd.underlying83 (by kernel_rfl) (Tryd.isAgg64 _) rfl rfl hk2 (qbv b64 0 (by rw [HXS.out]; exact hk2))) rfl ?_; (try simp only [Act.put, lyy])
     refine qaa (qaf (v := .int _ _) rfl rfl) rfl ?_; (try simp only [Act.put, lyy]); refine qaa (qaf (v := b64 _) rfl rfl) rfl ?_; (try simp only [Act.put, lyy])
     refine qab ?_
     go_upto_region 14 with fail; refine wp_region_lit ?_
     refine qaa (qae (v := .int _ _) rfl rfl) rfl ?_; (try simp only [Act.put, lyy])
     refine qaa (qbk rfl Tryd.underlying83 (by kernel_rfl) rfl rfl hk2) rfl ?_; (try simp only [Act.put, lyy])
     refine qaa (qbu rfl rfl (hI.out.cell hk2)) rfl ?_; (try simp only [Act.put, lyy])
     refine qaa (qae (v := b64 _) rfl rfl) rfl ?_; (try simp only [Act.put, lyy]); refine qaa (run_add64 rfl rfl rfl) rfl ?_; (try simp only [Act.put, lyy])
     refine qaa (qbk rfl Tryd.underlying83 (by kernel_rfl) rfl rfl hk2) rfl ?_; (try simp only [Act.put, lyy])
     refine qag (run_st64 rfl rfl rfl (hI.out.cell hk2) (hI.out.A.f _)) rfl rfl ?_
     refine qab ?_
     go_wp2_with fail
     go_roundw
     case rel => exact ⟨i + 1, by omega, by go_num, hI.out.set hk2 _⟩
     case measure => simp [intOf]; omega
  ·have hk1 : (t : Int) < 80 := by omega
   have hk2 : t < 80 := by omega
   go_upto_region 4 with fail; refine wp_region_lit ?_
   refine qaa (qae (v := .int _ _) rfl rfl) rfl ?_; (try simp only [Act.put, lyy])
   refine qaa (run_ixv (vs := ws.map b64) rfl Tryd.underlying129 (by kernel_rfl) (Tryd.isAgg64 _) rfl rfl hk2 (qbv b64 0 (by rw [hws]; exact hk2))) rfl ?_; (try simp only [Act.put, lyy])
   refine qaa (qaf (v := .int _ _) rfl rfl) rfl ?_; (try simp only [Act.put, lyy]); refine qaa (qaf (v := b64 _) rfl rfl) rfl ?_; (try simp only [Act.put, lyy])
   refine qab ?_
   go_upto_region 5 with fail; refine wp_region_lit ?_
   refine qaa (qae (v := b64 _) rfl rfl) rfl ?_; (try simp only [Act.put, lyy])
   refine qdk (qbx qdv rfl rfl rfl rfl rfl) rfl (turned64_any _ 14 18 _ (by omega) (by omega) (by omega) (by omega)) ?_; (try simp only [Act.put, lyy])
   refine qaa (qae (v := b64 _) rfl rfl) rfl ?_; (try simp only [Act.put, lyy])
   refine qdk (qao enters_rot64 rfl rfl rfl rfl) rfl (rot64_any _ 41 _ (by omega) (by omega)) ?_; (try simp only [Act.put, lyy])
   refine qaa (qb6 rfl rfl rfl) rfl ?_; (try simp only [Act.put, lyy]); refine qaa (qaf (v := b64 _) rfl rfl) rfl ?_; (try simp only [Act.put, lyy])
   refine qab ?_
   go_upto_region 6 with fail; refine wp_region_lit ?_
   refine qaa (qae (v := b64 _) rfl rfl) rfl ?_; (try simp only [Act.put, lyy]); refine qaa (qae (v := b64 _) rfl rfl) rfl ?_; (try simp only [Act.put, lyy]); refine qaa (run_add64 rfl rfl rfl) rfl ?_; (try simp only [Act.put, lyy]); refine qaa (qae (v := b64 _) rfl rfl) rfl ?_; (try simp only [Act.put, lyy]); refine qaa (qae (v := b64 _) rfl rfl) rfl ?_; (try simp only [Act.put, lyy]); refine qaa (qb2 rfl rfl rfl) rfl ?_; (try simp only [Act.put, lyy]); refine qaa (qae (v := b64 _) rfl rfl) rfl ?_; (try simp only [Act.put, lyy]); refine qaa (qcs rfl rfl) rfl ?_; (try simp only [Act.put, lyy]); refine qaa (qae (v := b64 _) rfl rfl) rfl ?_; (try simp only [Act.put, lyy]); refine qaa (qb2 rfl rfl rfl) rfl ?_; (try simp only [Act.put, lyy]); refine qaa (qb6 rfl rfl rfl) rfl ?_; (try simp only [Act.put, lyy]); refine qaa (run_add64 rfl rfl rfl) rfl ?_; (try simp only [Act.put, lyy]); refine qaa (qae (v := .int _ _) rfl rfl) rfl ?_; (try simp only [Act.put, lyy])
   refine qaa (qbk (g := 8) rfl Tryd.underlying129 (by kernel_rfl) rfl rfl (by omega)) rfl ?_; (try simp only [Act.put, lyy])
   refine qaa (qbu rfl rfl ((HT.out.below hI.out.bl).rc (by omega))) rfl ?_; (try simp only [Act.put, lyy])
   refine qaa (run_add64 rfl rfl rfl) rfl ?_; (try simp only [Act.put, lyy]); refine qaa (qae (v := b64 _) rfl rfl) rfl ?_; (try simp only [Act.put, lyy]); refine qaa (run_add64 rfl rfl rfl) rfl ?_; (try simp only [Act.put, lyy]); refine qaa (qaf (v := b64 _) rfl rfl) rfl ?_; (try simp only [Act.put, lyy])
   refine qab ?_
   go_upto_region 7 with fail; refine wp_region_lit ?_
   refine qaa (qae (v := b64 _) rfl rfl) rfl ?_; (try simp only [Act.put, lyy])
   refine qdk (qbx qdv rfl rfl rfl rfl rfl) rfl (turned64_any _ 28 34 _ (by omega) (by omega) (by omega) (by omega)) ?_; (try simp only [Act.put, lyy])
   refine qaa (qae (v := b64 _) rfl rfl) rfl ?_; (try simp only [Act.put, lyy])
   refine qdk (qao enters_rot64 rfl rfl rfl rfl) rfl (rot64_any _ 39 _ (by omega) (by omega)) ?_; (try simp only [Act.put, lyy])
   refine qaa (qb6 rfl rfl rfl) rfl ?_; (try simp only [Act.put, lyy]); refine qaa (qaf (v := b64 _) rfl rfl) rfl ?_; (try simp only [Act.put, lyy])
   refine qab ?_
   go_upto_region 8 with fail; refine wp_region_lit ?_
   refine qaa (qae (v := b64 _) rfl rfl) rfl ?_; (try simp only [Act.put, lyy]); refine qaa (qae (v := b64 _) rfl rfl) rfl ?_; (try simp only [Act.put, lyy]); refine qaa (qae (v := b64 _) rfl rfl) rfl ?_; (try simp only [Act.put, lyy]); refine qaa (qb2 rfl rfl rfl) rfl ?_; (try simp only [Act.put, lyy]); refine qaa (qae (v := b64 _) rfl rfl) rfl ?_; (try simp only [Act.put, lyy]); refine qaa (qae (v := b64 _) rfl rfl) rfl ?_; (try simp only [Act.put, lyy]); refine qaa (qb2 rfl rfl rfl) rfl ?_; (try simp only [Act.put, lyy]); refine qaa (qb6 rfl rfl rfl) rfl ?_; (try simp only [Act.put, lyy]); refine qaa (qae (v := b64 _) rfl rfl) rfl ?_; (try simp only [Act.put, lyy]); refine qaa (qae (v := b64 _) rfl rfl) rfl ?_; (try simp only [Act.put, lyy]); refine qaa (qb2 rfl rfl rfl) rfl ?_; (try simp only [Act.put, lyy]); refine qaa (qb6 rfl rfl rfl) rfl ?_; (try simp only [Act.put, lyy]); refine qaa (run_add64 rfl rfl rfl) rfl ?_; (try simp only [Act.put, lyy]); refine qaa (qaf (v := b64 _) rfl rfl) rfl ?_; (try simp only [Act.put, lyy])
   refine qab ?_
   go_upto_region 9 with fail; refine wp_region_lit ?_
   (repeat ((first | refine qaa (qae (v := b32 _) rfl rfl) rfl ?_ | refine qaa (qae (v := b64 _) rfl rfl) rfl ?_ | refine qaa (qae (v := b8 _) rfl rfl) rfl ?_ | refine qaa (qae (v := .int _ _) rfl rfl) rfl ?_ | refine qaa (qae (v := .bool _) rfl rfl) rfl ?_ | refine qaa (qae (v := .slice (some _) _ _) rfl rfl) rfl ?_ | refine qaa (qae (v := .slice _ _ _) rfl rfl) rfl ?_ | refine qaa (qae (v := .pointer (some _)) rfl rfl) rfl ?_ | refine qaa (qae (v := .agg _) rfl rfl) rfl ?_ | refine qaa (qaf (v := b32 _) rfl rfl) rfl ?_ | refine qaa (qaf (v := b64 _) rfl rfl) rfl ?_ | refine qaa (qaf (v := b8 _) rfl rfl) rfl ?_ | refine qaa (qaf (v := .int _ _) rfl rfl) rfl ?_ | refine qaa (qaf (v := .bool _) rfl rfl) rfl ?_ | refine qaa (qaf (v := .slice (some _) _ _) rfl rfl) rfl ?_ | refine qaa (qaf (v := .slice _ _ _) rfl rfl) rfl ?_ | refine qaa (qaf (v := .pointer (some _)) rfl rfl) rfl ?_ | refine qaa (qaf (v := .agg _) rfl rfl) rfl ?_ | refine qaa (qae rfl rfl) rfl ?_ | refine qaa (qaf rfl rfl) rfl ?_ | refine qaa (qcy rfl rfl rfl) rfl ?_ | refine qaa (qc0 rfl rfl rfl) rfl ?_ | refine qaa (qde rfl rfl rfl) rfl ?_ | refine qaa (qc1 rfl rfl rfl) rfl ?_ | refine qaa (qcz rfl rfl) rfl ?_ | refine qaa (qb6 rfl rfl rfl) rfl ?_ | refine qaa (qb2 rfl rfl rfl) rfl ?_ | refine qaa (qcp rfl rfl rfl) rfl ?_ | refine qaa (run_add64 rfl rfl rfl) rfl ?_ | refine qaa (qcs rfl rfl) rfl ?_ | refine qaa (qdd rfl rfl rfl) rfl ?_ | refine qaa (qcw rfl rfl rfl) rfl ?_ | refine qaa (qdj rfl rfl rfl) rfl ?_ | refine qaa (qdi rfl rfl rfl) rfl ?_ | refine qaa (qdg rfl rfl) rfl ?_ | refine qaa (qch rfl rfl) rfl ?_ | refine qaa (qcm rfl rfl) rfl ?_ | refine qaa (qce rfl rfl) rfl ?_ | refine qaa (qcn rfl rfl) rfl ?_ | refine qaa (qcf rfl rfl) rfl ?_); (try simp only [Act.put, lyy])))
   refine qab ?_
   go_wp2_with fail
   go_roundw
   case rel => exact ⟨t + 1, rnd64 s (kt64 t) (ws.getD t 0), by omega, by rw [mixN64, HS.out], rfl, rfl, rfl, rfl, rfl, rfl, rfl, rfl, by go_num, hI.out⟩
   case measure => simp [intOf]; omega
end Go.Proofs.YtcgbgmbnagmohaaDoor
namespace Go.Proofs.YtcgbgmbnagmohaaDoor
open Go.RowKit
set_option maxRecDepth 20000
def putR : List (BitVec 8) → Nat → Nat → List (BitVec 8)
 | l, 0, _ => l
 | l, k + 1, n => if n = 0 then l else putR (l.set k (BitVec.ofNat 8 n)) k (n / 256)
def putB (l : List (BitVec 8)) (n : Nat) : List (BitVec 8) := putR (l.set (l.length - 1) (BitVec.ofNat 8 (n * 8))) (l.length - 1) (n / 32)
theorem putR_zero (l : List (BitVec 8)) : ∀ k, putR l k 0 = l
 | 0 => rfl
 | k + 1 => by rw [putR, if_pos rfl]
theorem putR_step {l : List (BitVec 8)} {k n : Nat} (h : 0 < n) : putR l (k + 1) n = putR (l.set k (BitVec.ofNat 8 n)) k (n / 256) := by
 rw [putR, if_neg (by omega)]
theorem putR_len : ∀ (k : Nat) (l : List (BitVec 8)) (n : Nat), (putR l k n).length = l.length
 | 0, _, _ => rfl
 | k + 1, l, n => by
  rw [putR]; split
  ·rfl
  ·rw [putR_len k, List.length_set]
theorem putB_len (l : List (BitVec 8)) (n : Nat) : (putB l n).length = l.length := by unfold putB; rw [putR_len, List.length_set]
section
variable {w : World} {ρ : Operand → Value} {o : Oper} {t t' : TypeId} {x y : Operand}
theorem run_shli {n k : Nat} (ho : o.op = .binOp .shl t x y t') (hx : ρ x = .int .i64 (n : Int)) (hy : ρ y = .int .u64 (k : Int)) (hk : k ≤ 64) (hn : n * 2 ^ k < 9223372036854775808) : (execOp ρ o).run Tryd.prog w = .ok (.value (.int .i64 ((n * 2 ^ k : Nat) : Int))) w := by
 obtain ⟨dst, op, type, pos, after, guard⟩ := o
 subst ho
 have e : IntKind.i64.wrap ((n : Int) * 2 ^ k) = ((n * 2 ^ k : Nat) : Int) := by
  rw [show ((n : Int) * 2 ^ k) = ((n * 2 ^ k : Nat) : Int) by simp]; exact i64_fit (by omega) (by omega)
 generalize n * 2 ^ k = z at *
 have hk0 : (0 : Int) ≤ (k : Int) := by omega
 go_simp
 try exact e
end
structure PutI (w : World) (g m : Nat) (l : List (BitVec 8)) (u : World) : Prop where
 bl : Below g w u
 A : Arr g (l.map b8) u
 len : l.length = m
theorem PutI.cell {w u : World} {g m : Nat} {l : List (BitVec 8)} (h : PutI w g m l u) {i : Nat} (hi : i < m) : u.cell? ⟨g, i, none⟩ = some (b8 (l.getD i 0)) :=
 h.A.c i _ (qbv b8 0 (by rw [h.len]; exact hi))
theorem PutI.set {w u : World} {g m : Nat} {l : List (BitVec 8)} (h : PutI w g m l u) {i : Nat} (hi : i < m) (v : BitVec 8) : PutI w g m (l.set i v) (u.setCell ⟨g, i, none⟩ (b8 v)) :=
 ⟨h.bl.setCell (p := ⟨g, i, none⟩) (Nat.le_refl _) _, by rw [← qc3]; exact h.A.set (by rw [List.length_map, h.len]; exact hi) _, by rw [List.length_set, h.len]⟩
set_option maxHeartbeats 1000000 in
theorem put_any (g n c : Nat) (l : List (BitVec 8)) (w : World) (hA : Arr g (l.map b8) w) (hl : 8 ≤ l.length) (hl2 : l.length ≤ 16777216) (hn : n < 1152921504606846976) :
  Calls Tryd.prog 96 #[.slice (some ⟨g, 0, none⟩) l.length c, .int .i64 (n : Int)] w fun e w' => ∃ v, e = .returned v ∧ (Arr g ((putB l n).map b8) w' ∧ Below g w w') := by
 have hI : Hid (PutI w g l.length l w) := Lib.hid ⟨Below.refl _ _, hA, rfl⟩
 clear hA
 go_enter Tryd.func96, Tryd.ntmps96
 go_upto_region 0 with fail; refine wp_region_lit ?_
 refine qaa (qae (v := .slice (some _) _ _) rfl rfl) rfl ?_; (try simp only [Act.put, lyy])
 refine qaa (qbe rfl Tryd.underlying22 rfl) rfl ?_; (try simp only [Act.put, lyy])
 refine qaa (run_sub rfl rfl rfl (by omega) (by omega)) rfl ?_; (try simp only [Act.put, lyy])
 rw [show ((l.length : Int) - 1) = ((l.length - 1 : Nat) : Int) by omega]
 refine qaa (qaf (v := .int _ _) rfl rfl) rfl ?_; (try simp only [Act.put, lyy])
 refine qab ?_
 go_upto_region 1 with fail; refine wp_region_lit ?_
 refine qaa (qae (v := .slice (some _) _ _) rfl rfl) rfl ?_; (try simp only [Act.put, lyy]); refine qaa (qae (v := .int _ _) rfl rfl) rfl ?_; (try simp only [Act.put, lyy]); refine qaa (qae (v := .int _ _) rfl rfl) rfl ?_; (try simp only [Act.put, lyy])
 refine qaa (run_shli (k := 3) rfl rfl rfl (by omega) (by omega)) rfl ?_; (try simp only [Act.put, lyy])
 refine qaa (run_cvi_8 rfl rfl) rfl ?_; (try simp only [Act.put, lyy])
 refine qaa (qda rfl Tryd.underlying22 (by kernel_rfl) rfl rfl (by omega)) rfl ?_; (try simp only [Act.put, lyy])
 rw [Nat.zero_add]
 refine qag (run_st8 rfl rfl rfl (hI.out.cell (i := l.length - 1) (by omega)) (hI.out.A.f _)) rfl rfl ?_
 refine qab ?_
 replace hI := Lib.hid (hI.out.set (i := l.length - 1) (by omega) (BitVec.ofNat 8 (n * 2 ^ 3)))
 have HB : Hid (putR (l.set (l.length - 1) (BitVec.ofNat 8 (n * 2 ^ 3))) (l.length - 1) (n / 2 ^ 5) = putB l n) := Lib.hid rfl
 generalize w.setCell ⟨g, l.length - 1, none⟩ (b8 (BitVec.ofNat 8 (n * 2 ^ 3))) = u0 at *
 generalize l.set (l.length - 1) (BitVec.ofNat 8 (n * 2 ^ 3)) = l0 at *
 generalize n * 2 ^ 3 = z at *
 go_upto_region 2 with fail; refine wp_region_lit ?_
 refine qaa (qae (v := .int _ _) rfl rfl) rfl ?_; (try simp only [Act.put, lyy])
 refine qaa (run_shri (k := 5) rfl rfl rfl (by omega)) rfl ?_; (try simp only [Act.put, lyy])
 refine qaa (qaf (v := .int _ _) rfl rfl) rfl ?_; (try simp only [Act.put, lyy])
 refine qab ?_
 have hlt : n / 2 ^ 5 < 256 ^ 7 := by omega
 generalize n / 2 ^ 5 = n0 at *
 go_wp2_with fail
 go_loopw [1, 4] (fun v1 v4 u => ∃ (N L m : Nat) (l' : List (BitVec 8)), v1 = .int .i64 (N : Int) ∧ v4 = .int .i64 (L : Int) ∧ N < 256 ^ m ∧ m ≤ L ∧ L < l.length ∧ putR l' L N = putB l n ∧ PutI w g l.length l' u) (fun v1 _ _ => (intOf v1).toNat)
 case atStart => exact ⟨n0, l.length - 1, 7, l0, rfl, rfl, hlt, by omega, by omega, HB.out, hI.out⟩
 case round =>
  obtain ⟨N, L, m, l', rfl, rfl, hm, hL, hL2, he, hJ⟩ := hrel
  replace hI := Lib.hid hJ
  replace HB := Lib.hid he
  clear hJ he hlt
  by_cases h0 : N = 0
  ·subst h0
   have hk1 : ¬ ((0 : Int) < ((0 : Nat) : Int)) := by omega
   rw [putR_zero] at HB
   go_wp2_with fail
   refine bodyPost_end (results_none Tryd.results96 _ _ _) rfl ⟨⟨_, rfl⟩, ?_, hI.out.bl⟩
   rw [← HB.out]; exact hI.out.A
  ·have hk1 : (0 : Int) < (N : Int) := by omega
   obtain ⟨m, rfl⟩ : ∃ i, m = i + 1 := ⟨m - 1, by rcases m with _ | m; (simp at hm; omega); rfl⟩
   obtain ⟨L, rfl⟩ : ∃ i, L = i + 1 := ⟨L - 1, by omega⟩
   rw [putR_step (by omega)] at HB
   go_upto_region 5 with fail; refine wp_region_lit ?_
   refine qaa (qae (v := .int _ _) rfl rfl) rfl ?_; (try simp only [Act.put, lyy])
   refine qaa (run_sub rfl rfl rfl (by omega) (by omega)) rfl ?_; (try simp only [Act.put, lyy])
   rw [show (((L + 1 : Nat) : Int) - 1) = (L : Int) by omega]
   refine qaa (qaf (v := .int _ _) rfl rfl) rfl ?_; (try simp only [Act.put, lyy])
   refine qab ?_
   go_upto_region 6 with fail; refine wp_region_lit ?_
   refine qaa (qae (v := .slice (some _) _ _) rfl rfl) rfl ?_; (try simp only [Act.put, lyy]); refine qaa (qae (v := .int _ _) rfl rfl) rfl ?_; (try simp only [Act.put, lyy]); refine qaa (qae (v := .int _ _) rfl rfl) rfl ?_; (try simp only [Act.put, lyy])
   refine qaa (run_cvi_8 rfl rfl) rfl ?_; (try simp only [Act.put, lyy])
   refine qaa (qda rfl Tryd.underlying22 (by kernel_rfl) rfl rfl (by omega)) rfl ?_; (try simp only [Act.put, lyy])
   rw [Nat.zero_add]
   refine qag (run_st8 rfl rfl rfl (hI.out.cell (i := L) (by omega)) (hI.out.A.f _)) rfl rfl ?_
   refine qab ?_
   go_upto_region 4 with fail; refine wp_region_lit ?_
   refine qaa (qae (v := .int _ _) rfl rfl) rfl ?_; (try simp only [Act.put, lyy])
   refine qaa (run_shri (k := 8) rfl rfl rfl (by omega)) rfl ?_; (try simp only [Act.put, lyy])
   refine qaa (qaf (v := .int _ _) rfl rfl) rfl ?_; (try simp only [Act.put, lyy])
   refine qab ?_
   have h8 : N / 2 ^ 8 < 256 ^ m := by rw [Nat.pow_succ] at hm; omega
   have h9 : N / 2 ^ 8 < N := by omega
   have HB' : Hid (putR (l'.set L (BitVec.ofNat 8 N)) L (N / 2 ^ 8) = putB l n) := HB
   generalize N / 2 ^ 8 = N' at *
   go_wp2_with fail
   go_roundw
   case rel => exact ⟨N', L, m, _, rfl, rfl, h8, by omega, by omega, HB'.out, hI.out.set (by omega) _⟩
   case measure => simp [intOf]; omega
end Go.Proofs.YtcgbgmbnagmohaaDoor
namespace Go.Proofs.YtcgbgmbnagmohaaDoor
open Go.RowKit
set_option maxRecDepth 20000
theorem z8_app {l : List (BitVec 8)} {n : Nat} : l.map b8 ++ (z8 n).drop (l.map b8).length = (l ++ List.replicate (n - l.length) 0).map b8 := by
 unfold z8; rw [List.length_map, ← List.map_drop, List.drop_replicate, List.map_append]
theorem enters_put : Enters 96 := qaq Tryd.func96 (by kernel_rfl) rfl
theorem one8 (l : List (BitVec 8)) : (l.map b8).toArray.all (·.oneCell') = true := one_map b8 (fun _ => rfl) l
theorem enters_ending : Enters 86 := qaq Tryd.func86 (by kernel_rfl) rfl
end Go.Proofs.YtcgbgmbnagmohaaDoor
namespace Go.Proofs.YtcgbgmbnagmohaaDoor
open Go.RowKit
set_option maxRecDepth 20000
def qc9 (l : List (BitVec 8)) : List (BitVec 8) := l.drop (l.length - l.length % 128)
def size64 (l : List (BitVec 8)) : Nat := if l.length % 128 + 1 + 16 > 128 then 2 * 128 else 128
def tail64 (l : List (BitVec 8)) : List (BitVec 8) := putB ((qc9 l ++ List.replicate (size64 l - l.length % 128) 0).set (l.length % 128) 128) l.length
theorem left_len64 (l : List (BitVec 8)) : (qc9 l).length = l.length % 128 := by unfold qc9; rw [List.length_drop]; omega
theorem size_le64 (l : List (BitVec 8)) : l.length % 128 + 1 + 16 ≤ size64 l ∧ size64 l ≤ 2 * 128 ∧ size64 l % 128 = 0 ∧ 0 < size64 l := by unfold size64; split <;> omega
theorem tail_len64 (l : List (BitVec 8)) : (tail64 l).length = size64 l := by
 unfold tail64
 have := size_le64 l
 rw [putB_len, List.length_set, List.length_append, left_len64, List.length_replicate]; omega
set_option maxHeartbeats 1000000 in
theorem ending64_any (v : Value) (l : List (BitVec 8)) (w : World) (hv : Sl v l w) (hn : l.length < 1152921504606846976) :
  Calls Tryd.prog 86 #[v, .int .i64 128] w fun e w' => ∃ v', e = .returned v' ∧ (Sl v' (tail64 l) w' ∧ Below w.heap.size w w') := by
 have HV := Lib.hid hv
 obtain ⟨ao, c, rfl, hc, -⟩ := hv
 go_enter Tryd.func86, Tryd.ntmps86
 go_upto_region 1 with fail; refine wp_region_lit ?_
 refine qaa (qae (v := .slice _ _ _) rfl rfl) rfl ?_; (try simp only [Act.put, lyy]); refine qaa (qae (v := .slice _ _ _) rfl rfl) rfl ?_; (try simp only [Act.put, lyy])
 refine qaa (qbe rfl Tryd.underlying22 rfl) rfl ?_; (try simp only [Act.put, lyy])
 refine qaa (qae (v := .slice _ _ _) rfl rfl) rfl ?_; (try simp only [Act.put, lyy])
 refine qaa (qbe rfl Tryd.underlying22 rfl) rfl ?_; (try simp only [Act.put, lyy])
 refine qaa (qae (v := .int _ _) rfl rfl) rfl ?_; (try simp only [Act.put, lyy])
 refine qaa (run_rem rfl rfl rfl (by omega) (by omega)) rfl ?_; (try simp only [Act.put, lyy])
 refine qaa (run_sub rfl rfl rfl (by omega) (by omega)) rfl ?_; (try simp only [Act.put, lyy])
 rw [show ((l.length : Int) - (l.length : Int) % 128) = ((l.length - l.length % 128 : Nat) : Int) by omega]
 refine qaa (run_cut rfl Tryd.underlying22 (by kernel_rfl) rfl rfl (by omega)) rfl ?_; (try simp only [Act.put, lyy])
 refine qaa (qaf (v := cutO _ _ _ _) rfl rfl) rfl ?_; (try simp only [Act.put, lyy])
 refine qab ?_
 have HL : Hid (Sl (cutO ao l.length c (l.length - l.length % 128)) (qc9 l) w) := Lib.hid (HV.out.cut (by omega))
 obtain ⟨a1, c1, h1, h2, -⟩ := HL.out
 rw [h1] at HL ⊢
 rw [left_len64] at HL h2 ⊢
 clear h1
 have hr := Nat.mod_lt l.length (show 0 < 128 by omega)
 have hsz := size_le64 l
 have HT : Hid (tail64 l = putB ((qc9 l ++ List.replicate (size64 l - (qc9 l).length) 0).set (l.length % 128) 128) l.length) := Lib.hid (by rw [left_len64]; rfl)
 have HLL := Lib.hid (left_len64 l)
 have hsize : size64 l = if l.length % 128 + 1 + 16 > 128 then 2 * 128 else 128 := rfl
 have HS := Lib.hid hsize; clear hsize
 have HN := Lib.hid hn; clear hn
 generalize hq : l.length % 128 = r at *
 go_upto_region 2 with fail; refine wp_region_lit ?_
 refine qaa (qae (v := .int _ _) rfl rfl) rfl ?_; (try simp only [Act.put, lyy]); refine qaa (qaf (v := .int _ _) rfl rfl) rfl ?_; (try simp only [Act.put, lyy])
 refine qab ?_
 go_upto_region 3 with fail; refine wp_region_lit ?_
 refine qaa (qae (v := .slice _ _ _) rfl rfl) rfl ?_; (try simp only [Act.put, lyy])
 refine qaa (qbe rfl Tryd.underlying22 rfl) rfl ?_; (try simp only [Act.put, lyy])
 refine qaa (run_add rfl rfl rfl (by omega) (by omega)) rfl ?_; (try simp only [Act.put, lyy])
 refine qaa (qae (v := .int _ _) rfl rfl) rfl ?_; (try simp only [Act.put, lyy])
 refine qaa (run_quo rfl rfl rfl (by omega) (by omega) (by omega)) rfl ?_; (try simp only [Act.put, lyy])
 refine qaa (run_add rfl rfl rfl (by omega) (by omega)) rfl ?_; (try simp only [Act.put, lyy])
 refine qaa (qae (v := .int _ _) rfl rfl) rfl ?_; (try simp only [Act.put, lyy])
 refine qaa (run_gtr rfl rfl rfl) rfl ?_; (try simp only [Act.put, lyy])
 refine qab ?_
 by_cases hbig : r + 1 + 16 > 128
 ·rw [if_pos hbig] at HS
  rw [decide_eq_true (show (128 : Int) < (r : Int) + 1 + 128 / 8 by omega)]
  go_upto_region 4 with fail; refine wp_region_lit ?_
  refine qaa (qae (v := .int _ _) rfl rfl) rfl ?_; (try simp only [Act.put, lyy])
  refine qaa (run_mul rfl rfl rfl (by omega) (by omega)) rfl ?_; (try simp only [Act.put, lyy])
  rw [show ((2 : Int) * 128) = ((size64 l : Nat) : Int) by rw [HS.out]; rfl]
  refine qaa (qaf (v := .int _ _) rfl rfl) rfl ?_; (try simp only [Act.put, lyy])
  refine qab ?_
  generalize size64 l = sz at *
  (try go_upto_region 5 with fail); refine wp_region_lit ?_; refine qaa (qae (v := .int _ _) rfl rfl) rfl ?_; (try simp only [Act.put, lyy]); refine qaa (run_mk8 rfl rfl rfl (by omega)) rfl ?_; (try simp only [Act.put, lyy]); refine qaa (qaf (v := .slice (some _) _ _) rfl rfl) rfl ?_; (try simp only [Act.put, lyy]); refine qab ?_; have A1 := Arr.new w (z8 sz) 5; have b1 : Below w.heap.size w (w.alloc (.cells (z8 sz).toArray 5)) := (Below.refl _ _).alloc (Nat.le_refl _) _; replace HL := Lib.hid (HL.out.below b1); have HA := Lib.hid A1; clear A1; generalize w.alloc (.cells (z8 sz).toArray 5) = u1 at *; go_upto_region 6 with fail; refine wp_region_lit ?_; refine qaa (qae (v := .slice (some _) _ _) rfl rfl) rfl ?_; (try simp only [Act.put, lyy]); refine qaa (qae (v := .slice _ _ _) rfl rfl) rfl ?_; (try simp only [Act.put, lyy]); refine qaa (run_cpy (l := qc9 l) (m := List.replicate sz 0) rfl rfl rfl HL.out HA.out (by rw [HLL.out]; omega) (by rw [HLL.out, List.length_replicate]; omega)) rfl ?_; (try simp only [Act.put, lyy]); rw [HLL.out]; refine qab ?_; replace HA := Lib.hid (HA.out.front (vs := (qc9 l).map b8) (by unfold z8; rw [List.length_map, List.length_map, List.length_replicate, HLL.out]; omega)); rw [z8_app] at HA; replace b1 := qa1 (Nat.le_refl w.heap.size) ((qc9 l).map b8) 0 b1; generalize u1.setCells w.heap.size 0 ((qc9 l).map b8) = u2 at *; have hm : (qc9 l ++ List.replicate (sz - (qc9 l).length) 0).length = sz := (by rw [List.length_append, List.length_replicate, HLL.out]; omega); clear HL HS HLL; generalize qc9 l ++ List.replicate (sz - (qc9 l).length) 0 = m at *; go_upto_region 7 with fail; refine wp_region_lit ?_; refine qaa (qae (v := .slice (some _) _ _) rfl rfl) rfl ?_; (try simp only [Act.put, lyy]); refine qaa (qae (v := .slice _ _ _) rfl rfl) rfl ?_; (try simp only [Act.put, lyy]); refine qaa (qbe rfl Tryd.underlying22 rfl) rfl ?_; (try simp only [Act.put, lyy]); refine qaa (qda rfl Tryd.underlying22 (by kernel_rfl) rfl rfl (by omega)) rfl ?_; (try simp only [Act.put, lyy]); rw [Nat.zero_add]; refine qag (run_st8 (a := 128) rfl rfl rfl (HA.out.c r _ (qbv b8 0 (by omega))) (HA.out.f _)) rfl rfl ?_; refine qab ?_; replace HA := Lib.hid (HA.out.set (i := r) (by rw [List.length_map]; omega) (b8 128)); rw [qc3] at HA; replace b1 := b1.setCell (p := ⟨w.heap.size, r, none⟩) (Nat.le_refl _) (b8 128); generalize u2.setCell ⟨w.heap.size, r, none⟩ (b8 128) = u3 at *; replace hm : (m.set r 128).length = sz := (by rw [List.length_set]; exact hm); generalize m.set r 128 = m2 at *; subst hm; go_upto_region 8 with fail; refine wp_region_lit ?_; refine qaa (qae (v := .slice (some _) _ _) rfl rfl) rfl ?_; (try simp only [Act.put, lyy]); refine qaa (qae (v := .slice _ _ _) rfl rfl) rfl ?_; (try simp only [Act.put, lyy]); refine qaa (qbe rfl Tryd.underlying22 rfl) rfl ?_; (try simp only [Act.put, lyy]); refine qbj (qao enters_put rfl rfl rfl rfl) rfl (put_any w.heap.size l.length m2.length m2 u3 HA.out (by omega) (by omega) HN.out) (fun v u4 hR => ?_); (try simp only [Act.put, lyy]); refine qab ?_; obtain ⟨A4, b4⟩ := hR; have HA4 := Lib.hid A4; clear A4; go_upto_region 9 with fail; refine wp_region_lit ?_; refine qaa (qae (v := .slice (some _) _ _) rfl rfl) rfl ?_; (try simp only [Act.put, lyy]); refine qaa (qaf (v := .slice (some _) _ _) rfl rfl) rfl ?_; (try simp only [Act.put, lyy]); refine qab ?_; go_wp2_with fail; refine bodyPost_ret (results_tmp Tryd.results86 _ _ _) rfl ⟨_, rfl, ?_, b1.trans b4⟩; rw [HT.out, ← putB_len m2 l.length]; exact Sl.arr HA4.out (by rw [putB_len]; exact Nat.le_refl _)
 ·rw [if_neg hbig] at HS
  rw [decide_eq_false (show ¬ (128 : Int) < (r : Int) + 1 + 128 / 8 by omega)]
  go_upto_region 5 with fail
  rw [show (128 : Int) = ((size64 l : Nat) : Int) by rw [HS.out]; rfl]
  generalize size64 l = sz at *
  (try go_upto_region 5 with fail); refine wp_region_lit ?_; refine qaa (qae (v := .int _ _) rfl rfl) rfl ?_; (try simp only [Act.put, lyy]); refine qaa (run_mk8 rfl rfl rfl (by omega)) rfl ?_; (try simp only [Act.put, lyy]); refine qaa (qaf (v := .slice (some _) _ _) rfl rfl) rfl ?_; (try simp only [Act.put, lyy]); refine qab ?_; have A1 := Arr.new w (z8 sz) 5; have b1 : Below w.heap.size w (w.alloc (.cells (z8 sz).toArray 5)) := (Below.refl _ _).alloc (Nat.le_refl _) _; replace HL := Lib.hid (HL.out.below b1); have HA := Lib.hid A1; clear A1; generalize w.alloc (.cells (z8 sz).toArray 5) = u1 at *; go_upto_region 6 with fail; refine wp_region_lit ?_; refine qaa (qae (v := .slice (some _) _ _) rfl rfl) rfl ?_; (try simp only [Act.put, lyy]); refine qaa (qae (v := .slice _ _ _) rfl rfl) rfl ?_; (try simp only [Act.put, lyy]); refine qaa (run_cpy (l := qc9 l) (m := List.replicate sz 0) rfl rfl rfl HL.out HA.out (by rw [HLL.out]; omega) (by rw [HLL.out, List.length_replicate]; omega)) rfl ?_; (try simp only [Act.put, lyy]); rw [HLL.out]; refine qab ?_; replace HA := Lib.hid (HA.out.front (vs := (qc9 l).map b8) (by unfold z8; rw [List.length_map, List.length_map, List.length_replicate, HLL.out]; omega)); rw [z8_app] at HA; replace b1 := qa1 (Nat.le_refl w.heap.size) ((qc9 l).map b8) 0 b1; generalize u1.setCells w.heap.size 0 ((qc9 l).map b8) = u2 at *; have hm : (qc9 l ++ List.replicate (sz - (qc9 l).length) 0).length = sz := (by rw [List.length_append, List.length_replicate, HLL.out]; omega); clear HL HS HLL; generalize qc9 l ++ List.replicate (sz - (qc9 l).length) 0 = m at *; go_upto_region 7 with fail; refine wp_region_lit ?_; refine qaa (qae (v := .slice (some _) _ _) rfl rfl) rfl ?_; (try simp only [Act.put, lyy]); refine qaa (qae (v := .slice _ _ _) rfl rfl) rfl ?_; (try simp only [Act.put, lyy]); refine qaa (qbe rfl Tryd.underlying22 rfl) rfl ?_; (try simp only [Act.put, lyy]); refine qaa (qda rfl Tryd.underlying22 (by kernel_rfl) rfl rfl (by omega)) rfl ?_; (try simp only [Act.put, lyy]); rw [Nat.zero_add]; refine qag (run_st8 (a := 128) rfl rfl rfl (HA.out.c r _ (qbv b8 0 (by omega))) (HA.out.f _)) rfl rfl ?_; refine qab ?_; replace HA := Lib.hid (HA.out.set (i := r) (by rw [List.length_map]; omega) (b8 128)); rw [qc3] at HA; replace b1 := b1.setCell (p := ⟨w.heap.size, r, none⟩) (Nat.le_refl _) (b8 128); generalize u2.setCell ⟨w.heap.size, r, none⟩ (b8 128) = u3 at *; replace hm : (m.set r 128).length = sz := (by rw [List.length_set]; exact hm); generalize m.set r 128 = m2 at *; subst hm; go_upto_region 8 with fail; refine wp_region_lit ?_; refine qaa (qae (v := .slice (some _) _ _) rfl rfl) rfl ?_; (try simp only [Act.put, lyy]); refine qaa (qae (v := .slice _ _ _) rfl rfl) rfl ?_; (try simp only [Act.put, lyy]); refine qaa (qbe rfl Tryd.underlying22 rfl) rfl ?_; (try simp only [Act.put, lyy]); refine qbj (qao enters_put rfl rfl rfl rfl) rfl (put_any w.heap.size l.length m2.length m2 u3 HA.out (by omega) (by omega) HN.out) (fun v u4 hR => ?_); (try simp only [Act.put, lyy]); refine qab ?_; obtain ⟨A4, b4⟩ := hR; have HA4 := Lib.hid A4; clear A4; go_upto_region 9 with fail; refine wp_region_lit ?_; refine qaa (qae (v := .slice (some _) _ _) rfl rfl) rfl ?_; (try simp only [Act.put, lyy]); refine qaa (qaf (v := .slice (some _) _ _) rfl rfl) rfl ?_; (try simp only [Act.put, lyy]); refine qab ?_; go_wp2_with fail; refine bodyPost_ret (results_tmp Tryd.results86 _ _ _) rfl ⟨_, rfl, ?_, b1.trans b4⟩; rw [HT.out, ← putB_len m2 l.length]; exact Sl.arr HA4.out (by rw [putB_len]; exact Nat.le_refl _)
end Go.Proofs.YtcgbgmbnagmohaaDoor
namespace Go.Proofs.YtcgbgmbnagmohaaDoor
open Go.RowKit
set_option maxRecDepth 20000
def mixB64 (st : List (BitVec 64)) (l : List (BitVec 8)) : Nat → List (BitVec 64)
 | 0 => st
 | k + 1 => mixB64 (mix64 st (qdq l)) (l.drop 128) k
def qdo (st : List (BitVec 64)) (l : List (BitVec 8)) : List (BitVec 64) := mixB64 st l (l.length / 128)
theorem mixA_step64 {st : List (BitVec 64)} {l : List (BitVec 8)} (h : 128 ≤ l.length) : qdo (mix64 st (qdq l)) (l.drop 128) = qdo st l := by
 unfold qdo
 rw [List.length_drop, show l.length / 128 = (l.length - 128) / 128 + 1 by omega, mixB64]
theorem mixA_end64 {st : List (BitVec 64)} {l : List (BitVec 8)} (h : l.length < 128) : qdo st l = st := by
 unfold qdo
 rw [show l.length / 128 = 0 by omega, mixB64]
theorem mixB_len64 : ∀ (k : Nat) (st : List (BitVec 64)) (l : List (BitVec 8)), (mixB64 st l k).length = st.length
 | 0, _, _ => rfl
 | k + 1, st, l => by rw [mixB64, mixB_len64 k, mix_len64]
theorem mixA_len64 (st : List (BitVec 64)) (l : List (BitVec 8)) : (qdo st l).length = st.length := mixB_len64 _ _ _
structure BlkI64 (w : World) (st : List (BitVec 64)) (u : World) : Prop where
 bl : Below w.heap.size w u
 A : Arr w.heap.size (st.map b64) u
 R : Arr (w.heap.size + 1) (z64 8) u
 len : st.length = 8
theorem BlkI64.below {w u u' : World} {st : List (BitVec 64)} (h : BlkI64 w st u) (hb : Below u.heap.size u u') : BlkI64 w st u' :=
 ⟨h.bl.trans (hb.mono h.bl.size), h.A.below hb, h.R.below hb, h.len⟩
theorem BlkI64.put {w u : World} {st st' : List (BitVec 64)} (h : BlkI64 w st u) (hl : st'.length = 8) : BlkI64 w st' (u.setCells w.heap.size 0 (st'.map b64)) :=
 ⟨qa1 (Nat.le_refl _) _ _ h.bl, h.A.put (by rw [List.length_map, List.length_map, h.len, hl]), h.R.farAll (by omega) _ _, hl⟩
theorem enters_spread64 : Enters 95 := qaq Tryd.func95 (by kernel_rfl) rfl
theorem enters_mix64 : Enters 94 := qaq Tryd.func94 (by kernel_rfl) rfl
set_option maxHeartbeats 1000000 in
theorem blocks64_any (st : List (BitVec 64)) (v : Value) (l : List (BitVec 8)) (w : World) (hst : st.length = 8) (hv : Sl v l w) (hn : l.length < 9223372036854775808) (hT : Tabs w) :
  Calls Tryd.prog 85 #[.agg (st.map b64).toArray, v] w fun e w' => e = .returned (.agg ((qdo st l).map b64).toArray) ∧ Below w.heap.size w w' := by
 go_enter Tryd.func85, Tryd.ntmps85
 go_upto_region 0 with fail; refine wp_region_lit ?_
 refine qaa (run_box rfl rfl) rfl ?_; (try simp only [Act.put, lyy])
 refine qaa (qat (vs := z64 8) rfl (by kernel_rfl)) rfl ?_; (try simp only [Act.put, lyy])
 refine qab ?_
 have hI : Hid (BlkI64 w st ((w.alloc (.cells (st.map b64).toArray 83)).alloc (.cells (z64 8).toArray 83))) := Lib.hid
  ⟨((Below.refl _ _).alloc (Nat.le_refl _) _).alloc (by simp) _, (Arr.new w _ _).below ((Below.refl _ _).alloc (Nat.le_refl _) _), Arr.at (by simp) (z64 8) _, hst⟩
 rw [show (w.alloc (.cells (st.map b64).toArray 83)).heap.size = w.heap.size + 1 by simp]
 generalize (w.alloc (.cells (st.map b64).toArray 83)).alloc (.cells (z64 8).toArray 83) = u0 at *
 have HT := Lib.hid hT; clear hT
 go_wp2_with fail
 go_loopw [1] (fun s u => ∃ (st' : List (BitVec 64)) (l' : List (BitVec 8)), Sl s l' w ∧ l'.length ≤ l.length ∧ qdo st' l' = qdo st l ∧ BlkI64 w st' u) (fun s _ => slLen s)
 case atStart => exact ⟨st, l, hv, Nat.le_refl _, rfl, hI.out⟩
 case round =>
  obtain ⟨st', l', hs, hle, he, hJ⟩ := hrel
  replace hI := Lib.hid hJ
  have HE := Lib.hid he
  have HS := Lib.hid hs
  clear hJ he hs hv
  obtain ⟨ao, c, rfl, hc, h3⟩ := HS.out
  by_cases hlt : l'.length < 128
  ·have hk1 : ¬ ((128 : Int) ≤ (l'.length : Int)) := by omega
   clear h3
   have hX : Hid (qdo st l = st') := Lib.hid (by rw [← HE.out, mixA_end64 hlt])
   have hlen := hI.out.len
   have hT := (hI.out.R.put (l' := st'.map b64) (by rw [List.length_map, hlen]; rfl)).range
   have HL := Lib.hid (size_s64 hlen)
   clear HE hlt
   go_upto_region 4 with fail; refine wp_region_lit ?_
   refine qaa (run_ldA (vs := st'.map b64) rfl Tryd.underlying83 HL.out rfl hI.out.A.range) rfl ?_; (try simp only [Act.put, lyy])
   refine qag (run_stA (vs := st'.map b64) rfl HL.out rfl rfl (one64 st') (by rw [List.length_map, hlen]; exact hI.out.R.there)) rfl rfl ?_
   refine qab ?_
   go_wp2_with fail
   refine bodyPost_ret (v := .agg (st'.map b64).toArray) ?_ rfl ⟨by rw [hX.out], qa1 (by omega) _ _ hI.out.bl⟩
   exact results_arr Tryd.results85 rfl Tryd.underlying83 HL.out hT
  ·have hk1 : (128 : Int) ≤ (l'.length : Int) := by omega
   obtain ⟨b, f, rfl, hb, hr⟩ := h3 (by intro e; rw [e] at hlt; simp at hlt)
   have hlen := hI.out.len
   have HR := Lib.hid hr; clear hr
   have HL := Lib.hid (size_s64 hlen)
   go_upto_region 3 with fail; refine qbf 4 (by kernel_rfl) (by kernel_rfl) ?_
   refine qad _ (fun V hV => qai (run_ldA (vs := st'.map b64) rfl Tryd.underlying83 HL.out rfl (hI.out.below hV).A.range)) ?_; (try simp only [Act.put, lyy])
   refine qad _ (fun V hV => qai (qae (v := .slice (some _) _ _) rfl rfl)) ?_; (try simp only [Act.put, lyy])
   refine qad _ (fun V hV => qax (qap enters_spread64 rfl rfl rfl) (spread64_any l' b f _ _ V (Nat.lt_of_lt_of_le hb (hI.out.below hV).bl.size) (qb9 HR.out hb (hI.out.below hV).bl) (by omega) (by omega))) ?_; (try simp only [Act.put, lyy])
   refine qad _ (fun V hV => qax (qao enters_mix64 rfl rfl rfl rfl) (mix64_any st' (qdq l') V hlen (spread_len64 l') (HT.out.below (hI.out.below hV).bl))) ?_; (try simp only [Act.put, lyy])
   refine qbh ?_; intro u1 hb1; simp only [List.drop_succ_cons, List.drop_zero]
   replace hI := Lib.hid (hI.out.below hb1)
   clear hb1
   have hml : (mix64 st' (qdq l')).length = 8 := by rw [mix_len64, hlen]
   refine qag (run_stA (vs := (mix64 st' (qdq l')).map b64) rfl (size_s64 hml) rfl rfl (one64 _) (by rw [List.length_map, hml, ← hlen, ← List.length_map (f := b64)]; exact hI.out.A.there)) rfl rfl ?_
   refine qab ?_
   go_upto_region 2 with fail; refine wp_region_lit ?_
   refine qaa (qae (v := .slice (some _) _ _) rfl rfl) rfl ?_; (try simp only [Act.put, lyy])
   refine qaa (run_cut (l := 128) rfl Tryd.underlying22 (by kernel_rfl) rfl rfl (by omega)) rfl ?_; (try simp only [Act.put, lyy])
   refine qaa (qaf (v := cutO _ _ _ _) rfl rfl) rfl ?_; (try simp only [Act.put, lyy])
   refine qab ?_
   go_wp2_with fail
   go_roundw
   case rel => exact ⟨mix64 st' (qdq l'), l'.drop 128, HS.out.cut (by omega), by rw [List.length_drop]; omega, by rw [mixA_step64 (by omega), HE.out], hI.out.put hml⟩
   case measure => simp [slLen, cutO]; omega
end Go.Proofs.YtcgbgmbnagmohaaDoor
namespace Go.Proofs.YtcgbgmbnagmohaaDoor
open Go.RowKit
set_option maxRecDepth 20000
def bg64 (i : Nat) : BitVec 64 := btab.getD i 0
def begT64 : Nat → List (BitVec 64)
 | 0 => List.replicate 8 0
 | i + 1 => (begT64 i).set i (bg64 i)
def endS64 (l : List (BitVec 8)) : List (BitVec 64) := qdo (qdo (begT64 8) l) (tail64 l)
def digB64 (st : List (BitVec 64)) (i : Nat) : BitVec 8 := (st.getD (i / 8) 0 >>> (8 * 8 - 8 - i % 8 * 8)).setWidth 8
def digT64 (st : List (BitVec 64)) : Nat → List (BitVec 8)
 | 0 => List.replicate 64 0
 | i + 1 => (digT64 st i).set i (digB64 st i)
def sum64 (l : List (BitVec 8)) : List (BitVec 8) := digT64 (endS64 l) 64
theorem digT_len64 (st : List (BitVec 64)) : ∀ i, (digT64 st i).length = 64
 | 0 => rfl
 | i + 1 => by rw [digT64, List.length_set, digT_len64 st i]
theorem size_d64 {l : List (BitVec 8)} (h : l.length = 64) : (Tryd.prog.info? 27).map (·.size) = some (l.map b8).length := by
 rw [List.length_map, h]; kernel_rfl
theorem run_shrj64 {w : World} {ρ : Operand → Value} {o : Oper} {t t' : TypeId} {x y : Operand} {a : BitVec 64} {n : Nat} (ho : o.op = .binOp .shr t x y t') (hx : ρ x = b64 a) (hy : ρ y = .int .i64 (n : Int)) (hn : n ≤ 64) : (execOp ρ o).run Tryd.prog w = .ok (.value (b64 (a >>> n))) w := by
 obtain ⟨dst, op, type, pos, after, guard⟩ := o
 subst ho
 unfold b64 at *
 have e : (a.toNat : Int) / 2 ^ n = (((a >>> n).toNat : Nat) : Int) := by
  rw [BitVec.toNat_ushiftRight, Nat.shiftRight_eq_div_pow]; simp
 generalize (a >>> n).toNat = z at *
 have hn0 : (0 : Int) ≤ (n : Int) := by omega
 go_simp
 try exact e
structure SumI64 (w : World) (st : List (BitVec 64)) (u : World) : Prop where
 bl : Below w.heap.size w u
 R : Arr w.heap.size (z8 64) u
 A : Arr (w.heap.size + 1) (st.map b64) u
 len : st.length = 8
theorem SumI64.below {w u u' : World} {st : List (BitVec 64)} (h : SumI64 w st u) (hb : Below u.heap.size u u') : SumI64 w st u' :=
 ⟨h.bl.trans (hb.mono h.bl.size), h.R.below hb, h.A.below hb, h.len⟩
theorem SumI64.cell {w u : World} {st : List (BitVec 64)} (h : SumI64 w st u) {i : Nat} (hi : i < 8) : u.cell? ⟨w.heap.size + 1, i, none⟩ = some (b64 (st.getD i 0)) :=
 h.A.c i _ (qbv b64 0 (by rw [h.len]; exact hi))
theorem SumI64.set {w u : World} {st : List (BitVec 64)} (h : SumI64 w st u) {i : Nat} (hi : i < 8) (v : BitVec 64) : SumI64 w (st.set i v) (u.setCell ⟨w.heap.size + 1, i, none⟩ (b64 v)) :=
 ⟨h.bl.setCell (p := ⟨w.heap.size + 1, i, none⟩) (by simp) _, h.R.far (by omega) _ _, by rw [← qc3]; exact h.A.set (by rw [List.length_map, h.len]; exact hi) _, by rw [List.length_set, h.len]⟩
theorem SumI64.put {w u : World} {st st' : List (BitVec 64)} (h : SumI64 w st u) (hl : st'.length = 8) : SumI64 w st' (u.setCells (w.heap.size + 1) 0 (st'.map b64)) :=
 ⟨qa1 (by omega) _ _ h.bl, h.R.farAll (by omega) _ _, h.A.put (by rw [List.length_map, List.length_map, h.len, hl]), hl⟩
theorem enters_blocks64 : Enters 85 := qaq Tryd.func85 (by kernel_rfl) rfl
structure DigI64 (w : World) (g : Nat) (st : List (BitVec 64)) (d : List (BitVec 8)) (u : World) : Prop where
 I : SumI64 w st u
 D : Arr g (d.map b8) u
 len : d.length = 64
theorem DigI64.cell {w u : World} {g : Nat} {st : List (BitVec 64)} {d : List (BitVec 8)} (h : DigI64 w g st d u) {i : Nat} (hi : i < 64) : u.cell? ⟨g, i, none⟩ = some (b8 (d.getD i 0)) :=
 h.D.c i _ (qbv b8 0 (by rw [h.len]; exact hi))
theorem DigI64.set {w u : World} {g : Nat} {st : List (BitVec 64)} {d : List (BitVec 8)} (h : DigI64 w g st d u) (hg : w.heap.size + 1 < g) {i : Nat} (hi : i < 64) (v : BitVec 8) : DigI64 w g st (d.set i v) (u.setCell ⟨g, i, none⟩ (b8 v)) :=
 ⟨⟨h.I.bl.setCell (p := ⟨g, i, none⟩) (by show w.heap.size ≤ g; omega) _, h.I.R.far (by omega) _ _, h.I.A.far (by omega) _ _, h.I.len⟩, by rw [← qc3]; exact h.D.set (by rw [List.length_map, h.len]; exact hi) _, by rw [List.length_set, h.len]⟩
set_option maxHeartbeats 1000000 in
theorem sum64_any (v : Value) (l : List (BitVec 8)) (w : World) (hv : Sl v l w) (hn : l.length < 1152921504606846976) (hT : Tabs w) :
  Calls Tryd.prog 70 #[v] w fun e w' => e = .returned (.agg ((sum64 l).map b8).toArray) ∧ Below w.heap.size w w' := by
 have HN := Lib.hid hn; clear hn
 have HT := Lib.hid hT; clear hT
 have HV := Lib.hid hv; clear hv
 go_enter Tryd.func70, Tryd.ntmps70
 go_upto_region 0 with fail; refine wp_region_lit ?_
 refine qaa (qat (vs := z8 64) rfl (by kernel_rfl)) rfl ?_; (try simp only [Act.put, lyy])
 refine qab ?_
 go_upto_region 1 with fail; refine wp_region_lit ?_
 refine qaa (qat (vs := z64 8) rfl (by kernel_rfl)) rfl ?_; (try simp only [Act.put, lyy])
 refine qab ?_
 have hI : Hid (SumI64 w (begT64 0) ((w.alloc (.cells (z8 64).toArray 27)).alloc (.cells (z64 8).toArray 83))) := Lib.hid
  ⟨((Below.refl _ _).alloc (Nat.le_refl _) _).alloc (by simp) _, (Arr.new w _ _).below ((Below.refl _ _).alloc (Nat.le_refl _) _), Arr.at (by simp) (z64 8) _, rfl⟩
 rw [show (w.alloc (.cells (z8 64).toArray 27)).heap.size = w.heap.size + 1 by simp]
 generalize (w.alloc (.cells (z8 64).toArray 27)).alloc (.cells (z64 8).toArray 83) = u0 at *
 go_upto_region 2 with fail; refine wp_region_lit ?_
 refine qaa (qae (v := .int _ _) rfl rfl) rfl ?_; (try simp only [Act.put, lyy])
 refine qab ?_
 go_wp2_with fail
 go_loopw [7] (fun s u => ∃ k : Nat, k ≤ 8 ∧ s = .int .i64 (k : Int) ∧ SumI64 w (begT64 k) u) (fun s _ => (8 - intOf s).toNat)
 case atStart => exact ⟨0, by omega, rfl, hI.out⟩
 case round =>
  obtain ⟨k, hk, rfl, hJ⟩ := hrel
  replace hI := Lib.hid hJ
  clear hJ
  by_cases hlt : k = 8
  ·subst hlt
   have hk1 : ¬ (((8 : Nat) : Int) < 8) := by omega
   have HE : Hid (sum64 l = digT64 (qdo (qdo (begT64 8) l) (tail64 l)) 64) := Lib.hid rfl
   have hlen := hI.out.len
   have HL := Lib.hid (size_s64 hlen)
   generalize begT64 8 = st at *
   go_upto_region 7 with fail; refine wp_region_lit ?_
   clear hk1
   refine qaa (run_ldA (vs := st.map b64) rfl Tryd.underlying83 HL.out rfl hI.out.A.range) rfl ?_; (try simp only [Act.put, lyy])
   refine qaa (qae (v := v) rfl rfl) rfl ?_; (try simp only [Act.put, lyy])
   refine qam (qao enters_blocks64 rfl rfl rfl rfl) rfl (blocks64_any st v l _ hlen (HV.out.below hI.out.bl) (by have := HN.out; omega) (HT.out.below hI.out.bl)) (fun u1 hb1 => ?_); (try simp only [Act.put, lyy])
   replace hI := Lib.hid (hI.out.below hb1)
   clear hb1
   refine qaa (qae (v := v) rfl rfl) rfl ?_; (try simp only [Act.put, lyy])
   refine qbj (qao enters_ending rfl rfl rfl rfl) rfl (ending64_any v l _ (HV.out.below hI.out.bl) HN.out) (fun v2 u2 hR => ?_); (try simp only [Act.put, lyy])
   obtain ⟨S2, hb2⟩ := hR
   replace hI := Lib.hid (hI.out.below hb2)
   clear hb2
   have HS := Lib.hid S2; clear S2
   have hlen2 : (qdo st l).length = 8 := by rw [mixA_len64, hlen]
   refine qam (qao enters_blocks64 rfl rfl rfl rfl) rfl (blocks64_any (qdo st l) v2 (tail64 l) _ hlen2 HS.out (by have := tail_len64 l; have := size_le64 l; omega) (HT.out.below hI.out.bl)) (fun u3 hb3 => ?_); (try simp only [Act.put, lyy])
   replace hI := Lib.hid (hI.out.below hb3)
   clear hb3 HS
   have hlen3 : (qdo (qdo st l) (tail64 l)).length = 8 := by rw [mixA_len64, hlen2]
   generalize qdo (qdo st l) (tail64 l) = st2 at *
   refine qag (run_stA (vs := st2.map b64) rfl (size_s64 hlen3) rfl rfl (one64 _) (by rw [List.length_map, hlen3, ← hlen, ← List.length_map (f := b64)]; exact hI.out.A.there)) rfl rfl ?_
   refine qab ?_
   replace hI := Lib.hid (hI.out.put hlen3)
   generalize u3.setCells (w.heap.size + 1) 0 (st2.map b64) = u4 at *
   clear hlen hlen2 HL
   go_upto_region 8 with fail; refine wp_region_lit ?_
   refine qaa (qat (vs := z8 64) rfl (by kernel_rfl)) rfl ?_; (try simp only [Act.put, lyy])
   refine qab ?_
   have hg : w.heap.size + 1 < u4.heap.size := hI.out.A.lt
   have hD : Hid (DigI64 w u4.heap.size st2 (digT64 st2 0) (u4.alloc (.cells (z8 64).toArray 27))) := Lib.hid ⟨hI.out.below ((Below.refl _ _).alloc (Nat.le_refl _) _), Arr.new u4 (z8 64) _, rfl⟩
   clear hI
   generalize u4.alloc (.cells (z8 64).toArray 27) = u5 at *
   generalize u4.heap.size = g at *
   go_upto_region 9 with fail; refine wp_region_lit ?_
   refine qaa (qae (v := .int _ _) rfl rfl) rfl ?_; (try simp only [Act.put, lyy])
   refine qab ?_
   go_wp2_with fail
   go_loopw [22] (fun s u => ∃ k : Nat, k ≤ 64 ∧ s = .int .i64 (k : Int) ∧ DigI64 w g st2 (digT64 st2 k) u) (fun s _ => (64 - intOf s).toNat)
   case atStart => exact ⟨0, by omega, rfl, hD.out⟩
   case round =>
    obtain ⟨k, hk, rfl, hJ⟩ := hrel
    replace hD := Lib.hid hJ
    clear hJ
    by_cases hlt : k = 64
    ·subst hlt
     have hk1 : ¬ (((64 : Nat) : Int) < 64) := by omega
     have hT := (hD.out.I.R.put (l' := (digT64 st2 64).map b8) (by rw [List.length_map, digT_len64]; rfl)).range
     have HL := Lib.hid (size_d64 (digT_len64 st2 64))
     have hdl := digT_len64 st2 64
     generalize digT64 st2 64 = W at *
     go_upto_region 14 with fail; refine wp_region_lit ?_
     refine qaa (run_ldA (vs := W.map b8) rfl Tryd.underlying27 HL.out rfl hD.out.D.range) rfl ?_; (try simp only [Act.put, lyy])
     refine qag (run_stA (vs := W.map b8) rfl HL.out rfl rfl (one8 W) (by rw [List.length_map, hdl]; exact hD.out.I.R.there)) rfl rfl ?_
     refine qab ?_
     go_wp2_with fail
     refine bodyPost_ret (v := .agg (W.map b8).toArray) ?_ rfl ⟨by rw [HE.out], qa1 (Nat.le_refl _) _ _ hD.out.I.bl⟩
     exact results_arr Tryd.results70 rfl Tryd.underlying27 HL.out hT
    ·have hk1 : (k : Int) < 64 := by omega
     have hk2 : k < 64 := by omega
     go_upto_region 11 with fail; refine wp_region_lit ?_
     refine qaa (qae (v := .int _ _) rfl rfl) rfl ?_; (try simp only [Act.put, lyy]); refine qaa (qaf (v := .int _ _) rfl rfl) rfl ?_; (try simp only [Act.put, lyy])
     refine qab ?_
     go_upto_region 12 with fail; refine wp_region_lit ?_
     refine qaa (qae (v := .int _ _) rfl rfl) rfl ?_; (try simp only [Act.put, lyy]); refine qaa (qae (v := .int _ _) rfl rfl) rfl ?_; (try simp only [Act.put, lyy])
     refine qaa (run_quo rfl rfl rfl (by omega) (by omega) (by omega)) rfl ?_; (try simp only [Act.put, lyy])
     rw [show ((k : Int) / 8) = ((k / 8 : Nat) : Int) by omega]
     refine qaa (qbk rfl Tryd.underlying83 (by kernel_rfl) rfl rfl (by omega)) rfl ?_; (try simp only [Act.put, lyy])
     refine qaa (qbu rfl rfl (hD.out.I.cell (i := k / 8) (by omega))) rfl ?_; (try simp only [Act.put, lyy])
     refine qaa (qae (v := .int _ _) rfl rfl) rfl ?_; (try simp only [Act.put, lyy])
     refine qaa (run_rem rfl rfl rfl (by omega) (by omega)) rfl ?_; (try simp only [Act.put, lyy])
     refine qaa (run_mul rfl rfl rfl (by omega) (by omega)) rfl ?_; (try simp only [Act.put, lyy])
     refine qaa (run_sub rfl rfl rfl (by omega) (by omega)) rfl ?_; (try simp only [Act.put, lyy])
     rw [show ((56 : Int) - (k : Int) % 8 * 8) = ((8 * 8 - 8 - k % 8 * 8 : Nat) : Int) by omega]
     refine qaa (run_shrj64 rfl rfl rfl (by omega)) rfl ?_; (try simp only [Act.put, lyy])
     refine qaa (qcf rfl rfl) rfl ?_; (try simp only [Act.put, lyy])
     refine qaa (qbk rfl Tryd.underlying27 (by kernel_rfl) rfl rfl hk2) rfl ?_; (try simp only [Act.put, lyy])
     refine qag (run_st8 rfl rfl rfl (hD.out.cell hk2) (hD.out.D.f _)) rfl rfl ?_
     refine qab ?_
     go_wp2_with fail
     go_roundw
     case rel => exact ⟨k + 1, by omega, by go_num, hD.out.set hg hk2 _⟩
     case measure => simp [intOf]; omega
  ·have hk1 : (k : Int) < 8 := by omega
   have hk2 : k < 8 := by omega
   go_upto_region 4 with fail; refine wp_region_lit ?_
   refine qaa (qae (v := .int _ _) rfl rfl) rfl ?_; (try simp only [Act.put, lyy]); refine qaa (qaf (v := .int _ _) rfl rfl) rfl ?_; (try simp only [Act.put, lyy])
   refine qab ?_
   go_upto_region 5 with fail; refine wp_region_lit ?_
   refine qaa (qae (v := .int _ _) rfl rfl) rfl ?_; (try simp only [Act.put, lyy]); refine qaa (qae (v := .int _ _) rfl rfl) rfl ?_; (try simp only [Act.put, lyy])
   refine qaa (qbk (g := 3) rfl Tryd.underlying83 (by kernel_rfl) rfl rfl hk2) rfl ?_; (try simp only [Act.put, lyy])
   refine qaa (qbu rfl rfl ((HT.out.below hI.out.bl).bc hk2)) rfl ?_; (try simp only [Act.put, lyy])
   skip
   refine qaa (qbk rfl Tryd.underlying83 (by kernel_rfl) rfl rfl hk2) rfl ?_; (try simp only [Act.put, lyy])
   refine qag (run_st64 rfl rfl rfl (hI.out.cell hk2) (hI.out.A.f _)) rfl rfl ?_
   refine qab ?_
   go_wp2_with fail
   go_roundw
   case rel => exact ⟨k + 1, by omega, by go_num, hI.out.set hk2 _⟩
   case measure => simp [intOf]; omega
theorem enters_sum64 : Enters 70 := qaq Tryd.func70 (by kernel_rfl) rfl
end Go.Proofs.YtcgbgmbnagmohaaDoor
namespace Go.Proofs.YtcgbgmbnagmohaaDoor
open Go.RowKit
set_option maxRecDepth 20000
theorem dU_E (Y : Int) : E (dU Y) (Y * Y - 1) := (E.rest _).trans ((E.rest _).sub (E.rfl' 1))
theorem dV_E (Y : Int) : E (dV Y) (dd * (Y * Y) + 1) := (E.rest _).trans (((E.rest _).trans ((E.rfl' dd).mul (E.rest _))).add (E.rfl' 1))
theorem dV_not (Y : Int) : ¬ Zr (dV Y) := fun h => by
 have h1 : Zr (dd * (Y * Y) + 1) := E.zr (dV_E Y).symm h
 have h2 : E (ii * ii) (dd * (Y * Y)) := Zr.to_E (by
  have := ii_sq.add h1.neg
  rwa [show ii * ii + 1 + -(dd * (Y * Y) + 1) = ii * ii - dd * (Y * Y) by omega] at this)
 have h3 := no_root h2
 have h4 : Zr 1 := by
  have := h1.add ((h3.mulr (dd * Y)).neg)
  rwa [show dd * (Y * Y) + 1 + -(dd * Y * Y) = 1 by rw [Int.mul_assoc]; omega] at this
 exact one_not h4
theorem dec_eq {p : Pt} (h : p.On) : E (dV p.y * (p.x * p.x)) (dU p.y) := by
 refine ((dV_E p.y).mul (E.rfl' _)).trans (E.trans ?_ (dU_E p.y).symm)
 refine Zr.to_E ?_
 have h1 : Zr (onE p.x p.y) := h
 have := h1.neg
 rwa [show -onE p.x p.y = (dd * (p.y * p.y) + 1) * (p.x * p.x) - (p.y * p.y - 1) by unfold onE; grind] at this
theorem enc_low (p : Pt) (h : p.Ok) : encN p % 2 ^ 255 = p.y.toNat := by
 unfold encN
 rw [Int.emod_eq_of_lt h.2.1 h.2.2, Nat.add_mul_mod_self_left, Nat.mod_eq_of_lt (by have := y_top p.y; rwa [Int.emod_eq_of_lt h.2.1 h.2.2] at this)]
theorem enc_even {p : Pt} (h : p.Ok) (he : p.x % 2 = 0) : encN p < 2 ^ 255 := by
 unfold encN
 have := y_top p.y
 rw [Int.emod_eq_of_lt h.1.1 h.1.2, he]
 simpa using this
theorem enc_odd {p : Pt} (h : p.Ok) (he : p.x % 2 = 1) : ¬ encN p < 2 ^ 255 := by
 unfold encN
 rw [Int.emod_eq_of_lt h.1.1 h.1.2, he]
 simp
theorem dec_enc {p : Pt} (hO : p.Ok) (hp : p.On) : decR (encN p) = (p, true) := by
 have hlow := enc_low p hO
 have hY : decY (encN p) = p.y := by
  unfold decY
  rw [hlow, Int.toNat_of_nonneg hO.2.1, Int.emod_eq_of_lt hO.2.1 hO.2.2]
 obtain ⟨k1, k2, k3, k4⟩ := root_v (dV_not p.y) (dec_eq hp)
 have hlt : ((encN p % 2 ^ 255 : Nat) : Int) < pp := by rw [hlow, Int.toNat_of_nonneg hO.2.1]; exact hO.2.2
 have hev : evPB p.y = true := k1
 have hep : evP p.y = ⟨rootN (dU p.y) (dV p.y), p.y⟩ := rfl
 unfold decR
 rw [hY, if_pos ⟨hev, hlt⟩, hep]
 clear hep hev k1 hlt hlow hY
 generalize rootN (dU p.y) (dV p.y) = r at *
 have hs := sq_eq k2 hO.1 k4
 have hx := hO.1
 rcases (show p.x % 2 = 0 ∨ p.x % 2 = 1 by omega) with he | he
 ·rw [if_pos (enc_even hO he)]
  have hr : r = p.x := by
   rcases hs with h | h | h
   ·exact h
   ·exact absurd h (by unfold pp; omega)
   ·rw [h.1, h.2]
  rw [hr]
 ·rw [if_neg (enc_odd hO he)]
  have hr : r + p.x = pp := by
   rcases hs with h | h | h
   ·exact absurd h (by omega)
   ·exact h
   ·exact absurd h.2 (by omega)
  have hon : (⟨r, p.y⟩ : Pt).On := by
   refine E.zr (b := onE p.x p.y) ?_ hp
   show E (onE r p.y) (onE p.x p.y)
   unfold onE
   have e1 : dd * r * r * p.y * p.y = dd * (r * r) * (p.y * p.y) := by grind
   have e2 : dd * p.x * p.x * p.y * p.y = dd * (p.x * p.x) * (p.y * p.y) := by grind
   rw [e1, e2]
   exact (((E.rfl' (p.y * p.y)).sub k4).sub (E.rfl' 1)).sub (((E.rfl' dd).mul k4).mul (E.rfl' _))
  have hn : negP ⟨r, p.y⟩ = p := by
   unfold negP
   rw [onB_on hon, if_pos rfl]
   have e1 : -r % pp = p.x := by
    rw [show -r = p.x + pp * (-1) by omega, Int.add_mul_emod_self_left, Int.emod_eq_of_lt hx.1 hx.2]
   have e2 : p.y % pp = p.y := Int.emod_eq_of_lt hO.2.1 hO.2.2
   show (⟨-r % pp, p.y % pp⟩ : Pt) = p
   rw [e1, e2]
  rw [hn, if_neg (fun e => by
   have h1 := congrArg Pt.x e
   simp only at h1
   omega)]
end Go.Proofs.YtcgbgmbnagmohaaDoor
namespace Go.Proofs.YtcgbgmbnagmohaaDoor
open Go.RowKit
set_option maxRecDepth 20000
theorem enc_arith {y M x : Nat} (h : y < M) (hx : x ≤ 1) : y + M * x < M * 2 := by
 have : M * x ≤ M * 1 := Nat.mul_le_mul_left _ hx
 omega
theorem toNat_lt {a P : Int} {M : Nat} (h0 : 0 ≤ a) (h1 : a < P) (h2 : P.toNat < M) : a.toNat < M := by omega
theorem pp_lt : pp.toNat < 2 ^ 255 := by decide +kernel
theorem bit_le (x : Int) : (x % 2).toNat ≤ 1 := by omega
theorem encN_lt (p : Pt) : encN p < 256 ^ 32 := by
 have h1 := qca p.y
 have h := enc_arith (toNat_lt h1.1 h1.2 pp_lt) (bit_le (p.x % pp))
 have e : (256 : Nat) ^ 32 = 2 ^ 255 * 2 := by decide +kernel
 rw [e]
 exact h
def tmB (n : Nat) : List (BitVec 8) := sk (encN (pmul bs n))
theorem tmB_len (n : Nat) : (tmB n).length = 32 := sk_len _
def nmB (b : List (BitVec 8)) : List (BitVec 8) := sk (leB (sum64 b) % ell)
theorem nmB_len (b : List (BitVec 8)) : (nmB b).length = 32 := sk_len _
theorem sum64_len (b : List (BitVec 8)) : (sum64 b).length = 64 := by unfold sum64; exact digT_len64 _ _
def secA (s : List (BitVec 8)) : List (BitVec 8) := clB ((sum64 s).take 32)
theorem secA_len (s : List (BitVec 8)) : (secA s).length = 32 := by rw [secA, clB_len, List.length_take, sum64_len]; rfl
def pubB (s : List (BitVec 8)) : List (BitVec 8) := tmB (leB (secA s))
theorem pubB_len (s : List (BitVec 8)) : (pubB s).length = 32 := tmB_len _
def sgR (s b : List (BitVec 8)) : List (BitVec 8) := nmB ((sum64 s).drop 32 ++ b)
def sgF (s b : List (BitVec 8)) : List (BitVec 8) := tmB (leB (sgR s b))
def sgK (s b : List (BitVec 8)) : List (BitVec 8) := nmB (sgF s b ++ pubB s ++ b)
def sgS (s b : List (BitVec 8)) : List (BitVec 8) := sk ((leB (sgK s b) * leB (secA s) + leB (sgR s b)) % ell)
def sigB (s b : List (BitVec 8)) : List (BitVec 8) := sgF s b ++ sgS s b
theorem sgR_len (s b : List (BitVec 8)) : (sgR s b).length = 32 := nmB_len _
theorem sgF_len (s b : List (BitVec 8)) : (sgF s b).length = 32 := tmB_len _
theorem sgK_len (s b : List (BitVec 8)) : (sgK s b).length = 32 := nmB_len _
theorem sgS_len (s b : List (BitVec 8)) : (sgS s b).length = 32 := sk_len _
theorem sigB_len (s b : List (BitVec 8)) : (sigB s b).length = 64 := by rw [sigB, List.length_append, sgF_len, sgS_len]
def verB (p b s : List (BitVec 8)) : Bool :=
 decide (leB (s.drop 32) < ell) && (decR (leB p)).2 && (decR (leB (s.take 32))).2 &&
  decide (mulP (leB (s.drop 32)) bs = addP (decR (leB (s.take 32))).1 (mulP (leB (nmB (s.take 32 ++ p ++ b))) (decR (leB p)).1))
theorem mul_bs (n : Nat) : mulP n bs = pmul bs n := mulP_on bs_on bs_ok n
theorem dec_tmB (n : Nat) : decR (leB (tmB n)) = (pmul bs n, true) := by
 have h : leB (tmB n) = encN (pmul bs n) := by
  rw [tmB, leB_sk, Nat.mod_eq_of_lt (encN_lt (pmul bs n))]
 rw [h, dec_enc (pmul_ok _ _) (pmul_on bs_on _)]
theorem leB_rest (n : Nat) : leB (sk (n % ell)) = n % ell := by rw [leB_sk, Nat.mod_eq_of_lt (Nat.lt_trans (Nat.mod_lt _ ell_pos) ell_lt)]
theorem ver_sig (s b : List (BitVec 8)) : verB (pubB s) b (sigB s b) = true := by
 have e1 : (sigB s b).take 32 = sgF s b := by rw [sigB, List.take_left' (sgF_len _ _)]
 have e2 : (sigB s b).drop 32 = sgS s b := by rw [sigB, List.drop_left' (sgF_len _ _)]
 unfold verB
 rw [e1, e2, pubB, sgF, dec_tmB, dec_tmB, sgS, leB_rest, decide_eq_true (Nat.mod_lt _ ell_pos)]
 have ek : nmB (tmB (leB (sgR s b)) ++ tmB (leB (secA s)) ++ b) = sgK s b := rfl
 simp only [Bool.and_self, Bool.true_and, decide_eq_true_eq]
 rw [ek, mul_bs, mulP_on (pmul_on bs_on _) (pmul_ok _ _), addP_on (pmul_on bs_on _) (pmul_on (pmul_on bs_on _) _) (pmul_ok _ _) (pmul_ok _ _), pmul_rest bs_on ell_none, ← pmul_mul bs_on, ← pmul_add bs_on, Nat.add_comm]
end Go.Proofs.YtcgbgmbnagmohaaDoor
namespace Go.Proofs.YtcgbgmbnagmohaaDoor
open Go.RowKit
set_option maxRecDepth 20000
def q4 : Pt := ⟨19681161376707505956807079304988542015446066515923890162744021073123829784752, 0⟩
end Go.Proofs.YtcgbgmbnagmohaaDoor
namespace Go.Proofs.YtcgbgmbnagmohaaDoor
open Go.RowKit
set_option maxRecDepth 20000
end Go.Proofs.YtcgbgmbnagmohaaDoor
namespace Go.Proofs.YtcgbgmbnagmohaaDoor
open Go.RowKit
set_option maxRecDepth 20000
structure W9 (w : World) : Prop where
 e : EG w
 s : SG w
 t : Tabs w
theorem W9.below {w w' : World} (h : W9 w) (hb : Below w.heap.size w w') : W9 w' := ⟨h.e.below hb, h.s.below hb, h.t.below hb⟩
def PubC : Prop := ∀ (k : List (BitVec 8)) (u : World), k.length = 32 → W9 u → Calls Tryd.prog 23 #[.agg (k.map b8).toArray] u fun e w' => e = .returned (.agg ((pubB k).map b8).toArray) ∧ Below u.heap.size u w'
def SigC : Prop := ∀ (k : List (BitVec 8)) (vb : Value) (b : List (BitVec 8)) (u : World), k.length = 32 → Sl vb b u → b.length ≤ 300 → W9 u → Calls Tryd.prog 24 #[.agg (k.map b8).toArray, vb] u fun e w' => e = .returned (.agg ((sigB k b).map b8).toArray) ∧ Below u.heap.size u w'
def VerC : Prop := ∀ (p : List (BitVec 8)) (vb : Value) (b s : List (BitVec 8)) (u : World), p.length = 32 → s.length = 64 → Sl vb b u → b.length ≤ 300 → W9 u → Calls Tryd.prog 27 #[.agg (p.map b8).toArray, vb, .agg (s.map b8).toArray] u fun e w' => e = .returned (.bool (verB p b s)) ∧ Below u.heap.size u w'
theorem enters_spublic : Enters 23 := qaq Tryd.func23 (by kernel_rfl) rfl
theorem enters_ssign : Enters 24 := qaq Tryd.func24 (by kernel_rfl) rfl
theorem enters_sverify : Enters 27 := qaq Tryd.func27 (by kernel_rfl) rfl
end Go.Proofs.YtcgbgmbnagmohaaDoor
