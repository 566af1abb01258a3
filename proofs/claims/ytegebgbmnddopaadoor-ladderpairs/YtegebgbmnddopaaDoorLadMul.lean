/- What ladder.Mul does. -/
import Derived.Test.YtegebgbmnddopaaDoorLadMath
import Derived.Test.YtegebgbmnddopaaDoorLate
namespace Go.Proofs.YtegebgbmnddopaaDoor
open Go.RowKit

/-- Two keys come in, one goes out. -/
structure Keys3 (w : World) (k u : List Int) (v : World) : Prop where
  bl : Below w.heap.size w v
  K : Row w.heap.size k v
  U : Row (w.heap.size + 1) u v
  R : Row (w.heap.size + 1 + 1) (List.replicate 32 0) v
theorem Row.new' {w : World} {n : Nat} (hn : w.heap.size = n) (l : List Int) : Row n l (w.alloc (.cells (l.map (Value.int .u8)).toArray 23)) := hn ▸ Row.new w l
theorem keys3 (w : World) (k u : List Int) : Keys3 w k u (((w.alloc (.cells (k.map (Value.int .u8)).toArray 23)).alloc (.cells (u.map (Value.int .u8)).toArray 23)).alloc (.cells #[.int .u8 0, .int .u8 0, .int .u8 0, .int .u8 0, .int .u8 0, .int .u8 0, .int .u8 0, .int .u8 0, .int .u8 0, .int .u8 0, .int .u8 0, .int .u8 0, .int .u8 0, .int .u8 0, .int .u8 0, .int .u8 0, .int .u8 0, .int .u8 0, .int .u8 0, .int .u8 0, .int .u8 0, .int .u8 0, .int .u8 0, .int .u8 0, .int .u8 0, .int .u8 0, .int .u8 0, .int .u8 0, .int .u8 0, .int .u8 0, .int .u8 0, .int .u8 0] 23)) := by
  have a1 := Row.new w k
  have s1 : (w.alloc (.cells (k.map (Value.int .u8)).toArray 23)).heap.size = w.heap.size + 1 := by simp
  have b1 : Below w.heap.size w (w.alloc (.cells (k.map (Value.int .u8)).toArray 23)) := (Below.refl _ _).alloc (Nat.le_refl _) _
  generalize w.alloc (.cells (k.map (Value.int .u8)).toArray 23) = u1 at *
  have a2 := Row.new' s1 u
  have c1 : Below u1.heap.size u1 (u1.alloc (.cells (u.map (Value.int .u8)).toArray 23)) := (Below.refl _ _).alloc (Nat.le_refl _) _
  replace a1 := a1.below c1
  have s2 : (u1.alloc (.cells (u.map (Value.int .u8)).toArray 23)).heap.size = w.heap.size + 1 + 1 := by simp [s1]
  replace b1 := b1.trans (c1.mono (by omega))
  generalize u1.alloc (.cells (u.map (Value.int .u8)).toArray 23) = u2 at *
  have a3 : Row (w.heap.size + 1 + 1) (List.replicate 32 0) (u2.alloc (.cells #[.int .u8 0, .int .u8 0, .int .u8 0, .int .u8 0, .int .u8 0, .int .u8 0, .int .u8 0, .int .u8 0, .int .u8 0, .int .u8 0, .int .u8 0, .int .u8 0, .int .u8 0, .int .u8 0, .int .u8 0, .int .u8 0, .int .u8 0, .int .u8 0, .int .u8 0, .int .u8 0, .int .u8 0, .int .u8 0, .int .u8 0, .int .u8 0, .int .u8 0, .int .u8 0, .int .u8 0, .int .u8 0, .int .u8 0, .int .u8 0, .int .u8 0, .int .u8 0] 23)) := s2 ▸ Row.zero u2
  have c2 : Below u2.heap.size u2 (u2.alloc (.cells #[.int .u8 0, .int .u8 0, .int .u8 0, .int .u8 0, .int .u8 0, .int .u8 0, .int .u8 0, .int .u8 0, .int .u8 0, .int .u8 0, .int .u8 0, .int .u8 0, .int .u8 0, .int .u8 0, .int .u8 0, .int .u8 0, .int .u8 0, .int .u8 0, .int .u8 0, .int .u8 0, .int .u8 0, .int .u8 0, .int .u8 0, .int .u8 0, .int .u8 0, .int .u8 0, .int .u8 0, .int .u8 0, .int .u8 0, .int .u8 0, .int .u8 0, .int .u8 0] 23)) := (Below.refl _ _).alloc (Nat.le_refl _) _
  exact ⟨b1.trans (c2.mono (by omega)), a1.below c2, a2.below c2, a3⟩

/-- What holds of memory at the head of the ladder's loop. -/
structure LadI (w : World) (c : List Int) (X1 : Int) (g5 g6 g8 g9 : Nat) (s : LS) (u : World) : Prop where
  bl : Below w.heap.size w u
  K : Row w.heap.size c u
  R : Row (w.heap.size + 1 + 1) (List.replicate 32 0) u
  G : GCell 1 pp u
  T : GCell 0 (pp - 2) u
  v5 : Var4 g5 X1 u
  v6 : Var4 g6 s.x2 u
  v7 : Var4 (g6 + 1) s.z2 u
  v8 : Var4 g8 s.x3 u
  v9 : Var4 g9 s.z3 u
theorem LadI.below {w : World} {c : List Int} {X1 : Int} {g5 g6 g8 g9 : Nat} {s : LS} {u u' : World} (h : LadI w c X1 g5 g6 g8 g9 s u) (hb : Below u.heap.size u u') : LadI w c X1 g5 g6 g8 g9 s u' :=
  ⟨h.bl.trans (hb.mono h.bl.size), h.K.below hb, h.R.below hb, h.G.below hb, h.T.below hb, h.v5.below hb, h.v6.below hb, h.v7.below hb, h.v8.below hb, h.v9.below hb⟩
/-- The blocks lie apart. -/
structure LadG (w : World) (g5 g6 g8 g9 : Nat) : Prop where
  o : 1 < w.heap.size
  t : 0 < w.heap.size
  a : w.heap.size + 1 + 1 < g5
  b : g5 < g6
  c : g6 + 1 < g8
  d : g6 + 1 < g9
  e : g8 ≠ g9
theorem row_set4 {b c : Nat} {l : List Int} {u : World} (h : Row b l u) (hne : c ≠ b) (Z : Int) : Row b l (set4 u c Z) := (((h.far hne _ _).far hne _ _).far hne _ _).far hne _ _
/-- All four stored anew. -/
abbrev put4 (u : World) (g6 g8 g9 : Nat) (s : LS) : World := set4 (set4 (set4 (set4 u g6 s.x2) (g6 + 1) s.z2) g8 s.x3) g9 s.z3
theorem LadI.put {w : World} {c : List Int} {X1 : Int} {g5 g6 g8 g9 : Nat} {s : LS} {u : World} (h : LadI w c X1 g5 g6 g8 g9 s u) (hg : LadG w g5 g6 g8 g9) (s' : LS) : LadI w c X1 g5 g6 g8 g9 s' (put4 u g6 g8 g9 s') := by
  obtain ⟨ho, ht, ha, hb, hc, hd, he⟩ := hg
  refine ⟨set4_below (by omega) (set4_below (by omega) (set4_below (by omega) (set4_below (by omega) h.bl _) _) _) _, ?_, ?_, ?_, ?_, ?_, ?_, ?_, ?_, ?_⟩
  · exact row_set4 (row_set4 (row_set4 (row_set4 h.K (by omega) _) (by omega) _) (by omega) _) (by omega) _
  · exact row_set4 (row_set4 (row_set4 (row_set4 h.R (by omega) _) (by omega) _) (by omega) _) (by omega) _
  · exact (((h.G.set4 (by omega) _).set4 (by omega) _).set4 (by omega) _).set4 (by omega) _
  · exact (((h.T.set4 (by omega) _).set4 (by omega) _).set4 (by omega) _).set4 (by omega) _
  · exact var_far4 (var_far4 (var_far4 (var_far4 h.v5 (by omega) _) (by omega) _) (by omega) _) (by omega) _
  · exact var_far4 (var_far4 (var_far4 (Var4.set4 h.v6 _) (by omega) _) (by omega) _) (by omega) _
  · exact var_far4 (var_far4 (Var4.set4 (var_far4 h.v7 (by omega) _) _) (by omega) _) (by omega) _
  · exact var_far4 (Var4.set4 (var_far4 (var_far4 h.v8 (by omega) _) (by omega) _) _) (by omega) _
  · exact Var4.set4 (var_far4 (var_far4 (var_far4 h.v9 (by omega) _) (by omega) _) (by omega) _) _
theorem enters_rung : Enters 11 := enters_of Tryd.func11 (by kernel_rfl) rfl
/-- While both pairs change places: what has not been stored anew stands. -/
def SwapS (g6 g8 g9 : Nat) (s : LS) (L : Array Bool) (V : World) : Prop := (L.getD 4 false = false → Var4 g6 s.x2 V) ∧ (L.getD 5 false = false → Var4 (g6 + 1) s.z2 V) ∧ (L.getD 6 false = false → Var4 g8 s.x3 V) ∧ (L.getD 7 false = false → Var4 g9 s.z3 V)
theorem swapS_set {g6 g8 g9 : Nat} {s : LS} {i : Nat} (hi : i < 4) (L : Array Bool) (V : World) : SwapS g6 g8 g9 s (L.setIfInBounds i true) V ↔ SwapS g6 g8 g9 s L V := by
  unfold SwapS
  rw [getD_set_ne false (show i ≠ 4 by omega), getD_set_ne false (show i ≠ 5 by omega), getD_set_ne false (show i ≠ 6 by omega), getD_set_ne false (show i ≠ 7 by omega)]
theorem getD_set_self {L : Array Bool} {i : Nat} (h : i < L.size) : ¬ (L.setIfInBounds i true).getD i false = false := by simp [h]
theorem swapS_st4 {g5 g6 g8 g9 : Nat} {s : LS} {L : Array Bool} {w V : World} {Z : Int} (h : SwapS g6 g8 g9 s L V) (hL : 7 < L.size) (hg : LadG w g5 g6 g8 g9) : SwapS g6 g8 g9 s (L.setIfInBounds 4 true) (set4 V g6 Z) := by
  obtain ⟨ho, ht, ha, hb, hc, hd, he⟩ := hg
  refine ⟨fun e => absurd e (getD_set_self (by omega)), fun e => ?_, fun e => ?_, fun e => ?_⟩
  · rw [getD_set_ne false (by omega)] at e; exact var_far4 (h.2.1 e) (by omega) _
  · rw [getD_set_ne false (by omega)] at e; exact var_far4 (h.2.2.1 e) (by omega) _
  · rw [getD_set_ne false (by omega)] at e; exact var_far4 (h.2.2.2 e) (by omega) _
theorem swapS_st5 {g5 g6 g8 g9 : Nat} {s : LS} {L : Array Bool} {w V : World} {Z : Int} (h : SwapS g6 g8 g9 s L V) (hL : 7 < L.size) (hg : LadG w g5 g6 g8 g9) : SwapS g6 g8 g9 s (L.setIfInBounds 5 true) (set4 V (g6 + 1) Z) := by
  obtain ⟨ho, ht, ha, hb, hc, hd, he⟩ := hg
  refine ⟨fun e => ?_, fun e => absurd e (getD_set_self (by omega)), fun e => ?_, fun e => ?_⟩
  · rw [getD_set_ne false (by omega)] at e; exact var_far4 (h.1 e) (by omega) _
  · rw [getD_set_ne false (by omega)] at e; exact var_far4 (h.2.2.1 e) (by omega) _
  · rw [getD_set_ne false (by omega)] at e; exact var_far4 (h.2.2.2 e) (by omega) _
theorem swapS_st6 {g5 g6 g8 g9 : Nat} {s : LS} {L : Array Bool} {w V : World} {Z : Int} (h : SwapS g6 g8 g9 s L V) (hL : 7 < L.size) (hg : LadG w g5 g6 g8 g9) : SwapS g6 g8 g9 s (L.setIfInBounds 6 true) (set4 V g8 Z) := by
  obtain ⟨ho, ht, ha, hb, hc, hd, he⟩ := hg
  refine ⟨fun e => ?_, fun e => ?_, fun e => absurd e (getD_set_self (by omega)), fun e => ?_⟩
  · rw [getD_set_ne false (by omega)] at e; exact var_far4 (h.1 e) (by omega) _
  · rw [getD_set_ne false (by omega)] at e; exact var_far4 (h.2.1 e) (by omega) _
  · rw [getD_set_ne false (by omega)] at e; exact var_far4 (h.2.2.2 e) (by omega) _
theorem swapS_st7 {g5 g6 g8 g9 : Nat} {s : LS} {L : Array Bool} {w V : World} {Z : Int} (h : SwapS g6 g8 g9 s L V) (hL : 7 < L.size) (hg : LadG w g5 g6 g8 g9) : SwapS g6 g8 g9 s (L.setIfInBounds 7 true) (set4 V g9 Z) := by
  obtain ⟨ho, ht, ha, hb, hc, hd, he⟩ := hg
  refine ⟨fun e => ?_, fun e => ?_, fun e => ?_, fun e => absurd e (getD_set_self (by omega))⟩
  · rw [getD_set_ne false (by omega)] at e; exact var_far4 (h.1 e) (by omega) _
  · rw [getD_set_ne false (by omega)] at e; exact var_far4 (h.2.1 e) (by omega) _
  · rw [getD_set_ne false (by omega)] at e; exact var_far4 (h.2.2.1 e) (by omega) _
/-- The loop's relation: the bits below j are still to come. -/
structure LadR (w : World) (c : List Int) (X1 : Int) (g5 g6 g8 g9 : Nat) (j : Nat) (s : LS) (u : World) : Prop where
  I : LadI w c X1 g5 g6 g8 g9 s u
  ok : s.Ok
  eq : lad X1 c j s = lad X1 c 255 (ladStart X1)
theorem row_far_all {b c : Nat} {l : List Int} (hne : c ≠ b) : ∀ (vs : List Value) (o : Nat) {u : World}, Row b l u → Row b l (u.setCells c o vs)
  | [], _, _, h => h
  | v :: r, o, _, h => row_far_all hne r (o + 1) (h.far hne o v)

set_option maxHeartbeats 4000000 in
set_option maxRecDepth 100000 in
theorem lmul_any (k u : List Int) (w : World) (hk : k.length = 32) (hkB : Bytes8 k) (hu : u.length = 32) (huB : Bytes8 u) (hG : GCell 1 pp w) (hT : GCell 0 (pp - 2) w) :
    Calls Tryd.prog 5 #[kV k, kV u] w fun e w' => e = .returned (kV (mulL k u)) ∧ Below w.heap.size w w' := by
  have HK := Lib.hid hk; clear hk
  have HU := Lib.hid hu; clear hu
  have HC : Hid ((clampL k).length = 32) := Lib.hid (by rw [clampL_len, HK.out])
  have N := Lib.hid (keys3 w k u)
  go_enter Tryd.func5, Tryd.ntmps5
  go_upto_region 1 with fail
  generalize ((w.alloc (.cells (k.map (Value.int .u8)).toArray 23)).alloc (.cells (u.map (Value.int .u8)).toArray 23)).alloc (.cells #[.int .u8 0, .int .u8 0, .int .u8 0, .int .u8 0, .int .u8 0, .int .u8 0, .int .u8 0, .int .u8 0, .int .u8 0, .int .u8 0, .int .u8 0, .int .u8 0, .int .u8 0, .int .u8 0, .int .u8 0, .int .u8 0, .int .u8 0, .int .u8 0, .int .u8 0, .int .u8 0, .int .u8 0, .int .u8 0, .int .u8 0, .int .u8 0, .int .u8 0, .int .u8 0, .int .u8 0, .int .u8 0, .int .u8 0, .int .u8 0, .int .u8 0, .int .u8 0] 23) = u0 at *
  have gO : 1 < w.heap.size := hG.lt
  have gT : 0 < w.heap.size := hT.lt
  have bl := N.out.bl
  have RK := Lib.hid N.out.K
  have RU := Lib.hid N.out.U
  have RR := Lib.hid N.out.R
  clear N
  go_upto_region 2 with (first | refine wpList_load_mid rfl 23 (.tmp 2) rfl w.heap.size 0 rfl (k.map (Value.int .u8)) (.array 32 5) RK.out.range Tryd.underlying23 rfl (kV_size HK.out) ?_ | (go_at_call 8; refine (clamp_any k _ HK.out hkB).mono ?_; rintro e u1 ⟨rfl, hb⟩; replace RK := Lib.hid (RK.out.below hb); replace RU := Lib.hid (RU.out.below hb); replace RR := Lib.hid (RR.out.below hb); replace bl := bl.trans (hb.mono bl.size)) | refine wpList_store_mid rfl 23 (.tmp 2) _ rfl w.heap.size 0 ((clampL k).map (Value.int .u8)).toArray rfl rfl (by simpa [HC.out, HK.out] using RK.out.thereAt) (by simpa using kV_size HC.out) (kV_one _) ?_)
  clear hb
  replace RK := Lib.hid (RK.out.storeAll (l' := clampL k) (by rw [HC.out, HK.out]))
  replace RU := Lib.hid (row_far_all (c := w.heap.size) (by omega) ((clampL k).map (Value.int .u8)) 0 RU.out)
  replace RR := Lib.hid (row_far_all (c := w.heap.size) (by omega) ((clampL k).map (Value.int .u8)) 0 RR.out)
  replace bl := Below.setCells (Nat.le_refl w.heap.size) ((clampL k).map (Value.int .u8)) 0 bl
  generalize u1.setCells w.heap.size 0 ((clampL k).map (Value.int .u8)) = u2 at *
  clear u0 u1
  replace hG := hG.below bl
  replace hT := hT.below bl
  go_upto_region 3 with (first | refine wpList_load_mid rfl 23 (.tmp 3) rfl (w.heap.size + 1) 0 rfl (u.map (Value.int .u8)) (.array 32 5) RU.out.range Tryd.underlying23 rfl (kV_size HU.out) ?_ | (go_at_call 9; refine (of_any u _ HU.out huB hG).mono ?_; rintro e u3 ⟨rfl, hb⟩; replace RK := Lib.hid (RK.out.below hb); replace RR := Lib.hid (RR.out.below hb); replace bl := bl.trans (hb.mono bl.size); replace hG := hG.below hb; replace hT := hT.below hb))
  clear hb RU
  have lr : w.heap.size + 1 + 1 < u3.heap.size := RR.out.lt
  have hX1 : Num (le (mask u) % pp) := num_emod_pp _
  have EX : Hid (mulL k u = bzAll (ladNum (le (mask u) % pp) (clampL k) % pp)) := Lib.hid rfl
  generalize le (mask u) % pp = X1 at *
  have v5 := Var4.new u3 X1
  have hb : Below u3.heap.size u3 (u3.alloc (.cells #[.int .u64 (w0 X1), .int .u64 (w1 X1), .int .u64 (w2 X1), .int .u64 (w3 X1)] 33)) := (Below.refl _ _).alloc (Nat.le_refl _) _
  replace RK := Lib.hid (RK.out.below hb)
  replace RR := Lib.hid (RR.out.below hb)
  replace bl := bl.trans (hb.mono bl.size)
  replace hG := hG.below hb
  replace hT := hT.below hb
  clear hb
  generalize u3.alloc (.cells #[.int .u64 (w0 X1), .int .u64 (w1 X1), .int .u64 (w2 X1), .int .u64 (w3 X1)] 33) = u4 at *
  generalize u3.heap.size = g5 at *
  clear u2 u3
  go_wp2_with fail
  refine (small_any 1 _ (by omega) (by omega)).mono ?_
  rintro e u5 ⟨rfl, hb⟩
  replace RK := Lib.hid (RK.out.below hb)
  replace RR := Lib.hid (RR.out.below hb)
  replace v5 := v5.below hb
  replace bl := bl.trans (hb.mono bl.size)
  replace hG := hG.below hb
  replace hT := hT.below hb
  clear hb u4
  go_wp2_with fail
  refine (small_any 0 _ (by omega) (by omega)).mono ?_
  rintro e u6 ⟨rfl, hb⟩
  replace RK := Lib.hid (RK.out.below hb)
  replace RR := Lib.hid (RR.out.below hb)
  replace v5 := v5.below hb
  replace bl := bl.trans (hb.mono bl.size)
  replace hG := hG.below hb
  replace hT := hT.below hb
  clear hb u5
  go_upto_region 4 with fail
  have v6 := (Var4.new u6 1).later (.cells #[.int .u64 (w0 0), .int .u64 (w1 0), .int .u64 (w2 0), .int .u64 (w3 0)] 33)
  have v7 : Var4 (u6.heap.size + 1) 0 ((u6.alloc (.cells #[.int .u64 (w0 1), .int .u64 (w1 1), .int .u64 (w2 1), .int .u64 (w3 1)] 33)).alloc (.cells #[.int .u64 (w0 0), .int .u64 (w1 0), .int .u64 (w2 0), .int .u64 (w3 0)] 33)) := Var4.new' (by simp) 0
  have l6 : g5 < u6.heap.size := v5.lt
  have hb : Below u6.heap.size u6 ((u6.alloc (.cells #[.int .u64 (w0 1), .int .u64 (w1 1), .int .u64 (w2 1), .int .u64 (w3 1)] 33)).alloc (.cells #[.int .u64 (w0 0), .int .u64 (w1 0), .int .u64 (w2 0), .int .u64 (w3 0)] 33)) := ((Below.refl _ _).alloc (Nat.le_refl _) _).alloc (by simp) _
  replace RK := Lib.hid (RK.out.below hb)
  replace RR := Lib.hid (RR.out.below hb)
  replace v5 := v5.below hb
  replace bl := bl.trans (hb.mono bl.size)
  replace hG := hG.below hb
  replace hT := hT.below hb
  clear hb
  generalize (u6.alloc (.cells #[.int .u64 (w0 1), .int .u64 (w1 1), .int .u64 (w2 1), .int .u64 (w3 1)] 33)).alloc (.cells #[.int .u64 (w0 0), .int .u64 (w1 0), .int .u64 (w2 0), .int .u64 (w3 0)] 33) = u7 at *
  generalize u6.heap.size = g6 at *
  clear u6
  have l7 : g6 + 1 < u7.heap.size := v7.lt
  refine wp_region_sow2 2 33 (by kernel_rfl) rfl rfl (by kernel_rfl) run_alloc_fe ?_
  refine wpCalm_step _ (fun V hV => calm_load (Var4.below v5 hV) rfl (by kernel_rfl)) ?_; (try simp only [Act.put, List.setIfInBounds_toArray, List.set_cons_zero, List.set_cons_succ])
  refine wpCalm_step _ (fun V hV => calm_call1 enters_small rfl rfl (by kernel_rfl) (small_any 1 V (by omega) (by omega))) ?_; (try simp only [Act.put, List.setIfInBounds_toArray, List.set_cons_zero, List.set_cons_succ])
  refine wpCalm_done ?_; intro g8 g9 uu hpb s1 s2 hne; simp only [List.drop_succ_cons, List.drop_zero, List.setIfInBounds_toArray, List.set_cons_zero, List.set_cons_succ]; refine wpList_store_fe (Z := X1) s1.var rfl rfl rfl (by kernel_rfl) (by kernel_rfl) ?_; refine wpList_store_fe (Z := 1) (var_far4 s2.var hne _) rfl rfl rfl (by kernel_rfl) (by kernel_rfl) ?_; refine wpList_done ?_; obtain ⟨hb', xg8, xg9⟩ := pair_after hpb s1 s2 hne (X1) (1); have lg8 := s1.1; have lg9 := s2.1; clear s1 s2 hpb; generalize set4 (set4 uu g8 (X1)) g9 (1) = u8 at *; clear uu
  have HG : Hid (LadG w g5 g6 g8 g9) := Lib.hid ⟨gO, gT, lr, l6, by omega, by omega, hne⟩
  have HI : Hid (LadR w (clampL k) X1 g5 g6 g8 g9 255 (ladStart X1) u8) := Lib.hid ⟨⟨bl.trans (hb'.mono bl.size), RK.out.below hb', RR.out.below hb', hG.below hb', hT.below hb', v5.below hb', v6.below hb', v7.below hb', xg8, xg9⟩, ⟨num_small (by simp [ladStart]) (by simp [ladStart]), num_small (by simp [ladStart]) (by simp [ladStart]), hX1, num_small (by simp [ladStart]) (by simp [ladStart])⟩, rfl⟩
  clear bl RK RR hG hT v5 v6 v7 xg8 xg9 hb' lg8 lg9 l7 hne
  go_wp2_with fail
  go_loopw [10] (fun i u' => ∃ (j : Nat) (s : LS), j ≤ 255 ∧ i = .int .i64 ((j : Int) - 1) ∧ LadR w (clampL k) X1 g5 g6 g8 g9 j s u') (fun i _ => (intOf i + 1).toNat)
  case atStart => exact ⟨255, ladStart X1, by omega, rfl, HI.out⟩
  case round =>
    obtain ⟨j, s, hj, rfl, hI⟩ := hrel
    clear HI
    have HI := Lib.hid hI; clear hI
    by_cases hlt : j = 0
    · subst hlt
      have hd : decide ((0 : Int) ≤ ((0 : Nat) : Int) - 1) = false := by decide
      have EQ : Hid (ladNum X1 (clampL k) = s.x2 * (s.z2 ^ (pp - 2).toNat % pp) % pp) := Lib.hid (by unfold ladNum; rw [← HI.out.eq, lad_zero])
      have hI : Hid (LadI w (clampL k) X1 g5 g6 g8 g9 s wr) := Lib.hid HI.out.I
      have hok : Hid s.Ok := Lib.hid HI.out.ok
      clear HI
      go_upto_region 14 with fail
      have v6 := hI.out.v6
      have v7 := hI.out.v7
      have hG := hI.out.G
      have hT := hI.out.T
      have hx := hok.out.x2
      have hz := hok.out.z2
      have hn := num_emod_pp (s.z2 ^ (pp - 2).toNat)
      have hm := num_emod_pp (s.x2 * (s.z2 ^ (pp - 2).toNat % pp))
      refine wp_region_calm 5 (by kernel_rfl) (by kernel_rfl) ?_
      refine wpCalm_step _ (fun V hV => calm_load (Var4.below v6 hV) rfl (by kernel_rfl)) ?_; (try simp only [Act.put, List.setIfInBounds_toArray, List.set_cons_zero, List.set_cons_succ])
      refine wpCalm_step _ (fun V hV => calm_load (Var4.below v7 hV) rfl (by kernel_rfl)) ?_; (try simp only [Act.put, List.setIfInBounds_toArray, List.set_cons_zero, List.set_cons_succ])
      refine wpCalm_step _ (fun V hV => calm_call1 enters_inv rfl rfl (by kernel_rfl) (inv_any s.z2 V hz (hG.below hV) (hT.below hV))) ?_; (try simp only [Act.put, List.setIfInBounds_toArray, List.set_cons_zero, List.set_cons_succ])
      refine wpCalm_step _ (fun V hV => calm_call2 enters_mul rfl rfl (by kernel_rfl) (by kernel_rfl) (mul_any s.x2 (s.z2 ^ (pp - 2).toNat % pp) V hx hn (hG.below hV))) ?_; (try simp only [Act.put, List.setIfInBounds_toArray, List.set_cons_zero, List.set_cons_succ])
      refine wpCalm_step _ (fun V hV => calm_call1 enters_bytes rfl rfl (by kernel_rfl) (bytes_any (s.x2 * (s.z2 ^ (pp - 2).toNat % pp) % pp) V hm (hG.below hV))) ?_; (try simp only [Act.put, List.setIfInBounds_toArray, List.set_cons_zero, List.set_cons_succ])
      refine wpCalm_done ?_
      intro uu hpb
      simp only [List.drop_succ_cons, List.drop_zero]
      have E2 : Hid (bzAll (s.x2 * (s.z2 ^ (pp - 2).toNat % pp) % pp % pp) = mulL k u) := Lib.hid (by rw [EX.out, EQ.out])
      replace hI := Lib.hid (hI.out.below hpb)
      clear hpb v6 v7 hG hT hx hz hn hm
      have RR := Lib.hid hI.out.R
      have bl := hI.out.bl
      have HM := Lib.hid (mulL_len k u)
      rw [E2.out]
      generalize hM : mulL k u = M at *
      have EM := Lib.hid hM; clear hM
      go_wp2_with (refine wpList_store_mid rfl 23 (.tmp 4) _ rfl (w.heap.size + 1 + 1) 0 (M.map (Value.int .u8)).toArray rfl rfl (by simpa [HM.out] using RR.out.thereAt) (by simpa using kV_size HM.out) (kV_one _) ?_)
      have hT := World.rangeAt_setCells_same uu (w.heap.size + 1 + 1) 0 (M.map (Value.int .u8)) (by simpa [HM.out] using RR.out.thereAt)
      refine bodyPost_ret (v := kV M) ?_ rfl ⟨by rw [EM.out], ?_⟩
      · exact results_key Tryd.results5 rfl HM.out hT
      · exact Below.setCells (by omega) _ _ bl
    · obtain ⟨j, rfl⟩ : ∃ i, j = i + 1 := ⟨j - 1, by omega⟩
      rw [show (((j + 1 : Nat) : Int) - 1) = (j : Int) from by omega]
      obtain ⟨q, hq'⟩ : ∃ q, j / 8 = q := ⟨_, rfl⟩
      have hq : (j : Int) / 8 = (q : Int) := by omega
      have hq0 : (0 : Int) ≤ (q : Int) := by omega
      have hq1 : (q : Int) < 32 := by omega
      have hj0 : (0 : Int) ≤ (j : Int) := by omega
      have hj1 : (j : Int) ≤ 254 := by omega
      have kc := HI.out.I.K.c q (by rw [HC.out]; omega)
      have E := Lib.hid (show bitL (clampL k) j = (bits .and .u8 (nth (clampL k) q / 2 ^ (j % 8)) 1 == 1) by unfold bitL; rw [hq'])
      clear hq'
      cases hbit : bitL (clampL k) j with
      | true =>
        have hbb : (bits .and .u8 (nth (clampL k) q / 2 ^ (j % 8)) 1 == 1) = true := by rw [← E.out]; exact hbit
        have HB := Lib.hid hbit; clear hbit
        have hI : Hid (LadI w (clampL k) X1 g5 g6 g8 g9 s wr) := Lib.hid HI.out.I
        have hok : Hid s.turn.Ok := Lib.hid HI.out.ok.turn
        have EQ : Hid (lad X1 (clampL k) j (LS.rung X1 s.turn).turn = lad X1 (clampL k) 255 (ladStart X1)) := Lib.hid (by rw [← HI.out.eq, lad_succ, HB.out]; rfl)
        clear HI
        go_upto_region 10 with fail
        clear kc hbb
        refine wp_region_noPanic ?_; refine wp_region_late (S := SwapS g6 g8 g9 s) (by kernel_rfl) ⟨fun _ => hI.out.v6.drew, fun _ => hI.out.v7.drew, fun _ => hI.out.v8.drew, fun _ => hI.out.v9.drew⟩ (fun hS => ?_); refine wpAnyL_load_fe (i := 0) (X := s.x3) [4, 5, 6, 7] rfl rfl rfl rfl (by kernel_rfl) (by kernel_rfl) (by kernel_rfl) (by kernel_rfl) (by kernel_rfl) (fun _ _ _ h => h) (by kernel_rfl) (fun L V hd hV => hV.2.2.1 (hd 6 (by simp))) (swapS_set (by omega)) hS (fun hS => ?_); (try simp only [Act.put, List.setIfInBounds_toArray, List.set_cons_zero, List.set_cons_succ]); refine wpAnyL_load_fe (i := 1) (X := s.z3) [5, 6, 7] rfl rfl rfl rfl (by kernel_rfl) (by kernel_rfl) (by kernel_rfl) (by kernel_rfl) (by kernel_rfl) (fun _ _ _ h => h) (by kernel_rfl) (fun L V hd hV => hV.2.2.2 (hd 7 (by simp))) (swapS_set (by omega)) hS (fun hS => ?_); (try simp only [Act.put, List.setIfInBounds_toArray, List.set_cons_zero, List.set_cons_succ]); refine wpAnyL_load_fe (i := 2) (X := s.x2) [4, 5, 6, 7] rfl rfl rfl rfl (by kernel_rfl) (by kernel_rfl) (by kernel_rfl) (by kernel_rfl) (by kernel_rfl) (fun _ _ _ h => h) (by kernel_rfl) (fun L V hd hV => hV.1 (hd 4 (by simp))) (swapS_set (by omega)) hS (fun hS => ?_); (try simp only [Act.put, List.setIfInBounds_toArray, List.set_cons_zero, List.set_cons_succ]); refine wpAnyL_load_fe (i := 3) (X := s.z2) [4, 5, 6, 7] rfl rfl rfl rfl (by kernel_rfl) (by kernel_rfl) (by kernel_rfl) (by kernel_rfl) (by kernel_rfl) (fun _ _ _ h => h) (by kernel_rfl) (fun L V hd hV => hV.2.1 (hd 5 (by simp))) (swapS_set (by omega)) hS (fun hS => ?_); (try simp only [Act.put, List.setIfInBounds_toArray, List.set_cons_zero, List.set_cons_succ]); have hS4 := swapS_st4 (Z := s.x3) hS (by simp) HG.out; refine wpAnyL_store_fe (i := 4) (Z := s.x3) (by kernel_rfl) rfl rfl rfl rfl (by kernel_rfl) (by kernel_rfl) (hS.1 (by kernel_rfl)) hS4 ?_; have hS5 := swapS_st5 (Z := s.z3) hS4 (by simp) HG.out; refine wpAnyL_store_fe (i := 5) (Z := s.z3) (by kernel_rfl) rfl rfl rfl rfl (by kernel_rfl) (by kernel_rfl) (hS4.2.1 (by kernel_rfl)) hS5 ?_; have hS6 := swapS_st6 (Z := s.x2) hS5 (by simp) HG.out; refine wpAnyL_store_fe (i := 6) (Z := s.x2) (by kernel_rfl) rfl rfl rfl rfl (by kernel_rfl) (by kernel_rfl) (hS5.2.2.1 (by kernel_rfl)) hS6 ?_; have hS7 := swapS_st7 (Z := s.z2) hS6 (by simp) HG.out; refine wpAnyL_store_fe (i := 7) (Z := s.z2) (by kernel_rfl) rfl rfl rfl rfl (by kernel_rfl) (by kernel_rfl) (hS6.2.2.2 (by kernel_rfl)) hS7 ?_; clear hS hS4 hS5 hS6 hS7; refine wpAnyL_done (by kernel_rfl) ?_ _; refine NoPanic.normal ?_; replace hI : Hid (LadI w (clampL k) X1 g5 g6 g8 g9 s.turn (set4 (set4 (set4 (set4 wr.drew g6 s.x3) (g6 + 1) s.z3) g8 s.x2) g9 s.z2)) := Lib.hid ((hI.out.below (Below.refl _ _).drew).put HG.out s.turn); generalize set4 (set4 (set4 (set4 wr.drew g6 s.x3) (g6 + 1) s.z3) g8 s.x2) g9 s.z2 = u1 at *
        generalize s.turn = s1 at *
        go_upto_region 11 with fail
        refine wp_region_lit ?_; refine wpList_val (run_load_fe hI.out.v5 rfl (by kernel_rfl)) rfl ?_; (try simp only [Act.put, List.setIfInBounds_toArray, List.set_cons_zero, List.set_cons_succ]); refine wpList_val (run_load_fe hI.out.v6 rfl (by kernel_rfl)) rfl ?_; (try simp only [Act.put, List.setIfInBounds_toArray, List.set_cons_zero, List.set_cons_succ]); refine wpList_val (run_load_fe hI.out.v7 rfl (by kernel_rfl)) rfl ?_; (try simp only [Act.put, List.setIfInBounds_toArray, List.set_cons_zero, List.set_cons_succ]); refine wpList_val (run_load_fe hI.out.v8 rfl (by kernel_rfl)) rfl ?_; (try simp only [Act.put, List.setIfInBounds_toArray, List.set_cons_zero, List.set_cons_succ]); refine wpList_val (run_load_fe hI.out.v9 rfl (by kernel_rfl)) rfl ?_; (try simp only [Act.put, List.setIfInBounds_toArray, List.set_cons_zero, List.set_cons_succ]); refine wpList_enter (run_call5 enters_rung rfl rfl (by kernel_rfl) (by kernel_rfl) (by kernel_rfl) (by kernel_rfl) (by kernel_rfl)) rfl (rung_any X1 s1.x2 s1.z2 s1.x3 s1.z3 _ hX1 hok.out.x2 hok.out.z2 hok.out.x3 hok.out.z3 hI.out.G) (fun uu hb => ?_); (try simp only [Act.put, List.setIfInBounds_toArray, List.set_cons_zero, List.set_cons_succ]); refine wpList_val (run_moved (v := (.tuple #[feV (rgX2 s1.x2 s1.z2), feV (rgZ2 s1.x2 s1.z2), feV (rgX3 s1.x2 s1.z2 s1.x3 s1.z3), feV (rgZ3 X1 s1.x2 s1.z2 s1.x3 s1.z3)])) rfl (by kernel_rfl)) rfl ?_; (try simp only [Act.put, List.setIfInBounds_toArray, List.set_cons_zero, List.set_cons_succ]); refine wpList_val (run_extract (v := feV (rgX2 s1.x2 s1.z2)) (vs := #[feV (rgX2 s1.x2 s1.z2), feV (rgZ2 s1.x2 s1.z2), feV (rgX3 s1.x2 s1.z2 s1.x3 s1.z3), feV (rgZ3 X1 s1.x2 s1.z2 s1.x3 s1.z3)]) rfl (by kernel_rfl) rfl) rfl ?_; (try simp only [Act.put, List.setIfInBounds_toArray, List.set_cons_zero, List.set_cons_succ]); refine wpList_val (run_extract (v := feV (rgZ2 s1.x2 s1.z2)) (vs := #[feV (rgX2 s1.x2 s1.z2), feV (rgZ2 s1.x2 s1.z2), feV (rgX3 s1.x2 s1.z2 s1.x3 s1.z3), feV (rgZ3 X1 s1.x2 s1.z2 s1.x3 s1.z3)]) rfl (by kernel_rfl) rfl) rfl ?_; (try simp only [Act.put, List.setIfInBounds_toArray, List.set_cons_zero, List.set_cons_succ]); refine wpList_val (run_extract (v := feV (rgX3 s1.x2 s1.z2 s1.x3 s1.z3)) (vs := #[feV (rgX2 s1.x2 s1.z2), feV (rgZ2 s1.x2 s1.z2), feV (rgX3 s1.x2 s1.z2 s1.x3 s1.z3), feV (rgZ3 X1 s1.x2 s1.z2 s1.x3 s1.z3)]) rfl (by kernel_rfl) rfl) rfl ?_; (try simp only [Act.put, List.setIfInBounds_toArray, List.set_cons_zero, List.set_cons_succ]); refine wpList_val (run_extract (v := feV (rgZ3 X1 s1.x2 s1.z2 s1.x3 s1.z3)) (vs := #[feV (rgX2 s1.x2 s1.z2), feV (rgZ2 s1.x2 s1.z2), feV (rgX3 s1.x2 s1.z2 s1.x3 s1.z3), feV (rgZ3 X1 s1.x2 s1.z2 s1.x3 s1.z3)]) rfl (by kernel_rfl) rfl) rfl ?_; (try simp only [Act.put, List.setIfInBounds_toArray, List.set_cons_zero, List.set_cons_succ]); replace hI := Lib.hid (hI.out.below hb); clear hb; obtain ⟨n1, n2, n3, n4, n5, n6, n7⟩ := HG.out; refine wpList_store_fe (Z := rgX2 s1.x2 s1.z2) hI.out.v6 rfl rfl rfl (by kernel_rfl) (by kernel_rfl) ?_; refine wpList_store_fe (Z := rgZ2 s1.x2 s1.z2) (var_far4 hI.out.v7 (by omega) _) rfl rfl rfl (by kernel_rfl) (by kernel_rfl) ?_; refine wpList_store_fe (Z := rgX3 s1.x2 s1.z2 s1.x3 s1.z3) (var_far4 (var_far4 hI.out.v8 (by omega) _) (by omega) _) rfl rfl rfl (by kernel_rfl) (by kernel_rfl) ?_; refine wpList_store_fe (Z := rgZ3 X1 s1.x2 s1.z2 s1.x3 s1.z3) (var_far4 (var_far4 (var_far4 hI.out.v9 (by omega) _) (by omega) _) (by omega) _) rfl rfl rfl (by kernel_rfl) (by kernel_rfl) ?_; clear n1 n2 n3 n4 n5 n6 n7; refine wpList_done ?_; replace hI : Hid (LadI w (clampL k) X1 g5 g6 g8 g9 (LS.rung X1 s1) (set4 (set4 (set4 (set4 uu g6 (rgX2 s1.x2 s1.z2)) (g6 + 1) (rgZ2 s1.x2 s1.z2)) g8 (rgX3 s1.x2 s1.z2 s1.x3 s1.z3)) g9 (rgZ3 X1 s1.x2 s1.z2 s1.x3 s1.z3))) := Lib.hid (hI.out.put HG.out (LS.rung X1 s1)); generalize set4 (set4 (set4 (set4 uu g6 (rgX2 s1.x2 s1.z2)) (g6 + 1) (rgZ2 s1.x2 s1.z2)) g8 (rgX3 s1.x2 s1.z2 s1.x3 s1.z3)) g9 (rgZ3 X1 s1.x2 s1.z2 s1.x3 s1.z3) = u2 at *; clear uu
        replace hok : Hid (LS.rung X1 s1).turn.Ok := Lib.hid (LS.Ok.rung X1 s1).turn
        generalize LS.rung X1 s1 = s2 at *
        go_upto_region 13 with fail
        refine wp_region_noPanic ?_; refine wp_region_late (S := SwapS g6 g8 g9 s2) (by kernel_rfl) ⟨fun _ => hI.out.v6.drew, fun _ => hI.out.v7.drew, fun _ => hI.out.v8.drew, fun _ => hI.out.v9.drew⟩ (fun hS => ?_); refine wpAnyL_load_fe (i := 0) (X := s2.x3) [4, 5, 6, 7] rfl rfl rfl rfl (by kernel_rfl) (by kernel_rfl) (by kernel_rfl) (by kernel_rfl) (by kernel_rfl) (fun _ _ _ h => h) (by kernel_rfl) (fun L V hd hV => hV.2.2.1 (hd 6 (by simp))) (swapS_set (by omega)) hS (fun hS => ?_); (try simp only [Act.put, List.setIfInBounds_toArray, List.set_cons_zero, List.set_cons_succ]); refine wpAnyL_load_fe (i := 1) (X := s2.z3) [5, 6, 7] rfl rfl rfl rfl (by kernel_rfl) (by kernel_rfl) (by kernel_rfl) (by kernel_rfl) (by kernel_rfl) (fun _ _ _ h => h) (by kernel_rfl) (fun L V hd hV => hV.2.2.2 (hd 7 (by simp))) (swapS_set (by omega)) hS (fun hS => ?_); (try simp only [Act.put, List.setIfInBounds_toArray, List.set_cons_zero, List.set_cons_succ]); refine wpAnyL_load_fe (i := 2) (X := s2.x2) [4, 5, 6, 7] rfl rfl rfl rfl (by kernel_rfl) (by kernel_rfl) (by kernel_rfl) (by kernel_rfl) (by kernel_rfl) (fun _ _ _ h => h) (by kernel_rfl) (fun L V hd hV => hV.1 (hd 4 (by simp))) (swapS_set (by omega)) hS (fun hS => ?_); (try simp only [Act.put, List.setIfInBounds_toArray, List.set_cons_zero, List.set_cons_succ]); refine wpAnyL_load_fe (i := 3) (X := s2.z2) [4, 5, 6, 7] rfl rfl rfl rfl (by kernel_rfl) (by kernel_rfl) (by kernel_rfl) (by kernel_rfl) (by kernel_rfl) (fun _ _ _ h => h) (by kernel_rfl) (fun L V hd hV => hV.2.1 (hd 5 (by simp))) (swapS_set (by omega)) hS (fun hS => ?_); (try simp only [Act.put, List.setIfInBounds_toArray, List.set_cons_zero, List.set_cons_succ]); have hS4 := swapS_st4 (Z := s2.x3) hS (by simp) HG.out; refine wpAnyL_store_fe (i := 4) (Z := s2.x3) (by kernel_rfl) rfl rfl rfl rfl (by kernel_rfl) (by kernel_rfl) (hS.1 (by kernel_rfl)) hS4 ?_; have hS5 := swapS_st5 (Z := s2.z3) hS4 (by simp) HG.out; refine wpAnyL_store_fe (i := 5) (Z := s2.z3) (by kernel_rfl) rfl rfl rfl rfl (by kernel_rfl) (by kernel_rfl) (hS4.2.1 (by kernel_rfl)) hS5 ?_; have hS6 := swapS_st6 (Z := s2.x2) hS5 (by simp) HG.out; refine wpAnyL_store_fe (i := 6) (Z := s2.x2) (by kernel_rfl) rfl rfl rfl rfl (by kernel_rfl) (by kernel_rfl) (hS5.2.2.1 (by kernel_rfl)) hS6 ?_; have hS7 := swapS_st7 (Z := s2.z2) hS6 (by simp) HG.out; refine wpAnyL_store_fe (i := 7) (Z := s2.z2) (by kernel_rfl) rfl rfl rfl rfl (by kernel_rfl) (by kernel_rfl) (hS6.2.2.2 (by kernel_rfl)) hS7 ?_; clear hS hS4 hS5 hS6 hS7; refine wpAnyL_done (by kernel_rfl) ?_ _; refine NoPanic.normal ?_; replace hI : Hid (LadI w (clampL k) X1 g5 g6 g8 g9 s2.turn (set4 (set4 (set4 (set4 u2.drew g6 s2.x3) (g6 + 1) s2.z3) g8 s2.x2) g9 s2.z2)) := Lib.hid ((hI.out.below (Below.refl _ _).drew).put HG.out s2.turn); generalize set4 (set4 (set4 (set4 u2.drew g6 s2.x3) (g6 + 1) s2.z3) g8 s2.x2) g9 s2.z2 = u3 at *
        generalize s2.turn = s3 at *
        go_wp2_with fail
        exact ⟨⟨j, s3, by omega, rfl, hI.out, hok.out, EQ.out⟩, by simp [intOf]⟩
      | false =>
        have hbb : (bits .and .u8 (nth (clampL k) q / 2 ^ (j % 8)) 1 == 1) = false := by rw [← E.out]; exact hbit
        have HB := Lib.hid hbit; clear hbit
        have hI : Hid (LadI w (clampL k) X1 g5 g6 g8 g9 s wr) := Lib.hid HI.out.I
        have hok : Hid s.Ok := Lib.hid HI.out.ok
        have EQ : Hid (lad X1 (clampL k) j (LS.rung X1 s) = lad X1 (clampL k) 255 (ladStart X1)) := Lib.hid (by rw [← HI.out.eq, lad_succ, HB.out]; rfl)
        clear HI
        go_upto_region 11 with fail
        clear kc hbb
        refine wp_region_lit ?_; refine wpList_val (run_load_fe hI.out.v5 rfl (by kernel_rfl)) rfl ?_; (try simp only [Act.put, List.setIfInBounds_toArray, List.set_cons_zero, List.set_cons_succ]); refine wpList_val (run_load_fe hI.out.v6 rfl (by kernel_rfl)) rfl ?_; (try simp only [Act.put, List.setIfInBounds_toArray, List.set_cons_zero, List.set_cons_succ]); refine wpList_val (run_load_fe hI.out.v7 rfl (by kernel_rfl)) rfl ?_; (try simp only [Act.put, List.setIfInBounds_toArray, List.set_cons_zero, List.set_cons_succ]); refine wpList_val (run_load_fe hI.out.v8 rfl (by kernel_rfl)) rfl ?_; (try simp only [Act.put, List.setIfInBounds_toArray, List.set_cons_zero, List.set_cons_succ]); refine wpList_val (run_load_fe hI.out.v9 rfl (by kernel_rfl)) rfl ?_; (try simp only [Act.put, List.setIfInBounds_toArray, List.set_cons_zero, List.set_cons_succ]); refine wpList_enter (run_call5 enters_rung rfl rfl (by kernel_rfl) (by kernel_rfl) (by kernel_rfl) (by kernel_rfl) (by kernel_rfl)) rfl (rung_any X1 s.x2 s.z2 s.x3 s.z3 _ hX1 hok.out.x2 hok.out.z2 hok.out.x3 hok.out.z3 hI.out.G) (fun uu hb => ?_); (try simp only [Act.put, List.setIfInBounds_toArray, List.set_cons_zero, List.set_cons_succ]); refine wpList_val (run_moved (v := (.tuple #[feV (rgX2 s.x2 s.z2), feV (rgZ2 s.x2 s.z2), feV (rgX3 s.x2 s.z2 s.x3 s.z3), feV (rgZ3 X1 s.x2 s.z2 s.x3 s.z3)])) rfl (by kernel_rfl)) rfl ?_; (try simp only [Act.put, List.setIfInBounds_toArray, List.set_cons_zero, List.set_cons_succ]); refine wpList_val (run_extract (v := feV (rgX2 s.x2 s.z2)) (vs := #[feV (rgX2 s.x2 s.z2), feV (rgZ2 s.x2 s.z2), feV (rgX3 s.x2 s.z2 s.x3 s.z3), feV (rgZ3 X1 s.x2 s.z2 s.x3 s.z3)]) rfl (by kernel_rfl) rfl) rfl ?_; (try simp only [Act.put, List.setIfInBounds_toArray, List.set_cons_zero, List.set_cons_succ]); refine wpList_val (run_extract (v := feV (rgZ2 s.x2 s.z2)) (vs := #[feV (rgX2 s.x2 s.z2), feV (rgZ2 s.x2 s.z2), feV (rgX3 s.x2 s.z2 s.x3 s.z3), feV (rgZ3 X1 s.x2 s.z2 s.x3 s.z3)]) rfl (by kernel_rfl) rfl) rfl ?_; (try simp only [Act.put, List.setIfInBounds_toArray, List.set_cons_zero, List.set_cons_succ]); refine wpList_val (run_extract (v := feV (rgX3 s.x2 s.z2 s.x3 s.z3)) (vs := #[feV (rgX2 s.x2 s.z2), feV (rgZ2 s.x2 s.z2), feV (rgX3 s.x2 s.z2 s.x3 s.z3), feV (rgZ3 X1 s.x2 s.z2 s.x3 s.z3)]) rfl (by kernel_rfl) rfl) rfl ?_; (try simp only [Act.put, List.setIfInBounds_toArray, List.set_cons_zero, List.set_cons_succ]); refine wpList_val (run_extract (v := feV (rgZ3 X1 s.x2 s.z2 s.x3 s.z3)) (vs := #[feV (rgX2 s.x2 s.z2), feV (rgZ2 s.x2 s.z2), feV (rgX3 s.x2 s.z2 s.x3 s.z3), feV (rgZ3 X1 s.x2 s.z2 s.x3 s.z3)]) rfl (by kernel_rfl) rfl) rfl ?_; (try simp only [Act.put, List.setIfInBounds_toArray, List.set_cons_zero, List.set_cons_succ]); replace hI := Lib.hid (hI.out.below hb); clear hb; obtain ⟨n1, n2, n3, n4, n5, n6, n7⟩ := HG.out; refine wpList_store_fe (Z := rgX2 s.x2 s.z2) hI.out.v6 rfl rfl rfl (by kernel_rfl) (by kernel_rfl) ?_; refine wpList_store_fe (Z := rgZ2 s.x2 s.z2) (var_far4 hI.out.v7 (by omega) _) rfl rfl rfl (by kernel_rfl) (by kernel_rfl) ?_; refine wpList_store_fe (Z := rgX3 s.x2 s.z2 s.x3 s.z3) (var_far4 (var_far4 hI.out.v8 (by omega) _) (by omega) _) rfl rfl rfl (by kernel_rfl) (by kernel_rfl) ?_; refine wpList_store_fe (Z := rgZ3 X1 s.x2 s.z2 s.x3 s.z3) (var_far4 (var_far4 (var_far4 hI.out.v9 (by omega) _) (by omega) _) (by omega) _) rfl rfl rfl (by kernel_rfl) (by kernel_rfl) ?_; clear n1 n2 n3 n4 n5 n6 n7; refine wpList_done ?_; replace hI : Hid (LadI w (clampL k) X1 g5 g6 g8 g9 (LS.rung X1 s) (set4 (set4 (set4 (set4 uu g6 (rgX2 s.x2 s.z2)) (g6 + 1) (rgZ2 s.x2 s.z2)) g8 (rgX3 s.x2 s.z2 s.x3 s.z3)) g9 (rgZ3 X1 s.x2 s.z2 s.x3 s.z3))) := Lib.hid (hI.out.put HG.out (LS.rung X1 s)); generalize set4 (set4 (set4 (set4 uu g6 (rgX2 s.x2 s.z2)) (g6 + 1) (rgZ2 s.x2 s.z2)) g8 (rgX3 s.x2 s.z2 s.x3 s.z3)) g9 (rgZ3 X1 s.x2 s.z2 s.x3 s.z3) = u2 at *; clear uu
        replace hok : Hid (LS.rung X1 s).Ok := Lib.hid (LS.Ok.rung X1 s)
        generalize LS.rung X1 s = s3 at *
        go_wp2_with fail
        exact ⟨⟨j, s3, by omega, rfl, hI.out, hok.out, EQ.out⟩, by simp [intOf]⟩
end Go.Proofs.YtegebgbmnddopaaDoor
