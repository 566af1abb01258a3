/- What keywardref03.sum does with words of 32 bits. -/
import Derived.Test.YtebmcjleepnehaaDoorRef332
import Derived.Test.YtebmcjleepnehaaDoorRefP32
namespace Go.Proofs.YtebmcjleepnehaaDoor
open Go.RowKit

structure SuI32 (w : World) (h : G4) (v : Value) (l : List (BitVec 8)) (u : World) : Prop where
  bl : Below w.heap.size w u
  A : Arr w.heap.size (hC32 h) u
  O : u.ownsRow (w.heap.size + 1) 5 1 v l.length (l.map b8)
theorem SuI32.below {w u u' : World} {h : G4} {v : Value} {l : List (BitVec 8)} (i : SuI32 w h v l u) (hb : Below u.heap.size u u') : SuI32 w h v l u' :=
  ⟨i.bl.trans (hb.mono i.bl.size), i.A.below hb, own_below i.O hb⟩
/-- One byte more. -/
theorem SuI32.push {w u u' : World} {h : G4} {v v' : Value} {l : List (BitVec 8)} {x : BitVec 8} (i : SuI32 w h v l u) (ho : u'.ownsRow (w.heap.size + 1) 5 1 v' (l.length + [x].length) ((l ++ [x]).map b8)) (hb : Below (w.heap.size + 1) u u') : SuI32 w h v' (l ++ [x]) u' :=
  ⟨i.bl.trans (hb.mono (by omega)), arr_stands i.A hb, by rw [List.length_append]; exact ho⟩
theorem bg_up32 (k : Nat) : btab.getD k 0 >>> (64 - 32) = up32 (bg32 k) := by
  unfold up32 bg32
  generalize btab.getD k 0 = x
  apply BitVec.eq_of_toNat_eq
  rw [BitVec.toNat_setWidth, BitVec.toNat_setWidth]
  have h : (x >>> 32).toNat < 4294967296 := by
    rw [BitVec.toNat_ushiftRight, Nat.shiftRight_eq_div_pow]; have := x.isLt; omega
  show (x >>> 32).toNat = _
  generalize (x >>> 32).toNat = y at *
  omega
theorem beg_at32 (k : Nat) (h : k < 8) : (begT32 8).getD k 0 = bg32 k := by
  rcases (show k = 0 ∨ k = 1 ∨ k = 2 ∨ k = 3 ∨ k = 4 ∨ k = 5 ∨ k = 6 ∨ k = 7 by omega) with rfl | rfl | rfl | rfl | rfl | rfl | rfl | rfl <;> rfl
structure S332 (r : World) (v : Value) (k : Nat) (u : World) : Prop where
  bl : Below r.heap.size r u
  O : u.ownsRow r.heap.size 47 1 v k ((upL32 ((begT32 8).take k)).map b64)
theorem S332.below {r u u' : World} {v : Value} {k : Nat} (i : S332 r v k u) (hb : Below u.heap.size u u') : S332 r v k u' :=
  ⟨i.bl.trans (hb.mono i.bl.size), own_below i.O hb⟩
structure S432 (r : World) (g : Nat) (st : List (BitVec 32)) (u : World) : Prop where
  bl : Below r.heap.size r u
  S : Arr g ((upL32 st).map b64) u
  len : st.length = 8
theorem S432.below {r u u' : World} {g : Nat} {st : List (BitVec 32)} (i : S432 r g st u) (hb : Below u.heap.size u u') : S432 r g st u' :=
  ⟨i.bl.trans (hb.mono i.bl.size), i.S.below hb, i.len⟩
theorem pad_len32 (l : List (BitVec 8)) : (pad32 l).length % 64 = 0 ∧ (pad32 l).length ≤ l.length + 1 + 64 + 8 := by
  unfold pad32
  rw [List.length_append, List.length_append, List.length_append, List.length_replicate, lbT_len32]
  show (l.length + 1 + zc32 l.length + 8) % 64 = 0 ∧ l.length + 1 + zc32 l.length + 8 ≤ l.length + 1 + 64 + 8
  unfold zc32
  omega
theorem digT_at32 (st : List (BitVec 32)) (t : Nat) : ∀ k, k ≤ 32 → t < k → (digT32 st k).getD t 0 = digB32 st t
  | 0, _, h => absurd h (Nat.not_lt_zero _)
  | k + 1, hk, h => by
    rw [digT32, getD_set8 _ _ _ _ (by rw [digT_len32]; omega)]
    by_cases e : k = t
    · rw [if_pos e, e]
    · rw [if_neg e]; exact digT_at32 st t k (by omega) (by omega)
theorem dig_byte32 (st : List (BitVec 32)) (i m : Nat) (hi : i < 8) (hm : m < 4) : (up32 (st.getD i 0) >>> (8 * (4 - 1 - m))).setWidth 8 = (digT32 st 32).getD (i * 4 + m) 0 := by
  rw [digT_at32 st _ 32 (Nat.le_refl _) (by omega), digB32, show (i * 4 + m) / 4 = i by omega, show 4 * 8 - 8 - (i * 4 + m) % 4 * 8 = 8 * (4 - 1 - m) by omega, ← up_shr32]
  unfold up32
  exact BitVec.setWidth_setWidth_of_le _ (by omega)
theorem zc_spec32 (n k : Nat) (hk : k ≤ zc32 n) : (n + 1 + k) % 64 = 56 ↔ k = zc32 n := by unfold zc32 at *; omega
set_option maxRecDepth 100000 in
set_option maxHeartbeats 2000000 in
theorem rsum32_any (h : G4) (vb : Value) (l : List (BitVec 8)) (w : World) (hv : Sl vb l w) (hl : l.length ≤ 10000) (hM : HM32 h w) (hT : Tabs w) :
    Calls Tryd.prog 31 #[.agg (hC32 h).toArray, vb] w fun e w' => ∃ v, e = .returned v ∧ w'.ownsRow w.heap.size 5 1 v 32 ((sum32 l).map b8) ∧ Below w.heap.size w w' := by
  have HM := Lib.hid hM; clear hM
  have HT := Lib.hid hT; clear hT
  have HV := Lib.hid hv
  obtain ⟨ao, cc, rfl, hcc, h3⟩ := hv
  have hI : Hid (SuI32 w h (.slice none 0 0) [] (w.alloc (.cells (hC32 h).toArray 57))) := Lib.hid ⟨(Below.refl _ _).alloc (Nat.le_refl _) _, Arr.new w _ _, World.ownsRow_nil _ _ _ _⟩
  go_enter Tryd.func31, Tryd.ntmps31
  go_upto_region 0 with fail; refine wp_region_lit ?_
  refine wpList_val (run_box rfl rfl) rfl ?_; (try simp only [Act.put, List.setIfInBounds_toArray, List.set_cons_zero, List.set_cons_succ])
  (repeat ((first | refine wpList_val (run_mv (v := b32 _) rfl rfl) rfl ?_ | refine wpList_val (run_mv (v := b64 _) rfl rfl) rfl ?_ | refine wpList_val (run_mv (v := b8 _) rfl rfl) rfl ?_ | refine wpList_val (run_mv (v := .int _ _) rfl rfl) rfl ?_ | refine wpList_val (run_mv (v := .bool _) rfl rfl) rfl ?_ | refine wpList_val (run_mv (v := .slice (some _) _ _) rfl rfl) rfl ?_ | refine wpList_val (run_mv (v := .slice _ _ _) rfl rfl) rfl ?_ | refine wpList_val (run_mv (v := .pointer (some _)) rfl rfl) rfl ?_ | refine wpList_val (run_mv (v := .agg _) rfl rfl) rfl ?_ | refine wpList_val (run_asg (v := b32 _) rfl rfl) rfl ?_ | refine wpList_val (run_asg (v := b64 _) rfl rfl) rfl ?_ | refine wpList_val (run_asg (v := b8 _) rfl rfl) rfl ?_ | refine wpList_val (run_asg (v := .int _ _) rfl rfl) rfl ?_ | refine wpList_val (run_asg (v := .bool _) rfl rfl) rfl ?_ | refine wpList_val (run_asg (v := .slice (some _) _ _) rfl rfl) rfl ?_ | refine wpList_val (run_asg (v := .slice _ _ _) rfl rfl) rfl ?_ | refine wpList_val (run_asg (v := .pointer (some _)) rfl rfl) rfl ?_ | refine wpList_val (run_asg (v := .agg _) rfl rfl) rfl ?_ | refine wpList_val (run_mv rfl rfl) rfl ?_ | refine wpList_val (run_asg rfl rfl) rfl ?_ | refine wpList_val (run_xor32 rfl rfl rfl) rfl ?_ | refine wpList_val (run_and32 rfl rfl rfl) rfl ?_ | refine wpList_val (run_or32 rfl rfl rfl) rfl ?_ | refine wpList_val (run_add32 rfl rfl rfl) rfl ?_ | refine wpList_val (run_not32 rfl rfl) rfl ?_ | refine wpList_val (run_xor64 rfl rfl rfl) rfl ?_ | refine wpList_val (run_and64 rfl rfl rfl) rfl ?_ | refine wpList_val (run_or64 rfl rfl rfl) rfl ?_ | refine wpList_val (run_add64 rfl rfl rfl) rfl ?_ | refine wpList_val (run_not64 rfl rfl) rfl ?_ | refine wpList_val (run_xor8 rfl rfl rfl) rfl ?_ | refine wpList_val (run_and8 rfl rfl rfl) rfl ?_ | refine wpList_val (run_or8 rfl rfl rfl) rfl ?_ | refine wpList_val (run_add8 rfl rfl rfl) rfl ?_ | refine wpList_val (run_not8 rfl rfl) rfl ?_ | refine wpList_val (run_cv64_32 rfl rfl) rfl ?_ | refine wpList_val (run_cv8_32 rfl rfl) rfl ?_ | refine wpList_val (run_cv8_64 rfl rfl) rfl ?_ | refine wpList_val (run_cv32_8 rfl rfl) rfl ?_ | refine wpList_val (run_cv64_8 rfl rfl) rfl ?_); (try simp only [Act.put, List.setIfInBounds_toArray, List.set_cons_zero, List.set_cons_succ])))
  refine wpList_end ?_
  generalize w.alloc (.cells (hC32 h).toArray 57) = u1 at *
  go_upto_region 1 with fail; refine wp_region_lit ?_
  refine wpList_val (run_fld0 rfl rfl) rfl ?_; (try simp only [Act.put, List.setIfInBounds_toArray, List.set_cons_zero, List.set_cons_succ])
  refine wpList_val (run_ldu rfl rfl (hI.out.A.c 0 _ rfl)) rfl ?_; (try simp only [Act.put, List.setIfInBounds_toArray, List.set_cons_zero, List.set_cons_succ])
  refine wpList_val (run_cvui rfl rfl (by omega) (by omega)) rfl ?_; (try simp only [Act.put, List.setIfInBounds_toArray, List.set_cons_zero, List.set_cons_succ])
  refine wpList_val (run_mul rfl rfl rfl (by omega) (by omega)) rfl ?_; (try simp only [Act.put, List.setIfInBounds_toArray, List.set_cons_zero, List.set_cons_succ])
  rw [show ((32 : Int) * 2) = 64 from rfl]
  (repeat ((first | refine wpList_val (run_mv (v := b32 _) rfl rfl) rfl ?_ | refine wpList_val (run_mv (v := b64 _) rfl rfl) rfl ?_ | refine wpList_val (run_mv (v := b8 _) rfl rfl) rfl ?_ | refine wpList_val (run_mv (v := .int _ _) rfl rfl) rfl ?_ | refine wpList_val (run_mv (v := .bool _) rfl rfl) rfl ?_ | refine wpList_val (run_mv (v := .slice (some _) _ _) rfl rfl) rfl ?_ | refine wpList_val (run_mv (v := .slice _ _ _) rfl rfl) rfl ?_ | refine wpList_val (run_mv (v := .pointer (some _)) rfl rfl) rfl ?_ | refine wpList_val (run_mv (v := .agg _) rfl rfl) rfl ?_ | refine wpList_val (run_asg (v := b32 _) rfl rfl) rfl ?_ | refine wpList_val (run_asg (v := b64 _) rfl rfl) rfl ?_ | refine wpList_val (run_asg (v := b8 _) rfl rfl) rfl ?_ | refine wpList_val (run_asg (v := .int _ _) rfl rfl) rfl ?_ | refine wpList_val (run_asg (v := .bool _) rfl rfl) rfl ?_ | refine wpList_val (run_asg (v := .slice (some _) _ _) rfl rfl) rfl ?_ | refine wpList_val (run_asg (v := .slice _ _ _) rfl rfl) rfl ?_ | refine wpList_val (run_asg (v := .pointer (some _)) rfl rfl) rfl ?_ | refine wpList_val (run_asg (v := .agg _) rfl rfl) rfl ?_ | refine wpList_val (run_mv rfl rfl) rfl ?_ | refine wpList_val (run_asg rfl rfl) rfl ?_ | refine wpList_val (run_xor32 rfl rfl rfl) rfl ?_ | refine wpList_val (run_and32 rfl rfl rfl) rfl ?_ | refine wpList_val (run_or32 rfl rfl rfl) rfl ?_ | refine wpList_val (run_add32 rfl rfl rfl) rfl ?_ | refine wpList_val (run_not32 rfl rfl) rfl ?_ | refine wpList_val (run_xor64 rfl rfl rfl) rfl ?_ | refine wpList_val (run_and64 rfl rfl rfl) rfl ?_ | refine wpList_val (run_or64 rfl rfl rfl) rfl ?_ | refine wpList_val (run_add64 rfl rfl rfl) rfl ?_ | refine wpList_val (run_not64 rfl rfl) rfl ?_ | refine wpList_val (run_xor8 rfl rfl rfl) rfl ?_ | refine wpList_val (run_and8 rfl rfl rfl) rfl ?_ | refine wpList_val (run_or8 rfl rfl rfl) rfl ?_ | refine wpList_val (run_add8 rfl rfl rfl) rfl ?_ | refine wpList_val (run_not8 rfl rfl) rfl ?_ | refine wpList_val (run_cv64_32 rfl rfl) rfl ?_ | refine wpList_val (run_cv8_32 rfl rfl) rfl ?_ | refine wpList_val (run_cv8_64 rfl rfl) rfl ?_ | refine wpList_val (run_cv32_8 rfl rfl) rfl ?_ | refine wpList_val (run_cv64_8 rfl rfl) rfl ?_); (try simp only [Act.put, List.setIfInBounds_toArray, List.set_cons_zero, List.set_cons_succ])))
  refine wpList_end ?_
  go_upto_region 2 with fail; refine wp_region_lit ?_
  refine wpList_val (run_asg (v := .slice none 0 0) rfl rfl) rfl ?_; (try simp only [Act.put, List.setIfInBounds_toArray, List.set_cons_zero, List.set_cons_succ])
  refine wpList_end ?_
  go_upto_region 3 with fail; refine wp_region_lit ?_
  refine wpList_val (run_mv (v := .slice none 0 0) rfl rfl) rfl ?_; (try simp only [Act.put, List.setIfInBounds_toArray, List.set_cons_zero, List.set_cons_succ])
  refine wpList_val (run_mv (v := .slice _ _ _) rfl rfl) rfl ?_; (try simp only [Act.put, List.setIfInBounds_toArray, List.set_cons_zero, List.set_cons_succ])
  clear h3
  refine wpList_appS (base := w.heap.size + 1) rfl rfl rfl rfl (HV.out.below hI.out.bl) (by omega) hI.out.A.lt (fun v2 u2 h3 hb3 => ?_); (try simp only [Act.put, List.setIfInBounds_toArray, List.set_cons_zero, List.set_cons_succ])
  replace hI : Hid (SuI32 w h v2 l u2) := Lib.hid ⟨hI.out.bl.trans (hb3.mono (by omega)), arr_stands hI.out.A hb3, h3⟩
  clear h3 hb3
  refine wpList_val (run_asg (v := v2) rfl rfl) rfl ?_; (try simp only [Act.put, List.setIfInBounds_toArray, List.set_cons_zero, List.set_cons_succ])
  refine wpList_end ?_
  go_upto_region 4 with fail; refine wp_region_lit ?_
  refine wpList_val (run_mv (v := v2) rfl rfl) rfl ?_; (try simp only [Act.put, List.setIfInBounds_toArray, List.set_cons_zero, List.set_cons_succ])
  refine wpList_val (run_bsl (cells := #[b8 (128#8)]) (z := .int .u8 0) rfl Tryd.underlying22 (by kernel_rfl) (by omega) (by omega) (by kernel_rfl)) rfl ?_; (try simp only [Act.put, List.setIfInBounds_toArray, List.set_cons_zero, List.set_cons_succ]); have hb2 : Below u2.heap.size u2 (u2.alloc (.cells #[b8 (128#8)] 5)) := (Below.refl _ _).alloc (Nat.le_refl _) _; have A2 : Hid (Arr u2.heap.size ([128#8].map b8) (u2.alloc (.cells #[b8 (128#8)] 5))) := Lib.hid (Arr.new u2 _ _); replace hI := Lib.hid (hI.out.below hb2); clear hb2; generalize u2.alloc (.cells #[b8 (128#8)] 5) = u0 at *; refine wpList_app (f := b8) (fun _ => rfl) (l := l) (m := [128#8]) (bw := 1) (z := .int .u8 0) rfl rfl Tryd.underlying22 (by kernel_rfl) rfl (by omega) rfl hI.out.O rfl A2.out.range (by show l.length + 1 ≤ _; omega) hI.out.A.lt (fun v3 u3 h3 hb3 => ?_); (try simp only [Act.put, List.setIfInBounds_toArray, List.set_cons_zero, List.set_cons_succ]); replace hI : Hid (SuI32 w h v3 (l ++ [128#8]) u3) := Lib.hid (hI.out.push h3 hb3); clear h3 hb3 A2; refine wpList_val (run_asg (v := v3) rfl rfl) rfl ?_; (try simp only [Act.put, List.setIfInBounds_toArray, List.set_cons_zero, List.set_cons_succ]); refine wpList_end ?_
  have hI0 : Hid (SuI32 w h v3 (l ++ [128#8] ++ List.replicate 0 0) u3) := Lib.hid (by have := hI.out; rwa [← List.append_nil (l ++ [128#8])] at this)
  clear hI
  have hz : zc32 l.length ≤ 64 := by unfold zc32; omega
  go_wp2_with fail
  go_loopw [6] (fun v6 u => ∃ k : Nat, k ≤ zc32 l.length ∧ SuI32 w h v6 (l ++ [128#8] ++ List.replicate k 0) u) (fun v6 _ => l.length + 1 + zc32 l.length - slLen v6)
  case atStart => exact ⟨0, by omega, hI0.out⟩
  case round =>
    clear hI0
    obtain ⟨k, hk, hJ⟩ := hrel
    have hI := Lib.hid hJ
    clear hJ
    have hln : (l ++ [128#8] ++ List.replicate k 0).length = l.length + 1 + k := by rw [List.length_append, List.length_append, List.length_replicate]; rfl
    generalize hL : l ++ [128#8] ++ List.replicate k 0 = L at *
    have EL := Lib.hid hL; clear hL
    obtain ⟨a6, c6, h6, -, -⟩ := Sl.own hI.out.O
    subst h6
    have hzs := zc_spec32 l.length k hk
    go_upto_region 5 with fail; refine wp_region_lit ?_
    (repeat ((first | refine wpList_val (run_mv (v := b32 _) rfl rfl) rfl ?_ | refine wpList_val (run_mv (v := b64 _) rfl rfl) rfl ?_ | refine wpList_val (run_mv (v := b8 _) rfl rfl) rfl ?_ | refine wpList_val (run_mv (v := .int _ _) rfl rfl) rfl ?_ | refine wpList_val (run_mv (v := .bool _) rfl rfl) rfl ?_ | refine wpList_val (run_mv (v := .slice (some _) _ _) rfl rfl) rfl ?_ | refine wpList_val (run_mv (v := .slice _ _ _) rfl rfl) rfl ?_ | refine wpList_val (run_mv (v := .pointer (some _)) rfl rfl) rfl ?_ | refine wpList_val (run_mv (v := .agg _) rfl rfl) rfl ?_ | refine wpList_val (run_asg (v := b32 _) rfl rfl) rfl ?_ | refine wpList_val (run_asg (v := b64 _) rfl rfl) rfl ?_ | refine wpList_val (run_asg (v := b8 _) rfl rfl) rfl ?_ | refine wpList_val (run_asg (v := .int _ _) rfl rfl) rfl ?_ | refine wpList_val (run_asg (v := .bool _) rfl rfl) rfl ?_ | refine wpList_val (run_asg (v := .slice (some _) _ _) rfl rfl) rfl ?_ | refine wpList_val (run_asg (v := .slice _ _ _) rfl rfl) rfl ?_ | refine wpList_val (run_asg (v := .pointer (some _)) rfl rfl) rfl ?_ | refine wpList_val (run_asg (v := .agg _) rfl rfl) rfl ?_ | refine wpList_val (run_mv rfl rfl) rfl ?_ | refine wpList_val (run_asg rfl rfl) rfl ?_ | refine wpList_val (run_xor32 rfl rfl rfl) rfl ?_ | refine wpList_val (run_and32 rfl rfl rfl) rfl ?_ | refine wpList_val (run_or32 rfl rfl rfl) rfl ?_ | refine wpList_val (run_add32 rfl rfl rfl) rfl ?_ | refine wpList_val (run_not32 rfl rfl) rfl ?_ | refine wpList_val (run_xor64 rfl rfl rfl) rfl ?_ | refine wpList_val (run_and64 rfl rfl rfl) rfl ?_ | refine wpList_val (run_or64 rfl rfl rfl) rfl ?_ | refine wpList_val (run_add64 rfl rfl rfl) rfl ?_ | refine wpList_val (run_not64 rfl rfl) rfl ?_ | refine wpList_val (run_xor8 rfl rfl rfl) rfl ?_ | refine wpList_val (run_and8 rfl rfl rfl) rfl ?_ | refine wpList_val (run_or8 rfl rfl rfl) rfl ?_ | refine wpList_val (run_add8 rfl rfl rfl) rfl ?_ | refine wpList_val (run_not8 rfl rfl) rfl ?_ | refine wpList_val (run_cv64_32 rfl rfl) rfl ?_ | refine wpList_val (run_cv8_32 rfl rfl) rfl ?_ | refine wpList_val (run_cv8_64 rfl rfl) rfl ?_ | refine wpList_val (run_cv32_8 rfl rfl) rfl ?_ | refine wpList_val (run_cv64_8 rfl rfl) rfl ?_); (try simp only [Act.put, List.setIfInBounds_toArray, List.set_cons_zero, List.set_cons_succ])))
    refine wpList_val (run_len rfl Tryd.underlying22 rfl) rfl ?_; (try simp only [Act.put, List.setIfInBounds_toArray, List.set_cons_zero, List.set_cons_succ])
    (repeat ((first | refine wpList_val (run_mv (v := b32 _) rfl rfl) rfl ?_ | refine wpList_val (run_mv (v := b64 _) rfl rfl) rfl ?_ | refine wpList_val (run_mv (v := b8 _) rfl rfl) rfl ?_ | refine wpList_val (run_mv (v := .int _ _) rfl rfl) rfl ?_ | refine wpList_val (run_mv (v := .bool _) rfl rfl) rfl ?_ | refine wpList_val (run_mv (v := .slice (some _) _ _) rfl rfl) rfl ?_ | refine wpList_val (run_mv (v := .slice _ _ _) rfl rfl) rfl ?_ | refine wpList_val (run_mv (v := .pointer (some _)) rfl rfl) rfl ?_ | refine wpList_val (run_mv (v := .agg _) rfl rfl) rfl ?_ | refine wpList_val (run_asg (v := b32 _) rfl rfl) rfl ?_ | refine wpList_val (run_asg (v := b64 _) rfl rfl) rfl ?_ | refine wpList_val (run_asg (v := b8 _) rfl rfl) rfl ?_ | refine wpList_val (run_asg (v := .int _ _) rfl rfl) rfl ?_ | refine wpList_val (run_asg (v := .bool _) rfl rfl) rfl ?_ | refine wpList_val (run_asg (v := .slice (some _) _ _) rfl rfl) rfl ?_ | refine wpList_val (run_asg (v := .slice _ _ _) rfl rfl) rfl ?_ | refine wpList_val (run_asg (v := .pointer (some _)) rfl rfl) rfl ?_ | refine wpList_val (run_asg (v := .agg _) rfl rfl) rfl ?_ | refine wpList_val (run_mv rfl rfl) rfl ?_ | refine wpList_val (run_asg rfl rfl) rfl ?_ | refine wpList_val (run_xor32 rfl rfl rfl) rfl ?_ | refine wpList_val (run_and32 rfl rfl rfl) rfl ?_ | refine wpList_val (run_or32 rfl rfl rfl) rfl ?_ | refine wpList_val (run_add32 rfl rfl rfl) rfl ?_ | refine wpList_val (run_not32 rfl rfl) rfl ?_ | refine wpList_val (run_xor64 rfl rfl rfl) rfl ?_ | refine wpList_val (run_and64 rfl rfl rfl) rfl ?_ | refine wpList_val (run_or64 rfl rfl rfl) rfl ?_ | refine wpList_val (run_add64 rfl rfl rfl) rfl ?_ | refine wpList_val (run_not64 rfl rfl) rfl ?_ | refine wpList_val (run_xor8 rfl rfl rfl) rfl ?_ | refine wpList_val (run_and8 rfl rfl rfl) rfl ?_ | refine wpList_val (run_or8 rfl rfl rfl) rfl ?_ | refine wpList_val (run_add8 rfl rfl rfl) rfl ?_ | refine wpList_val (run_not8 rfl rfl) rfl ?_ | refine wpList_val (run_cv64_32 rfl rfl) rfl ?_ | refine wpList_val (run_cv8_32 rfl rfl) rfl ?_ | refine wpList_val (run_cv8_64 rfl rfl) rfl ?_ | refine wpList_val (run_cv32_8 rfl rfl) rfl ?_ | refine wpList_val (run_cv64_8 rfl rfl) rfl ?_); (try simp only [Act.put, List.setIfInBounds_toArray, List.set_cons_zero, List.set_cons_succ])))
    refine wpList_val (run_rem rfl rfl rfl (by omega) (by omega)) rfl ?_; (try simp only [Act.put, List.setIfInBounds_toArray, List.set_cons_zero, List.set_cons_succ])
    (repeat ((first | refine wpList_val (run_mv (v := b32 _) rfl rfl) rfl ?_ | refine wpList_val (run_mv (v := b64 _) rfl rfl) rfl ?_ | refine wpList_val (run_mv (v := b8 _) rfl rfl) rfl ?_ | refine wpList_val (run_mv (v := .int _ _) rfl rfl) rfl ?_ | refine wpList_val (run_mv (v := .bool _) rfl rfl) rfl ?_ | refine wpList_val (run_mv (v := .slice (some _) _ _) rfl rfl) rfl ?_ | refine wpList_val (run_mv (v := .slice _ _ _) rfl rfl) rfl ?_ | refine wpList_val (run_mv (v := .pointer (some _)) rfl rfl) rfl ?_ | refine wpList_val (run_mv (v := .agg _) rfl rfl) rfl ?_ | refine wpList_val (run_asg (v := b32 _) rfl rfl) rfl ?_ | refine wpList_val (run_asg (v := b64 _) rfl rfl) rfl ?_ | refine wpList_val (run_asg (v := b8 _) rfl rfl) rfl ?_ | refine wpList_val (run_asg (v := .int _ _) rfl rfl) rfl ?_ | refine wpList_val (run_asg (v := .bool _) rfl rfl) rfl ?_ | refine wpList_val (run_asg (v := .slice (some _) _ _) rfl rfl) rfl ?_ | refine wpList_val (run_asg (v := .slice _ _ _) rfl rfl) rfl ?_ | refine wpList_val (run_asg (v := .pointer (some _)) rfl rfl) rfl ?_ | refine wpList_val (run_asg (v := .agg _) rfl rfl) rfl ?_ | refine wpList_val (run_mv rfl rfl) rfl ?_ | refine wpList_val (run_asg rfl rfl) rfl ?_ | refine wpList_val (run_xor32 rfl rfl rfl) rfl ?_ | refine wpList_val (run_and32 rfl rfl rfl) rfl ?_ | refine wpList_val (run_or32 rfl rfl rfl) rfl ?_ | refine wpList_val (run_add32 rfl rfl rfl) rfl ?_ | refine wpList_val (run_not32 rfl rfl) rfl ?_ | refine wpList_val (run_xor64 rfl rfl rfl) rfl ?_ | refine wpList_val (run_and64 rfl rfl rfl) rfl ?_ | refine wpList_val (run_or64 rfl rfl rfl) rfl ?_ | refine wpList_val (run_add64 rfl rfl rfl) rfl ?_ | refine wpList_val (run_not64 rfl rfl) rfl ?_ | refine wpList_val (run_xor8 rfl rfl rfl) rfl ?_ | refine wpList_val (run_and8 rfl rfl rfl) rfl ?_ | refine wpList_val (run_or8 rfl rfl rfl) rfl ?_ | refine wpList_val (run_add8 rfl rfl rfl) rfl ?_ | refine wpList_val (run_not8 rfl rfl) rfl ?_ | refine wpList_val (run_cv64_32 rfl rfl) rfl ?_ | refine wpList_val (run_cv8_32 rfl rfl) rfl ?_ | refine wpList_val (run_cv8_64 rfl rfl) rfl ?_ | refine wpList_val (run_cv32_8 rfl rfl) rfl ?_ | refine wpList_val (run_cv64_8 rfl rfl) rfl ?_); (try simp only [Act.put, List.setIfInBounds_toArray, List.set_cons_zero, List.set_cons_succ])))
    refine wpList_val (run_quo rfl rfl rfl (by omega) (by omega) (by omega)) rfl ?_; (try simp only [Act.put, List.setIfInBounds_toArray, List.set_cons_zero, List.set_cons_succ])
    refine wpList_val (run_sub rfl rfl rfl (by omega) (by omega)) rfl ?_; (try simp only [Act.put, List.setIfInBounds_toArray, List.set_cons_zero, List.set_cons_succ])
    by_cases hkz : k = zc32 l.length
    · refine wpList_val (run_neqi (c := false) rfl rfl rfl (by simp; omega)) rfl ?_; (try simp only [Act.put, List.setIfInBounds_toArray, List.set_cons_zero, List.set_cons_succ])
      refine wpList_end ?_
      rw [hkz] at EL hln
      clear hkz hk hzs
      have HPAD : Hid (pad32 l = L ++ lbT32 l.length 8) := Lib.hid (by rw [← EL.out]; rfl)
      clear EL
      generalize L = P0 at *
      go_upto_region 7 with fail; refine wp_region_lit ?_
      (repeat ((first | refine wpList_val (run_mv (v := b32 _) rfl rfl) rfl ?_ | refine wpList_val (run_mv (v := b64 _) rfl rfl) rfl ?_ | refine wpList_val (run_mv (v := b8 _) rfl rfl) rfl ?_ | refine wpList_val (run_mv (v := .int _ _) rfl rfl) rfl ?_ | refine wpList_val (run_mv (v := .bool _) rfl rfl) rfl ?_ | refine wpList_val (run_mv (v := .slice (some _) _ _) rfl rfl) rfl ?_ | refine wpList_val (run_mv (v := .slice _ _ _) rfl rfl) rfl ?_ | refine wpList_val (run_mv (v := .pointer (some _)) rfl rfl) rfl ?_ | refine wpList_val (run_mv (v := .agg _) rfl rfl) rfl ?_ | refine wpList_val (run_asg (v := b32 _) rfl rfl) rfl ?_ | refine wpList_val (run_asg (v := b64 _) rfl rfl) rfl ?_ | refine wpList_val (run_asg (v := b8 _) rfl rfl) rfl ?_ | refine wpList_val (run_asg (v := .int _ _) rfl rfl) rfl ?_ | refine wpList_val (run_asg (v := .bool _) rfl rfl) rfl ?_ | refine wpList_val (run_asg (v := .slice (some _) _ _) rfl rfl) rfl ?_ | refine wpList_val (run_asg (v := .slice _ _ _) rfl rfl) rfl ?_ | refine wpList_val (run_asg (v := .pointer (some _)) rfl rfl) rfl ?_ | refine wpList_val (run_asg (v := .agg _) rfl rfl) rfl ?_ | refine wpList_val (run_mv rfl rfl) rfl ?_ | refine wpList_val (run_asg rfl rfl) rfl ?_ | refine wpList_val (run_xor32 rfl rfl rfl) rfl ?_ | refine wpList_val (run_and32 rfl rfl rfl) rfl ?_ | refine wpList_val (run_or32 rfl rfl rfl) rfl ?_ | refine wpList_val (run_add32 rfl rfl rfl) rfl ?_ | refine wpList_val (run_not32 rfl rfl) rfl ?_ | refine wpList_val (run_xor64 rfl rfl rfl) rfl ?_ | refine wpList_val (run_and64 rfl rfl rfl) rfl ?_ | refine wpList_val (run_or64 rfl rfl rfl) rfl ?_ | refine wpList_val (run_add64 rfl rfl rfl) rfl ?_ | refine wpList_val (run_not64 rfl rfl) rfl ?_ | refine wpList_val (run_xor8 rfl rfl rfl) rfl ?_ | refine wpList_val (run_and8 rfl rfl rfl) rfl ?_ | refine wpList_val (run_or8 rfl rfl rfl) rfl ?_ | refine wpList_val (run_add8 rfl rfl rfl) rfl ?_ | refine wpList_val (run_not8 rfl rfl) rfl ?_ | refine wpList_val (run_cv64_32 rfl rfl) rfl ?_ | refine wpList_val (run_cv8_32 rfl rfl) rfl ?_ | refine wpList_val (run_cv8_64 rfl rfl) rfl ?_ | refine wpList_val (run_cv32_8 rfl rfl) rfl ?_ | refine wpList_val (run_cv64_8 rfl rfl) rfl ?_); (try simp only [Act.put, List.setIfInBounds_toArray, List.set_cons_zero, List.set_cons_succ])))
      refine wpList_val (run_quo rfl rfl rfl (by omega) (by omega) (by omega)) rfl ?_; (try simp only [Act.put, List.setIfInBounds_toArray, List.set_cons_zero, List.set_cons_succ])
      refine wpList_val (run_sub rfl rfl rfl (by omega) (by omega)) rfl ?_; (try simp only [Act.put, List.setIfInBounds_toArray, List.set_cons_zero, List.set_cons_succ])
      (repeat ((first | refine wpList_val (run_mv (v := b32 _) rfl rfl) rfl ?_ | refine wpList_val (run_mv (v := b64 _) rfl rfl) rfl ?_ | refine wpList_val (run_mv (v := b8 _) rfl rfl) rfl ?_ | refine wpList_val (run_mv (v := .int _ _) rfl rfl) rfl ?_ | refine wpList_val (run_mv (v := .bool _) rfl rfl) rfl ?_ | refine wpList_val (run_mv (v := .slice (some _) _ _) rfl rfl) rfl ?_ | refine wpList_val (run_mv (v := .slice _ _ _) rfl rfl) rfl ?_ | refine wpList_val (run_mv (v := .pointer (some _)) rfl rfl) rfl ?_ | refine wpList_val (run_mv (v := .agg _) rfl rfl) rfl ?_ | refine wpList_val (run_asg (v := b32 _) rfl rfl) rfl ?_ | refine wpList_val (run_asg (v := b64 _) rfl rfl) rfl ?_ | refine wpList_val (run_asg (v := b8 _) rfl rfl) rfl ?_ | refine wpList_val (run_asg (v := .int _ _) rfl rfl) rfl ?_ | refine wpList_val (run_asg (v := .bool _) rfl rfl) rfl ?_ | refine wpList_val (run_asg (v := .slice (some _) _ _) rfl rfl) rfl ?_ | refine wpList_val (run_asg (v := .slice _ _ _) rfl rfl) rfl ?_ | refine wpList_val (run_asg (v := .pointer (some _)) rfl rfl) rfl ?_ | refine wpList_val (run_asg (v := .agg _) rfl rfl) rfl ?_ | refine wpList_val (run_mv rfl rfl) rfl ?_ | refine wpList_val (run_asg rfl rfl) rfl ?_ | refine wpList_val (run_xor32 rfl rfl rfl) rfl ?_ | refine wpList_val (run_and32 rfl rfl rfl) rfl ?_ | refine wpList_val (run_or32 rfl rfl rfl) rfl ?_ | refine wpList_val (run_add32 rfl rfl rfl) rfl ?_ | refine wpList_val (run_not32 rfl rfl) rfl ?_ | refine wpList_val (run_xor64 rfl rfl rfl) rfl ?_ | refine wpList_val (run_and64 rfl rfl rfl) rfl ?_ | refine wpList_val (run_or64 rfl rfl rfl) rfl ?_ | refine wpList_val (run_add64 rfl rfl rfl) rfl ?_ | refine wpList_val (run_not64 rfl rfl) rfl ?_ | refine wpList_val (run_xor8 rfl rfl rfl) rfl ?_ | refine wpList_val (run_and8 rfl rfl rfl) rfl ?_ | refine wpList_val (run_or8 rfl rfl rfl) rfl ?_ | refine wpList_val (run_add8 rfl rfl rfl) rfl ?_ | refine wpList_val (run_not8 rfl rfl) rfl ?_ | refine wpList_val (run_cv64_32 rfl rfl) rfl ?_ | refine wpList_val (run_cv8_32 rfl rfl) rfl ?_ | refine wpList_val (run_cv8_64 rfl rfl) rfl ?_ | refine wpList_val (run_cv32_8 rfl rfl) rfl ?_ | refine wpList_val (run_cv64_8 rfl rfl) rfl ?_); (try simp only [Act.put, List.setIfInBounds_toArray, List.set_cons_zero, List.set_cons_succ])))
      refine wpList_end ?_
      have hI0 : Hid (SuI32 w h (.slice a6 P0.length c6) (P0 ++ lbT32 l.length 0) wr) := Lib.hid (by rw [lbT32, List.append_nil]; exact hI.out)
      clear hI
      go_wp2_with fail
      go_loopw [6, 7] (fun v6 v7 u => ∃ j : Nat, j ≤ 8 ∧ v7 = .int .i64 ((8 : Int) - 1 - (j : Int)) ∧ SuI32 w h v6 (P0 ++ lbT32 l.length j) u) (fun _ v7 _ => (intOf v7 + 1).toNat)
      case atStart => exact ⟨0, by omega, rfl, hI0.out⟩
      case round =>
        clear hI0
        obtain ⟨j, hj, rfl, hJ⟩ := hrel
        have hI := Lib.hid hJ
        clear hJ
        have hlj : (P0 ++ lbT32 l.length j).length = l.length + 1 + zc32 l.length + j := by rw [List.length_append, lbT_len32, hln]
        by_cases hjq : j = 8
        · subst hjq
          have hk1 : ¬ ((0 : Int) ≤ (8 : Int) - 1 - ((8 : Nat) : Int)) := by omega
          rw [← HPAD.out] at hI
          clear HPAD hlj
          have hpl := pad_len32 l
          have HEND : Hid (sum32 l = digT32 (mixA32 (begT32 8) (pad32 l)) 32) := Lib.hid (by unfold sum32 endS32; rw [pad_mix32 _ _ (by omega)])
          generalize pad32 l = AL at *
          have SA := Lib.hid (Sl.own hI.out.O)
          have BA := Lib.hid (And.intro hI.out.bl hI.out.A)
          clear hI
          obtain ⟨aa, ca, h6, hca, -⟩ := SA.out
          subst h6
          go_upto_region 14 with fail
          generalize hW2 : wr = W2 at *
          clear hW2 wr
          refine wp_region_lit ?_
          refine wpList_val (run_asg (v := .slice none 0 0) rfl rfl) rfl ?_; (try simp only [Act.put, List.setIfInBounds_toArray, List.set_cons_zero, List.set_cons_succ])
          refine wpList_end ?_
          have hI : Hid (S332 W2 (.slice none 0 0) 0 W2) := Lib.hid ⟨Below.refl _ _, World.ownsRow_nil _ _ _ _⟩
          have HMW := Lib.hid (HM.out.below BA.out.1)
          go_wp2_with fail
          go_loopw [9, 10] (fun v9 v10 u => ∃ k : Nat, k ≤ 8 ∧ v10 = .int .i64 (k : Int) ∧ S332 W2 v9 k u) (fun _ v10 _ => (8 - intOf v10).toNat)
          case atStart => exact ⟨0, by omega, rfl, hI.out⟩
          case round =>
            obtain ⟨k, hk, rfl, hJ⟩ := hrel
            replace hI := Lib.hid hJ
            clear hJ
            by_cases hk8 : k = 8
            · subst hk8
              have hk2 : ¬ (((8 : Nat) : Int) < 8) := by omega
              obtain ⟨g9, c9, h9, hc9, -, AS⟩ := own_arr hI.out.O (by omega)
              subst h9
              rw [List.take_of_length_le (by rw [begT_len32]; exact Nat.le_refl _)] at AS
              have hK : Hid (S432 W2 g9 (begT32 8) wr) := Lib.hid ⟨hI.out.bl, AS, begT_len32 8⟩
              clear hI AS
              go_upto_region 19 with fail
              generalize hW3 : wr = W3 at *
              clear hW3 wr
              refine wp_region_lit ?_
              (repeat ((first | refine wpList_val (run_mv (v := b32 _) rfl rfl) rfl ?_ | refine wpList_val (run_mv (v := b64 _) rfl rfl) rfl ?_ | refine wpList_val (run_mv (v := b8 _) rfl rfl) rfl ?_ | refine wpList_val (run_mv (v := .int _ _) rfl rfl) rfl ?_ | refine wpList_val (run_mv (v := .bool _) rfl rfl) rfl ?_ | refine wpList_val (run_mv (v := .slice (some _) _ _) rfl rfl) rfl ?_ | refine wpList_val (run_mv (v := .slice _ _ _) rfl rfl) rfl ?_ | refine wpList_val (run_mv (v := .pointer (some _)) rfl rfl) rfl ?_ | refine wpList_val (run_mv (v := .agg _) rfl rfl) rfl ?_ | refine wpList_val (run_asg (v := b32 _) rfl rfl) rfl ?_ | refine wpList_val (run_asg (v := b64 _) rfl rfl) rfl ?_ | refine wpList_val (run_asg (v := b8 _) rfl rfl) rfl ?_ | refine wpList_val (run_asg (v := .int _ _) rfl rfl) rfl ?_ | refine wpList_val (run_asg (v := .bool _) rfl rfl) rfl ?_ | refine wpList_val (run_asg (v := .slice (some _) _ _) rfl rfl) rfl ?_ | refine wpList_val (run_asg (v := .slice _ _ _) rfl rfl) rfl ?_ | refine wpList_val (run_asg (v := .pointer (some _)) rfl rfl) rfl ?_ | refine wpList_val (run_asg (v := .agg _) rfl rfl) rfl ?_ | refine wpList_val (run_mv rfl rfl) rfl ?_ | refine wpList_val (run_asg rfl rfl) rfl ?_ | refine wpList_val (run_xor32 rfl rfl rfl) rfl ?_ | refine wpList_val (run_and32 rfl rfl rfl) rfl ?_ | refine wpList_val (run_or32 rfl rfl rfl) rfl ?_ | refine wpList_val (run_add32 rfl rfl rfl) rfl ?_ | refine wpList_val (run_not32 rfl rfl) rfl ?_ | refine wpList_val (run_xor64 rfl rfl rfl) rfl ?_ | refine wpList_val (run_and64 rfl rfl rfl) rfl ?_ | refine wpList_val (run_or64 rfl rfl rfl) rfl ?_ | refine wpList_val (run_add64 rfl rfl rfl) rfl ?_ | refine wpList_val (run_not64 rfl rfl) rfl ?_ | refine wpList_val (run_xor8 rfl rfl rfl) rfl ?_ | refine wpList_val (run_and8 rfl rfl rfl) rfl ?_ | refine wpList_val (run_or8 rfl rfl rfl) rfl ?_ | refine wpList_val (run_add8 rfl rfl rfl) rfl ?_ | refine wpList_val (run_not8 rfl rfl) rfl ?_ | refine wpList_val (run_cv64_32 rfl rfl) rfl ?_ | refine wpList_val (run_cv8_32 rfl rfl) rfl ?_ | refine wpList_val (run_cv8_64 rfl rfl) rfl ?_ | refine wpList_val (run_cv32_8 rfl rfl) rfl ?_ | refine wpList_val (run_cv64_8 rfl rfl) rfl ?_); (try simp only [Act.put, List.setIfInBounds_toArray, List.set_cons_zero, List.set_cons_succ])))
              refine wpList_end ?_
              go_wp2_with fail
              go_loopw [9, 11] (fun v9 v11 u => ∃ (i g c : Nat) (st : List (BitVec 32)), i ≤ AL.length ∧ i % 64 = 0 ∧ v9 = .slice (some ⟨g, 0, none⟩) 8 c ∧ 8 ≤ c ∧ v11 = .int .i64 (i : Int) ∧ mixA32 st (AL.drop i) = mixA32 (begT32 8) AL ∧ S432 W2 g st u) (fun _ v11 _ => (20000 - intOf v11).toNat)
              case atStart => exact ⟨0, g9, c9, _, by omega, by omega, rfl, hc9, rfl, rfl, hK.out⟩
              case round =>
                clear hK hc9
                obtain ⟨i, g, c, st, hi, him, rfl, hc8, rfl, hmx, hJ⟩ := hrel
                have hK := Lib.hid hJ
                have HMX := Lib.hid hmx
                clear hJ hmx
                have hst := hK.out.len
                go_upto_region 20 with fail; refine wp_region_lit ?_
                refine wpList_val (run_mv (v := .int _ _) rfl rfl) rfl ?_; (try simp only [Act.put, List.setIfInBounds_toArray, List.set_cons_zero, List.set_cons_succ])
                refine wpList_val (run_mv (v := .slice _ _ _) rfl rfl) rfl ?_; (try simp only [Act.put, List.setIfInBounds_toArray, List.set_cons_zero, List.set_cons_succ])
                refine wpList_val (run_len rfl Tryd.underlying22 rfl) rfl ?_; (try simp only [Act.put, List.setIfInBounds_toArray, List.set_cons_zero, List.set_cons_succ])
                refine wpList_val (run_lss rfl rfl rfl) rfl ?_; (try simp only [Act.put, List.setIfInBounds_toArray, List.set_cons_zero, List.set_cons_succ])
                refine wpList_end ?_
                by_cases hie : i = AL.length
                · rw [decide_eq_false (show ¬ (i : Int) < (AL.length : Int) by omega)]
                  rw [hie, List.drop_length, mixA_end32 (l := []) (by simp)] at HMX
                  rw [← HMX.out] at HEND
                  clear HMX hie
                  have hdl := digT_len32 st 32
                  have HDB := Lib.hid (fun i m hi hm => dig_byte32 st i m hi hm)
                  have HU := Lib.hid hK.out.S
                  have hW := hK.out.bl
                  clear hK HM HMW HT HV SA
                  go_upto_region 23 with fail
                  generalize hW4 : wr = W4 at *
                  clear hW4 wr
                  refine wp_region_lit ?_
                  refine wpList_val (run_asg (v := .slice none 0 0) rfl rfl) rfl ?_; (try simp only [Act.put, List.setIfInBounds_toArray, List.set_cons_zero, List.set_cons_succ])
                  refine wpList_end ?_
                  generalize digT32 st 32 = DG at *
                  have h5 : Hid (S5 W4 (.slice none 0 0) (DG.take (0 * 4)) W4) := Lib.hid ⟨Below.refl _ _, by rw [Nat.zero_mul, List.take_zero]; exact World.ownsRow_nil _ _ _ _⟩
                  go_wp2_with fail
                  go_loopw [12, 13] (fun v12 v13 u => ∃ i : Nat, i ≤ 8 ∧ v13 = .int .i64 (i : Int) ∧ S5 W4 v12 (DG.take (i * 4)) u) (fun _ v13 _ => (8 - intOf v13).toNat)
                  case atStart => exact ⟨0, by omega, rfl, h5.out⟩
                  case round =>
                    clear h5
                    obtain ⟨i, hi, rfl, hJ⟩ := hrel
                    have h5 := Lib.hid hJ
                    clear hJ
                    by_cases hi8 : i = 8
                    · subst hi8
                      have hk3 : ¬ (((8 : Nat) : Int) < 8) := by omega
                      rw [List.take_of_length_le (by rw [hdl]; omega)] at h5
                      go_upto_region 31 with fail
                      refine wp_region_lit ?_
                      refine wpList_val (run_mv (v := u12) rfl rfl) rfl ?_; (try simp only [Act.put, List.setIfInBounds_toArray, List.set_cons_zero, List.set_cons_succ])
                      refine wpList_val (run_asg (v := u12) rfl rfl) rfl ?_; (try simp only [Act.put, List.setIfInBounds_toArray, List.set_cons_zero, List.set_cons_succ])
                      refine wpList_end ?_
                      go_wp2_with fail
                      have ho := h5.out.O
                      rw [hdl, ← HEND.out] at ho
                      have hb1 := BA.out.1
                      have hb2 := hW.size
                      exact bodyPost_ret (results_tmp Tryd.results31 _ _ _) rfl ⟨_, rfl, own_mono ho (Nat.le_trans hb1.size hb2), (hb1.trans (hW.mono hb1.size)).trans (h5.out.bl.mono (Nat.le_trans hb1.size hb2))⟩
                    · have hk3 : (i : Int) < 8 := by omega
                      go_upto_region 27 with fail; refine wp_region_lit ?_
                      refine wpList_val (run_fld0 rfl rfl) rfl ?_; (try simp only [Act.put, List.setIfInBounds_toArray, List.set_cons_zero, List.set_cons_succ])
                      refine wpList_val (run_ldu rfl rfl ((BA.out.2.below (hW.trans (h5.out.bl.mono hW.size))).c 0 _ rfl)) rfl ?_; (try simp only [Act.put, List.setIfInBounds_toArray, List.set_cons_zero, List.set_cons_succ])
                      refine wpList_val (run_cvui rfl rfl (by omega) (by omega)) rfl ?_; (try simp only [Act.put, List.setIfInBounds_toArray, List.set_cons_zero, List.set_cons_succ])
                      refine wpList_val (run_quo rfl rfl rfl (by omega) (by omega) (by omega)) rfl ?_; (try simp only [Act.put, List.setIfInBounds_toArray, List.set_cons_zero, List.set_cons_succ])
                      refine wpList_val (run_sub rfl rfl rfl (by omega) (by omega)) rfl ?_; (try simp only [Act.put, List.setIfInBounds_toArray, List.set_cons_zero, List.set_cons_succ])
                      (repeat ((first | refine wpList_val (run_mv (v := b32 _) rfl rfl) rfl ?_ | refine wpList_val (run_mv (v := b64 _) rfl rfl) rfl ?_ | refine wpList_val (run_mv (v := b8 _) rfl rfl) rfl ?_ | refine wpList_val (run_mv (v := .int _ _) rfl rfl) rfl ?_ | refine wpList_val (run_mv (v := .bool _) rfl rfl) rfl ?_ | refine wpList_val (run_mv (v := .slice (some _) _ _) rfl rfl) rfl ?_ | refine wpList_val (run_mv (v := .slice _ _ _) rfl rfl) rfl ?_ | refine wpList_val (run_mv (v := .pointer (some _)) rfl rfl) rfl ?_ | refine wpList_val (run_mv (v := .agg _) rfl rfl) rfl ?_ | refine wpList_val (run_asg (v := b32 _) rfl rfl) rfl ?_ | refine wpList_val (run_asg (v := b64 _) rfl rfl) rfl ?_ | refine wpList_val (run_asg (v := b8 _) rfl rfl) rfl ?_ | refine wpList_val (run_asg (v := .int _ _) rfl rfl) rfl ?_ | refine wpList_val (run_asg (v := .bool _) rfl rfl) rfl ?_ | refine wpList_val (run_asg (v := .slice (some _) _ _) rfl rfl) rfl ?_ | refine wpList_val (run_asg (v := .slice _ _ _) rfl rfl) rfl ?_ | refine wpList_val (run_asg (v := .pointer (some _)) rfl rfl) rfl ?_ | refine wpList_val (run_asg (v := .agg _) rfl rfl) rfl ?_ | refine wpList_val (run_mv rfl rfl) rfl ?_ | refine wpList_val (run_asg rfl rfl) rfl ?_ | refine wpList_val (run_xor32 rfl rfl rfl) rfl ?_ | refine wpList_val (run_and32 rfl rfl rfl) rfl ?_ | refine wpList_val (run_or32 rfl rfl rfl) rfl ?_ | refine wpList_val (run_add32 rfl rfl rfl) rfl ?_ | refine wpList_val (run_not32 rfl rfl) rfl ?_ | refine wpList_val (run_xor64 rfl rfl rfl) rfl ?_ | refine wpList_val (run_and64 rfl rfl rfl) rfl ?_ | refine wpList_val (run_or64 rfl rfl rfl) rfl ?_ | refine wpList_val (run_add64 rfl rfl rfl) rfl ?_ | refine wpList_val (run_not64 rfl rfl) rfl ?_ | refine wpList_val (run_xor8 rfl rfl rfl) rfl ?_ | refine wpList_val (run_and8 rfl rfl rfl) rfl ?_ | refine wpList_val (run_or8 rfl rfl rfl) rfl ?_ | refine wpList_val (run_add8 rfl rfl rfl) rfl ?_ | refine wpList_val (run_not8 rfl rfl) rfl ?_ | refine wpList_val (run_cv64_32 rfl rfl) rfl ?_ | refine wpList_val (run_cv8_32 rfl rfl) rfl ?_ | refine wpList_val (run_cv8_64 rfl rfl) rfl ?_ | refine wpList_val (run_cv32_8 rfl rfl) rfl ?_ | refine wpList_val (run_cv64_8 rfl rfl) rfl ?_); (try simp only [Act.put, List.setIfInBounds_toArray, List.set_cons_zero, List.set_cons_succ])))
                      refine wpList_end ?_
                      go_wp2_with fail
                      go_loopw [12, 14] (fun v12 v14 u => ∃ m : Nat, m ≤ 4 ∧ v14 = .int .i64 ((4 : Int) - 1 - (m : Int)) ∧ S5 W4 v12 (DG.take (i * 4 + m)) u) (fun _ v14 _ => (intOf v14 + 1).toNat)
                      case atStart => exact ⟨0, by omega, rfl, h5.out⟩
                      case round =>
                        clear h5
                        obtain ⟨m, hm, rfl, hJ⟩ := hrel
                        have h5 := Lib.hid hJ
                        clear hJ
                        by_cases hmg : m = 4
                        · subst hmg
                          have hk4 : ¬ ((0 : Int) ≤ (4 : Int) - 1 - ((4 : Nat) : Int)) := by omega
                          go_upto_region 28 with fail; refine wp_region_lit ?_
                          refine wpList_val (run_mv (v := .int _ _) rfl rfl) rfl ?_; (try simp only [Act.put, List.setIfInBounds_toArray, List.set_cons_zero, List.set_cons_succ])
                          refine wpList_val (run_geq rfl rfl rfl) rfl ?_; (try simp only [Act.put, List.setIfInBounds_toArray, List.set_cons_zero, List.set_cons_succ])
                          refine wpList_end ?_
                          rw [decide_eq_false hk4]
                          clear hk4
                          go_upto_region 26 with fail; refine wp_region_lit ?_
                          refine wpList_val (run_mv (v := .int _ _) rfl rfl) rfl ?_; (try simp only [Act.put, List.setIfInBounds_toArray, List.set_cons_zero, List.set_cons_succ])
                          refine wpList_val (run_add rfl rfl rfl (by omega) (by omega)) rfl ?_; (try simp only [Act.put, List.setIfInBounds_toArray, List.set_cons_zero, List.set_cons_succ])
                          refine wpList_val (run_asg (v := .int _ _) rfl rfl) rfl ?_; (try simp only [Act.put, List.setIfInBounds_toArray, List.set_cons_zero, List.set_cons_succ])
                          refine wpList_end ?_
                          rw [show i * 4 + 4 = (i + 1) * 4 by omega] at h5
                          go_wp2_with fail
                          go_roundw
                          case rel => exact ⟨i + 1, by omega, by go_num, h5.out⟩
                          case measure => simp [intOf]; omega
                        · have hk4 : (0 : Int) ≤ (4 : Int) - 1 - (m : Int) := by omega
                          have HX := Lib.hid (HDB.out i m (by omega) (by omega))
                          have HLT : Hid ((DG.take (i * 4 + m)).length = i * 4 + m) := Lib.hid (by rw [List.length_take]; omega)
                          go_upto_region 28 with fail; refine wp_region_lit ?_
                          refine wpList_val (run_mv (v := .int _ _) rfl rfl) rfl ?_; (try simp only [Act.put, List.setIfInBounds_toArray, List.set_cons_zero, List.set_cons_succ])
                          refine wpList_val (run_geq rfl rfl rfl) rfl ?_; (try simp only [Act.put, List.setIfInBounds_toArray, List.set_cons_zero, List.set_cons_succ])
                          refine wpList_end ?_
                          rw [decide_eq_true hk4]
                          clear hk4
                          go_upto_region 30 with fail; refine wp_region_lit ?_
                          refine wpList_val (run_mv (v := u12) rfl rfl) rfl ?_; (try simp only [Act.put, List.setIfInBounds_toArray, List.set_cons_zero, List.set_cons_succ])
                          refine wpList_val (run_mv (v := .slice (some _) _ _) rfl rfl) rfl ?_; (try simp only [Act.put, List.setIfInBounds_toArray, List.set_cons_zero, List.set_cons_succ])
                          refine wpList_val (run_mv (v := .int _ _) rfl rfl) rfl ?_; (try simp only [Act.put, List.setIfInBounds_toArray, List.set_cons_zero, List.set_cons_succ])
                          refine wpList_val (run_ixs rfl Tryd.underlying63 (by kernel_rfl) rfl rfl (by omega)) rfl ?_; (try simp only [Act.put, List.setIfInBounds_toArray, List.set_cons_zero, List.set_cons_succ])
                          rw [Nat.zero_add i]
                          refine wpList_val (run_ld64 rfl rfl ((HU.out.below h5.out.bl).c i _ (up_at32 st i (by rw [hst]; omega)))) rfl ?_; (try simp only [Act.put, List.setIfInBounds_toArray, List.set_cons_zero, List.set_cons_succ])
                          refine wpList_val (run_mv (v := .int _ _) rfl rfl) rfl ?_; (try simp only [Act.put, List.setIfInBounds_toArray, List.set_cons_zero, List.set_cons_succ])
                          refine wpList_val (run_mul rfl rfl rfl (by omega) (by omega)) rfl ?_; (try simp only [Act.put, List.setIfInBounds_toArray, List.set_cons_zero, List.set_cons_succ])
                          rw [show ((8 : Int) * ((4 : Int) - 1 - (m : Int))) = ((8 * (4 - 1 - m) : Nat) : Int) by omega]
                          refine wpList_val (run_cvin rfl rfl (by omega)) rfl ?_; (try simp only [Act.put, List.setIfInBounds_toArray, List.set_cons_zero, List.set_cons_succ])
                          refine wpList_val (run_shr64 rfl rfl rfl (by omega)) rfl ?_; (try simp only [Act.put, List.setIfInBounds_toArray, List.set_cons_zero, List.set_cons_succ])
                          refine wpList_val (run_rem64 (b := 256) rfl rfl rfl (by decide)) rfl ?_; (try simp only [Act.put, List.setIfInBounds_toArray, List.set_cons_zero, List.set_cons_succ])
                          refine wpList_val (run_cv64_8 rfl rfl) rfl ?_; (try simp only [Act.put, List.setIfInBounds_toArray, List.set_cons_zero, List.set_cons_succ])
                          rw [mod_byte, HX.out]
                          generalize hx : DG.getD (i * 4 + m) 0 = x at *
                          have EX := Lib.hid hx; clear hx HX
                          refine wpList_val (run_bsl (cells := #[b8 x]) (z := .int .u8 0) rfl Tryd.underlying22 (by kernel_rfl) (by omega) (by omega) (by kernel_rfl)) rfl ?_; (try simp only [Act.put, List.setIfInBounds_toArray, List.set_cons_zero, List.set_cons_succ])
                          have hb2 : Below wr.heap.size wr (wr.alloc (.cells #[b8 x] 5)) := (Below.refl _ _).alloc (Nat.le_refl _) _
                          have A2 : Hid (Arr wr.heap.size ([x].map b8) (wr.alloc (.cells #[b8 x] 5))) := Lib.hid (Arr.new wr _ _)
                          replace h5 := Lib.hid (h5.out.below hb2)
                          clear hb2
                          generalize wr.alloc (.cells #[b8 x] 5) = u0 at *
                          refine wpList_app (f := b8) (fun _ => rfl) (l := DG.take (i * 4 + m)) (m := [x]) (bw := 1) (z := .int .u8 0) rfl rfl Tryd.underlying22 (by kernel_rfl) rfl (by omega) rfl h5.out.O rfl A2.out.range (by rw [HLT.out]; show i * 4 + m + 1 ≤ _; omega) h5.out.bl.size (fun v4 u4 h6 hb6 => ?_); (try simp only [Act.put, List.setIfInBounds_toArray, List.set_cons_zero, List.set_cons_succ])
                          have H6 : Hid (S5 W4 v4 (DG.take (i * 4 + (m + 1))) u4) := Lib.hid ⟨h5.out.bl.trans hb6, by rw [← Nat.add_assoc, take_snoc8 _ _ (by omega), EX.out, List.length_append]; exact h6⟩
                          clear h6 hb6 A2 h5
                          refine wpList_val (run_asg (v := v4) rfl rfl) rfl ?_; (try simp only [Act.put, List.setIfInBounds_toArray, List.set_cons_zero, List.set_cons_succ])
                          refine wpList_end ?_
                          go_upto_region 29 with fail; refine wp_region_lit ?_
                          refine wpList_val (run_mv (v := .int _ _) rfl rfl) rfl ?_; (try simp only [Act.put, List.setIfInBounds_toArray, List.set_cons_zero, List.set_cons_succ])
                          refine wpList_val (run_sub rfl rfl rfl (by omega) (by omega)) rfl ?_; (try simp only [Act.put, List.setIfInBounds_toArray, List.set_cons_zero, List.set_cons_succ])
                          refine wpList_val (run_asg (v := .int _ _) rfl rfl) rfl ?_; (try simp only [Act.put, List.setIfInBounds_toArray, List.set_cons_zero, List.set_cons_succ])
                          refine wpList_end ?_
                          go_wp2_with fail
                          go_roundw
                          case rel => exact ⟨m + 1, by omega, by go_num, H6.out⟩
                          case measure => simp [intOf]; omega
                · rw [decide_eq_true (show (i : Int) < (AL.length : Int) by omega)]
                  have hib : i + 64 ≤ AL.length := by omega
                  have HSP : Hid (spread32 ((AL.take (i + 64)).drop i) = spread32 (AL.drop i)) := Lib.hid (spread_congr32 fun j hj => by
                    simp only [List.getD_eq_getElem?_getD, List.getElem?_drop]; rw [List.getElem?_take_of_lt (by omega)])
                  have HDR : Hid (mixA32 (mix32 st (spread32 (AL.drop i))) (AL.drop (i + 64)) = mixA32 (begT32 8) AL) := Lib.hid (by
                    rw [← HMX.out, ← mixA_step32 (l := AL.drop i) (by rw [List.length_drop]; omega), List.drop_drop])
                  clear HMX
                  have hW := hK.out.bl
                  go_upto_region 22 with fail
                  refine wp_region_noPanic ?_; refine wp_region_late (S := fun _ V => Below wr.heap.size wr V) (by kernel_rfl) ((Below.refl _ _).drew) (fun hS => ?_)
                  refine wpAnyL_take 0 rfl rfl (by kernel_rfl) (by kernel_rfl) (by kernel_rfl) (fun _ _ _ h => h) rfl (fun V hV => run_ldS rfl Tryd.underlying57 rfl (size_h32 h) rfl (BA.out.2.below (hW.trans (hV.mono hW.size))).range) hS ?_; (try simp only [Act.put, List.setIfInBounds_toArray, List.set_cons_zero, List.set_cons_succ])
                  refine wpAnyL_take 1 rfl rfl (by kernel_rfl) (by kernel_rfl) (by kernel_rfl) (fun _ _ _ h => h) rfl (fun V hV => run_mv (v := .slice (some _) _ _) rfl rfl) hS ?_; (try simp only [Act.put, List.setIfInBounds_toArray, List.set_cons_zero, List.set_cons_succ])
                  refine wpAnyL_take 2 rfl rfl (by kernel_rfl) (by kernel_rfl) (by kernel_rfl) (fun _ _ _ h => h) rfl (fun V hV => run_mv (v := .slice _ _ _) rfl rfl) hS ?_; (try simp only [Act.put, List.setIfInBounds_toArray, List.set_cons_zero, List.set_cons_succ])
                  refine wpAnyL_take 3 rfl rfl (by kernel_rfl) (by kernel_rfl) (by kernel_rfl) (fun _ _ _ h => h) rfl (fun V hV => run_mv (v := .int _ _) rfl rfl) hS ?_; (try simp only [Act.put, List.setIfInBounds_toArray, List.set_cons_zero, List.set_cons_succ])
                  refine wpAnyL_take 4 rfl rfl (by kernel_rfl) (by kernel_rfl) (by kernel_rfl) (fun _ _ _ h => h) rfl (fun V hV => run_mv (v := .int _ _) rfl rfl) hS ?_; (try simp only [Act.put, List.setIfInBounds_toArray, List.set_cons_zero, List.set_cons_succ])
                  refine wpAnyL_take 5 rfl rfl (by kernel_rfl) (by kernel_rfl) (by kernel_rfl) (fun _ _ _ h => h) rfl (fun V hV => run_mv (v := .int _ _) rfl rfl) hS ?_; (try simp only [Act.put, List.setIfInBounds_toArray, List.set_cons_zero, List.set_cons_succ])
                  refine wpAnyL_take 6 rfl rfl (by kernel_rfl) (by kernel_rfl) (by kernel_rfl) (fun _ _ _ h => h) rfl (fun V hV => run_add rfl rfl rfl (by omega) (by omega)) hS ?_; (try simp only [Act.put, List.setIfInBounds_toArray, List.set_cons_zero, List.set_cons_succ])
                  rw [show ((i : Int) + 64) = ((i + 64 : Nat) : Int) by omega]
                  refine wpAnyL_take 7 rfl rfl (by kernel_rfl) (by kernel_rfl) (by kernel_rfl) (fun _ _ _ h => h) rfl (fun V hV => run_slhi rfl Tryd.underlying22 (by kernel_rfl) rfl rfl rfl (by omega) (by omega)) hS ?_; (try simp only [Act.put, List.setIfInBounds_toArray, List.set_cons_zero, List.set_cons_succ])
                  refine wpAnyL_call 8 (by kernel_rfl) rfl rfl rfl (run_call3 enters_block32 rfl rfl rfl rfl rfl) (block32_any h _ st ((AL.take (i + 64)).drop i) g c _ (hK.out.S.below hS) hst ((SA.out.part (by omega) hib).below (hW.trans (hS.mono hW.size))) (by rw [List.length_drop, List.length_take]; omega) (by rw [List.length_drop, List.length_take]; omega) (HMW.out.below (hW.trans (hS.mono hW.size)))) (fun v w h => hS.trans (h.2.mono hS.size)) (fun v8 u8 hR => ?_); (try simp only [Act.put, List.setIfInBounds_toArray, List.set_cons_zero, List.set_cons_succ])
                  obtain ⟨⟨g2, c2, h8, hc2, -, AS2⟩, hb8⟩ := hR
                  subst h8
                  replace hS := hS.trans (hb8.mono hS.size)
                  rw [HSP.out] at AS2
                  have hK2 : Hid (S432 W2 g2 (mix32 st (spread32 (AL.drop i))) u8) := Lib.hid ⟨hW.trans (hS.mono hW.size), AS2, by rw [mix_len32, hst]⟩
                  clear AS2 hb8 HSP
                  refine wpAnyL_take 9 rfl rfl (by kernel_rfl) (by kernel_rfl) (by kernel_rfl) (fun _ _ _ h => h) rfl (fun V hV => run_asg (v := .slice (some _) _ _) rfl rfl) hS ?_; (try simp only [Act.put, List.setIfInBounds_toArray, List.set_cons_zero, List.set_cons_succ])
                  refine wpAnyL_done (by kernel_rfl) ?_ _; refine NoPanic.normal ?_
                  go_upto_region 21 with fail; refine wp_region_lit ?_
                  (repeat ((first | refine wpList_val (run_mv (v := b32 _) rfl rfl) rfl ?_ | refine wpList_val (run_mv (v := b64 _) rfl rfl) rfl ?_ | refine wpList_val (run_mv (v := b8 _) rfl rfl) rfl ?_ | refine wpList_val (run_mv (v := .int _ _) rfl rfl) rfl ?_ | refine wpList_val (run_mv (v := .bool _) rfl rfl) rfl ?_ | refine wpList_val (run_mv (v := .slice (some _) _ _) rfl rfl) rfl ?_ | refine wpList_val (run_mv (v := .slice _ _ _) rfl rfl) rfl ?_ | refine wpList_val (run_mv (v := .pointer (some _)) rfl rfl) rfl ?_ | refine wpList_val (run_mv (v := .agg _) rfl rfl) rfl ?_ | refine wpList_val (run_asg (v := b32 _) rfl rfl) rfl ?_ | refine wpList_val (run_asg (v := b64 _) rfl rfl) rfl ?_ | refine wpList_val (run_asg (v := b8 _) rfl rfl) rfl ?_ | refine wpList_val (run_asg (v := .int _ _) rfl rfl) rfl ?_ | refine wpList_val (run_asg (v := .bool _) rfl rfl) rfl ?_ | refine wpList_val (run_asg (v := .slice (some _) _ _) rfl rfl) rfl ?_ | refine wpList_val (run_asg (v := .slice _ _ _) rfl rfl) rfl ?_ | refine wpList_val (run_asg (v := .pointer (some _)) rfl rfl) rfl ?_ | refine wpList_val (run_asg (v := .agg _) rfl rfl) rfl ?_ | refine wpList_val (run_mv rfl rfl) rfl ?_ | refine wpList_val (run_asg rfl rfl) rfl ?_ | refine wpList_val (run_xor32 rfl rfl rfl) rfl ?_ | refine wpList_val (run_and32 rfl rfl rfl) rfl ?_ | refine wpList_val (run_or32 rfl rfl rfl) rfl ?_ | refine wpList_val (run_add32 rfl rfl rfl) rfl ?_ | refine wpList_val (run_not32 rfl rfl) rfl ?_ | refine wpList_val (run_xor64 rfl rfl rfl) rfl ?_ | refine wpList_val (run_and64 rfl rfl rfl) rfl ?_ | refine wpList_val (run_or64 rfl rfl rfl) rfl ?_ | refine wpList_val (run_add64 rfl rfl rfl) rfl ?_ | refine wpList_val (run_not64 rfl rfl) rfl ?_ | refine wpList_val (run_xor8 rfl rfl rfl) rfl ?_ | refine wpList_val (run_and8 rfl rfl rfl) rfl ?_ | refine wpList_val (run_or8 rfl rfl rfl) rfl ?_ | refine wpList_val (run_add8 rfl rfl rfl) rfl ?_ | refine wpList_val (run_not8 rfl rfl) rfl ?_ | refine wpList_val (run_cv64_32 rfl rfl) rfl ?_ | refine wpList_val (run_cv8_32 rfl rfl) rfl ?_ | refine wpList_val (run_cv8_64 rfl rfl) rfl ?_ | refine wpList_val (run_cv32_8 rfl rfl) rfl ?_ | refine wpList_val (run_cv64_8 rfl rfl) rfl ?_); (try simp only [Act.put, List.setIfInBounds_toArray, List.set_cons_zero, List.set_cons_succ])))
                  refine wpList_val (run_add rfl rfl rfl (by omega) (by omega)) rfl ?_; (try simp only [Act.put, List.setIfInBounds_toArray, List.set_cons_zero, List.set_cons_succ])
                  rw [show ((i : Int) + 64) = ((i + 64 : Nat) : Int) by omega]
                  (repeat ((first | refine wpList_val (run_mv (v := b32 _) rfl rfl) rfl ?_ | refine wpList_val (run_mv (v := b64 _) rfl rfl) rfl ?_ | refine wpList_val (run_mv (v := b8 _) rfl rfl) rfl ?_ | refine wpList_val (run_mv (v := .int _ _) rfl rfl) rfl ?_ | refine wpList_val (run_mv (v := .bool _) rfl rfl) rfl ?_ | refine wpList_val (run_mv (v := .slice (some _) _ _) rfl rfl) rfl ?_ | refine wpList_val (run_mv (v := .slice _ _ _) rfl rfl) rfl ?_ | refine wpList_val (run_mv (v := .pointer (some _)) rfl rfl) rfl ?_ | refine wpList_val (run_mv (v := .agg _) rfl rfl) rfl ?_ | refine wpList_val (run_asg (v := b32 _) rfl rfl) rfl ?_ | refine wpList_val (run_asg (v := b64 _) rfl rfl) rfl ?_ | refine wpList_val (run_asg (v := b8 _) rfl rfl) rfl ?_ | refine wpList_val (run_asg (v := .int _ _) rfl rfl) rfl ?_ | refine wpList_val (run_asg (v := .bool _) rfl rfl) rfl ?_ | refine wpList_val (run_asg (v := .slice (some _) _ _) rfl rfl) rfl ?_ | refine wpList_val (run_asg (v := .slice _ _ _) rfl rfl) rfl ?_ | refine wpList_val (run_asg (v := .pointer (some _)) rfl rfl) rfl ?_ | refine wpList_val (run_asg (v := .agg _) rfl rfl) rfl ?_ | refine wpList_val (run_mv rfl rfl) rfl ?_ | refine wpList_val (run_asg rfl rfl) rfl ?_ | refine wpList_val (run_xor32 rfl rfl rfl) rfl ?_ | refine wpList_val (run_and32 rfl rfl rfl) rfl ?_ | refine wpList_val (run_or32 rfl rfl rfl) rfl ?_ | refine wpList_val (run_add32 rfl rfl rfl) rfl ?_ | refine wpList_val (run_not32 rfl rfl) rfl ?_ | refine wpList_val (run_xor64 rfl rfl rfl) rfl ?_ | refine wpList_val (run_and64 rfl rfl rfl) rfl ?_ | refine wpList_val (run_or64 rfl rfl rfl) rfl ?_ | refine wpList_val (run_add64 rfl rfl rfl) rfl ?_ | refine wpList_val (run_not64 rfl rfl) rfl ?_ | refine wpList_val (run_xor8 rfl rfl rfl) rfl ?_ | refine wpList_val (run_and8 rfl rfl rfl) rfl ?_ | refine wpList_val (run_or8 rfl rfl rfl) rfl ?_ | refine wpList_val (run_add8 rfl rfl rfl) rfl ?_ | refine wpList_val (run_not8 rfl rfl) rfl ?_ | refine wpList_val (run_cv64_32 rfl rfl) rfl ?_ | refine wpList_val (run_cv8_32 rfl rfl) rfl ?_ | refine wpList_val (run_cv8_64 rfl rfl) rfl ?_ | refine wpList_val (run_cv32_8 rfl rfl) rfl ?_ | refine wpList_val (run_cv64_8 rfl rfl) rfl ?_); (try simp only [Act.put, List.setIfInBounds_toArray, List.set_cons_zero, List.set_cons_succ])))
                  refine wpList_end ?_
                  go_wp2_with fail
                  go_roundw
                  case rel => exact ⟨i + 64, g2, c2, _, hib, by omega, rfl, hc2, rfl, HDR.out, hK2.out⟩
                  case measure => simp [intOf]; omega
            · have hk2 : (k : Int) < 8 := by omega
              have HX : Hid (btab.getD k 0 >>> (64 - 32) = up32 ((begT32 8).getD k 0)) := Lib.hid (by rw [beg_at32 k (by omega)]; exact bg_up32 k)
              have hbl := hI.out.bl.size
              go_upto_region 18 with fail
              refine wp_region_noPanic ?_; refine wp_region_late (S := Till 8 (fun V => Below wr.heap.size wr V)) (by kernel_rfl) (.inr (Below.refl _ _).drew) (fun _ => ?_); have hS : Below wr.heap.size wr wr.drew := (Below.refl _ _).drew
              refine wpAnyD_take 0 rfl rfl (by kernel_rfl) (by kernel_rfl) (by kernel_rfl) (by kernel_rfl) (by kernel_rfl) (fun _ _ _ h => h) rfl (fun V hV => run_mv (v := u9) rfl rfl) hS ?_; (try simp only [Act.put, List.setIfInBounds_toArray, List.set_cons_zero, List.set_cons_succ])
              refine wpAnyD_take 1 rfl rfl (by kernel_rfl) (by kernel_rfl) (by kernel_rfl) (by kernel_rfl) (by kernel_rfl) (fun _ _ _ h => h) rfl (fun V hV => run_mv (v := .int _ _) rfl rfl) hS ?_; (try simp only [Act.put, List.setIfInBounds_toArray, List.set_cons_zero, List.set_cons_succ])
              refine wpAnyD_take 3 rfl rfl (by kernel_rfl) (by kernel_rfl) (by kernel_rfl) (by kernel_rfl) (by kernel_rfl) (fun _ _ _ h => h) rfl (fun V hV => run_fld0 rfl rfl) hS ?_; (try simp only [Act.put, List.setIfInBounds_toArray, List.set_cons_zero, List.set_cons_succ])
              refine wpAnyD_take 4 rfl rfl (by kernel_rfl) (by kernel_rfl) (by kernel_rfl) (by kernel_rfl) (by kernel_rfl) (fun _ _ _ h => h) rfl (fun V hV => run_ldu rfl rfl ((BA.out.2.below (hI.out.bl.trans (hV.mono hI.out.bl.size))).c 0 _ rfl)) hS ?_; (try simp only [Act.put, List.setIfInBounds_toArray, List.set_cons_zero, List.set_cons_succ])
              refine wpAnyD_take 5 rfl rfl (by kernel_rfl) (by kernel_rfl) (by kernel_rfl) (by kernel_rfl) (by kernel_rfl) (fun _ _ _ h => h) rfl (fun V hV => run_wsub64 (n := 32) rfl rfl rfl (by omega)) hS ?_; (try simp only [Act.put, List.setIfInBounds_toArray, List.set_cons_zero, List.set_cons_succ])
              refine wpAnyD_call 2 (by kernel_rfl) rfl rfl rfl (run_call1 enters_refbegin rfl rfl rfl) (refbegin_any (k : Int) _) (fun w hb => hS.trans (hb.mono hS.size)) (fun u2 hb => ?_); replace hS := hS.trans (hb.mono hS.size); clear hb; (try simp only [Act.put, List.setIfInBounds_toArray, List.set_cons_zero, List.set_cons_succ])
              rw [tabOf_at (show k < btab.length by rw [btab_len]; omega)]
              refine wpAnyD_take 6 rfl rfl (by kernel_rfl) (by kernel_rfl) (by kernel_rfl) (by kernel_rfl) (by kernel_rfl) (fun _ _ _ h => h) rfl (fun V hV => run_shr64 rfl rfl rfl (by omega)) hS ?_; (try simp only [Act.put, List.setIfInBounds_toArray, List.set_cons_zero, List.set_cons_succ])
              rw [HX.out]
              generalize hx : (begT32 8).getD k 0 = x at *
              have EX := Lib.hid hx; clear hx HX
              refine wpAnyD_val 7 (by kernel_rfl) rfl rfl rfl (run_bsl (cells := #[b64 (up32 x)]) (z := .int .u64 0) rfl Tryd.underlying63 (by kernel_rfl) (by omega) (by omega) (by kernel_rfl)) (.inr (hS.alloc hS.size _)) ?_; (try simp only [Act.put, List.setIfInBounds_toArray, List.set_cons_zero, List.set_cons_succ])
              replace hI := Lib.hid (hI.out.below hS)
              have hb2 : Below u2.heap.size u2 (u2.alloc (.cells #[b64 (up32 x)] 47)) := (Below.refl _ _).alloc (Nat.le_refl _) _
              have A2 : Hid (Arr u2.heap.size ((upL32 [x]).map b64) (u2.alloc (.cells #[b64 (up32 x)] 47))) := Lib.hid (Arr.new u2 _ _)
              replace hI := Lib.hid (hI.out.below hb2)
              clear hb2 hS
              generalize u2.alloc (.cells #[b64 (up32 x)] 47) = u3 at *
              refine wpAnyD_app (f := b64) (fun _ => rfl) (l := upL32 ((begT32 8).take k)) (m := upL32 [x]) (bw := 8) (z := .int .u64 0) 8 (by kernel_rfl) rfl rfl rfl rfl rfl Tryd.underlying63 (by kernel_rfl) rfl (by omega) rfl hI.out.O rfl A2.out.range (by show k + 1 ≤ _; omega) hI.out.bl.size (fun v3 u4 h3 hb3 => ?_); (try simp only [Act.put, List.setIfInBounds_toArray, List.set_cons_zero, List.set_cons_succ])
              refine wpAnyD_val 9 (by kernel_rfl) rfl rfl rfl (run_asg (v := v3) rfl rfl) (.inl rfl) ?_; (try simp only [Act.put, List.setIfInBounds_toArray, List.set_cons_zero, List.set_cons_succ])
              refine wpAnyL_done (by kernel_rfl) ?_ _; refine NoPanic.normal ?_
              have H3 : Hid (S332 W2 v3 (k + 1) u4) := Lib.hid ⟨hI.out.bl.trans hb3, by rw [take_snoc32 _ _ (by rw [begT_len32]; omega), EX.out]; unfold upL32 at *; rw [List.map_append]; exact h3⟩
              clear h3 hb3 A2 hI
              go_wp2_with fail
              go_roundw
              case rel => exact ⟨k + 1, by omega, by go_num, H3.out⟩
              case measure => simp [intOf]; omega
        · have hk1 : (0 : Int) ≤ (8 : Int) - 1 - (j : Int) := by omega
          go_upto_region 10 with fail; refine wp_region_lit ?_
          refine wpList_val (run_asg (v := b64 0) rfl rfl) rfl ?_; (try simp only [Act.put, List.setIfInBounds_toArray, List.set_cons_zero, List.set_cons_succ])
          refine wpList_end ?_
          go_upto_region 11 with fail; refine wp_region_lit ?_
          refine wpList_val (run_mv (v := .int _ _) rfl rfl) rfl ?_; (try simp only [Act.put, List.setIfInBounds_toArray, List.set_cons_zero, List.set_cons_succ])
          refine wpList_val (run_lss rfl rfl rfl) rfl ?_; (try simp only [Act.put, List.setIfInBounds_toArray, List.set_cons_zero, List.set_cons_succ])
          refine wpList_end ?_
          by_cases hi8 : 8 - 1 - j < 8
          · rw [decide_eq_true (show (8 : Int) - 1 - (j : Int) < 8 by omega)]
            have HLX : Hid (((BitVec.ofNat 64 l.length * 8) >>> (8 * (8 - 1 - j))).setWidth 8 = lbX l.length (8 - 1 - j)) := Lib.hid (by unfold lbX; rw [if_pos hi8])
            go_upto_region 12 with fail; refine wp_region_lit ?_
            refine wpList_val (run_mv (v := .slice _ _ _) rfl rfl) rfl ?_; (try simp only [Act.put, List.setIfInBounds_toArray, List.set_cons_zero, List.set_cons_succ])
            refine wpList_val (run_len rfl Tryd.underlying22 rfl) rfl ?_; (try simp only [Act.put, List.setIfInBounds_toArray, List.set_cons_zero, List.set_cons_succ])
            refine wpList_val (run_cviu rfl rfl) rfl ?_; (try simp only [Act.put, List.setIfInBounds_toArray, List.set_cons_zero, List.set_cons_succ])
            refine wpList_val (run_mul64 (b := 8) rfl rfl rfl) rfl ?_; (try simp only [Act.put, List.setIfInBounds_toArray, List.set_cons_zero, List.set_cons_succ])
            refine wpList_val (run_mv (v := .int _ _) rfl rfl) rfl ?_; (try simp only [Act.put, List.setIfInBounds_toArray, List.set_cons_zero, List.set_cons_succ])
            refine wpList_val (run_mul rfl rfl rfl (by omega) (by omega)) rfl ?_; (try simp only [Act.put, List.setIfInBounds_toArray, List.set_cons_zero, List.set_cons_succ])
            rw [show ((8 : Int) * ((8 : Int) - 1 - (j : Int))) = ((8 * (8 - 1 - j) : Nat) : Int) by omega]
            refine wpList_val (run_cvin rfl rfl (by omega)) rfl ?_; (try simp only [Act.put, List.setIfInBounds_toArray, List.set_cons_zero, List.set_cons_succ])
            refine wpList_val (run_shr64 rfl rfl rfl (by omega)) rfl ?_; (try simp only [Act.put, List.setIfInBounds_toArray, List.set_cons_zero, List.set_cons_succ])
            refine wpList_val (run_asg (v := b64 _) rfl rfl) rfl ?_; (try simp only [Act.put, List.setIfInBounds_toArray, List.set_cons_zero, List.set_cons_succ])
            refine wpList_end ?_
            (try go_upto_region 13 with fail); refine wp_region_lit ?_; refine wpList_val (run_mv (v := u6) rfl rfl) rfl ?_; (try simp only [Act.put, List.setIfInBounds_toArray, List.set_cons_zero, List.set_cons_succ]); refine wpList_val (run_mv (v := b64 _) rfl rfl) rfl ?_; (try simp only [Act.put, List.setIfInBounds_toArray, List.set_cons_zero, List.set_cons_succ]); refine wpList_val (run_rem64 (b := 256) rfl rfl rfl (by decide)) rfl ?_; (try simp only [Act.put, List.setIfInBounds_toArray, List.set_cons_zero, List.set_cons_succ]); refine wpList_val (run_cv64_8 rfl rfl) rfl ?_; (try simp only [Act.put, List.setIfInBounds_toArray, List.set_cons_zero, List.set_cons_succ]); rw [mod_byte, HLX.out]; generalize hx : lbX l.length (8 - 1 - j) = x at *; have EX := Lib.hid hx; clear hx HLX; refine wpList_val (run_bsl (cells := #[b8 (x)]) (z := .int .u8 0) rfl Tryd.underlying22 (by kernel_rfl) (by omega) (by omega) (by kernel_rfl)) rfl ?_; (try simp only [Act.put, List.setIfInBounds_toArray, List.set_cons_zero, List.set_cons_succ]); have hb2 : Below wr.heap.size wr (wr.alloc (.cells #[b8 (x)] 5)) := (Below.refl _ _).alloc (Nat.le_refl _) _; have A2 : Hid (Arr wr.heap.size ([x].map b8) (wr.alloc (.cells #[b8 (x)] 5))) := Lib.hid (Arr.new wr _ _); replace hI := Lib.hid (hI.out.below hb2); clear hb2; generalize wr.alloc (.cells #[b8 (x)] 5) = u0 at *; refine wpList_app (f := b8) (fun _ => rfl) (l := P0 ++ lbT32 l.length j) (m := [x]) (bw := 1) (z := .int .u8 0) rfl rfl Tryd.underlying22 (by kernel_rfl) rfl (by omega) rfl hI.out.O rfl A2.out.range (by rw [hlj]; show l.length + 1 + zc32 l.length + j + 1 ≤ _; omega) hI.out.A.lt (fun v4 u4 h3 hb3 => ?_); (try simp only [Act.put, List.setIfInBounds_toArray, List.set_cons_zero, List.set_cons_succ]); replace hI : Hid (SuI32 w h v4 (P0 ++ lbT32 l.length j ++ [x]) u4) := Lib.hid (hI.out.push h3 hb3); clear h3 hb3 A2; refine wpList_val (run_asg (v := v4) rfl rfl) rfl ?_; (try simp only [Act.put, List.setIfInBounds_toArray, List.set_cons_zero, List.set_cons_succ]); refine wpList_end ?_; have H4 : Hid (SuI32 w h v4 (P0 ++ lbT32 l.length (j + 1)) u4) := Lib.hid (by have := hI.out; rw [lbT32, EX.out, ← List.append_assoc]; exact this); clear hI; go_upto_region 9 with fail; refine wp_region_lit ?_; refine wpList_val (run_mv (v := .int _ _) rfl rfl) rfl ?_; (try simp only [Act.put, List.setIfInBounds_toArray, List.set_cons_zero, List.set_cons_succ]); refine wpList_val (run_sub rfl rfl rfl (by omega) (by omega)) rfl ?_; (try simp only [Act.put, List.setIfInBounds_toArray, List.set_cons_zero, List.set_cons_succ]); refine wpList_val (run_asg (v := .int _ _) rfl rfl) rfl ?_; (try simp only [Act.put, List.setIfInBounds_toArray, List.set_cons_zero, List.set_cons_succ]); refine wpList_end ?_; go_wp2_with fail; go_roundw; (case rel => exact ⟨j + 1, by omega, by go_num, H4.out⟩); (case measure => simp [intOf]; omega)
          · rw [decide_eq_false (show ¬ (8 : Int) - 1 - (j : Int) < 8 by omega)]
            have HLX : Hid ((0 : BitVec 64).setWidth 8 = lbX l.length (8 - 1 - j)) := Lib.hid (by unfold lbX; rw [if_neg hi8]; rfl)
            go_upto_region 13 with fail
            (try go_upto_region 13 with fail); refine wp_region_lit ?_; refine wpList_val (run_mv (v := u6) rfl rfl) rfl ?_; (try simp only [Act.put, List.setIfInBounds_toArray, List.set_cons_zero, List.set_cons_succ]); refine wpList_val (run_mv (v := b64 _) rfl rfl) rfl ?_; (try simp only [Act.put, List.setIfInBounds_toArray, List.set_cons_zero, List.set_cons_succ]); refine wpList_val (run_rem64 (b := 256) rfl rfl rfl (by decide)) rfl ?_; (try simp only [Act.put, List.setIfInBounds_toArray, List.set_cons_zero, List.set_cons_succ]); refine wpList_val (run_cv64_8 rfl rfl) rfl ?_; (try simp only [Act.put, List.setIfInBounds_toArray, List.set_cons_zero, List.set_cons_succ]); rw [mod_byte, HLX.out]; generalize hx : lbX l.length (8 - 1 - j) = x at *; have EX := Lib.hid hx; clear hx HLX; refine wpList_val (run_bsl (cells := #[b8 (x)]) (z := .int .u8 0) rfl Tryd.underlying22 (by kernel_rfl) (by omega) (by omega) (by kernel_rfl)) rfl ?_; (try simp only [Act.put, List.setIfInBounds_toArray, List.set_cons_zero, List.set_cons_succ]); have hb2 : Below wr.heap.size wr (wr.alloc (.cells #[b8 (x)] 5)) := (Below.refl _ _).alloc (Nat.le_refl _) _; have A2 : Hid (Arr wr.heap.size ([x].map b8) (wr.alloc (.cells #[b8 (x)] 5))) := Lib.hid (Arr.new wr _ _); replace hI := Lib.hid (hI.out.below hb2); clear hb2; generalize wr.alloc (.cells #[b8 (x)] 5) = u0 at *; refine wpList_app (f := b8) (fun _ => rfl) (l := P0 ++ lbT32 l.length j) (m := [x]) (bw := 1) (z := .int .u8 0) rfl rfl Tryd.underlying22 (by kernel_rfl) rfl (by omega) rfl hI.out.O rfl A2.out.range (by rw [hlj]; show l.length + 1 + zc32 l.length + j + 1 ≤ _; omega) hI.out.A.lt (fun v4 u4 h3 hb3 => ?_); (try simp only [Act.put, List.setIfInBounds_toArray, List.set_cons_zero, List.set_cons_succ]); replace hI : Hid (SuI32 w h v4 (P0 ++ lbT32 l.length j ++ [x]) u4) := Lib.hid (hI.out.push h3 hb3); clear h3 hb3 A2; refine wpList_val (run_asg (v := v4) rfl rfl) rfl ?_; (try simp only [Act.put, List.setIfInBounds_toArray, List.set_cons_zero, List.set_cons_succ]); refine wpList_end ?_; have H4 : Hid (SuI32 w h v4 (P0 ++ lbT32 l.length (j + 1)) u4) := Lib.hid (by have := hI.out; rw [lbT32, EX.out, ← List.append_assoc]; exact this); clear hI; go_upto_region 9 with fail; refine wp_region_lit ?_; refine wpList_val (run_mv (v := .int _ _) rfl rfl) rfl ?_; (try simp only [Act.put, List.setIfInBounds_toArray, List.set_cons_zero, List.set_cons_succ]); refine wpList_val (run_sub rfl rfl rfl (by omega) (by omega)) rfl ?_; (try simp only [Act.put, List.setIfInBounds_toArray, List.set_cons_zero, List.set_cons_succ]); refine wpList_val (run_asg (v := .int _ _) rfl rfl) rfl ?_; (try simp only [Act.put, List.setIfInBounds_toArray, List.set_cons_zero, List.set_cons_succ]); refine wpList_end ?_; go_wp2_with fail; go_roundw; (case rel => exact ⟨j + 1, by omega, by go_num, H4.out⟩); (case measure => simp [intOf]; omega)
    · refine wpList_val (run_neqi (c := true) rfl rfl rfl (by simp; omega)) rfl ?_; (try simp only [Act.put, List.setIfInBounds_toArray, List.set_cons_zero, List.set_cons_succ])
      refine wpList_end ?_
      go_upto_region 6 with fail; refine wp_region_lit ?_
      refine wpList_val (run_mv (v := .slice _ _ _) rfl rfl) rfl ?_; (try simp only [Act.put, List.setIfInBounds_toArray, List.set_cons_zero, List.set_cons_succ])
      refine wpList_val (run_bsl (cells := #[b8 (0#8)]) (z := .int .u8 0) rfl Tryd.underlying22 (by kernel_rfl) (by omega) (by omega) (by kernel_rfl)) rfl ?_; (try simp only [Act.put, List.setIfInBounds_toArray, List.set_cons_zero, List.set_cons_succ]); have hb2 : Below wr.heap.size wr (wr.alloc (.cells #[b8 (0#8)] 5)) := (Below.refl _ _).alloc (Nat.le_refl _) _; have A2 : Hid (Arr wr.heap.size ([0#8].map b8) (wr.alloc (.cells #[b8 (0#8)] 5))) := Lib.hid (Arr.new wr _ _); replace hI := Lib.hid (hI.out.below hb2); clear hb2; generalize wr.alloc (.cells #[b8 (0#8)] 5) = u0 at *; refine wpList_app (f := b8) (fun _ => rfl) (l := L) (m := [0#8]) (bw := 1) (z := .int .u8 0) rfl rfl Tryd.underlying22 (by kernel_rfl) rfl (by omega) rfl hI.out.O rfl A2.out.range (by show L.length + 1 ≤ _; omega) hI.out.A.lt (fun v4 u4 h3 hb3 => ?_); (try simp only [Act.put, List.setIfInBounds_toArray, List.set_cons_zero, List.set_cons_succ]); replace hI : Hid (SuI32 w h v4 (L ++ [0#8]) u4) := Lib.hid (hI.out.push h3 hb3); clear h3 hb3 A2; refine wpList_val (run_asg (v := v4) rfl rfl) rfl ?_; (try simp only [Act.put, List.setIfInBounds_toArray, List.set_cons_zero, List.set_cons_succ]); refine wpList_end ?_
      have H4 : Hid (SuI32 w h v4 (l ++ [128#8] ++ List.replicate (k + 1) 0) u4) := Lib.hid (by rw [List.replicate_succ', ← List.append_assoc, EL.out]; exact hI.out)
      clear hI
      obtain ⟨a7, c7, h7, -, -⟩ := Sl.own H4.out.O
      have hl7 : slLen v4 = l.length + 1 + (k + 1) := by rw [h7]; show (l ++ [128#8] ++ List.replicate (k + 1) 0).length = _; rw [List.length_append, List.length_append, List.length_replicate]; rfl
      clear h7
      go_wp2_with fail
      go_roundw
      case rel => exact ⟨k + 1, by omega, H4.out⟩
      case measure => simp [slLen] at hl7 ⊢; omega
end Go.Proofs.YtebmcjleepnehaaDoor
