/- What keywardlaw04.known does. -/
import Derived.Test.YtebmcjleepnehaaDoorMacHmac
import Derived.Test.YtebmcjleepnehaaDoorMacSame
namespace Go.Proofs.YtebmcjleepnehaaDoor
open Go.RowKit

def kKey : List (BitVec 8) := [107#8, 101#8, 121#8]
def kText : List (BitVec 8) := [84#8, 104#8, 101#8, 32#8, 113#8, 117#8, 105#8, 99#8, 107#8, 32#8, 98#8, 114#8, 111#8, 119#8, 110#8, 32#8, 102#8, 111#8, 120#8, 32#8, 106#8, 117#8, 109#8, 112#8, 115#8, 32#8, 111#8, 118#8, 101#8, 114#8, 32#8, 116#8, 104#8, 101#8, 32#8, 108#8, 97#8, 122#8, 121#8, 32#8, 100#8, 111#8, 103#8]
def kDig : List (BitVec 8) := [247#8, 188#8, 131#8, 244#8, 48#8, 83#8, 132#8, 36#8, 177#8, 50#8, 152#8, 230#8, 170#8, 111#8, 177#8, 67#8, 239#8, 77#8, 89#8, 161#8, 73#8, 70#8, 23#8, 89#8, 151#8, 71#8, 157#8, 188#8, 45#8, 26#8, 60#8, 216#8]
set_option maxRecDepth 100000 in
theorem kHmac : hmac kKey kText = kDig := by decide +kernel
theorem const_row (w : World) (l : List (BitVec 8)) (n : Nat) (m : Nat × Nat) (hn : l.length = n) : Sl (.slice (some ⟨w.heap.size, 0, none⟩) n n) l (w.alloc (.cells (l.map b8).toArray 5 m)) := by
  refine ⟨_, n, by rw [hn], by omega, fun _ => ⟨w.heap.size, 0, rfl, by simp, fun j v hv => ?_⟩⟩
  rw [Nat.zero_add]
  simp only [World.cell?, World.alloc, Array.getElem?_push_size]
  simpa using hv
theorem enters_known4 : Enters 10 := enters_of Tryd.func10 (by kernel_rfl) rfl
set_option maxRecDepth 100000 in
set_option maxHeartbeats 1000000 in
theorem known4_any (w : World) (hT : Tabs w) : Calls Tryd.prog 10 #[] w fun e w' => e = .returned (.bool true) ∧ Below w.heap.size w w' := by
  have HT := Lib.hid hT; clear hT
  go_enter Tryd.func10, Tryd.ntmps10
  go_upto_region 1 with fail; refine wp_region_lit ?_
  refine wpList_val (run_bsl (cells := (kKey.map b8).toArray) (z := .int .u8 0) rfl Tryd.underlying22 (by kernel_rfl) (by omega) (by omega) (by kernel_rfl)) rfl ?_; (try simp only [Act.put, List.setIfInBounds_toArray, List.set_cons_zero, List.set_cons_succ])
  refine wpList_val (run_cvb rfl rfl) rfl ?_; (try simp only [Act.put, List.setIfInBounds_toArray, List.set_cons_zero, List.set_cons_succ])
  have bl : Below w.heap.size w (w.alloc (.cells (kKey.map b8).toArray 5 ((kKey.map b8).toArray.size, (kKey.map b8).toArray.size + 1))) := (Below.refl _ _).alloc (Nat.le_refl _) _
  have S1 : Hid (Sl (.slice (some ⟨w.heap.size, 0, none⟩) 3 3) kKey (w.alloc (.cells (kKey.map b8).toArray 5 ((kKey.map b8).toArray.size, (kKey.map b8).toArray.size + 1)))) := Lib.hid (const_row w kKey 3 _ rfl)
  generalize w.alloc (.cells (kKey.map b8).toArray 5 ((kKey.map b8).toArray.size, (kKey.map b8).toArray.size + 1)) = u1 at *
  refine wpList_val (run_bsl (cells := (kText.map b8).toArray) (z := .int .u8 0) rfl Tryd.underlying22 (by kernel_rfl) (by omega) (by omega) (by kernel_rfl)) rfl ?_; (try simp only [Act.put, List.setIfInBounds_toArray, List.set_cons_zero, List.set_cons_succ])
  refine wpList_val (run_cvb rfl rfl) rfl ?_; (try simp only [Act.put, List.setIfInBounds_toArray, List.set_cons_zero, List.set_cons_succ])
  have hb : Below u1.heap.size u1 (u1.alloc (.cells (kText.map b8).toArray 5 ((kText.map b8).toArray.size, (kText.map b8).toArray.size + 1))) := (Below.refl _ _).alloc (Nat.le_refl _) _
  have S2 : Hid (Sl (.slice (some ⟨u1.heap.size, 0, none⟩) 43 43) kText (u1.alloc (.cells (kText.map b8).toArray 5 ((kText.map b8).toArray.size, (kText.map b8).toArray.size + 1)))) := Lib.hid (const_row u1 kText 43 _ rfl)
  generalize u1.alloc (.cells (kText.map b8).toArray 5 ((kText.map b8).toArray.size, (kText.map b8).toArray.size + 1)) = u2 at *
  replace S1 := Lib.hid (S1.out.below hb)
  replace bl := bl.trans (hb.mono bl.size)
  clear hb
  refine wpList_enter (run_call2 enters_hmac rfl rfl rfl rfl) rfl (hmac_any _ kKey _ kText _ S1.out (by decide) S2.out (by decide) (HT.out.below bl)) (fun u3 hb => ?_); (try simp only [Act.put, List.setIfInBounds_toArray, List.set_cons_zero, List.set_cons_succ])
  replace bl := bl.trans (hb.mono bl.size)
  clear hb S1 S2
  have hs := hmac_len kKey kText
  rw [kHmac] at hs ⊢
  refine wpList_val (run_alc (vs := z8 32) rfl (by kernel_rfl)) rfl ?_; (try simp only [Act.put, List.setIfInBounds_toArray, List.set_cons_zero, List.set_cons_succ]); have A1 := Arr.new u3 (z8 32) 28; have hb : Below u3.heap.size u3 (u3.alloc (.cells (z8 32).toArray 28)) := (Below.refl _ _).alloc (Nat.le_refl _) _; generalize hG : (u3.alloc (.cells (z8 32).toArray 28)) = a1 at *; clear hG; refine wpList_skip (run_stA (vs := (kDig).map b8) rfl (size_d32 hs) rfl rfl (one8 _) (by rw [List.length_map, hs, ← z8_len 32]; exact A1.there)) rfl rfl ?_; refine wpList_end ?_; have HA := Lib.hid (A1.put (l' := (kDig).map b8) (by rw [List.length_map, hs, z8_len])); replace hb := below_setCells (Nat.le_refl u3.heap.size) ((kDig).map b8) 0 hb; generalize a1.setCells u3.heap.size 0 ((kDig).map b8) = u4 at *; clear A1
  replace bl := bl.trans (hb.mono bl.size)
  clear hb
  go_upto_region 2 with fail; refine wp_region_lit ?_
  refine wpList_val (run_ix0 (i := 0) rfl Tryd.underlying28 (by kernel_rfl) rfl rfl (by omega)) rfl ?_; (try simp only [Act.put, List.setIfInBounds_toArray, List.set_cons_zero, List.set_cons_succ])
  refine wpList_val (run_ld8 (v := b8 247#8) rfl rfl (HA.out.c 0 _ rfl)) rfl ?_; (try simp only [Act.put, List.setIfInBounds_toArray, List.set_cons_zero, List.set_cons_succ])
  refine wpList_val (run_eq8 rfl rfl rfl rfl) rfl ?_; (try simp only [Act.put, List.setIfInBounds_toArray, List.set_cons_zero, List.set_cons_succ])
  refine wpList_val (run_mv (v := .bool true) rfl rfl) rfl ?_; (try simp only [Act.put, List.setIfInBounds_toArray, List.set_cons_zero, List.set_cons_succ])
  refine wpList_valG (run_ix0 (i := 1) rfl Tryd.underlying28 (by kernel_rfl) rfl rfl (by omega)) rfl ?_; (try simp only [Act.put, List.setIfInBounds_toArray, List.set_cons_zero, List.set_cons_succ])
  refine wpList_valG (run_ld8 (v := b8 188#8) rfl rfl (HA.out.c 1 _ rfl)) rfl ?_; (try simp only [Act.put, List.setIfInBounds_toArray, List.set_cons_zero, List.set_cons_succ])
  refine wpList_valG (run_eq8 rfl rfl rfl rfl) rfl ?_; (try simp only [Act.put, List.setIfInBounds_toArray, List.set_cons_zero, List.set_cons_succ])
  refine wpList_val (run_pick (b := true) (v := .bool true) rfl rfl rfl) rfl ?_; (try simp only [Act.put, List.setIfInBounds_toArray, List.set_cons_zero, List.set_cons_succ])
  refine wpList_val (run_mv (v := .bool true) rfl rfl) rfl ?_; (try simp only [Act.put, List.setIfInBounds_toArray, List.set_cons_zero, List.set_cons_succ])
  refine wpList_valG (run_ix0 (i := 31) rfl Tryd.underlying28 (by kernel_rfl) rfl rfl (by omega)) rfl ?_; (try simp only [Act.put, List.setIfInBounds_toArray, List.set_cons_zero, List.set_cons_succ])
  refine wpList_valG (run_ld8 (v := b8 216#8) rfl rfl (HA.out.c 31 _ rfl)) rfl ?_; (try simp only [Act.put, List.setIfInBounds_toArray, List.set_cons_zero, List.set_cons_succ])
  refine wpList_valG (run_eq8 rfl rfl rfl rfl) rfl ?_; (try simp only [Act.put, List.setIfInBounds_toArray, List.set_cons_zero, List.set_cons_succ])
  refine wpList_val (run_pick (b := true) (v := .bool true) rfl rfl rfl) rfl ?_; (try simp only [Act.put, List.setIfInBounds_toArray, List.set_cons_zero, List.set_cons_succ])
  refine wpList_val (run_mv (v := .bool true) rfl rfl) rfl ?_; (try simp only [Act.put, List.setIfInBounds_toArray, List.set_cons_zero, List.set_cons_succ])
  clear HA
  refine wpList_valG (run_bsl (cells := #[b8 1]) (z := .int .u8 0) rfl Tryd.underlying22 (by kernel_rfl) (by omega) (by omega) (by kernel_rfl)) rfl ?_; (try simp only [Act.put, List.setIfInBounds_toArray, List.set_cons_zero, List.set_cons_succ])
  have S1 : Hid (Sl (.slice (some ⟨u4.heap.size, 0, none⟩) 1 1) [1] (u4.alloc (.cells #[b8 1] 5))) := Lib.hid (const_row u4 [1] 1 _ rfl)
  replace bl := bl.alloc bl.size (.cells #[b8 1] 5)
  generalize u4.alloc (.cells #[b8 1] 5) = u5 at *
  refine wpList_valG (run_bsl (cells := #[b8 1]) (z := .int .u8 0) rfl Tryd.underlying22 (by kernel_rfl) (by omega) (by omega) (by kernel_rfl)) rfl ?_; (try simp only [Act.put, List.setIfInBounds_toArray, List.set_cons_zero, List.set_cons_succ])
  have hb : Below u5.heap.size u5 (u5.alloc (.cells #[b8 1] 5)) := (Below.refl _ _).alloc (Nat.le_refl _) _
  have S2 : Hid (Sl (.slice (some ⟨u5.heap.size, 0, none⟩) 1 1) [1] (u5.alloc (.cells #[b8 1] 5))) := Lib.hid (const_row u5 [1] 1 _ rfl)
  replace S1 := Lib.hid (S1.out.below hb)
  replace bl := bl.trans (hb.mono bl.size)
  clear hb
  generalize u5.alloc (.cells #[b8 1] 5) = u6 at *
  refine wpList_enterG (run_call2 enters_same rfl rfl rfl rfl) rfl (same_any _ [1] _ [1] _ S1.out S2.out (by decide)) (fun u7 hb => ?_); (try simp only [Act.put, List.setIfInBounds_toArray, List.set_cons_zero, List.set_cons_succ])
  replace bl := bl.trans (hb.mono bl.size)
  clear hb S1 S2
  refine wpList_val (run_pick (b := true) (v := .bool true) rfl rfl rfl) rfl ?_; (try simp only [Act.put, List.setIfInBounds_toArray, List.set_cons_zero, List.set_cons_succ])
  refine wpList_val (run_mv (v := .bool true) rfl rfl) rfl ?_; (try simp only [Act.put, List.setIfInBounds_toArray, List.set_cons_zero, List.set_cons_succ])
  refine wpList_valG (run_bsl (cells := #[b8 1]) (z := .int .u8 0) rfl Tryd.underlying22 (by kernel_rfl) (by omega) (by omega) (by kernel_rfl)) rfl ?_; (try simp only [Act.put, List.setIfInBounds_toArray, List.set_cons_zero, List.set_cons_succ])
  have S1 : Hid (Sl (.slice (some ⟨u7.heap.size, 0, none⟩) 1 1) [1] (u7.alloc (.cells #[b8 1] 5))) := Lib.hid (const_row u7 [1] 1 _ rfl)
  replace bl := bl.alloc bl.size (.cells #[b8 1] 5)
  generalize u7.alloc (.cells #[b8 1] 5) = u8 at *
  refine wpList_enterG (run_call2 enters_same rfl rfl rfl rfl) rfl (same_any _ [1] (.slice none 0 0) [] _ S1.out ⟨none, 0, rfl, Nat.le_refl _, fun h => absurd rfl h⟩ (by decide)) (fun u9 hb => ?_); (try simp only [Act.put, List.setIfInBounds_toArray, List.set_cons_zero, List.set_cons_succ])
  replace bl := bl.trans (hb.mono bl.size)
  clear hb S1
  refine wpList_valG (run_notb (c := false) rfl rfl) rfl ?_; (try simp only [Act.put, List.setIfInBounds_toArray, List.set_cons_zero, List.set_cons_succ])
  refine wpList_val (run_pick (b := true) (v := .bool true) rfl rfl rfl) rfl ?_; (try simp only [Act.put, List.setIfInBounds_toArray, List.set_cons_zero, List.set_cons_succ])
  refine wpList_val (run_asg (v := .bool true) rfl rfl) rfl ?_
  simp only [Act.put, List.setIfInBounds_toArray, List.set_cons_zero]
  refine wpList_end ?_
  go_wp2_with fail
  go_ret
  exact ⟨rfl, bl⟩
end Go.Proofs.YtebmcjleepnehaaDoor
