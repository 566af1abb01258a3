import Derived.Test.YtcgbgmbnagmohaaDoorLy
import Derived.Test.YtcgbgmbnagmohaaDoorScOps
import Derived.Test.YtcgbgmbnagmohaaDoorLateT
import Derived.Test.YtcgbgmbnagmohaaDoorEdRes
namespace Go.Proofs.YtcgbgmbnagmohaaDoor
open Go.RowKit
set_option maxRecDepth 20000
set_option maxHeartbeats 8000000 in
theorem sminus_any (l m : List (BitVec 64)) (w : World) (hl : l.length = 4) (hm : m.length = 4) : Calls Tryd.prog 54 #[.agg (l.map b64).toArray, .agg (m.map b64).toArray] w fun e w' => e = .returned (.tuple #[.agg ((wd ((lv l + 2 ^ 256 - lv m) % 2 ^ 256) 4).map b64).toArray, b64 (if lv l < lv m then 1 else 0)]) ∧ Below w.heap.size w w' := by
 have HS : Hid (∀ (i : Nat) (r : List (BitVec 64)) (c : BitVec 64), SbwI l m i r c → i < 4 → SbwI l m (i + 1) (r.set i (sbw (r.getD i 0) (m.getD i 0) c)) (sbc (r.getD i 0) (m.getD i 0) c)) := Lib.hid fun i r c h hi => h.step (by omega) (by omega)
 have HD : Hid (∀ r c, SbwI l m 4 r c → r = wd ((lv l + 2 ^ 256 - lv m) % 2 ^ 256) 4 ∧ c = if lv l < lv m then 1 else 0) := Lib.hid fun r c h => by
  rw [← hl] at h
  have hd := h.done (by omega)
  rw [hl] at hd
  exact ⟨wd_eq (by rw [h.len, hl]) hd.1, hd.2⟩
 have R0 := Lib.hid (SbwI.start l m)
 generalize wd ((lv l + 2 ^ 256 - lv m) % 2 ^ 256) 4 = R at *
 generalize (if lv l < lv m then (1 : BitVec 64) else 0) = C at *
 have hM := Lib.hid (Mv.nil w)
 go_enter Tryd.func54, Tryd.ntmps54
 go_upto_region 0 with fail; refine wp_region_lit ?_
 refine qaa (qau (vs := l.map b64) rfl rfl) rfl ?_; (try simp only [Act.put, lyy]); replace hM := Lib.hid (hM.out.new (l.map b64) 82); generalize w.alloc (.cells (l.map b64).toArray 82) = a1 at *; generalize w.heap.size = g1 at *
 refine qaa (qau (vs := m.map b64) rfl rfl) rfl ?_; (try simp only [Act.put, lyy]); replace hM := Lib.hid (hM.out.new (m.map b64) 82); generalize a1.alloc (.cells (m.map b64).toArray 82) = a2 at *; generalize a1.heap.size = g2 at *
 refine qaa (qat (vs := z64 4) rfl (by kernel_rfl)) rfl ?_; (try simp only [Act.put, lyy]); replace hM := Lib.hid (hM.out.new (z64 4) 82); generalize a2.alloc (.cells (z64 4).toArray 82) = a3 at *; generalize a2.heap.size = g3 at *
 refine qaa (qaf (v := b64 0) rfl rfl) rfl ?_; (try simp only [Act.put, lyy])
 refine qab ?_
 go_upto_region 1 with fail; refine wp_region_lit ?_
 refine qaa (qaf (v := b64 0) rfl rfl) rfl ?_; (try simp only [Act.put, lyy])
 refine qab ?_
 go_upto_region 2 with fail; refine wp_region_lit ?_
 refine qaa (qae (v := .int _ _) rfl rfl) rfl ?_; (try simp only [Act.put, lyy])
 refine qab ?_
 go_wp2_with fail
 go_loopw [6, 8] (fun s6 s u => ∃ (n : Nat) (r : List (BitVec 64)) (c : BitVec 64), n ≤ 4 ∧ s6 = b64 c ∧ s = .int .i64 (n : Int) ∧ SbwI l m n r c ∧ Mv w [(g3, z64 4), (g2, m.map b64), (g1, r.map b64)] u) (fun _ s _ => (4 - intOf s).toNat)
 case atStart => exact ⟨0, l, 0, by omega, rfl, rfl, R0.out, hM.out⟩
 case round =>
  obtain ⟨n, r, c, hn, rfl, rfl, hR, hJ⟩ := hrel
  replace hM := Lib.hid hJ
  have hrl : r.length = 4 := by rw [hR.len, hl]
  have hc := hR.bit
  have HR := Lib.hid hR
  clear hJ hR
  by_cases hlt : n = 4
  ·subst hlt
   have hk1 : ¬ (((4 : Nat) : Int) < 4) := by omega
   obtain ⟨E1, E2⟩ := HD.out r c HR.out
   replace E1 := Lib.hid E1
   replace E2 := Lib.hid E2
   have SZ := Lib.hid (szS4 hrl)
   have L1 : Hid ((r.map b64).length = (z64 4).length) := Lib.hid (by rw [List.length_map, hrl]; rfl)
   go_upto_region 7 with fail; refine wp_region_lit ?_
   refine qaa (qaj (vs := r.map b64) rfl Tryd.underlying82 rfl SZ.out rfl ((hM.out.get (i := 2) rfl).range)) rfl ?_; (try simp only [Act.put, lyy])
   refine qaa (qae (v := b64 _) rfl rfl) rfl ?_; (try simp only [Act.put, lyy])
   refine qag (qar (vs := r.map b64) rfl SZ.out rfl rfl (one64s _) (by rw [L1.out]; exact (hM.out.get (i := 0) rfl).there)) rfl rfl ?_; replace hM := Lib.hid (hM.out.put 0 rfl (m := r.map b64) (L1.out))
   refine qaa (qaf (v := b64 _) rfl rfl) rfl ?_; (try simp only [Act.put, lyy])
   refine qab ?_
   go_wp2_with fail
   refine bodyPost_ret (v := .tuple #[.agg (r.map b64).toArray, b64 c]) ?_ rfl ⟨by rw [E1.out, E2.out], hM.out.bl⟩
   exact qbm Tryd.results54 rfl Tryd.underlying82 rfl SZ.out (hM.out.get (i := 0) rfl).range
  ·have hk1 : (n : Int) < 4 := by omega
   have hn2 : n < 4 := by omega
   have HL := Lib.hid (qbv b64 0 (l := r) (i := n) (by omega))
   have HB := Lib.hid (qbv b64 0 (l := m) (i := n) (by omega))
   have FL : Hid (n < (r.map b64).length) := Lib.hid (by rw [List.length_map]; omega)
   have NX := Lib.hid (HS.out n r c HR.out hn2)
   generalize r.getD n 0 = x at *
   generalize m.getD n 0 = y at *
   go_upto_region 4 with fail; refine wp_region_lit ?_
   refine qaa (qae (v := .int _ _) rfl rfl) rfl ?_; (try simp only [Act.put, lyy]); refine qaa (qaf (v := .int _ _) rfl rfl) rfl ?_; (try simp only [Act.put, lyy])
   refine qab ?_
   go_upto_region 5 with fail
   refine wp_region_noPanic ?_; refine qay (S := Till 13 (fun V => Below wr.heap.size wr V)) (by kernel_rfl) (.inr (Below.refl _ _).drew) (fun _ => ?_); have hS : Below wr.heap.size wr wr.drew := (Below.refl _ _).drew
   refine qak 0 rfl rfl (by kernel_rfl) (by kernel_rfl) (by kernel_rfl) (by kernel_rfl) (by kernel_rfl) (fun _ _ _ h => h) rfl (fun V hV => qae (v := .int _ _) rfl rfl) hS ?_; (try simp only [Act.put, lyy])
   refine qak 1 rfl rfl (by kernel_rfl) (by kernel_rfl) (by kernel_rfl) (by kernel_rfl) (by kernel_rfl) (fun _ _ _ h => h) rfl (fun V hV => qae (v := .int _ _) rfl rfl) hS ?_; (try simp only [Act.put, lyy])
   refine qak 2 rfl rfl (by kernel_rfl) (by kernel_rfl) (by kernel_rfl) (by kernel_rfl) (by kernel_rfl) (fun _ _ _ h => h) rfl (fun V hV => qbk (i := n) rfl Tryd.underlying82 (by kernel_rfl) rfl rfl hn2) hS ?_; (try simp only [Act.put, lyy])
   refine qak 3 rfl rfl (by kernel_rfl) (by kernel_rfl) (by kernel_rfl) (by kernel_rfl) (by kernel_rfl) (fun _ _ _ h => h) rfl (fun V hV => qbu rfl rfl (((hM.out.below hV).get (i := 2) rfl).c _ _ HL.out)) hS ?_; (try simp only [Act.put, lyy])
   refine qak 4 rfl rfl (by kernel_rfl) (by kernel_rfl) (by kernel_rfl) (by kernel_rfl) (by kernel_rfl) (fun _ _ _ h => h) rfl (fun V hV => qae (v := .int _ _) rfl rfl) hS ?_; (try simp only [Act.put, lyy])
   refine qak 5 rfl rfl (by kernel_rfl) (by kernel_rfl) (by kernel_rfl) (by kernel_rfl) (by kernel_rfl) (fun _ _ _ h => h) rfl (fun V hV => qbk (i := n) rfl Tryd.underlying82 (by kernel_rfl) rfl rfl hn2) hS ?_; (try simp only [Act.put, lyy])
   refine qak 6 rfl rfl (by kernel_rfl) (by kernel_rfl) (by kernel_rfl) (by kernel_rfl) (by kernel_rfl) (fun _ _ _ h => h) rfl (fun V hV => qbu rfl rfl (((hM.out.below hV).get (i := 1) rfl).c _ _ HB.out)) hS ?_; (try simp only [Act.put, lyy])
   refine qak 7 rfl rfl (by kernel_rfl) (by kernel_rfl) (by kernel_rfl) (by kernel_rfl) (by kernel_rfl) (fun _ _ _ h => h) rfl (fun V hV => qae (v := b64 _) rfl rfl) hS ?_; (try simp only [Act.put, lyy])
   refine qak 8 rfl rfl (by kernel_rfl) (by kernel_rfl) (by kernel_rfl) (by kernel_rfl) (by kernel_rfl) (fun _ _ _ h => h) rfl (fun V hV => run_subW hc rfl rfl rfl rfl rfl) hS ?_; (try simp only [Act.put, lyy])
   refine qak 9 rfl rfl (by kernel_rfl) (by kernel_rfl) (by kernel_rfl) (by kernel_rfl) (by kernel_rfl) (fun _ _ _ h => h) rfl (fun V hV => qae (v := .tuple _) rfl rfl) hS ?_; (try simp only [Act.put, lyy])
   refine qak 10 rfl rfl (by kernel_rfl) (by kernel_rfl) (by kernel_rfl) (by kernel_rfl) (by kernel_rfl) (fun _ _ _ h => h) rfl (fun V hV => qbt (v := b64 (sbw x y c)) rfl rfl rfl) hS ?_; (try simp only [Act.put, lyy])
   refine wpAnyD_free 11 rfl rfl (by kernel_rfl) (by kernel_rfl) (by kernel_rfl) (by kernel_rfl) (fun _ _ _ h => h) rfl (fun V => qbt (v := b64 (sbc x y c)) rfl rfl rfl) hS ?_; (try simp only [Act.put, lyy])
   refine qak 12 rfl rfl (by kernel_rfl) (by kernel_rfl) (by kernel_rfl) (by kernel_rfl) (by kernel_rfl) (fun _ _ _ h => h) rfl (fun V hV => qbk (i := n) rfl Tryd.underlying82 (by kernel_rfl) rfl rfl hn2) hS ?_; (try simp only [Act.put, lyy])
   replace hM := Lib.hid (hM.out.below hS)
   generalize wr.drew = a4 at *
   refine qbo 13 (by kernel_rfl) rfl rfl rfl (run_st64 rfl rfl rfl ((hM.out.get (i := 2) rfl).c _ _ HL.out) ((hM.out.get (i := 2) rfl).f _)) (.inl rfl) ?_
   refine qcj 14 (by kernel_rfl) rfl rfl rfl (qaf (v := b64 _) rfl rfl) (.inl rfl) ?_; (try simp only [Act.put, lyy])
   refine qa2 (by kernel_rfl) ?_ _; refine NoPanic.normal ?_
   have hM2 := Lib.hid (hM.out.set 2 rfl FL.out (b64 (sbw x y c)))
   rw [qc3] at hM2
   generalize a4.setCell ⟨g1, n, none⟩ (b64 (sbw x y c)) = a5 at *
   clear hM HL HB FL hS
   go_wp2_with fail
   exact ⟨⟨n + 1, r.set n (sbw x y c), sbc x y c, by omega, rfl, by go_num, NX.out, hM2.out⟩, by simp [intOf]; omega⟩
theorem enters_sminus : Enters 54 := qaq Tryd.func54 (by kernel_rfl) rfl
end Go.Proofs.YtcgbgmbnagmohaaDoor
namespace Go.Proofs.YtcgbgmbnagmohaaDoor
open Go.RowKit
set_option maxRecDepth 20000
structure SG (w : World) : Prop where
 lt : 0 < w.heap.size
 r : w.rangeAt 0 0 ((wd ell 4).map b64)
theorem SG.below {w w' : World} (h : SG w) (hb : Below w.heap.size w w') : SG w' := ⟨Nat.lt_of_lt_of_le h.lt hb.size, qb9 h.r h.lt hb⟩
def lessN (n : Nat) : Nat := if n < ell then n else n - ell
theorem lv_ell : lv (wd ell 4) = ell := by rw [lv_wd, Nat.mod_eq_of_lt ell_lt]
theorem less_arith {a e M : Nat} (h : ¬ a < e) (h1 : a < M) : (a + M - e) % M = a - e := by
 rw [show a + M - e = (a - e) + M by omega, Nat.add_mod_right, Nat.mod_eq_of_lt (by omega)]
theorem choose_w (p : Prop) [Decidable p] (x y : BitVec 64) : x &&& -(if p then (1 : BitVec 64) else 0) ||| y &&& ~~~(-(if p then (1 : BitVec 64) else 0)) = if p then x else y := by
 by_cases h : p
 ·rw [if_pos h, if_pos h, show -(1 : BitVec 64) = BitVec.allOnes 64 by decide, BitVec.and_allOnes, BitVec.not_allOnes, BitVec.and_zero, BitVec.or_zero]
 ·rw [if_neg h, if_neg h, show -(0 : BitVec 64) = 0#64 by decide, BitVec.and_zero, BitVec.not_zero, BitVec.and_allOnes, BitVec.zero_or]
def mixW (X l : List (BitVec 64)) (i : Nat) : List (BitVec 64) := X.take i ++ l.drop i
theorem mixW_len {X l : List (BitVec 64)} (hX : X.length = 4) (hl : l.length = 4) {i : Nat} (hi : i ≤ 4) : (mixW X l i).length = 4 := by unfold mixW; rw [List.length_append, List.length_take, List.length_drop]; omega
theorem mixW_get {X : List (BitVec 64)} (hX : X.length = 4) (l : List (BitVec 64)) {i : Nat} (hi : i < 4) : (mixW X l i).getD i 0 = l.getD i 0 := by
 unfold mixW
 rw [List.getD_eq_getElem?_getD, List.getElem?_append_right (by rw [List.length_take]; omega), List.length_take, Nat.min_eq_left (by omega), Nat.sub_self, List.getElem?_drop, Nat.add_zero, List.getD_eq_getElem?_getD]
theorem mixW_set {X l : List (BitVec 64)} (hX : X.length = 4) (hl : l.length = 4) {i : Nat} (hi : i < 4) : (mixW X l i).set i (X.getD i 0) = mixW X l (i + 1) := by
 unfold mixW
 rw [List.set_append_right _ _ (by rw [List.length_take]; omega), List.length_take, Nat.min_eq_left (by omega), Nat.sub_self, List.drop_eq_getElem_cons (by omega), List.set_cons_zero, List.take_succ_eq_append_getElem (by omega), List.append_assoc]
 simp [show i < X.length by omega]
set_option maxHeartbeats 8000000 in
theorem sless_any (l : List (BitVec 64)) (w : World) (hl : l.length = 4) (hG : SG w) : Calls Tryd.prog 75 #[.agg (l.map b64).toArray] w fun e w' => e = .returned (.agg ((wd (lessN (lv l)) 4).map b64).toArray) ∧ Below w.heap.size w w' := by
 have HG := Lib.hid hG; clear hG
 have hol := qc8 ell 4
 have CM : Hid (∀ u : World, Calls Tryd.prog 54 #[.agg (l.map b64).toArray, .agg ((wd ell 4).map b64).toArray] u fun e w' => e = .returned (.tuple #[.agg ((wd ((lv l + 2 ^ 256 - lv (wd ell 4)) % 2 ^ 256) 4).map b64).toArray, b64 (if lv l < lv (wd ell 4) then 1 else 0)]) ∧ Below u.heap.size u w') := Lib.hid fun u => sminus_any l (wd ell 4) u hl hol
 rw [lv_ell] at CM
 have hRl := qc8 ((lv l + 2 ^ 256 - ell) % 2 ^ 256) 4
 have HX : Hid ((if lv l < ell then l else wd ((lv l + 2 ^ 256 - ell) % 2 ^ 256) 4) = wd (lessN (lv l)) 4) := Lib.hid (by
  unfold lessN
  by_cases h : lv l < ell
  ·rw [if_pos h, if_pos h, wd_of hl]
  ·rw [if_neg h, if_neg h]
   have h1 := lv_lt l
   rw [hl] at h1
   rw [less_arith h h1])
 have HC : Hid (∀ x y : BitVec 64, x &&& -(if lv l < ell then (1 : BitVec 64) else 0) ||| y &&& ~~~(-(if lv l < ell then (1 : BitVec 64) else 0)) = if lv l < ell then x else y) := Lib.hid (choose_w (lv l < ell))
 have HY : Hid (∀ i, (if lv l < ell then l.getD i 0 else (wd ((lv l + 2 ^ 256 - ell) % 2 ^ 256) 4).getD i 0) = (wd (lessN (lv l)) 4).getD i 0) := Lib.hid fun i => by
  rw [← HX.out]; split <;> rfl
 have hXl := qc8 (lessN (lv l)) 4
 generalize wd (lessN (lv l)) 4 = X at *
 generalize wd ((lv l + 2 ^ 256 - ell) % 2 ^ 256) 4 = R at *
 have HCY : Hid (∀ i, l.getD i 0 &&& -(if lv l < ell then (1 : BitVec 64) else 0) ||| R.getD i 0 &&& ~~~(-(if lv l < ell then (1 : BitVec 64) else 0)) = X.getD i 0) := Lib.hid fun i => by rw [HC.out, HY.out]
 generalize (if lv l < ell then (1 : BitVec 64) else 0) = C at *
 clear HC HY HX
 have RO : Hid (∀ V, SG V → V.rangeAt 0 0 ((wd ell 4).map b64)) := Lib.hid fun V h => h.r
 have SO := Lib.hid (szS4 hol)
 generalize wd ell 4 = O at *
 have SL := Lib.hid (szS4 hl)
 have SR := Lib.hid (szS4 hRl)
 have LR : Hid ((R.map b64).length = (z64 4).length) := Lib.hid (by rw [List.length_map, hRl]; rfl)
 have hM := Lib.hid (Mv.nil w)
 go_enter Tryd.func75, Tryd.ntmps75
 go_upto_region 0 with fail; refine wp_region_lit ?_
 refine qaa (qau (vs := l.map b64) rfl rfl) rfl ?_; (try simp only [Act.put, lyy]); replace hM := Lib.hid (hM.out.new (l.map b64) 82); generalize w.alloc (.cells (l.map b64).toArray 82) = a1 at *; generalize w.heap.size = g1 at *
 refine qaa (qat (vs := z64 4) rfl (by kernel_rfl)) rfl ?_; (try simp only [Act.put, lyy]); replace hM := Lib.hid (hM.out.new (z64 4) 82); generalize a1.alloc (.cells (z64 4).toArray 82) = a2 at *; generalize a1.heap.size = g2 at *
 refine qab ?_
 go_upto_region 1 with fail; refine wp_region_lit ?_
 refine qaa (qaj (vs := l.map b64) rfl Tryd.underlying82 rfl SL.out rfl ((hM.out.get (i := 1) rfl).range)) rfl ?_; (try simp only [Act.put, lyy])
 refine qaa (qaj (vs := O.map b64) rfl Tryd.underlying82 rfl SO.out rfl (RO.out _ (HG.out.below hM.out.bl))) rfl ?_; (try simp only [Act.put, lyy])
 refine qam (qao enters_sminus rfl rfl rfl rfl) rfl (CM.out _) (fun a3 hb => ?_); (try simp only [Act.put, lyy]); replace hM := Lib.hid (hM.out.below hb); clear hb
 refine qaa (qae (v := .tuple _) rfl rfl) rfl ?_; (try simp only [Act.put, lyy])
 refine qaa (qbt (v := .agg (R.map b64).toArray) rfl rfl rfl) rfl ?_; (try simp only [Act.put, lyy])
 refine qaa (qbt (v := b64 C) rfl rfl rfl) rfl ?_; (try simp only [Act.put, lyy])
 refine qaa (qat (vs := z64 4) rfl (by kernel_rfl)) rfl ?_; (try simp only [Act.put, lyy]); replace hM := Lib.hid (hM.out.new (z64 4) 82); generalize a3.alloc (.cells (z64 4).toArray 82) = a4 at *; generalize a3.heap.size = g3 at *
 refine qag (qar (vs := R.map b64) rfl SR.out rfl rfl (one64s _) (by rw [LR.out]; exact (hM.out.get (i := 0) rfl).there)) rfl rfl ?_; replace hM := Lib.hid (hM.out.put 0 rfl (m := R.map b64) (LR.out))
 generalize a4.setCells g3 0 (R.map b64) = a5 at *
 refine qaa (qaf (v := b64 _) rfl rfl) rfl ?_; (try simp only [Act.put, lyy])
 refine qab ?_
 go_upto_region 2 with fail; refine wp_region_lit ?_
 refine qaa (qae (v := b64 _) rfl rfl) rfl ?_; (try simp only [Act.put, lyy])
 refine qaa (run_negW rfl rfl) rfl ?_; (try simp only [Act.put, lyy])
 refine qaa (qaf (v := b64 _) rfl rfl) rfl ?_; (try simp only [Act.put, lyy])
 refine qab ?_
 go_upto_region 3 with fail; refine wp_region_lit ?_
 refine qaa (qae (v := .int _ _) rfl rfl) rfl ?_; (try simp only [Act.put, lyy])
 refine qab ?_
 go_wp2_with fail
 go_loopw [15] (fun s u => ∃ n : Nat, n ≤ 4 ∧ s = .int .i64 (n : Int) ∧ Mv w [(g3, R.map b64), (g2, z64 4), (g1, (mixW X l n).map b64)] u) (fun s _ => (4 - intOf s).toNat)
 case atStart => exact ⟨0, by omega, rfl, hM.out⟩
 case round =>
  obtain ⟨n, hn, rfl, hJ⟩ := hrel
  replace hM := Lib.hid hJ
  clear hJ
  by_cases hlt : n = 4
  ·subst hlt
   have hk1 : ¬ (((4 : Nat) : Int) < 4) := by omega
   have EX : mixW X l 4 = X := by unfold mixW; rw [List.take_of_length_le (by omega), List.drop_of_length_le (by omega), List.append_nil]
   rw [EX] at hM
   clear EX
   have SZ := Lib.hid (szS4 hXl)
   have L1 : Hid ((X.map b64).length = (z64 4).length) := Lib.hid (by rw [List.length_map, hXl]; rfl)
   go_upto_region 8 with fail; refine wp_region_lit ?_
   refine qaa (qaj (vs := X.map b64) rfl Tryd.underlying82 rfl SZ.out rfl ((hM.out.get (i := 2) rfl).range)) rfl ?_; (try simp only [Act.put, lyy])
   refine qag (qar (vs := X.map b64) rfl SZ.out rfl rfl (one64s _) (by rw [L1.out]; exact (hM.out.get (i := 1) rfl).there)) rfl rfl ?_; replace hM := Lib.hid (hM.out.put 1 rfl (m := X.map b64) (L1.out))
   refine qab ?_; go_wp2_with fail; refine bodyPost_ret (v := .agg (X.map b64).toArray) (qa8 Tryd.results75 rfl Tryd.underlying82 rfl SZ.out (hM.out.get (i := 1) rfl).range) rfl ⟨rfl, hM.out.bl⟩
  ·have hk1 : (n : Int) < 4 := by omega
   have hn2 : n < 4 := by omega
   have hml := mixW_len hXl hl hn
   have HL := Lib.hid (qbv b64 0 (l := mixW X l n) (i := n) (by omega))
   rw [mixW_get hXl l hn2] at HL
   have HB := Lib.hid (qbv b64 0 (l := R) (i := n) (by omega))
   have FL : Hid (n < ((mixW X l n).map b64).length) := Lib.hid (by rw [List.length_map]; omega)
   have NX := Lib.hid (mixW_set hXl hl hn2)
   have E1 := Lib.hid (HCY.out n)
   generalize mixW X l n = Y at *
   generalize l.getD n 0 = x at *
   generalize R.getD n 0 = y at *
   go_upto_region 5 with fail; refine wp_region_lit ?_
   refine qaa (qae (v := .int _ _) rfl rfl) rfl ?_; (try simp only [Act.put, lyy]); refine qaa (qaf (v := .int _ _) rfl rfl) rfl ?_; (try simp only [Act.put, lyy])
   refine qab ?_
   go_upto_region 6 with fail; refine qbf 13 (by kernel_rfl) (by kernel_rfl) ?_
   refine qad _ (fun V hV => qai (qae (v := .int _ _) rfl rfl)) ?_; (try simp only [Act.put, lyy]); refine qad _ (fun V hV => qai (qae (v := .int _ _) rfl rfl)) ?_; (try simp only [Act.put, lyy])
   refine qad _ (fun V hV => qai (qbk (i := n) rfl Tryd.underlying82 (by kernel_rfl) rfl rfl hn2)) ?_; (try simp only [Act.put, lyy])
   refine qad _ (fun V hV => qai (qbu rfl rfl (((hM.out.below hV).get (i := 2) rfl).c _ _ HL.out))) ?_; (try simp only [Act.put, lyy])
   refine qad _ (fun V hV => qai (qae (v := b64 _) rfl rfl)) ?_; (try simp only [Act.put, lyy]); refine qad _ (fun V hV => qai (qb2 rfl rfl rfl)) ?_; (try simp only [Act.put, lyy]); refine qad _ (fun V hV => qai (qae (v := .int _ _) rfl rfl)) ?_; (try simp only [Act.put, lyy])
   refine qad _ (fun V hV => qai (qbk (i := n) rfl Tryd.underlying82 (by kernel_rfl) rfl rfl hn2)) ?_; (try simp only [Act.put, lyy])
   refine qad _ (fun V hV => qai (qbu rfl rfl (((hM.out.below hV).get (i := 0) rfl).c _ _ HB.out))) ?_; (try simp only [Act.put, lyy])
   refine qad _ (fun V hV => qai (qae (v := b64 _) rfl rfl)) ?_; (try simp only [Act.put, lyy])
   refine qad _ (fun V hV => qai (run_andnW rfl rfl rfl)) ?_; (try simp only [Act.put, lyy])
   refine qad _ (fun V hV => qai (qcp rfl rfl rfl)) ?_; (try simp only [Act.put, lyy])
   refine qad _ (fun V hV => qai (qbk (i := n) rfl Tryd.underlying82 (by kernel_rfl) rfl rfl hn2)) ?_; (try simp only [Act.put, lyy])
   refine qbh ?_; intro a6 hb; simp only [List.drop_succ_cons, List.drop_zero]
   replace hM := Lib.hid (hM.out.below hb)
   clear hb
   rw [E1.out]
   refine qag (run_st64 rfl rfl rfl ((hM.out.get (i := 2) rfl).c _ _ HL.out) ((hM.out.get (i := 2) rfl).f _)) rfl rfl ?_
   refine qab ?_
   have hM2 := Lib.hid (hM.out.set 2 rfl FL.out (b64 (X.getD n 0)))
   rw [qc3, NX.out] at hM2
   generalize a6.setCell ⟨g1, n, none⟩ (b64 (X.getD n 0)) = a7 at *
   clear hM HL HB FL NX
   go_wp2_with fail
   exact ⟨⟨n + 1, by omega, by go_num, hM2.out⟩, by simp [intOf]; omega⟩
theorem enters_sless : Enters 75 := qaq Tryd.func75 (by kernel_rfl) rfl
end Go.Proofs.YtcgbgmbnagmohaaDoor
