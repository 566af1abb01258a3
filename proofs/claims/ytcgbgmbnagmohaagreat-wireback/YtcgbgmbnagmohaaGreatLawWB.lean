import Derived.Test.YtcgbgmbnagmohaaGreatLy
import Derived.Test.YtcgbgmbnagmohaaGreatSm3
import Derived.Test.YtcgbgmbnagmohaaGreatWrG
import Derived.Test.YtcgbgmbnagmohaaGreatPu5
import Derived.Test.YtcgbgmbnagmohaaGreatPrE
import Derived.Test.YtcgbgmbnagmohaaGreatPrS
import Derived.Test.YtcgbgmbnagmohaaGreatPrU
import Derived.Test.YtcgbgmbnagmohaaGreatPrL
import Derived.Test.YtcgbgmbnagmohaaGreatPrQ
namespace Go.Proofs.YtcgbgmbnagmohaaGreat
open Go.RowKit
set_option maxRecDepth 20000
attribute [local irreducible] wpList
theorem enters_smac : Enters 35 := qan Tryz.func35 (by kernel_rfl) rfl
set_option maxHeartbeats 16000000 in
theorem smAc_any (m : MAc) (X Y : List Value) (w : World) (hm : m.Ok) (hX : Fro 0 (acAt m X) w) (hY : Fro 0 (acAt m Y) w) : Calls Tryz.prog 35 #[.agg X.toArray, .agg Y.toArray] w fun e w' => e = .returned (.bool true) ∧ Below w.heap.size w w' := by
  obtain ⟨x1, a, c, p, q, rfl, lx1, ox1, F1, F2, F3⟩ := acAt_fix hm hX
  obtain ⟨y1, b, d, r, s, rfl, ly1, oy1, G1, G2, G3⟩ := acAt_fix hm hY
  have CL := Lib.hid fun u (hu : Since w u) => smLs_any m.ls x1 y1 u hm.ls (F1.below hu) (G1.below hu)
  have HE := qci F2
  have HE2 := qci G2
  have HT := qci F3
  have HT2 := qci G3
  have HK := Lib.hid hm.slots
  have HKT := Lib.hid hm.tokens
  have hmany := hm.many
  have hmuch := hm.much
  have E := Lib.hid (Ev.start (w := w) (F := fun _ => True) fun _ _ => trivial)
  clear hX hY hm F1 F2 F3 G1 G2 G3
  go_enter Tryz.func35, Tryz.ntmps35
  go_upto_region 0 with fail; refine wp_region_lit ?_
  refine qaa (qa8 (vs := acR (.int .i64 m.id) (.string (strOf m.pin)) (.int .i64 m.wrong) (.int .i64 m.till) (x1) (.slice a m.slots.length c) (.slice p m.tokens.length q)) rfl rfl) rfl ?_; (try simp only [Act.put, lyy])
  replace E := Lib.hid (E.out.new (acR (.int .i64 m.id) (.string (strOf m.pin)) (.int .i64 m.wrong) (.int .i64 m.till) (x1) (.slice a m.slots.length c) (.slice p m.tokens.length q)) 60)
  generalize w.alloc (.cells (acR (.int .i64 m.id) (.string (strOf m.pin)) (.int .i64 m.wrong) (.int .i64 m.till) (x1) (.slice a m.slots.length c) (.slice p m.tokens.length q)).toArray 60) = a1 at *
  generalize w.heap.size = g2 at *
  refine qaa (qa8 (vs := acR (.int .i64 m.id) (.string (strOf m.pin)) (.int .i64 m.wrong) (.int .i64 m.till) (y1) (.slice b m.slots.length d) (.slice r m.tokens.length s)) rfl rfl) rfl ?_; (try simp only [Act.put, lyy])
  replace E := Lib.hid (E.out.new (acR (.int .i64 m.id) (.string (strOf m.pin)) (.int .i64 m.wrong) (.int .i64 m.till) (y1) (.slice b m.slots.length d) (.slice r m.tokens.length s)) 60)
  generalize a1.alloc (.cells (acR (.int .i64 m.id) (.string (strOf m.pin)) (.int .i64 m.wrong) (.int .i64 m.till) (y1) (.slice b m.slots.length d) (.slice r m.tokens.length s)).toArray 60) = a3 at *
  generalize a1.heap.size = g4 at *
  refine qaa (qak (v := .bool false) rfl rfl) rfl ?_; (try simp only [Act.put, lyy])
  refine qab ?_
  go_upto_region 1 with fail; refine wp_region_lit ?_
  refine qaa (qai (s := 0) (k := 0) rfl Tryz.underlying60 rfl (by kernel_rfl) rfl rfl) rfl ?_; (try simp only [Act.put, lyy])
  refine qaa (qam rfl Tryz.underlying3 rfl rfl ((E.out.get (i := 1) rfl).c 0 _ (acR_ID ))) rfl ?_; (try simp only [Act.put, lyy])
  refine qaa (qai (s := 0) (k := 0) rfl Tryz.underlying60 rfl (by kernel_rfl) rfl rfl) rfl ?_; (try simp only [Act.put, lyy])
  refine qaa (qam rfl Tryz.underlying3 rfl rfl ((E.out.get (i := 0) rfl).c 0 _ (acR_ID ))) rfl ?_; (try simp only [Act.put, lyy])
  refine qaa (qcv (c := false) rfl rfl rfl (by simp)) rfl ?_; (try simp only [Act.put, lyy])
  refine qaa (qad (v := .bool false) rfl rfl) rfl ?_; (try simp only [Act.put, lyy])
  refine qae (qai (s := 0) (k := 1) rfl Tryz.underlying60 rfl (by kernel_rfl) rfl rfl) rfl ?_; (try simp only [Act.put, lyy])
  refine qae (qam rfl Tryz.underlying9 rfl rfl ((E.out.get (i := 1) rfl).c 1 _ (acR_Pin ))) rfl ?_; (try simp only [Act.put, lyy])
  refine qae (qai (s := 0) (k := 1) rfl Tryz.underlying60 rfl (by kernel_rfl) rfl rfl) rfl ?_; (try simp only [Act.put, lyy])
  refine qae (qam rfl Tryz.underlying9 rfl rfl ((E.out.get (i := 0) rfl).c 1 _ (acR_Pin ))) rfl ?_; (try simp only [Act.put, lyy])
  refine qae (run_neStrS rfl rfl rfl) rfl ?_; (try simp only [Act.put, lyy])
  refine qaa (qaw (b := false) (v := .bool false) rfl rfl rfl) rfl ?_; (try simp only [Act.put, lyy])
  refine qaa (qad (v := .bool false) rfl rfl) rfl ?_; (try simp only [Act.put, lyy])
  refine qae (qai (s := 0) (k := 2) rfl Tryz.underlying60 rfl (by kernel_rfl) rfl rfl) rfl ?_; (try simp only [Act.put, lyy])
  refine qae (qam rfl Tryz.underlying3 rfl rfl ((E.out.get (i := 1) rfl).c 2 _ (acR_Wrong ))) rfl ?_; (try simp only [Act.put, lyy])
  refine qae (qai (s := 0) (k := 2) rfl Tryz.underlying60 rfl (by kernel_rfl) rfl rfl) rfl ?_; (try simp only [Act.put, lyy])
  refine qae (qam rfl Tryz.underlying3 rfl rfl ((E.out.get (i := 0) rfl).c 2 _ (acR_Wrong ))) rfl ?_; (try simp only [Act.put, lyy])
  refine qae (qcv (c := false) rfl rfl rfl (by simp)) rfl ?_; (try simp only [Act.put, lyy])
  refine qaa (qaw (b := false) (v := .bool false) rfl rfl rfl) rfl ?_; (try simp only [Act.put, lyy])
  refine qaa (qad (v := .bool false) rfl rfl) rfl ?_; (try simp only [Act.put, lyy])
  refine qae (qai (s := 0) (k := 3) rfl Tryz.underlying60 rfl (by kernel_rfl) rfl rfl) rfl ?_; (try simp only [Act.put, lyy])
  refine qae (qam rfl Tryz.underlying3 rfl rfl ((E.out.get (i := 1) rfl).c 3 _ (acR_Until ))) rfl ?_; (try simp only [Act.put, lyy])
  refine qae (qai (s := 0) (k := 3) rfl Tryz.underlying60 rfl (by kernel_rfl) rfl rfl) rfl ?_; (try simp only [Act.put, lyy])
  refine qae (qam rfl Tryz.underlying3 rfl rfl ((E.out.get (i := 0) rfl).c 3 _ (acR_Until ))) rfl ?_; (try simp only [Act.put, lyy])
  refine qae (qcv (c := false) rfl rfl rfl (by simp)) rfl ?_; (try simp only [Act.put, lyy])
  refine qaa (qaw (b := false) (v := .bool false) rfl rfl rfl) rfl ?_; (try simp only [Act.put, lyy])
  refine qaa (qad (v := .bool false) rfl rfl) rfl ?_; (try simp only [Act.put, lyy])
  refine qae (qai (s := 98) (k := 4) rfl Tryz.underlying60 rfl (by kernel_rfl) rfl rfl) rfl ?_; (try simp only [Act.put, lyy])
  refine qae (qat (vs := x1) rfl Tryz.underlying32 rfl (szR lx1 (by kernel_rfl)) rfl ((E.out.get (i := 1) rfl).seg (acR_List lx1))) rfl ?_; (try simp only [Act.put, lyy])
  refine qae (qai (s := 98) (k := 4) rfl Tryz.underlying60 rfl (by kernel_rfl) rfl rfl) rfl ?_; (try simp only [Act.put, lyy])
  refine qae (qat (vs := y1) rfl Tryz.underlying32 rfl (szR ly1 (by kernel_rfl)) rfl ((E.out.get (i := 0) rfl).seg (acR_List ly1))) rfl ?_; (try simp only [Act.put, lyy])
  refine qb6 (qaf enters_smls rfl rfl rfl rfl) rfl (CL.out _ E.out.bl) (fun a5 hb => ?_); (try simp only [Act.put, lyy])
  replace E := Lib.hid (E.out.below hb)
  clear hb
  refine qae (run_notU rfl rfl) rfl ?_; (try simp only [Act.put, lyy])
  refine qaa (qaw (b := false) (v := .bool false) rfl rfl rfl) rfl ?_; (try simp only [Act.put, lyy])
  refine qaa (qad (v := .bool false) rfl rfl) rfl ?_; (try simp only [Act.put, lyy])
  refine qae (qai (s := 0) (k := 103) rfl Tryz.underlying60 rfl (by kernel_rfl) rfl rfl) rfl ?_; (try simp only [Act.put, lyy])
  refine qae (qam rfl Tryz.underlying57 rfl rfl ((E.out.get (i := 1) rfl).c 103 _ (qc1 lx1))) rfl ?_; (try simp only [Act.put, lyy])
  refine qae (qa4 rfl Tryz.underlying57 rfl) rfl ?_; (try simp only [Act.put, lyy])
  refine qae (qai (s := 0) (k := 103) rfl Tryz.underlying60 rfl (by kernel_rfl) rfl rfl) rfl ?_; (try simp only [Act.put, lyy])
  refine qae (qam rfl Tryz.underlying57 rfl rfl ((E.out.get (i := 0) rfl).c 103 _ (qc1 ly1))) rfl ?_; (try simp only [Act.put, lyy])
  refine qae (qa4 rfl Tryz.underlying57 rfl) rfl ?_; (try simp only [Act.put, lyy])
  refine qae (qcv (c := false) rfl rfl rfl (by simp)) rfl ?_; (try simp only [Act.put, lyy])
  refine qaa (qaw (b := false) (v := .bool false) rfl rfl rfl) rfl ?_; (try simp only [Act.put, lyy])
  refine qaa (qad (v := .bool false) rfl rfl) rfl ?_; (try simp only [Act.put, lyy])
  refine qae (qai (s := 0) (k := 104) rfl Tryz.underlying60 rfl (by kernel_rfl) rfl rfl) rfl ?_; (try simp only [Act.put, lyy])
  refine qae (qam rfl Tryz.underlying58 rfl rfl ((E.out.get (i := 1) rfl).c 104 _ (qcn lx1))) rfl ?_; (try simp only [Act.put, lyy])
  refine qae (qa4 rfl Tryz.underlying58 rfl) rfl ?_; (try simp only [Act.put, lyy])
  refine qae (qai (s := 0) (k := 104) rfl Tryz.underlying60 rfl (by kernel_rfl) rfl rfl) rfl ?_; (try simp only [Act.put, lyy])
  refine qae (qam rfl Tryz.underlying58 rfl rfl ((E.out.get (i := 0) rfl).c 104 _ (qcn ly1))) rfl ?_; (try simp only [Act.put, lyy])
  refine qae (qa4 rfl Tryz.underlying58 rfl) rfl ?_; (try simp only [Act.put, lyy])
  refine qae (qcv (c := false) rfl rfl rfl (by simp)) rfl ?_; (try simp only [Act.put, lyy])
  refine qaa (qaw (b := false) (v := .bool false) rfl rfl rfl) rfl ?_; (try simp only [Act.put, lyy])
  refine qab ?_
  go_upto_region 3 with fail; refine wp_region_lit ?_
  refine qaa (qak (v := .int .i64 0) rfl rfl) rfl ?_; (try simp only [Act.put, lyy])
  refine qab ?_
  go_wp2_with fail
  go_loopw [5] (fun s5 u => ∃ j : Nat, s5 = .int .i64 (j : Int) ∧ j ≤ m.slots.length ∧ Ev w [(g4, acR (.int .i64 m.id) (.string (strOf m.pin)) (.int .i64 m.wrong) (.int .i64 m.till) (y1) (.slice b m.slots.length d) (.slice r m.tokens.length s)), (g2, acR (.int .i64 m.id) (.string (strOf m.pin)) (.int .i64 m.wrong) (.int .i64 m.till) (x1) (.slice a m.slots.length c) (.slice p m.tokens.length q))] [] (fun _ => True) (fun _ => True) u) (fun s5 _ => ((m.slots.length : Int) - intOf s5).toNat)
  case atStart => exact ⟨0, rfl, Nat.zero_le _, E.out⟩
  case round =>
    obtain ⟨j, rfl, hj, hE⟩ := hrel
    replace E := Lib.hid hE
    clear hE
    by_cases hjm : j = m.slots.length
    · have hjm2 : m.slots.length ≤ j := by omega
      clear hjm
      go_upto_region 4 with fail; refine wp_region_lit ?_
      refine qaa (qad (v := .int .i64 (j : Int)) rfl rfl) rfl ?_; (try simp only [Act.put, lyy])
      refine qaa (qai (s := 0) (k := 103) rfl Tryz.underlying60 rfl (by kernel_rfl) rfl rfl) rfl ?_; (try simp only [Act.put, lyy])
      refine qaa (qam rfl Tryz.underlying57 rfl rfl ((E.out.get (i := 1) rfl).c 103 _ (qc1 lx1))) rfl ?_; (try simp only [Act.put, lyy])
      refine qaa (qa4 rfl Tryz.underlying57 rfl) rfl ?_; (try simp only [Act.put, lyy])
      refine qaa (qay (c := false) rfl rfl rfl (decide_eq_false (by omega))) rfl ?_; (try simp only [Act.put, lyy])
      refine qab ?_
      go_upto_region 8 with fail; refine wp_region_lit ?_
      refine qaa (qak (v := .int .i64 0) rfl rfl) rfl ?_; (try simp only [Act.put, lyy])
      refine qab ?_
      go_wp2_with fail
      go_loopw [6] (fun s6 u => ∃ k : Nat, s6 = .int .i64 (k : Int) ∧ k ≤ m.tokens.length ∧ Ev w [(g4, acR (.int .i64 m.id) (.string (strOf m.pin)) (.int .i64 m.wrong) (.int .i64 m.till) (y1) (.slice b m.slots.length d) (.slice r m.tokens.length s)), (g2, acR (.int .i64 m.id) (.string (strOf m.pin)) (.int .i64 m.wrong) (.int .i64 m.till) (x1) (.slice a m.slots.length c) (.slice p m.tokens.length q))] [] (fun _ => True) (fun _ => True) u) (fun s6 _ => ((m.tokens.length : Int) - intOf s6).toNat)
      case atStart => exact ⟨0, rfl, Nat.zero_le _, E.out⟩
      case round =>
        obtain ⟨k, rfl, hk, hE⟩ := hrel
        replace E := Lib.hid hE
        clear hE
        by_cases hkm : k = m.tokens.length
        · have hkm2 : m.tokens.length ≤ k := by omega
          clear hkm
          go_upto_region 9 with fail; refine wp_region_lit ?_
          refine qaa (qad (v := .int .i64 (k : Int)) rfl rfl) rfl ?_; (try simp only [Act.put, lyy])
          refine qaa (qai (s := 0) (k := 104) rfl Tryz.underlying60 rfl (by kernel_rfl) rfl rfl) rfl ?_; (try simp only [Act.put, lyy])
          refine qaa (qam rfl Tryz.underlying58 rfl rfl ((E.out.get (i := 1) rfl).c 104 _ (qcn lx1))) rfl ?_; (try simp only [Act.put, lyy])
          refine qaa (qa4 rfl Tryz.underlying58 rfl) rfl ?_; (try simp only [Act.put, lyy])
          refine qaa (qay (c := false) rfl rfl rfl (decide_eq_false (by omega))) rfl ?_; (try simp only [Act.put, lyy])
          refine qab ?_
          go_upto_region 13 with fail; refine wp_region_lit ?_
          refine qaa (qak (v := .bool true) rfl rfl) rfl ?_; (try simp only [Act.put, lyy])
          refine qab ?_
          go_wp2_with fail
          go_ret
          exact ⟨rfl, E.out.bl⟩
        · have hkl : k < m.tokens.length := by omega
          have htk := HKT.out _ (List.getElem_mem hkl)
          obtain ⟨g, fo, cs, rfl, hz, HR, HA⟩ := HT.out k hkl
          obtain ⟨h, go, cs2, rfl, hz2, HR2, HA2⟩ := HT2.out k hkl
          generalize m.tokens[k] = t at *
          obtain rfl : cs = t.map b8 := (HA w (Below.refl _ _)).now
          obtain rfl : cs2 = t.map b8 := (HA2 w (Below.refl _ _)).now
          go_upto_region 9 with fail; refine wp_region_lit ?_
          refine qaa (qad (v := .int .i64 (k : Int)) rfl rfl) rfl ?_; (try simp only [Act.put, lyy])
          refine qaa (qai (s := 0) (k := 104) rfl Tryz.underlying60 rfl (by kernel_rfl) rfl rfl) rfl ?_; (try simp only [Act.put, lyy])
          refine qaa (qam rfl Tryz.underlying58 rfl rfl ((E.out.get (i := 1) rfl).c 104 _ (qcn lx1))) rfl ?_; (try simp only [Act.put, lyy])
          refine qaa (qa4 rfl Tryz.underlying58 rfl) rfl ?_; (try simp only [Act.put, lyy])
          refine qaa (qay (c := true) rfl rfl rfl (decide_eq_true (by omega))) rfl ?_; (try simp only [Act.put, lyy])
          refine qab ?_
          go_upto_region 11 with fail
          refine wp_region_noPanic ?_; refine qbd (S := fun _ V => Below wr.heap.size wr V) (by kernel_rfl) ((Below.refl _ _).drew) (fun hS => ?_)
          replace E := Lib.hid (E.out.below hS)
          generalize wr.drew = a46 at *
          refine qbf (S' := fun _ V => Below a46.heap.size a46 V) (fun _ V h => hS.trans (h.mono hS.size)) _ _ _ _ ?_
          replace hS := Below.refl a46.heap.size a46
          refine qah 0 rfl rfl (by kernel_rfl) (by kernel_rfl) (by kernel_rfl) (fun _ _ _ h => h) rfl (fun V hV => qai (s := 0) (k := 104) rfl Tryz.underlying60 rfl (by kernel_rfl) rfl rfl) hS ?_; (try simp only [Act.put, lyy])
          refine qah 1 rfl rfl (by kernel_rfl) (by kernel_rfl) (by kernel_rfl) (fun _ _ _ h => h) rfl (fun V hV => qam rfl Tryz.underlying58 rfl rfl (((E.out.below hV).get (i := 1) rfl).c 104 _ (qcn lx1))) hS ?_; (try simp only [Act.put, lyy])
          refine qah 2 rfl rfl (by kernel_rfl) (by kernel_rfl) (by kernel_rfl) (fun _ _ _ h => h) rfl (fun V hV => qad (v := .int .i64 (k : Int)) rfl rfl) hS ?_; (try simp only [Act.put, lyy])
          refine qah 3 rfl rfl (by kernel_rfl) (by kernel_rfl) (by kernel_rfl) (fun _ _ _ h => h) rfl (fun V hV => qca (z := 32) rfl Tryz.underlying58 (by kernel_rfl) rfl rfl (by omega)) hS ?_; (try simp only [Act.put, lyy])
          refine qah 4 rfl rfl (by kernel_rfl) (by kernel_rfl) (by kernel_rfl) (fun _ _ _ h => h) rfl (fun V hV => qat (vs := t.map b8) rfl Tryz.underlying27 rfl (szR (by rw [List.length_map, htk]) (by kernel_rfl)) rfl (HR _ (E.out.below hV).bl)) hS ?_; (try simp only [Act.put, lyy])
          refine qah 5 rfl rfl (by kernel_rfl) (by kernel_rfl) (by kernel_rfl) (fun _ _ _ h => h) rfl (fun V hV => qai (s := 0) (k := 104) rfl Tryz.underlying60 rfl (by kernel_rfl) rfl rfl) hS ?_; (try simp only [Act.put, lyy])
          refine qah 6 rfl rfl (by kernel_rfl) (by kernel_rfl) (by kernel_rfl) (fun _ _ _ h => h) rfl (fun V hV => qam rfl Tryz.underlying58 rfl rfl (((E.out.below hV).get (i := 0) rfl).c 104 _ (qcn ly1))) hS ?_; (try simp only [Act.put, lyy])
          refine qah 7 rfl rfl (by kernel_rfl) (by kernel_rfl) (by kernel_rfl) (fun _ _ _ h => h) rfl (fun V hV => qad (v := .int .i64 (k : Int)) rfl rfl) hS ?_; (try simp only [Act.put, lyy])
          refine qah 8 rfl rfl (by kernel_rfl) (by kernel_rfl) (by kernel_rfl) (fun _ _ _ h => h) rfl (fun V hV => qca (z := 32) rfl Tryz.underlying58 (by kernel_rfl) rfl rfl (by omega)) hS ?_; (try simp only [Act.put, lyy])
          refine qah 9 rfl rfl (by kernel_rfl) (by kernel_rfl) (by kernel_rfl) (fun _ _ _ h => h) rfl (fun V hV => qat (vs := t.map b8) rfl Tryz.underlying27 rfl (szR (by rw [List.length_map, htk]) (by kernel_rfl)) rfl (HR2 _ (E.out.below hV).bl)) hS ?_; (try simp only [Act.put, lyy])
          refine qah 10 rfl rfl (by kernel_rfl) (by kernel_rfl) (by kernel_rfl) (fun _ _ _ h => h) rfl (fun V hV => run_neR rfl (by kernel_rfl) rfl rfl (eqKy_r htk)) hS ?_; (try simp only [Act.put, lyy])
          refine qba (by kernel_rfl) ?_ _; refine NoPanic.normal ?_
          go_upto_region 10 with fail; refine wp_region_lit ?_
          refine qaa (qad (v := .int .i64 (k : Int)) rfl rfl) rfl ?_; (try simp only [Act.put, lyy])
          refine qaa (qa6 (a := k) (b := 1) rfl rfl rfl (by omega)) rfl ?_; (try simp only [Act.put, lyy])
          refine qaa (qak (v := .int .i64 ((k + 1 : Nat) : Int)) rfl rfl) rfl ?_; (try simp only [Act.put, lyy])
          refine qab ?_
          go_wp2_with fail
          exact ⟨⟨k + 1, rfl, by omega, E.out⟩, by simp [intOf]; omega⟩
    · have hjl : j < m.slots.length := by omega
      have hkl := HK.out _ (List.getElem_mem hjl)
      obtain ⟨g, fo, cs, rfl, hz, HR, HA⟩ := HE.out j hjl
      obtain ⟨h, go, cs2, rfl, hz2, HR2, HA2⟩ := HE2.out j hjl
      generalize m.slots[j] = t at *
      have CS := Lib.hid fun u (hu : Since w u) => smSl_any t cs cs2 u hkl (HA u hu) (HA2 u hu)
      go_upto_region 4 with fail; refine wp_region_lit ?_
      refine qaa (qad (v := .int .i64 (j : Int)) rfl rfl) rfl ?_; (try simp only [Act.put, lyy])
      refine qaa (qai (s := 0) (k := 103) rfl Tryz.underlying60 rfl (by kernel_rfl) rfl rfl) rfl ?_; (try simp only [Act.put, lyy])
      refine qaa (qam rfl Tryz.underlying57 rfl rfl ((E.out.get (i := 1) rfl).c 103 _ (qc1 lx1))) rfl ?_; (try simp only [Act.put, lyy])
      refine qaa (qa4 rfl Tryz.underlying57 rfl) rfl ?_; (try simp only [Act.put, lyy])
      refine qaa (qay (c := true) rfl rfl rfl (decide_eq_true (by omega))) rfl ?_; (try simp only [Act.put, lyy])
      refine qab ?_
      go_upto_region 6 with fail
      refine wp_region_noPanic ?_; refine qbd (S := fun _ V => Below wr.heap.size wr V) (by kernel_rfl) ((Below.refl _ _).drew) (fun hS => ?_)
      replace E := Lib.hid (E.out.below hS)
      generalize wr.drew = a86 at *
      refine qbf (S' := fun _ V => Below a86.heap.size a86 V) (fun _ V h => hS.trans (h.mono hS.size)) _ _ _ _ ?_
      replace hS := Below.refl a86.heap.size a86
      refine qah 0 rfl rfl (by kernel_rfl) (by kernel_rfl) (by kernel_rfl) (fun _ _ _ h => h) rfl (fun V hV => qai (s := 0) (k := 103) rfl Tryz.underlying60 rfl (by kernel_rfl) rfl rfl) hS ?_; (try simp only [Act.put, lyy])
      refine qah 1 rfl rfl (by kernel_rfl) (by kernel_rfl) (by kernel_rfl) (fun _ _ _ h => h) rfl (fun V hV => qam rfl Tryz.underlying57 rfl rfl (((E.out.below hV).get (i := 1) rfl).c 103 _ (qc1 lx1))) hS ?_; (try simp only [Act.put, lyy])
      refine qah 2 rfl rfl (by kernel_rfl) (by kernel_rfl) (by kernel_rfl) (fun _ _ _ h => h) rfl (fun V hV => qad (v := .int .i64 (j : Int)) rfl rfl) hS ?_; (try simp only [Act.put, lyy])
      refine qah 3 rfl rfl (by kernel_rfl) (by kernel_rfl) (by kernel_rfl) (fun _ _ _ h => h) rfl (fun V hV => qca (z := 101) rfl Tryz.underlying57 (by kernel_rfl) rfl rfl (by omega)) hS ?_; (try simp only [Act.put, lyy])
      refine qah 4 rfl rfl (by kernel_rfl) (by kernel_rfl) (by kernel_rfl) (fun _ _ _ h => h) rfl (fun V hV => qat (vs := cs) rfl Tryz.underlying107 rfl (szR hz (by kernel_rfl)) rfl (HR _ (E.out.below hV).bl)) hS ?_; (try simp only [Act.put, lyy])
      refine qah 5 rfl rfl (by kernel_rfl) (by kernel_rfl) (by kernel_rfl) (fun _ _ _ h => h) rfl (fun V hV => qai (s := 0) (k := 103) rfl Tryz.underlying60 rfl (by kernel_rfl) rfl rfl) hS ?_; (try simp only [Act.put, lyy])
      refine qah 6 rfl rfl (by kernel_rfl) (by kernel_rfl) (by kernel_rfl) (fun _ _ _ h => h) rfl (fun V hV => qam rfl Tryz.underlying57 rfl rfl (((E.out.below hV).get (i := 0) rfl).c 103 _ (qc1 ly1))) hS ?_; (try simp only [Act.put, lyy])
      refine qah 7 rfl rfl (by kernel_rfl) (by kernel_rfl) (by kernel_rfl) (fun _ _ _ h => h) rfl (fun V hV => qad (v := .int .i64 (j : Int)) rfl rfl) hS ?_; (try simp only [Act.put, lyy])
      refine qah 8 rfl rfl (by kernel_rfl) (by kernel_rfl) (by kernel_rfl) (fun _ _ _ h => h) rfl (fun V hV => qca (z := 101) rfl Tryz.underlying57 (by kernel_rfl) rfl rfl (by omega)) hS ?_; (try simp only [Act.put, lyy])
      refine qah 9 rfl rfl (by kernel_rfl) (by kernel_rfl) (by kernel_rfl) (fun _ _ _ h => h) rfl (fun V hV => qat (vs := cs2) rfl Tryz.underlying107 rfl (szR hz2 (by kernel_rfl)) rfl (HR2 _ (E.out.below hV).bl)) hS ?_; (try simp only [Act.put, lyy])
      refine qa2 10 (by kernel_rfl) rfl rfl rfl (qaf enters_smsl rfl rfl rfl rfl) ((qbc (CS.out _ E.out.bl))) (fun v w h => hS.trans ((h.2).mono hS.size)) (fun v87 a88 hR => ?_); (try simp only [Act.put, lyy])
      obtain ⟨rfl, hb9⟩ := hR
      replace hS := hS.trans (hb9.mono hS.size)
      replace E := Lib.hid (E.out.below hb9)
      clear hb9
      refine qbf (S' := fun _ V => Below a88.heap.size a88 V) (fun _ V h => hS.trans (h.mono hS.size)) _ _ _ _ ?_
      replace hS := Below.refl a88.heap.size a88
      refine qah 11 rfl rfl (by kernel_rfl) (by kernel_rfl) (by kernel_rfl) (fun _ _ _ h => h) rfl (fun V hV => run_notU rfl rfl) hS ?_; (try simp only [Act.put, lyy])
      refine qba (by kernel_rfl) ?_ _; refine NoPanic.normal ?_
      go_upto_region 5 with fail; refine wp_region_lit ?_
      refine qaa (qad (v := .int .i64 (j : Int)) rfl rfl) rfl ?_; (try simp only [Act.put, lyy])
      refine qaa (qa6 (a := j) (b := 1) rfl rfl rfl (by omega)) rfl ?_; (try simp only [Act.put, lyy])
      refine qaa (qak (v := .int .i64 ((j + 1 : Nat) : Int)) rfl rfl) rfl ?_; (try simp only [Act.put, lyy])
      refine qab ?_
      go_wp2_with fail
      exact ⟨⟨j + 1, rfl, by omega, E.out⟩, by simp [intOf]; omega⟩
end Go.Proofs.YtcgbgmbnagmohaaGreat
namespace Go.Proofs.YtcgbgmbnagmohaaGreat
open Go.RowKit
set_option maxRecDepth 20000
attribute [local irreducible] wpList
theorem chUs_small (c : List (BitVec 8)) : (chUs c (min c.length 6)).length ≤ 6 := by rw [chUs_len]; omega
theorem Ev.froB {w u : World} {L : List (Nat × List Value)} {K : List Nat} {F H Q : World → Prop} (e : Ev w L K F H u) (h : ∀ V, H V → Q V) : Fro 0 Q u := fun V hV => h V (e.tell V (hV.mono (Nat.zero_le _) fun _ h => h))
set_option maxHeartbeats 16000000 in
theorem wireBack_any (v0 : Value) (c : List (BitVec 8)) (w : World) (hc : Sl v0 c w) (_ : c.length ≤ 140737488351232) : Calls Tryz.prog 4 #[v0] w fun e w' => e = .returned (.bool true) ∧ Below w.heap.size w w' := by
  obtain ⟨ao, cc, rfl, -, -⟩ := id hc
  have HC := Lib.hid hc
  clear hc
  have E := Lib.hid (Ev.start (w := w) (F := fun _ => True) fun _ _ => trivial)
  by_cases hl1 : 300 < c.length
  · generalize c.length = nc at *
    go_enter Tryz.func4, Tryz.ntmps4
    go_upto_region 0 with fail; refine wp_region_lit ?_
    refine qaa (qak (v := .bool false) rfl rfl) rfl ?_; (try simp only [Act.put, lyy])
    refine qab ?_
    go_upto_region 1 with fail; refine wp_region_lit ?_
    refine qaa (qad (v := .slice ao nc cc) rfl rfl) rfl ?_; (try simp only [Act.put, lyy])
    refine qaa (qa4 rfl Tryz.underlying22 rfl) rfl ?_; (try simp only [Act.put, lyy])
    refine qaa (qbi (c := true) rfl rfl rfl (decide_eq_true (by omega))) rfl ?_; (try simp only [Act.put, lyy])
    refine qab ?_
    go_upto_region 2 with fail; refine wp_region_lit ?_
    refine qav (run_call0 enters_kn10 rfl rfl) rfl (known10_any _) (fun a1 hb => ?_); (try simp only [Act.put, lyy])
    replace E := Lib.hid (E.out.below hb)
    clear hb
    refine qaa (qak (v := .bool true) rfl rfl) rfl ?_; (try simp only [Act.put, lyy])
    refine qab ?_
    go_wp2_with fail
    go_ret
    exact ⟨rfl, E.out.bl⟩
  have q1 := chL_can c
  have q2 := chE_can c (k := 0) (by omega) (by omega)
  have q3 := chRq_can c (by omega)
  have q4 := chRp_can c (by omega)
  have q5 := chAc_can c (by omega)
  have o4 := chRp_fit c (by omega)
  have o5 := chAc_fit c (by omega)
  have l1 := chL_len c
  have l2 := chE_len c (by omega)
  have l3 := chRq_len c (by omega)
  have l4 := chRp_len c (by omega)
  have l5 := chAc_len c (by omega)
  have l6 := chUs_fit c (n := min c.length 6) (by omega)
  have q6 := chUs_can c (n := min c.length 6) (by omega)
  have n6 := chUs_small c
  have CC1 : Hid (∀ u, Since w u → Calls Tryz.prog 7 #[.slice ao c.length cc] u fun r w' => ∃ v', r = .returned v' ∧ ((∃ X : List Value, v' = .agg X.toArray ∧ X.length = 99 ∧ One X ∧ Fro 0 (lsAt (chL c) X) w') ∧ Below u.heap.size u w')) := Lib.hid fun u hu => (chL_any ao c cc u (HC.out.below hu)).mono fun e w' ⟨v', h1, ⟨X, h2, h3, h4, h5⟩, h6⟩ => ⟨v', h1, ⟨X, h2, h3, h4, h5.mono (Nat.zero_le _)⟩, h6⟩
  have CW1 : Hid (∀ (u : World) (X : List Value), Fro 0 (lsAt (chL c) X) u → Calls Tryz.prog 20 #[.agg X.toArray] u fun e w' => ∃ v', e = .returned v' ∧ S5 u v' (lsB (chL c)) w') := Lib.hid fun u X h => xLst_any u _ X q1.ok h (by omega)
  have CR1 : Hid (∀ (u : World) (g : Option Addr) (cp : Nat), Sl (.slice g (lsB (chL c)).length cp) (lsB (chL c)) u → Calls Tryz.prog 19 #[.slice g (lsB (chL c)).length cp] u fun r w' => ∃ v', r = .returned v' ∧ ((∃ X : List Value, v' = .tuple #[.agg X.toArray, .int .u16 0] ∧ X.length = 99 ∧ One X ∧ Fro u.heap.size (lsAt (chL c) X) w') ∧ Below u.heap.size u w')) := Lib.hid fun u g cp h => ryLs_any g _ cp _ 0 (rdLs_back q1 (by omega)) u h
  have CS1 : Hid (∀ (u : World) (X Y : List Value), Fro 0 (lsAt (chL c) X) u → Fro 0 (lsAt (chL c) Y) u → Calls Tryz.prog 31 #[.agg X.toArray, .agg Y.toArray] u fun e w' => e = .returned (.bool true) ∧ Below u.heap.size u w') := Lib.hid fun u X Y h1 h2 => smLs_any _ X Y u q1.ok h1 h2
  have CC2 : Hid (∀ u, Since w u → Calls Tryz.prog 9 #[.slice ao c.length cc, .int .i64 0] u fun r w' => ∃ v', r = .returned v' ∧ ((∃ X : List Value, v' = .agg X.toArray ∧ X.length = 72 ∧ One X ∧ Fro 0 (evAt (chE c 0) X) w') ∧ Below u.heap.size u w')) := Lib.hid fun u hu => (chE_any ao c cc 0 u (HC.out.below hu) (by omega)).mono fun e w' ⟨v', h1, ⟨X, h2, h3, h4, h5⟩, h6⟩ => ⟨v', h1, ⟨X, h2, h3, h4, h5.mono (Nat.zero_le _)⟩, h6⟩
  have CW2 : Hid (∀ (u : World) (X : List Value), Fro 0 (evAt (chE c 0) X) u → Calls Tryz.prog 22 #[.agg X.toArray] u fun e w' => ∃ v', e = .returned v' ∧ S5 u v' (evB (chE c 0)) w') := Lib.hid fun u X h => xEnv_any u _ X q2.ok (by have := q2.one; omega) h (by omega)
  have CR2 : Hid (∀ (u : World) (g : Option Addr) (cp : Nat), Sl (.slice g (evB (chE c 0)).length cp) (evB (chE c 0)) u → Calls Tryz.prog 21 #[.slice g (evB (chE c 0)).length cp] u fun r w' => ∃ v', r = .returned v' ∧ ((∃ X : List Value, v' = .tuple #[.agg X.toArray, .int .u16 0] ∧ X.length = 72 ∧ One X ∧ Fro u.heap.size (evAt (chE c 0) X) w') ∧ Below u.heap.size u w')) := Lib.hid fun u g cp h => ryEv_any g _ cp _ 0 (rdEv_back q2 (by omega)) u h
  have CS2 : Hid (∀ (u : World) (X Y : List Value), Fro 0 (evAt (chE c 0) X) u → Fro 0 (evAt (chE c 0) Y) u → Calls Tryz.prog 32 #[.agg X.toArray, .agg Y.toArray] u fun e w' => e = .returned (.bool true) ∧ Below u.heap.size u w') := Lib.hid fun u X Y h1 h2 => smE_true _ X Y u q2.ok h1 h2
  have CC3 : Hid (∀ u, Since w u → Calls Tryz.prog 11 #[.slice ao c.length cc] u fun r w' => ∃ v', r = .returned v' ∧ ((∃ X : List Value, v' = .agg X.toArray ∧ X.length = 237 ∧ One X ∧ Fro 0 (rqAt (chRq c) X) w') ∧ Below u.heap.size u w')) := Lib.hid fun u hu => (chRq_any ao c cc u (HC.out.below hu)).mono fun e w' ⟨v', h1, ⟨X, h2, h3, h4, h5⟩, h6⟩ => ⟨v', h1, ⟨X, h2, h3, h4, h5.mono (Nat.zero_le _)⟩, h6⟩
  have CW3 : Hid (∀ (u : World) (X : List Value), Fro 0 (rqAt (chRq c) X) u → Calls Tryz.prog 24 #[.agg X.toArray] u fun e w' => ∃ v', e = .returned v' ∧ S5 u v' (rqB (chRq c)) w') := Lib.hid fun u X h => xReq_any u _ X q3.ok q3.one h (by omega)
  have CR3 : Hid (∀ (u : World) (g : Option Addr) (cp : Nat), Sl (.slice g (rqB (chRq c)).length cp) (rqB (chRq c)) u → Calls Tryz.prog 23 #[.slice g (rqB (chRq c)).length cp] u fun r w' => ∃ v', r = .returned v' ∧ ((∃ X : List Value, v' = .tuple #[.agg X.toArray, .int .u16 0] ∧ X.length = 237 ∧ One X ∧ Fro u.heap.size (rqAt (chRq c) X) w') ∧ Below u.heap.size u w')) := Lib.hid fun u g cp h => ryRq_any g _ cp _ 0 (rdRq_back q3 (by omega)) u h
  have CS3 : Hid (∀ (u : World) (X Y : List Value), Fro 0 (rqAt (chRq c) X) u → Fro 0 (rqAt (chRq c) Y) u → Calls Tryz.prog 33 #[.agg X.toArray, .agg Y.toArray] u fun e w' => e = .returned (.bool true) ∧ Below u.heap.size u w') := Lib.hid fun u X Y h1 h2 => smRq_any _ X Y u q3.ok h1 h2
  have CC4 : Hid (∀ u, Since w u → Calls Tryz.prog 13 #[.slice ao c.length cc] u fun r w' => ∃ v', r = .returned v' ∧ ((∃ X : List Value, v' = .agg X.toArray ∧ X.length = 265 ∧ One X ∧ Fro 0 (rpAt (chRp c) X) w') ∧ Below u.heap.size u w')) := Lib.hid fun u hu => (chRp_any ao c cc u (HC.out.below hu)).mono fun e w' ⟨v', h1, ⟨X, h2, h3, h4, h5⟩, h6⟩ => ⟨v', h1, ⟨X, h2, h3, h4, h5.mono (Nat.zero_le _)⟩, h6⟩
  have CW4 : Hid (∀ (u : World) (X : List Value), Fro 0 (rpAt (chRp c) X) u → Calls Tryz.prog 26 #[.agg X.toArray] u fun e w' => ∃ v', e = .returned v' ∧ S5 u v' (rpB (chRp c)) w') := Lib.hid fun u X h => xRsp_any u _ X o4 (chRp_one c (by omega)) h (by omega)
  have CR4 : Hid (∀ (u : World) (g : Option Addr) (cp : Nat), Sl (.slice g (rpB (chRp c)).length cp) (rpB (chRp c)) u → Calls Tryz.prog 25 #[.slice g (rpB (chRp c)).length cp] u fun r w' => ∃ v', r = .returned v' ∧ ((∃ X : List Value, v' = .tuple #[.agg X.toArray, .int .u16 0] ∧ X.length = 265 ∧ One X ∧ Fro u.heap.size (rpAt (chRp c) X) w') ∧ Below u.heap.size u w')) := Lib.hid fun u g cp h => ryRp_any g _ cp _ 0 (rdRp_back q4 (by omega)) u h
  have CS4 : Hid (∀ (u : World) (X Y : List Value), Fro 0 (rpAt (chRp c) X) u → Fro 0 (rpAt (chRp c) Y) u → Calls Tryz.prog 34 #[.agg X.toArray, .agg Y.toArray] u fun e w' => e = .returned (.bool true) ∧ Below u.heap.size u w') := Lib.hid fun u X Y h1 h2 => smRp_any _ X Y u o4 h1 h2
  have CC5 : Hid (∀ u, Since w u → Calls Tryz.prog 15 #[.slice ao c.length cc] u fun r w' => ∃ v', r = .returned v' ∧ ((∃ X : List Value, v' = .agg X.toArray ∧ X.length = 105 ∧ One X ∧ Fro 0 (acAt (chAc c) X) w') ∧ Below u.heap.size u w')) := Lib.hid fun u hu => (chAc_any ao c cc u (HC.out.below hu)).mono fun e w' ⟨v', h1, ⟨X, h2, h3, h4, h5⟩, h6⟩ => ⟨v', h1, ⟨X, h2, h3, h4, h5.mono (Nat.zero_le _)⟩, h6⟩
  have CW5 : Hid (∀ (u : World) (X : List Value), Fro 0 (acAt (chAc c) X) u → Calls Tryz.prog 28 #[.agg X.toArray] u fun e w' => ∃ v', e = .returned v' ∧ S5 u v' (acB (chAc c)) w') := Lib.hid fun u X h => xAcc_any u _ X o5 (chAc_one c (by omega)) h (by omega)
  have CR5 : Hid (∀ (u : World) (g : Option Addr) (cp : Nat), Sl (.slice g (acB (chAc c)).length cp) (acB (chAc c)) u → Calls Tryz.prog 27 #[.slice g (acB (chAc c)).length cp] u fun r w' => ∃ v', r = .returned v' ∧ ((∃ X : List Value, v' = .tuple #[.agg X.toArray, .int .u16 0] ∧ X.length = 105 ∧ One X ∧ Fro u.heap.size (acAt (chAc c) X) w') ∧ Below u.heap.size u w')) := Lib.hid fun u g cp h => ryAc_any g _ cp _ 0 (rdAc_back q5 (by omega)) u h
  have CS5 : Hid (∀ (u : World) (X Y : List Value), Fro 0 (acAt (chAc c) X) u → Fro 0 (acAt (chAc c) Y) u → Calls Tryz.prog 35 #[.agg X.toArray, .agg Y.toArray] u fun e w' => e = .returned (.bool true) ∧ Below u.heap.size u w') := Lib.hid fun u X Y h1 h2 => smAc_any _ X Y u o5 h1 h2
  have CC6 : Hid (∀ u, Since w u → Calls Tryz.prog 17 #[.slice ao c.length cc] u fun r w' => ∃ v', r = .returned v' ∧ ((∃ a' c', v' = .slice a' (chUs c (min c.length 6)).length c' ∧ Fro 0 (SlR 3 usAt (chUs c (min c.length 6)) a' c') w') ∧ Below u.heap.size u w')) := Lib.hid fun u hu => (chUs_any ao c cc u (HC.out.below hu)).mono fun e w' ⟨v', h1, ⟨a', c', h2, h3⟩, h6⟩ => ⟨v', h1, ⟨a', c', h2, h3.mono (Nat.zero_le _)⟩, h6⟩
  have CW6 : Hid (∀ (u : World) (a : Option Addr) (d : Nat), Fro 0 (SlR 3 usAt (chUs c (min c.length 6)) a d) u → Calls Tryz.prog 30 #[.slice a (chUs c (min c.length 6)).length d] u fun e w' => ∃ v', e = .returned v' ∧ S5 u v' (alB usB (chUs c (min c.length 6))) w') := Lib.hid fun u a d h => xUss_any u _ a d (by omega) h (by omega)
  have CR6 : Hid (∀ (u : World) (g : Option Addr) (cp : Nat), Sl (.slice g (alB usB (chUs c (min c.length 6))).length cp) (alB usB (chUs c (min c.length 6))) u → Calls Tryz.prog 29 #[.slice g (alB usB (chUs c (min c.length 6))).length cp] u fun r w' => ∃ v', r = .returned v' ∧ ((∃ a' c', v' = .tuple #[.slice a' (chUs c (min c.length 6)).length c', .int .u16 0] ∧ Fro u.heap.size (SlR 3 usAt (chUs c (min c.length 6)) a' c') w') ∧ Below u.heap.size u w')) := Lib.hid fun u g cp h => ryUs_any g _ cp _ 0 (rdUs_back (by omega) q6 (by omega)) u h
  have CS6 : Hid (∀ (u : World) (a a2 : Option Addr) (d d2 : Nat), Fro 0 (SlR 3 usAt (chUs c (min c.length 6)) a d) u → Fro 0 (SlR 3 usAt (chUs c (min c.length 6)) a2 d2) u → Calls Tryz.prog 36 #[.slice a (chUs c (min c.length 6)).length d, .slice a2 (chUs c (min c.length 6)).length d2] u fun e w' => e = .returned (.bool true) ∧ Below u.heap.size u w') := Lib.hid fun u a a2 d d2 h1 h2 => smUs_any _ a a2 d d2 u (fun _ _ => trivial) (by omega) h1 h2
  clear HC q1 q2 q3 q4 q5 q6 o4 o5 l1 l2 l3 l4 l5 l6 n6
  generalize lsB (chL c) = L1 at *
  generalize evB (chE c 0) = L2 at *
  generalize rqB (chRq c) = L3 at *
  generalize rpB (chRp c) = L4 at *
  generalize acB (chAc c) = L5 at *
  generalize alB usB (chUs c (min c.length 6)) = L6 at *
  generalize chL c = m1 at *
  generalize chE c 0 = m2 at *
  generalize chRq c = m3 at *
  generalize chRp c = m4 at *
  generalize chAc c = m5 at *
  generalize chUs c (min c.length 6) = m6 at *
  generalize c.length = nc at *
  obtain ⟨n1, hn1⟩ : ∃ n, n = L1.length := ⟨_, rfl⟩
  have N1 := Lib.hid hn1
  rw [← hn1] at CR1
  clear hn1
  obtain ⟨n2, hn2⟩ : ∃ n, n = L2.length := ⟨_, rfl⟩
  have N2 := Lib.hid hn2
  rw [← hn2] at CR2
  clear hn2
  obtain ⟨n3, hn3⟩ : ∃ n, n = L3.length := ⟨_, rfl⟩
  have N3 := Lib.hid hn3
  rw [← hn3] at CR3
  clear hn3
  obtain ⟨n4, hn4⟩ : ∃ n, n = L4.length := ⟨_, rfl⟩
  have N4 := Lib.hid hn4
  rw [← hn4] at CR4
  clear hn4
  obtain ⟨n5, hn5⟩ : ∃ n, n = L5.length := ⟨_, rfl⟩
  have N5 := Lib.hid hn5
  rw [← hn5] at CR5
  clear hn5
  obtain ⟨n6, hn6⟩ : ∃ n, n = L6.length := ⟨_, rfl⟩
  have N6 := Lib.hid hn6
  rw [← hn6] at CR6
  clear hn6
  go_enter Tryz.func4, Tryz.ntmps4
  go_upto_region 0 with fail; refine wp_region_lit ?_
  refine qaa (qak (v := .bool false) rfl rfl) rfl ?_; (try simp only [Act.put, lyy])
  refine qab ?_
  go_upto_region 1 with fail; refine wp_region_lit ?_
  refine qaa (qad (v := .slice ao nc cc) rfl rfl) rfl ?_; (try simp only [Act.put, lyy])
  refine qaa (qa4 rfl Tryz.underlying22 rfl) rfl ?_; (try simp only [Act.put, lyy])
  refine qaa (qbi (c := false) rfl rfl rfl (decide_eq_false (by omega))) rfl ?_; (try simp only [Act.put, lyy])
  refine qab ?_
  go_upto_region 3 with fail; refine wp_region_lit ?_
  refine qaa (qad (v := .slice ao nc cc) rfl rfl) rfl ?_; (try simp only [Act.put, lyy])
  refine qag (qaq qcs rfl rfl rfl) rfl (CC1.out _ E.out.bl) (fun v2 a1 hR => ?_); (try simp only [Act.put, lyy])
  obtain ⟨⟨Y1, rfl, lY1, oY1, fX⟩, hb7⟩ := hR
  replace E := Lib.hid (E.out.below hb7)
  have HY := Lib.hid fX
  clear fX hb7
  refine qag (qaq enters_xLst rfl rfl rfl) rfl (CW1.out _ Y1 HY.out) (fun v4 a3 hR => ?_); (try simp only [Act.put, lyy])
  have hb7 := hR.bl
  have hs7 := hR.sl
  obtain ⟨xa1, xc1, rfl, -, -⟩ := id hs7
  replace E := Lib.hid (E.out.below hb7)
  rw [← N1.out] at hs7 ⊢
  have HSL := Lib.hid hs7
  clear hR HY hb7 hs7
  refine qag (qaq enters_ryLs rfl rfl rfl) rfl (CR1.out _ _ _ HSL.out) (fun v6 a5 hR => ?_); (try simp only [Act.put, lyy])
  obtain ⟨⟨X1, rfl, lX1, oX1, fX⟩, hb7⟩ := hR
  replace E := Lib.hid (E.out.call hb7 fX)
  clear fX hb7 HSL
  refine qaa (qad (v := .tuple #[.agg (X1).toArray, .int .u16 0]) rfl rfl) rfl ?_; (try simp only [Act.put, lyy])
  refine qaa (qbt (v := .agg (X1).toArray) rfl rfl rfl) rfl ?_; (try simp only [Act.put, lyy])
  refine qaa (qbt (v := .int .u16 0) rfl rfl rfl) rfl ?_; (try simp only [Act.put, lyy])
  refine qaa (qa3 (vs := lsR ((.int .i64 0)) ((.int .i64 0)) (z8 32) ((.slice none 0 0)) (z8 64)) rfl (by kernel_rfl)) rfl ?_; (try simp only [Act.put, lyy])
  replace E := Lib.hid (E.out.new (lsR ((.int .i64 0)) ((.int .i64 0)) (z8 32) ((.slice none 0 0)) (z8 64)) 32)
  generalize a5.alloc (.cells (lsR ((.int .i64 0)) ((.int .i64 0)) (z8 32) ((.slice none 0 0)) (z8 64)).toArray 32) = a7 at *
  generalize a5.heap.size = g8 at *
  refine qal (qa0 (vs := X1) rfl (szR lX1 (by kernel_rfl)) rfl rfl (One.all oX1) ((E.out.get (i := 0) rfl).thereM (by have q1 : (X1).length = 99 := lX1; have q2 : (lsR ((.int .i64 0)) ((.int .i64 0)) (z8 32) ((.slice none 0 0)) (z8 64)).length = 99 := (qas (qac 32) (qac 64)); omega))) rfl rfl ?_
  replace E := Lib.hid (E.out.put 0 rfl (m := X1) ((show (X1).length = 99 from lX1).trans (show (lsR ((.int .i64 0)) ((.int .i64 0)) (z8 32) ((.slice none 0 0)) (z8 64)).length = 99 from (qas (qac 32) (qac 64))).symm))
  generalize a7.setCells g8 0 (X1) = a9 at *
  replace E := Lib.hid (show Ev _ [(g8, X1)] _ _ _ a9 from E.out)
  refine qaa (qak (v := .int .u16 0) rfl rfl) rfl ?_; (try simp only [Act.put, lyy])
  refine qab ?_
  go_upto_region 4 with fail; refine wp_region_lit ?_
  refine qaa (qad (v := .slice ao nc cc) rfl rfl) rfl ?_; (try simp only [Act.put, lyy])
  refine qag (qaf enters_cv10 rfl rfl rfl rfl) rfl (CC2.out _ E.out.bl) (fun v11 a10 hR => ?_); (try simp only [Act.put, lyy])
  obtain ⟨⟨Y2, rfl, lY2, oY2, fX⟩, hb7⟩ := hR
  replace E := Lib.hid (E.out.below hb7)
  have HY := Lib.hid fX
  clear fX hb7
  refine qag (qaq enters_xEnv rfl rfl rfl) rfl (CW2.out _ Y2 HY.out) (fun v13 a12 hR => ?_); (try simp only [Act.put, lyy])
  have hb7 := hR.bl
  have hs7 := hR.sl
  obtain ⟨xa2, xc2, rfl, -, -⟩ := id hs7
  replace E := Lib.hid (E.out.below hb7)
  rw [← N2.out] at hs7 ⊢
  have HSL := Lib.hid hs7
  clear hR HY hb7 hs7
  refine qag (qaq enters_ryEv rfl rfl rfl) rfl (CR2.out _ _ _ HSL.out) (fun v15 a14 hR => ?_); (try simp only [Act.put, lyy])
  obtain ⟨⟨X2, rfl, lX2, oX2, fX⟩, hb7⟩ := hR
  replace E := Lib.hid (E.out.call hb7 fX)
  clear fX hb7 HSL
  refine qaa (qad (v := .tuple #[.agg (X2).toArray, .int .u16 0]) rfl rfl) rfl ?_; (try simp only [Act.put, lyy])
  refine qaa (qbt (v := .agg (X2).toArray) rfl rfl rfl) rfl ?_; (try simp only [Act.put, lyy])
  refine qaa (qbt (v := .int .u16 0) rfl rfl rfl) rfl ?_; (try simp only [Act.put, lyy])
  refine qaa (qa3 (vs := evR ((.int .i64 0)) ((.int .i64 0)) ((.bool false)) (z8 32) ((.int .i64 0)) ((.int .i64 0)) (hdR (z8 32) ((.int .i64 0)) ((.int .i64 0))) ((.slice none 0 0))) rfl (by kernel_rfl)) rfl ?_; (try simp only [Act.put, lyy])
  replace E := Lib.hid (E.out.new (evR ((.int .i64 0)) ((.int .i64 0)) ((.bool false)) (z8 32) ((.int .i64 0)) ((.int .i64 0)) (hdR (z8 32) ((.int .i64 0)) ((.int .i64 0))) ((.slice none 0 0))) 38)
  generalize a14.alloc (.cells (evR ((.int .i64 0)) ((.int .i64 0)) ((.bool false)) (z8 32) ((.int .i64 0)) ((.int .i64 0)) (hdR (z8 32) ((.int .i64 0)) ((.int .i64 0))) ((.slice none 0 0))).toArray 38) = a16 at *
  generalize a14.heap.size = g17 at *
  refine qal (qa0 (vs := X2) rfl (szR lX2 (by kernel_rfl)) rfl rfl (One.all oX2) ((E.out.get (i := 0) rfl).thereM (by have q1 : (X2).length = 72 := lX2; have q2 : (evR ((.int .i64 0)) ((.int .i64 0)) ((.bool false)) (z8 32) ((.int .i64 0)) ((.int .i64 0)) (hdR (z8 32) ((.int .i64 0)) ((.int .i64 0))) ((.slice none 0 0))).length = 72 := (qbk (qac 32) (qa9 (qac 32))); omega))) rfl rfl ?_
  replace E := Lib.hid (E.out.put 0 rfl (m := X2) ((show (X2).length = 72 from lX2).trans (show (evR ((.int .i64 0)) ((.int .i64 0)) ((.bool false)) (z8 32) ((.int .i64 0)) ((.int .i64 0)) (hdR (z8 32) ((.int .i64 0)) ((.int .i64 0))) ((.slice none 0 0))).length = 72 from (qbk (qac 32) (qa9 (qac 32)))).symm))
  generalize a16.setCells g17 0 (X2) = a18 at *
  replace E := Lib.hid (show Ev _ [(g17, X2), (g8, X1)] _ _ _ a18 from E.out)
  refine qaa (qak (v := .int .u16 0) rfl rfl) rfl ?_; (try simp only [Act.put, lyy])
  refine qab ?_
  go_upto_region 5 with fail; refine wp_region_lit ?_
  refine qaa (qad (v := .slice ao nc cc) rfl rfl) rfl ?_; (try simp only [Act.put, lyy])
  refine qag (qaq enters_cr10 rfl rfl rfl) rfl (CC3.out _ E.out.bl) (fun v20 a19 hR => ?_); (try simp only [Act.put, lyy])
  obtain ⟨⟨Y3, rfl, lY3, oY3, fX⟩, hb7⟩ := hR
  replace E := Lib.hid (E.out.below hb7)
  have HY := Lib.hid fX
  clear fX hb7
  refine qag (qaq enters_xReq rfl rfl rfl) rfl (CW3.out _ Y3 HY.out) (fun v22 a21 hR => ?_); (try simp only [Act.put, lyy])
  have hb7 := hR.bl
  have hs7 := hR.sl
  obtain ⟨xa3, xc3, rfl, -, -⟩ := id hs7
  replace E := Lib.hid (E.out.below hb7)
  rw [← N3.out] at hs7 ⊢
  have HSL := Lib.hid hs7
  clear hR HY hb7 hs7
  refine qag (qaq enters_ryRq rfl rfl rfl) rfl (CR3.out _ _ _ HSL.out) (fun v24 a23 hR => ?_); (try simp only [Act.put, lyy])
  obtain ⟨⟨X3, rfl, lX3, oX3, fX⟩, hb7⟩ := hR
  replace E := Lib.hid (E.out.call hb7 fX)
  clear fX hb7 HSL
  refine qaa (qad (v := .tuple #[.agg (X3).toArray, .int .u16 0]) rfl rfl) rfl ?_; (try simp only [Act.put, lyy])
  refine qaa (qbt (v := .agg (X3).toArray) rfl rfl rfl) rfl ?_; (try simp only [Act.put, lyy])
  refine qaa (qbt (v := .int .u16 0) rfl rfl rfl) rfl ?_; (try simp only [Act.put, lyy])
  refine qaa (qa3 (vs := rqR ((.int .u8 0)) ((.int .i64 0)) ((.int .i64 0)) ((.string ⟨#[]⟩)) ((.string ⟨#[]⟩)) ((.string ⟨#[]⟩)) (lsR ((.int .i64 0)) ((.int .i64 0)) (z8 32) ((.slice none 0 0)) (z8 64)) (z8 32) (pkR ((.int .i64 0)) (z8 32)) (z8 64) ((.slice none 0 0)) ((.int .i64 0)) ((.slice none 0 0))) rfl (by kernel_rfl)) rfl ?_; (try simp only [Act.put, lyy])
  replace E := Lib.hid (E.out.new (rqR ((.int .u8 0)) ((.int .i64 0)) ((.int .i64 0)) ((.string ⟨#[]⟩)) ((.string ⟨#[]⟩)) ((.string ⟨#[]⟩)) (lsR ((.int .i64 0)) ((.int .i64 0)) (z8 32) ((.slice none 0 0)) (z8 64)) (z8 32) (pkR ((.int .i64 0)) (z8 32)) (z8 64) ((.slice none 0 0)) ((.int .i64 0)) ((.slice none 0 0))) 46)
  generalize a23.alloc (.cells (rqR ((.int .u8 0)) ((.int .i64 0)) ((.int .i64 0)) ((.string ⟨#[]⟩)) ((.string ⟨#[]⟩)) ((.string ⟨#[]⟩)) (lsR ((.int .i64 0)) ((.int .i64 0)) (z8 32) ((.slice none 0 0)) (z8 64)) (z8 32) (pkR ((.int .i64 0)) (z8 32)) (z8 64) ((.slice none 0 0)) ((.int .i64 0)) ((.slice none 0 0))).toArray 46) = a25 at *
  generalize a23.heap.size = g26 at *
  refine qal (qa0 (vs := X3) rfl (szR lX3 (by kernel_rfl)) rfl rfl (One.all oX3) ((E.out.get (i := 0) rfl).thereM (by have q1 : (X3).length = 237 := lX3; have q2 : (rqR ((.int .u8 0)) ((.int .i64 0)) ((.int .i64 0)) ((.string ⟨#[]⟩)) ((.string ⟨#[]⟩)) ((.string ⟨#[]⟩)) (lsR ((.int .i64 0)) ((.int .i64 0)) (z8 32) ((.slice none 0 0)) (z8 64)) (z8 32) (pkR ((.int .i64 0)) (z8 32)) (z8 64) ((.slice none 0 0)) ((.int .i64 0)) ((.slice none 0 0))).length = 237 := (qa1 (qas (qac 32) (qac 64)) (qac 32) (qar (qac 32)) (qac 64)); omega))) rfl rfl ?_
  replace E := Lib.hid (E.out.put 0 rfl (m := X3) ((show (X3).length = 237 from lX3).trans (show (rqR ((.int .u8 0)) ((.int .i64 0)) ((.int .i64 0)) ((.string ⟨#[]⟩)) ((.string ⟨#[]⟩)) ((.string ⟨#[]⟩)) (lsR ((.int .i64 0)) ((.int .i64 0)) (z8 32) ((.slice none 0 0)) (z8 64)) (z8 32) (pkR ((.int .i64 0)) (z8 32)) (z8 64) ((.slice none 0 0)) ((.int .i64 0)) ((.slice none 0 0))).length = 237 from (qa1 (qas (qac 32) (qac 64)) (qac 32) (qar (qac 32)) (qac 64))).symm))
  generalize a25.setCells g26 0 (X3) = a27 at *
  replace E := Lib.hid (show Ev _ [(g26, X3), (g17, X2), (g8, X1)] _ _ _ a27 from E.out)
  refine qaa (qak (v := .int .u16 0) rfl rfl) rfl ?_; (try simp only [Act.put, lyy])
  refine qab ?_
  go_upto_region 6 with fail; refine wp_region_lit ?_
  refine qaa (qad (v := .slice ao nc cc) rfl rfl) rfl ?_; (try simp only [Act.put, lyy])
  refine qag (qaq enters_cs10 rfl rfl rfl) rfl (CC4.out _ E.out.bl) (fun v29 a28 hR => ?_); (try simp only [Act.put, lyy])
  obtain ⟨⟨Y4, rfl, lY4, oY4, fX⟩, hb7⟩ := hR
  replace E := Lib.hid (E.out.below hb7)
  have HY := Lib.hid fX
  clear fX hb7
  refine qag (qaq enters_xRsp rfl rfl rfl) rfl (CW4.out _ Y4 HY.out) (fun v31 a30 hR => ?_); (try simp only [Act.put, lyy])
  have hb7 := hR.bl
  have hs7 := hR.sl
  obtain ⟨xa4, xc4, rfl, -, -⟩ := id hs7
  replace E := Lib.hid (E.out.below hb7)
  rw [← N4.out] at hs7 ⊢
  have HSL := Lib.hid hs7
  clear hR HY hb7 hs7
  refine qag (qaq enters_ryRp rfl rfl rfl) rfl (CR4.out _ _ _ HSL.out) (fun v33 a32 hR => ?_); (try simp only [Act.put, lyy])
  obtain ⟨⟨X4, rfl, lX4, oX4, fX⟩, hb7⟩ := hR
  replace E := Lib.hid (E.out.call hb7 fX)
  clear fX hb7 HSL
  refine qaa (qad (v := .tuple #[.agg (X4).toArray, .int .u16 0]) rfl rfl) rfl ?_; (try simp only [Act.put, lyy])
  refine qaa (qbt (v := .agg (X4).toArray) rfl rfl rfl) rfl ?_; (try simp only [Act.put, lyy])
  refine qaa (qbt (v := .int .u16 0) rfl rfl rfl) rfl ?_; (try simp only [Act.put, lyy])
  refine qaa (qa3 (vs := rpR ((.int .u16 0)) (lsR ((.int .i64 0)) ((.int .i64 0)) (z8 32) ((.slice none 0 0)) (z8 64)) (buR ((.int .i64 0)) ((.int .i64 0)) (z8 32) (z8 32) (pkR ((.int .i64 0)) (z8 32)) (z8 64) ((.slice none 0 0))) ((.slice none 0 0))) rfl (by kernel_rfl)) rfl ?_; (try simp only [Act.put, lyy])
  replace E := Lib.hid (E.out.new (rpR ((.int .u16 0)) (lsR ((.int .i64 0)) ((.int .i64 0)) (z8 32) ((.slice none 0 0)) (z8 64)) (buR ((.int .i64 0)) ((.int .i64 0)) (z8 32) (z8 32) (pkR ((.int .i64 0)) (z8 32)) (z8 64) ((.slice none 0 0))) ((.slice none 0 0))) 54)
  generalize a32.alloc (.cells (rpR ((.int .u16 0)) (lsR ((.int .i64 0)) ((.int .i64 0)) (z8 32) ((.slice none 0 0)) (z8 64)) (buR ((.int .i64 0)) ((.int .i64 0)) (z8 32) (z8 32) (pkR ((.int .i64 0)) (z8 32)) (z8 64) ((.slice none 0 0))) ((.slice none 0 0))).toArray 54) = a34 at *
  generalize a32.heap.size = g35 at *
  refine qal (qa0 (vs := X4) rfl (szR lX4 (by kernel_rfl)) rfl rfl (One.all oX4) ((E.out.get (i := 0) rfl).thereM (by have q1 : (X4).length = 265 := lX4; have q2 : (rpR ((.int .u16 0)) (lsR ((.int .i64 0)) ((.int .i64 0)) (z8 32) ((.slice none 0 0)) (z8 64)) (buR ((.int .i64 0)) ((.int .i64 0)) (z8 32) (z8 32) (pkR ((.int .i64 0)) (z8 32)) (z8 64) ((.slice none 0 0))) ((.slice none 0 0))).length = 265 := (qbo (qas (qac 32) (qac 64)) (qbg (qac 32) (qac 32) (qar (qac 32)) (qac 64))); omega))) rfl rfl ?_
  replace E := Lib.hid (E.out.put 0 rfl (m := X4) ((show (X4).length = 265 from lX4).trans (show (rpR ((.int .u16 0)) (lsR ((.int .i64 0)) ((.int .i64 0)) (z8 32) ((.slice none 0 0)) (z8 64)) (buR ((.int .i64 0)) ((.int .i64 0)) (z8 32) (z8 32) (pkR ((.int .i64 0)) (z8 32)) (z8 64) ((.slice none 0 0))) ((.slice none 0 0))).length = 265 from (qbo (qas (qac 32) (qac 64)) (qbg (qac 32) (qac 32) (qar (qac 32)) (qac 64)))).symm))
  generalize a34.setCells g35 0 (X4) = a36 at *
  replace E := Lib.hid (show Ev _ [(g35, X4), (g26, X3), (g17, X2), (g8, X1)] _ _ _ a36 from E.out)
  refine qaa (qak (v := .int .u16 0) rfl rfl) rfl ?_; (try simp only [Act.put, lyy])
  refine qab ?_
  go_upto_region 7 with fail; refine wp_region_lit ?_
  refine qaa (qad (v := .slice ao nc cc) rfl rfl) rfl ?_; (try simp only [Act.put, lyy])
  refine qag (qaq enters_ca10 rfl rfl rfl) rfl (CC5.out _ E.out.bl) (fun v38 a37 hR => ?_); (try simp only [Act.put, lyy])
  obtain ⟨⟨Y5, rfl, lY5, oY5, fX⟩, hb7⟩ := hR
  replace E := Lib.hid (E.out.below hb7)
  have HY := Lib.hid fX
  clear fX hb7
  refine qag (qaq enters_xAcc rfl rfl rfl) rfl (CW5.out _ Y5 HY.out) (fun v40 a39 hR => ?_); (try simp only [Act.put, lyy])
  have hb7 := hR.bl
  have hs7 := hR.sl
  obtain ⟨xa5, xc5, rfl, -, -⟩ := id hs7
  replace E := Lib.hid (E.out.below hb7)
  rw [← N5.out] at hs7 ⊢
  have HSL := Lib.hid hs7
  clear hR HY hb7 hs7
  refine qag (qaq enters_ryAc rfl rfl rfl) rfl (CR5.out _ _ _ HSL.out) (fun v42 a41 hR => ?_); (try simp only [Act.put, lyy])
  obtain ⟨⟨X5, rfl, lX5, oX5, fX⟩, hb7⟩ := hR
  replace E := Lib.hid (E.out.call hb7 fX)
  clear fX hb7 HSL
  refine qaa (qad (v := .tuple #[.agg (X5).toArray, .int .u16 0]) rfl rfl) rfl ?_; (try simp only [Act.put, lyy])
  refine qaa (qbt (v := .agg (X5).toArray) rfl rfl rfl) rfl ?_; (try simp only [Act.put, lyy])
  refine qaa (qbt (v := .int .u16 0) rfl rfl rfl) rfl ?_; (try simp only [Act.put, lyy])
  refine qaa (qa3 (vs := acR ((.int .i64 0)) ((.string ⟨#[]⟩)) ((.int .i64 0)) ((.int .i64 0)) (lsR ((.int .i64 0)) ((.int .i64 0)) (z8 32) ((.slice none 0 0)) (z8 64)) ((.slice none 0 0)) ((.slice none 0 0))) rfl (by kernel_rfl)) rfl ?_; (try simp only [Act.put, lyy])
  replace E := Lib.hid (E.out.new (acR ((.int .i64 0)) ((.string ⟨#[]⟩)) ((.int .i64 0)) ((.int .i64 0)) (lsR ((.int .i64 0)) ((.int .i64 0)) (z8 32) ((.slice none 0 0)) (z8 64)) ((.slice none 0 0)) ((.slice none 0 0))) 60)
  generalize a41.alloc (.cells (acR ((.int .i64 0)) ((.string ⟨#[]⟩)) ((.int .i64 0)) ((.int .i64 0)) (lsR ((.int .i64 0)) ((.int .i64 0)) (z8 32) ((.slice none 0 0)) (z8 64)) ((.slice none 0 0)) ((.slice none 0 0))).toArray 60) = a43 at *
  generalize a41.heap.size = g44 at *
  refine qal (qa0 (vs := X5) rfl (szR lX5 (by kernel_rfl)) rfl rfl (One.all oX5) ((E.out.get (i := 0) rfl).thereM (by have q1 : (X5).length = 105 := lX5; have q2 : (acR ((.int .i64 0)) ((.string ⟨#[]⟩)) ((.int .i64 0)) ((.int .i64 0)) (lsR ((.int .i64 0)) ((.int .i64 0)) (z8 32) ((.slice none 0 0)) (z8 64)) ((.slice none 0 0)) ((.slice none 0 0))).length = 105 := (qbq (qas (qac 32) (qac 64))); omega))) rfl rfl ?_
  replace E := Lib.hid (E.out.put 0 rfl (m := X5) ((show (X5).length = 105 from lX5).trans (show (acR ((.int .i64 0)) ((.string ⟨#[]⟩)) ((.int .i64 0)) ((.int .i64 0)) (lsR ((.int .i64 0)) ((.int .i64 0)) (z8 32) ((.slice none 0 0)) (z8 64)) ((.slice none 0 0)) ((.slice none 0 0))).length = 105 from (qbq (qas (qac 32) (qac 64)))).symm))
  generalize a43.setCells g44 0 (X5) = a45 at *
  replace E := Lib.hid (show Ev _ [(g44, X5), (g35, X4), (g26, X3), (g17, X2), (g8, X1)] _ _ _ a45 from E.out)
  refine qaa (qak (v := .int .u16 0) rfl rfl) rfl ?_; (try simp only [Act.put, lyy])
  refine qab ?_
  go_upto_region 8 with fail; refine wp_region_lit ?_
  refine qaa (qad (v := .slice ao nc cc) rfl rfl) rfl ?_; (try simp only [Act.put, lyy])
  refine qag (qaq enters_cu10 rfl rfl rfl) rfl (CC6.out _ E.out.bl) (fun v47 a46 hR => ?_); (try simp only [Act.put, lyy])
  obtain ⟨⟨ya6, yc6, rfl, fX⟩, hb7⟩ := hR
  replace E := Lib.hid (E.out.below hb7)
  have HY := Lib.hid fX
  clear fX hb7
  refine qag (qaq enters_xUss rfl rfl rfl) rfl (CW6.out _ _ _ HY.out) (fun v49 a48 hR => ?_); (try simp only [Act.put, lyy])
  have hb7 := hR.bl
  have hs7 := hR.sl
  obtain ⟨xa6, xc6, rfl, -, -⟩ := id hs7
  replace E := Lib.hid (E.out.below hb7)
  rw [← N6.out] at hs7 ⊢
  have HSL := Lib.hid hs7
  clear hR HY hb7 hs7
  refine qag (qaq enters_ryUs rfl rfl rfl) rfl (CR6.out _ _ _ HSL.out) (fun v51 a50 hR => ?_); (try simp only [Act.put, lyy])
  obtain ⟨⟨sa6, sc6, rfl, fX⟩, hb7⟩ := hR
  replace E := Lib.hid (E.out.call hb7 fX)
  clear fX hb7 HSL
  refine qaa (qad (v := .tuple #[.slice sa6 m6.length sc6, .int .u16 0]) rfl rfl) rfl ?_; (try simp only [Act.put, lyy])
  refine qaa (qbt (v := .slice sa6 m6.length sc6) rfl rfl rfl) rfl ?_; (try simp only [Act.put, lyy])
  refine qaa (qbt (v := .int .u16 0) rfl rfl rfl) rfl ?_; (try simp only [Act.put, lyy])
  refine qaa (qak (v := .slice sa6 m6.length sc6) rfl rfl) rfl ?_; (try simp only [Act.put, lyy])
  refine qaa (qak (v := .int .u16 0) rfl rfl) rfl ?_; (try simp only [Act.put, lyy])
  refine qab ?_
  go_upto_region 9 with fail
  refine wp_region_noPanic ?_; refine qbd (S := fun _ V => Below a50.heap.size a50 V) (by kernel_rfl) ((Below.refl _ _).drew) (fun hS => ?_)
  replace E := Lib.hid (E.out.below hS)
  generalize a50.drew = a52 at *
  refine qbf (S' := fun _ V => Below a52.heap.size a52 V) (fun _ V h => hS.trans (h.mono hS.size)) _ _ _ _ ?_
  replace hS := Below.refl a52.heap.size a52
  refine qah 0 rfl rfl (by kernel_rfl) (by kernel_rfl) (by kernel_rfl) (fun _ _ _ h => h) rfl (fun V hV => qat (vs := X1) rfl Tryz.underlying32 rfl (szR lX1 (by kernel_rfl)) rfl ((E.out.below hV).get (i := 4) rfl).range) hS ?_; (try simp only [Act.put, lyy])
  refine qah 1 rfl rfl (by kernel_rfl) (by kernel_rfl) (by kernel_rfl) (fun _ _ _ h => h) rfl (fun V hV => qad (v := .slice ao nc cc) rfl rfl) hS ?_; (try simp only [Act.put, lyy])
  refine qa2 2 (by kernel_rfl) rfl rfl rfl (qaq qcs rfl rfl rfl) ((CC1.out _ E.out.bl)) (fun v w h => hS.trans ((h.2).mono hS.size)) (fun v53 a54 hR => ?_); (try simp only [Act.put, lyy])
  obtain ⟨⟨Z1, rfl, lZ1, oZ1, fX⟩, hb9⟩ := hR
  replace hS := hS.trans (hb9.mono hS.size)
  replace E := Lib.hid (E.out.below hb9)
  have HZ := Lib.hid fX
  clear fX hb9
  refine qbf (S' := fun _ V => Below a54.heap.size a54 V) (fun _ V h => hS.trans (h.mono hS.size)) _ _ _ _ ?_
  replace hS := Below.refl a54.heap.size a54
  refine qa2 3 (by kernel_rfl) rfl rfl rfl (qaf enters_smls rfl rfl rfl rfl) ((qbc (CS1.out _ X1 Z1 (E.out.froB fun V h => h.2.2.2.2.2.1) HZ.out))) (fun v w h => hS.trans ((h.2).mono hS.size)) (fun v55 a56 hR => ?_); (try simp only [Act.put, lyy])
  obtain ⟨rfl, hb9⟩ := hR
  replace hS := hS.trans (hb9.mono hS.size)
  replace E := Lib.hid (E.out.below hb9)
  clear hb9 HZ
  refine qbf (S' := fun _ V => Below a56.heap.size a56 V) (fun _ V h => hS.trans (h.mono hS.size)) _ _ _ _ ?_
  replace hS := Below.refl a56.heap.size a56
  refine qah 4 rfl rfl (by kernel_rfl) (by kernel_rfl) (by kernel_rfl) (fun _ _ _ h => h) rfl (fun V hV => qad (v := .bool true) rfl rfl) hS ?_; (try simp only [Act.put, lyy])
  refine qah 5 rfl rfl (by kernel_rfl) (by kernel_rfl) (by kernel_rfl) (fun _ _ _ h => h) rfl (fun V hV => qat (vs := X2) rfl Tryz.underlying38 rfl (szR lX2 (by kernel_rfl)) rfl ((E.out.below hV).get (i := 3) rfl).range) hS ?_; (try simp only [Act.put, lyy])
  refine qah 6 rfl rfl (by kernel_rfl) (by kernel_rfl) (by kernel_rfl) (fun _ _ _ h => h) rfl (fun V hV => qad (v := .slice ao nc cc) rfl rfl) hS ?_; (try simp only [Act.put, lyy])
  refine qa2 7 (by kernel_rfl) rfl rfl rfl (qaf enters_cv10 rfl rfl rfl rfl) ((CC2.out _ E.out.bl)) (fun v w h => hS.trans ((h.2).mono hS.size)) (fun v57 a58 hR => ?_); (try simp only [Act.put, lyy])
  obtain ⟨⟨Z2, rfl, lZ2, oZ2, fX⟩, hb9⟩ := hR
  replace hS := hS.trans (hb9.mono hS.size)
  replace E := Lib.hid (E.out.below hb9)
  have HZ := Lib.hid fX
  clear fX hb9
  refine qbf (S' := fun _ V => Below a58.heap.size a58 V) (fun _ V h => hS.trans (h.mono hS.size)) _ _ _ _ ?_
  replace hS := Below.refl a58.heap.size a58
  refine qa2 8 (by kernel_rfl) rfl rfl rfl (qaf enters_smE rfl rfl rfl rfl) ((qbc (CS2.out _ X2 Z2 (E.out.froB fun V h => h.2.2.2.2.1) HZ.out))) (fun v w h => hS.trans ((h.2).mono hS.size)) (fun v59 a60 hR => ?_); (try simp only [Act.put, lyy])
  obtain ⟨rfl, hb9⟩ := hR
  replace hS := hS.trans (hb9.mono hS.size)
  replace E := Lib.hid (E.out.below hb9)
  clear hb9 HZ
  refine qbf (S' := fun _ V => Below a60.heap.size a60 V) (fun _ V h => hS.trans (h.mono hS.size)) _ _ _ _ ?_
  replace hS := Below.refl a60.heap.size a60
  refine qah 9 rfl rfl (by kernel_rfl) (by kernel_rfl) (by kernel_rfl) (fun _ _ _ h => h) rfl (fun V hV => qaw (b := true) (v := .bool true) rfl rfl rfl) hS ?_; (try simp only [Act.put, lyy])
  refine qah 10 rfl rfl (by kernel_rfl) (by kernel_rfl) (by kernel_rfl) (fun _ _ _ h => h) rfl (fun V hV => qad (v := .bool true) rfl rfl) hS ?_; (try simp only [Act.put, lyy])
  refine qah 11 rfl rfl (by kernel_rfl) (by kernel_rfl) (by kernel_rfl) (fun _ _ _ h => h) rfl (fun V hV => qat (vs := X3) rfl Tryz.underlying46 rfl (szR lX3 (by kernel_rfl)) rfl ((E.out.below hV).get (i := 2) rfl).range) hS ?_; (try simp only [Act.put, lyy])
  refine qah 12 rfl rfl (by kernel_rfl) (by kernel_rfl) (by kernel_rfl) (fun _ _ _ h => h) rfl (fun V hV => qad (v := .slice ao nc cc) rfl rfl) hS ?_; (try simp only [Act.put, lyy])
  refine qa2 13 (by kernel_rfl) rfl rfl rfl (qaq enters_cr10 rfl rfl rfl) ((CC3.out _ E.out.bl)) (fun v w h => hS.trans ((h.2).mono hS.size)) (fun v61 a62 hR => ?_); (try simp only [Act.put, lyy])
  obtain ⟨⟨Z3, rfl, lZ3, oZ3, fX⟩, hb9⟩ := hR
  replace hS := hS.trans (hb9.mono hS.size)
  replace E := Lib.hid (E.out.below hb9)
  have HZ := Lib.hid fX
  clear fX hb9
  refine qbf (S' := fun _ V => Below a62.heap.size a62 V) (fun _ V h => hS.trans (h.mono hS.size)) _ _ _ _ ?_
  replace hS := Below.refl a62.heap.size a62
  refine qa2 14 (by kernel_rfl) rfl rfl rfl (qaf enters_smrq rfl rfl rfl rfl) ((qbc (CS3.out _ X3 Z3 (E.out.froB fun V h => h.2.2.2.1) HZ.out))) (fun v w h => hS.trans ((h.2).mono hS.size)) (fun v63 a64 hR => ?_); (try simp only [Act.put, lyy])
  obtain ⟨rfl, hb9⟩ := hR
  replace hS := hS.trans (hb9.mono hS.size)
  replace E := Lib.hid (E.out.below hb9)
  clear hb9 HZ
  refine qbf (S' := fun _ V => Below a64.heap.size a64 V) (fun _ V h => hS.trans (h.mono hS.size)) _ _ _ _ ?_
  replace hS := Below.refl a64.heap.size a64
  refine qah 15 rfl rfl (by kernel_rfl) (by kernel_rfl) (by kernel_rfl) (fun _ _ _ h => h) rfl (fun V hV => qaw (b := true) (v := .bool true) rfl rfl rfl) hS ?_; (try simp only [Act.put, lyy])
  refine qah 16 rfl rfl (by kernel_rfl) (by kernel_rfl) (by kernel_rfl) (fun _ _ _ h => h) rfl (fun V hV => qak (v := .bool true) rfl rfl) hS ?_; (try simp only [Act.put, lyy])
  refine qba (by kernel_rfl) ?_ _; refine NoPanic.normal ?_
  go_upto_region 10 with fail
  refine wp_region_noPanic ?_; refine qbd (S := fun _ V => Below a64.heap.size a64 V) (by kernel_rfl) ((Below.refl _ _).drew) (fun hS => ?_)
  replace E := Lib.hid (E.out.below hS)
  generalize a64.drew = a65 at *
  refine qbf (S' := fun _ V => Below a65.heap.size a65 V) (fun _ V h => hS.trans (h.mono hS.size)) _ _ _ _ ?_
  replace hS := Below.refl a65.heap.size a65
  refine qah 0 rfl rfl (by kernel_rfl) (by kernel_rfl) (by kernel_rfl) (fun _ _ _ h => h) rfl (fun V hV => qat (vs := X4) rfl Tryz.underlying54 rfl (szR lX4 (by kernel_rfl)) rfl ((E.out.below hV).get (i := 1) rfl).range) hS ?_; (try simp only [Act.put, lyy])
  refine qah 1 rfl rfl (by kernel_rfl) (by kernel_rfl) (by kernel_rfl) (fun _ _ _ h => h) rfl (fun V hV => qad (v := .slice ao nc cc) rfl rfl) hS ?_; (try simp only [Act.put, lyy])
  refine qa2 2 (by kernel_rfl) rfl rfl rfl (qaq enters_cs10 rfl rfl rfl) ((CC4.out _ E.out.bl)) (fun v w h => hS.trans ((h.2).mono hS.size)) (fun v66 a67 hR => ?_); (try simp only [Act.put, lyy])
  obtain ⟨⟨Z4, rfl, lZ4, oZ4, fX⟩, hb9⟩ := hR
  replace hS := hS.trans (hb9.mono hS.size)
  replace E := Lib.hid (E.out.below hb9)
  have HZ := Lib.hid fX
  clear fX hb9
  refine qbf (S' := fun _ V => Below a67.heap.size a67 V) (fun _ V h => hS.trans (h.mono hS.size)) _ _ _ _ ?_
  replace hS := Below.refl a67.heap.size a67
  refine qa2 3 (by kernel_rfl) rfl rfl rfl (qaf enters_smrp rfl rfl rfl rfl) ((qbc (CS4.out _ X4 Z4 (E.out.froB fun V h => h.2.2.1) HZ.out))) (fun v w h => hS.trans ((h.2).mono hS.size)) (fun v68 a69 hR => ?_); (try simp only [Act.put, lyy])
  obtain ⟨rfl, hb9⟩ := hR
  replace hS := hS.trans (hb9.mono hS.size)
  replace E := Lib.hid (E.out.below hb9)
  clear hb9 HZ
  refine qbf (S' := fun _ V => Below a69.heap.size a69 V) (fun _ V h => hS.trans (h.mono hS.size)) _ _ _ _ ?_
  replace hS := Below.refl a69.heap.size a69
  refine qah 4 rfl rfl (by kernel_rfl) (by kernel_rfl) (by kernel_rfl) (fun _ _ _ h => h) rfl (fun V hV => qad (v := .bool true) rfl rfl) hS ?_; (try simp only [Act.put, lyy])
  refine qah 5 rfl rfl (by kernel_rfl) (by kernel_rfl) (by kernel_rfl) (fun _ _ _ h => h) rfl (fun V hV => qat (vs := X5) rfl Tryz.underlying60 rfl (szR lX5 (by kernel_rfl)) rfl ((E.out.below hV).get (i := 0) rfl).range) hS ?_; (try simp only [Act.put, lyy])
  refine qah 6 rfl rfl (by kernel_rfl) (by kernel_rfl) (by kernel_rfl) (fun _ _ _ h => h) rfl (fun V hV => qad (v := .slice ao nc cc) rfl rfl) hS ?_; (try simp only [Act.put, lyy])
  refine qa2 7 (by kernel_rfl) rfl rfl rfl (qaq enters_ca10 rfl rfl rfl) ((CC5.out _ E.out.bl)) (fun v w h => hS.trans ((h.2).mono hS.size)) (fun v70 a71 hR => ?_); (try simp only [Act.put, lyy])
  obtain ⟨⟨Z5, rfl, lZ5, oZ5, fX⟩, hb9⟩ := hR
  replace hS := hS.trans (hb9.mono hS.size)
  replace E := Lib.hid (E.out.below hb9)
  have HZ := Lib.hid fX
  clear fX hb9
  refine qbf (S' := fun _ V => Below a71.heap.size a71 V) (fun _ V h => hS.trans (h.mono hS.size)) _ _ _ _ ?_
  replace hS := Below.refl a71.heap.size a71
  refine qa2 8 (by kernel_rfl) rfl rfl rfl (qaf enters_smac rfl rfl rfl rfl) ((qbc (CS5.out _ X5 Z5 (E.out.froB fun V h => h.2.1) HZ.out))) (fun v w h => hS.trans ((h.2).mono hS.size)) (fun v72 a73 hR => ?_); (try simp only [Act.put, lyy])
  obtain ⟨rfl, hb9⟩ := hR
  replace hS := hS.trans (hb9.mono hS.size)
  replace E := Lib.hid (E.out.below hb9)
  clear hb9 HZ
  refine qbf (S' := fun _ V => Below a73.heap.size a73 V) (fun _ V h => hS.trans (h.mono hS.size)) _ _ _ _ ?_
  replace hS := Below.refl a73.heap.size a73
  refine qah 9 rfl rfl (by kernel_rfl) (by kernel_rfl) (by kernel_rfl) (fun _ _ _ h => h) rfl (fun V hV => qaw (b := true) (v := .bool true) rfl rfl rfl) hS ?_; (try simp only [Act.put, lyy])
  refine qah 10 rfl rfl (by kernel_rfl) (by kernel_rfl) (by kernel_rfl) (fun _ _ _ h => h) rfl (fun V hV => qad (v := .bool true) rfl rfl) hS ?_; (try simp only [Act.put, lyy])
  refine qah 11 rfl rfl (by kernel_rfl) (by kernel_rfl) (by kernel_rfl) (fun _ _ _ h => h) rfl (fun V hV => qad (v := .slice sa6 m6.length sc6) rfl rfl) hS ?_; (try simp only [Act.put, lyy])
  refine qah 12 rfl rfl (by kernel_rfl) (by kernel_rfl) (by kernel_rfl) (fun _ _ _ h => h) rfl (fun V hV => qad (v := .slice ao nc cc) rfl rfl) hS ?_; (try simp only [Act.put, lyy])
  refine qa2 13 (by kernel_rfl) rfl rfl rfl (qaq enters_cu10 rfl rfl rfl) ((CC6.out _ E.out.bl)) (fun v w h => hS.trans ((h.2).mono hS.size)) (fun v74 a75 hR => ?_); (try simp only [Act.put, lyy])
  obtain ⟨⟨za6, zc6, rfl, fX⟩, hb9⟩ := hR
  replace hS := hS.trans (hb9.mono hS.size)
  replace E := Lib.hid (E.out.below hb9)
  have HZ := Lib.hid fX
  clear fX hb9
  refine qbf (S' := fun _ V => Below a75.heap.size a75 V) (fun _ V h => hS.trans (h.mono hS.size)) _ _ _ _ ?_
  replace hS := Below.refl a75.heap.size a75
  refine qa2 14 (by kernel_rfl) rfl rfl rfl (qaf enters_smus rfl rfl rfl rfl) ((qbc (CS6.out _ _ _ _ _ (E.out.froB fun V h => h.1) HZ.out))) (fun v w h => hS.trans ((h.2).mono hS.size)) (fun v76 a77 hR => ?_); (try simp only [Act.put, lyy])
  obtain ⟨rfl, hb9⟩ := hR
  replace hS := hS.trans (hb9.mono hS.size)
  replace E := Lib.hid (E.out.below hb9)
  clear hb9 HZ
  refine qbf (S' := fun _ V => Below a77.heap.size a77 V) (fun _ V h => hS.trans (h.mono hS.size)) _ _ _ _ ?_
  replace hS := Below.refl a77.heap.size a77
  refine qah 15 rfl rfl (by kernel_rfl) (by kernel_rfl) (by kernel_rfl) (fun _ _ _ h => h) rfl (fun V hV => qaw (b := true) (v := .bool true) rfl rfl rfl) hS ?_; (try simp only [Act.put, lyy])
  refine qah 16 rfl rfl (by kernel_rfl) (by kernel_rfl) (by kernel_rfl) (fun _ _ _ h => h) rfl (fun V hV => qak (v := .bool true) rfl rfl) hS ?_; (try simp only [Act.put, lyy])
  refine qba (by kernel_rfl) ?_ _; refine NoPanic.normal ?_
  go_upto_region 11 with fail; refine wp_region_lit ?_
  refine qav (run_call0 enters_kn10 rfl rfl) rfl (known10_any _) (fun a78 hb => ?_); (try simp only [Act.put, lyy])
  replace E := Lib.hid (E.out.below hb)
  clear hb
  refine qaa (qad (v := .bool true) rfl rfl) rfl ?_; (try simp only [Act.put, lyy])
  refine qae (qad (v := .bool true) rfl rfl) rfl ?_; (try simp only [Act.put, lyy])
  refine qaa (qaw (b := true) (v := .bool true) rfl rfl rfl) rfl ?_; (try simp only [Act.put, lyy])
  refine qaa (qad (v := .bool true) rfl rfl) rfl ?_; (try simp only [Act.put, lyy])
  refine qae (qad (v := .bool true) rfl rfl) rfl ?_; (try simp only [Act.put, lyy])
  refine qaa (qaw (b := true) (v := .bool true) rfl rfl rfl) rfl ?_; (try simp only [Act.put, lyy])
  refine qaa (qad (v := .bool true) rfl rfl) rfl ?_; (try simp only [Act.put, lyy])
  refine qae (qad (v := .int .u16 0) rfl rfl) rfl ?_; (try simp only [Act.put, lyy])
  refine qae (qbp (c := true) rfl rfl rfl rfl) rfl ?_; (try simp only [Act.put, lyy])
  refine qaa (qaw (b := true) (v := .bool true) rfl rfl rfl) rfl ?_; (try simp only [Act.put, lyy])
  refine qaa (qad (v := .bool true) rfl rfl) rfl ?_; (try simp only [Act.put, lyy])
  refine qae (qad (v := .int .u16 0) rfl rfl) rfl ?_; (try simp only [Act.put, lyy])
  refine qae (qbp (c := true) rfl rfl rfl rfl) rfl ?_; (try simp only [Act.put, lyy])
  refine qaa (qaw (b := true) (v := .bool true) rfl rfl rfl) rfl ?_; (try simp only [Act.put, lyy])
  refine qaa (qad (v := .bool true) rfl rfl) rfl ?_; (try simp only [Act.put, lyy])
  refine qae (qad (v := .int .u16 0) rfl rfl) rfl ?_; (try simp only [Act.put, lyy])
  refine qae (qbp (c := true) rfl rfl rfl rfl) rfl ?_; (try simp only [Act.put, lyy])
  refine qaa (qaw (b := true) (v := .bool true) rfl rfl rfl) rfl ?_; (try simp only [Act.put, lyy])
  refine qaa (qad (v := .bool true) rfl rfl) rfl ?_; (try simp only [Act.put, lyy])
  refine qae (qad (v := .int .u16 0) rfl rfl) rfl ?_; (try simp only [Act.put, lyy])
  refine qae (qbp (c := true) rfl rfl rfl rfl) rfl ?_; (try simp only [Act.put, lyy])
  refine qaa (qaw (b := true) (v := .bool true) rfl rfl rfl) rfl ?_; (try simp only [Act.put, lyy])
  refine qaa (qad (v := .bool true) rfl rfl) rfl ?_; (try simp only [Act.put, lyy])
  refine qae (qad (v := .int .u16 0) rfl rfl) rfl ?_; (try simp only [Act.put, lyy])
  refine qae (qbp (c := true) rfl rfl rfl rfl) rfl ?_; (try simp only [Act.put, lyy])
  refine qaa (qaw (b := true) (v := .bool true) rfl rfl rfl) rfl ?_; (try simp only [Act.put, lyy])
  refine qaa (qad (v := .bool true) rfl rfl) rfl ?_; (try simp only [Act.put, lyy])
  refine qae (qad (v := .int .u16 0) rfl rfl) rfl ?_; (try simp only [Act.put, lyy])
  refine qae (qbp (c := true) rfl rfl rfl rfl) rfl ?_; (try simp only [Act.put, lyy])
  refine qaa (qaw (b := true) (v := .bool true) rfl rfl rfl) rfl ?_; (try simp only [Act.put, lyy])
  refine qaa (qak (v := .bool true) rfl rfl) rfl ?_; (try simp only [Act.put, lyy])
  refine qab ?_
  go_wp2_with fail
  go_ret
  exact ⟨rfl, E.out.bl⟩
end Go.Proofs.YtcgbgmbnagmohaaGreat
