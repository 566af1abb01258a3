import Derived.Test.YtcgbgmbnagmohaaDoorLy
import Derived.Test.YtcgbgmbnagmohaaDoorLi0
import Derived.Deep.CutBlock
import Derived.Test.YtcgbgmbnagmohaaDoorSgW3
import Derived.Test.YtcgbgmbnagmohaaDoorLi6
namespace Go.Proofs.YtcgbgmbnagmohaaDoor
open Go.RowKit
set_option maxRecDepth 20000
attribute [local irreducible] wpList
theorem enters_eqs : Enters 28 := qan Tryd.func28 (by kernel_rfl) rfl
set_option maxHeartbeats 8000000 in
theorem eqs_any (a : Option Addr) (c : Nat) (l : List MPk) (a2 : Option Addr) (c2 : Nat) (l2 : List MPk) (w : World) (hs : Fro 0 (SlR 33 pkAt l a c) w) (hs2 : Fro 0 (SlR 33 pkAt l2 a2 c2) w) (hk : ∀ p ∈ l, p.key.length = 32) (hk2 : ∀ p ∈ l2, p.key.length = 32) (hmany : l.length ≤ 60000) : Calls Tryd.prog 28 #[.slice a l.length c, .slice a2 l2.length c2] w fun e w' => e = .returned (.bool (eqPs l l2)) ∧ Below w.heap.size w w' := by
  have E := Lib.hid (Ev.start (w := w) (F := (fun V => SlR 33 pkAt l a c V ∧ SlR 33 pkAt l2 a2 c2 V)) fun V hV => ⟨hs V hV, hs2 V hV⟩)
  have HK := Lib.hid hk
  have HK2 := Lib.hid hk2
  have HL := Lib.hid (eqPs_len (l := l) (m := l2))
  have HA := Lib.hid (eqPs_all (l := l) (m := l2))
  have HN : Hid (∀ i : Nat, l[i]? ≠ l2[i]? → eqPs l l2 = false) := Lib.hid fun i h => eqPs_not h
  clear hs hs2 hk hk2
  generalize eqPs l l2 = r at *
  obtain ⟨m, hm⟩ : ∃ m, m = l.length := ⟨_, rfl⟩
  obtain ⟨m2, hm2⟩ : ∃ m, m = l2.length := ⟨_, rfl⟩
  rw [← hm, ← hm2]
  rw [← hm] at hmany
  have HM := Lib.hid hm
  have HM2 := Lib.hid hm2
  by_cases hmm : m = m2
  · subst hmm
    go_enter Tryd.func28, Tryd.ntmps28
    go_upto_region 0 with fail; refine wp_region_lit ?_
    refine qaa (qaf (v := .bool false) rfl rfl) rfl ?_; (try simp only [Act.put, lyy])
    refine qab ?_
    go_upto_region 1 with fail; refine wp_region_lit ?_
    refine qaa (qae (v := .slice a m c) rfl rfl) rfl ?_; (try simp only [Act.put, lyy])
    refine qaa (qbg rfl Tryd.underlying25 rfl) rfl ?_; (try simp only [Act.put, lyy])
    refine qaa (qae (v := .slice a2 m c2) rfl rfl) rfl ?_; (try simp only [Act.put, lyy])
    refine qaa (qbg rfl Tryd.underlying25 rfl) rfl ?_; (try simp only [Act.put, lyy])
    refine qaa (run_neqb (c := false) rfl rfl rfl (by simp)) rfl ?_; (try simp only [Act.put, lyy])
    refine qab ?_
    go_upto_region 3 with fail; refine wp_region_lit ?_
    refine qaa (qae (v := .slice a m c) rfl rfl) rfl ?_; (try simp only [Act.put, lyy])
    refine qaa (qbg rfl Tryd.underlying25 rfl) rfl ?_; (try simp only [Act.put, lyy])
    refine qaa (qae (v := .int .i64 0) rfl rfl) rfl ?_; (try simp only [Act.put, lyy])
    refine qab ?_
    go_wp2_with fail
    go_loopw [5, 13] (fun s5 s13 u => ∃ j : Nat, s13 = .int .i64 (j : Int) ∧ j ≤ m ∧ Hid (∀ i : Nat, i < j → l[i]? = l2[i]?) ∧ Ev w [] [] (fun V => SlR 33 pkAt l a c V ∧ SlR 33 pkAt l2 a2 c2 V) (fun _ => True) u) (fun _ s13 _ => ((m : Int) - intOf s13).toNat)
    case atStart => exact ⟨0, rfl, Nat.zero_le _, Lib.hid fun i hi => absurd hi (Nat.not_lt_zero _), E.out⟩
    case round =>
      obtain ⟨j, rfl, hj, HJ, hE⟩ := hrel
      replace E := Lib.hid hE
      clear hE
      by_cases hjm : j = m
      · go_upto_region 4 with fail; refine wp_region_lit ?_
        refine qaa (qbo (c := false) rfl rfl rfl (decide_eq_false (by omega))) rfl ?_; (try simp only [Act.put, lyy])
        refine qab ?_
        go_upto_region 9 with fail; refine wp_region_lit ?_
        refine qaa (qaf (v := .bool true) rfl rfl) rfl ?_; (try simp only [Act.put, lyy])
        refine qab ?_
        go_wp2_with fail
        go_ret
        exact ⟨by rw [HA.out (by have := HM.out; have := HM2.out; omega) fun i hi => HJ.out i (by have := HM.out; omega)]; rfl, E.out.bl⟩
      · have hjl : j < l.length := by have := HM.out; omega
        have hjl2 : j < l2.length := by have := HM2.out; omega
        obtain ⟨g, fo, rfl, hg, -⟩ := pk_at E.out.f.1 hjl
        obtain ⟨g2, fo2, rfl, hg2, -⟩ := pk_at E.out.f.2 hjl2
        have HP : Hid (∀ V, SlR 33 pkAt l (some ⟨g, fo, none⟩) c V → V.rangeAt g (fo + j * 33) (pkC l[j])) := Lib.hid fun V h => pk_at2 h hjl
        have HP2 : Hid (∀ V, SlR 33 pkAt l2 (some ⟨g2, fo2, none⟩) c2 V → V.rangeAt g2 (fo2 + j * 33) (pkC l2[j])) := Lib.hid fun V h => pk_at2 h hjl2
        have hkl := HK.out _ (List.getElem_mem hjl)
        have hkl2 := HK2.out _ (List.getElem_mem hjl2)
        have HE1 := Lib.hid (List.getElem?_eq_getElem hjl)
        have HE2 := Lib.hid (List.getElem?_eq_getElem hjl2)
        generalize l[j] = q at *
        generalize l2[j] = q2 at *
        go_upto_region 4 with fail; refine wp_region_lit ?_
        refine qaa (qbo (c := true) rfl rfl rfl (decide_eq_true (by omega))) rfl ?_; (try simp only [Act.put, lyy])
        refine qab ?_
        go_upto_region 5 with fail; refine wp_region_lit ?_
        refine qaa (qae (v := .int .i64 (j : Int)) rfl rfl) rfl ?_; (try simp only [Act.put, lyy])
        refine qaa (qaf (v := .int .i64 (j : Int)) rfl rfl) rfl ?_; (try simp only [Act.put, lyy])
        refine qab ?_
        by_cases hq : eqPk q q2 = true
        · go_upto_region 6 with fail
          refine wp_region_noPanic ?_; refine qa0 (S := fun _ V => Below wr.heap.size wr V) (by kernel_rfl) ((Below.refl _ _).drew) (fun hS => ?_)
          replace E := Lib.hid (E.out.below hS)
          generalize wr.drew = a1 at *
          refine qbf (S' := fun _ V => Below a1.heap.size a1 V) (fun _ V h => hS.trans (h.mono hS.size)) _ _ _ _ ?_
          replace hS := Below.refl a1.heap.size a1
          refine qad 0 rfl rfl (by kernel_rfl) (by kernel_rfl) (by kernel_rfl) (fun _ _ _ h => h) rfl (fun V hV => qae (v := .slice (some ⟨g, fo, none⟩) m c) rfl rfl) hS ?_; (try simp only [Act.put, lyy])
          refine qad 1 rfl rfl (by kernel_rfl) (by kernel_rfl) (by kernel_rfl) (fun _ _ _ h => h) rfl (fun V hV => qae (v := .int .i64 (j : Int)) rfl rfl) hS ?_; (try simp only [Act.put, lyy])
          refine qad 2 rfl rfl (by kernel_rfl) (by kernel_rfl) (by kernel_rfl) (fun _ _ _ h => h) rfl (fun V hV => qdg (z := 33) rfl Tryd.underlying25 (by kernel_rfl) rfl rfl (by omega)) hS ?_; (try simp only [Act.put, lyy])
          refine qad 3 rfl rfl (by kernel_rfl) (by kernel_rfl) (by kernel_rfl) (fun _ _ _ h => h) rfl (fun V hV => qai (vs := pkC q) rfl Tryd.underlying34 rfl (szR (qbq hkl) (by kernel_rfl)) rfl (HP.out _ (E.out.below hV).f.1)) hS ?_; (try simp only [Act.put, lyy])
          refine qad 4 rfl rfl (by kernel_rfl) (by kernel_rfl) (by kernel_rfl) (fun _ _ _ h => h) rfl (fun V hV => qae (v := .slice (some ⟨g2, fo2, none⟩) m c2) rfl rfl) hS ?_; (try simp only [Act.put, lyy])
          refine qad 5 rfl rfl (by kernel_rfl) (by kernel_rfl) (by kernel_rfl) (fun _ _ _ h => h) rfl (fun V hV => qae (v := .int .i64 (j : Int)) rfl rfl) hS ?_; (try simp only [Act.put, lyy])
          refine qad 6 rfl rfl (by kernel_rfl) (by kernel_rfl) (by kernel_rfl) (fun _ _ _ h => h) rfl (fun V hV => qdg (z := 33) rfl Tryd.underlying25 (by kernel_rfl) rfl rfl (by omega)) hS ?_; (try simp only [Act.put, lyy])
          refine qad 7 rfl rfl (by kernel_rfl) (by kernel_rfl) (by kernel_rfl) (fun _ _ _ h => h) rfl (fun V hV => qai (vs := pkC q2) rfl Tryd.underlying34 rfl (szR (qbq hkl2) (by kernel_rfl)) rfl (HP2.out _ (E.out.below hV).f.2)) hS ?_; (try simp only [Act.put, lyy])
          refine qad 8 rfl rfl (by kernel_rfl) (by kernel_rfl) (by kernel_rfl) (fun _ _ _ h => h) rfl (fun V hV => run_neEnT hkl hkl2 rfl rfl rfl hq) hS ?_; (try simp only [Act.put, lyy])
          refine qa2 (by kernel_rfl) ?_ _; refine NoPanic.normal ?_
          go_upto_region 8 with fail; refine wp_region_lit ?_
          refine qaa (qb9 (a := j) (b := 1) rfl rfl rfl (by omega)) rfl ?_; (try simp only [Act.put, lyy])
          refine qaa (qae (v := .int .i64 ((j + 1 : Nat) : Int)) rfl rfl) rfl ?_; (try simp only [Act.put, lyy])
          refine qab ?_
          have NX : Hid (∀ i : Nat, i < j + 1 → l[i]? = l2[i]?) := Lib.hid fun i hi => by
            rcases Nat.lt_or_ge i j with h9 | h9
            · exact HJ.out i h9
            · obtain rfl : i = j := by omega
              rw [HE1.out, HE2.out, eqPk_iff.1 hq]
          go_wp2_with fail
          exact ⟨⟨j + 1, rfl, by omega, NX, E.out⟩, by simp [intOf]; omega⟩
        · have hq2 : eqPk q q2 = false := by simpa using hq
          go_upto_region 6 with fail
          refine wp_region_noPanic ?_; refine qa0 (S := fun _ V => Below wr.heap.size wr V) (by kernel_rfl) ((Below.refl _ _).drew) (fun hS => ?_)
          replace E := Lib.hid (E.out.below hS)
          generalize wr.drew = a1 at *
          refine qbf (S' := fun _ V => Below a1.heap.size a1 V) (fun _ V h => hS.trans (h.mono hS.size)) _ _ _ _ ?_
          replace hS := Below.refl a1.heap.size a1
          refine qad 0 rfl rfl (by kernel_rfl) (by kernel_rfl) (by kernel_rfl) (fun _ _ _ h => h) rfl (fun V hV => qae (v := .slice (some ⟨g, fo, none⟩) m c) rfl rfl) hS ?_; (try simp only [Act.put, lyy])
          refine qad 1 rfl rfl (by kernel_rfl) (by kernel_rfl) (by kernel_rfl) (fun _ _ _ h => h) rfl (fun V hV => qae (v := .int .i64 (j : Int)) rfl rfl) hS ?_; (try simp only [Act.put, lyy])
          refine qad 2 rfl rfl (by kernel_rfl) (by kernel_rfl) (by kernel_rfl) (fun _ _ _ h => h) rfl (fun V hV => qdg (z := 33) rfl Tryd.underlying25 (by kernel_rfl) rfl rfl (by omega)) hS ?_; (try simp only [Act.put, lyy])
          refine qad 3 rfl rfl (by kernel_rfl) (by kernel_rfl) (by kernel_rfl) (fun _ _ _ h => h) rfl (fun V hV => qai (vs := pkC q) rfl Tryd.underlying34 rfl (szR (qbq hkl) (by kernel_rfl)) rfl (HP.out _ (E.out.below hV).f.1)) hS ?_; (try simp only [Act.put, lyy])
          refine qad 4 rfl rfl (by kernel_rfl) (by kernel_rfl) (by kernel_rfl) (fun _ _ _ h => h) rfl (fun V hV => qae (v := .slice (some ⟨g2, fo2, none⟩) m c2) rfl rfl) hS ?_; (try simp only [Act.put, lyy])
          refine qad 5 rfl rfl (by kernel_rfl) (by kernel_rfl) (by kernel_rfl) (fun _ _ _ h => h) rfl (fun V hV => qae (v := .int .i64 (j : Int)) rfl rfl) hS ?_; (try simp only [Act.put, lyy])
          refine qad 6 rfl rfl (by kernel_rfl) (by kernel_rfl) (by kernel_rfl) (fun _ _ _ h => h) rfl (fun V hV => qdg (z := 33) rfl Tryd.underlying25 (by kernel_rfl) rfl rfl (by omega)) hS ?_; (try simp only [Act.put, lyy])
          refine qad 7 rfl rfl (by kernel_rfl) (by kernel_rfl) (by kernel_rfl) (fun _ _ _ h => h) rfl (fun V hV => qai (vs := pkC q2) rfl Tryd.underlying34 rfl (szR (qbq hkl2) (by kernel_rfl)) rfl (HP2.out _ (E.out.below hV).f.2)) hS ?_; (try simp only [Act.put, lyy])
          refine qad 8 rfl rfl (by kernel_rfl) (by kernel_rfl) (by kernel_rfl) (fun _ _ _ h => h) rfl (fun V hV => run_neEnF hkl hkl2 rfl rfl rfl hq2) hS ?_; (try simp only [Act.put, lyy])
          refine qa2 (by kernel_rfl) ?_ _; refine NoPanic.normal ?_
          go_upto_region 7 with fail; refine wp_region_lit ?_
          refine qaa (qaf (v := .bool false) rfl rfl) rfl ?_; (try simp only [Act.put, lyy])
          refine qab ?_
          go_wp2_with fail
          go_ret
          exact ⟨by rw [HN.out j (by rw [HE1.out, HE2.out]; intro e; exact hq (eqPk_iff.2 (Option.some.inj e)))]; rfl, E.out.bl⟩
  · go_enter Tryd.func28, Tryd.ntmps28
    go_upto_region 0 with fail; refine wp_region_lit ?_
    refine qaa (qaf (v := .bool false) rfl rfl) rfl ?_; (try simp only [Act.put, lyy])
    refine qab ?_
    go_upto_region 1 with fail; refine wp_region_lit ?_
    refine qaa (qae (v := .slice a m c) rfl rfl) rfl ?_; (try simp only [Act.put, lyy])
    refine qaa (qbg rfl Tryd.underlying25 rfl) rfl ?_; (try simp only [Act.put, lyy])
    refine qaa (qae (v := .slice a2 m2 c2) rfl rfl) rfl ?_; (try simp only [Act.put, lyy])
    refine qaa (qbg rfl Tryd.underlying25 rfl) rfl ?_; (try simp only [Act.put, lyy])
    refine qaa (run_neqb (c := true) rfl rfl rfl (by simp; omega)) rfl ?_; (try simp only [Act.put, lyy])
    refine qab ?_
    go_upto_region 2 with fail; refine wp_region_lit ?_
    refine qaa (qaf (v := .bool false) rfl rfl) rfl ?_; (try simp only [Act.put, lyy])
    refine qab ?_
    go_wp2_with fail
    go_ret
    exact ⟨by rw [HL.out (by have := HM.out; have := HM2.out; omega)]; rfl, E.out.bl⟩
theorem enters_part : Enters 29 := qan Tryd.func29 (by kernel_rfl) rfl
set_option maxHeartbeats 8000000 in
theorem part_any (a : Option Addr) (c : Nat) (l : List MPk) (a2 : Option Addr) (c2 : Nat) (l2 : List MPk) (w : World) (hs : Fro 0 (SlR 33 pkAt l a c) w) (hs2 : Fro 0 (SlR 33 pkAt l2 a2 c2) w) (hk : ∀ p ∈ l, p.key.length = 32) (hk2 : ∀ p ∈ l2, p.key.length = 32) (hmany : l.length ≤ 60000) : Calls Tryd.prog 29 #[.slice a l.length c, .slice a2 l2.length c2] w fun e w' => e = .returned (.int .i64 ((pfx l l2 : Nat) : Int)) ∧ Below w.heap.size w w' := by
  have E := Lib.hid (Ev.start (w := w) (F := (fun V => SlR 33 pkAt l a c V ∧ SlR 33 pkAt l2 a2 c2 V)) fun V hV => ⟨hs V hV, hs2 V hV⟩)
  have HK := Lib.hid hk
  have HK2 := Lib.hid hk2
  have HX : Hid (∀ j : Nat, (∀ i : Nat, i < j → l[i]? = l2[i]?) → j ≤ l.length → j ≤ l2.length → (j = l.length ∨ j = l2.length ∨ l[j]? ≠ l2[j]?) → pfx l l2 = j) := Lib.hid fun j h1 h2 h3 h4 => pfx_at h1 h2 h3 h4
  clear hs hs2 hk hk2
  generalize pfx l l2 = r at *
  obtain ⟨m, hm⟩ : ∃ m, m = l.length := ⟨_, rfl⟩
  obtain ⟨m2, hm2⟩ : ∃ m, m = l2.length := ⟨_, rfl⟩
  rw [← hm, ← hm2]
  rw [← hm] at hmany
  have HM := Lib.hid hm
  have HM2 := Lib.hid hm2
  go_enter Tryd.func29, Tryd.ntmps29
  go_upto_region 0 with fail; refine wp_region_lit ?_
  refine qaa (qaf (v := .int .i64 0) rfl rfl) rfl ?_; (try simp only [Act.put, lyy])
  refine qab ?_
  go_upto_region 1 with fail; refine wp_region_lit ?_
  refine qaa (qaf (v := .int .i64 0) rfl rfl) rfl ?_; (try simp only [Act.put, lyy])
  refine qab ?_
  go_wp2_with fail
  go_loopw [5] (fun s5 u => ∃ j : Nat, s5 = .int .i64 (j : Int) ∧ j ≤ m ∧ j ≤ m2 ∧ Hid (∀ i : Nat, i < j → l[i]? = l2[i]?) ∧ Ev w [] [] (fun V => SlR 33 pkAt l a c V ∧ SlR 33 pkAt l2 a2 c2 V) (fun _ => True) u) (fun s5 _ => ((m : Int) - intOf s5).toNat)
  case atStart => exact ⟨0, rfl, Nat.zero_le _, Nat.zero_le _, Lib.hid fun i hi => absurd hi (Nat.not_lt_zero _), E.out⟩
  case round =>
    obtain ⟨j, rfl, hj, hj2, HJ, hE⟩ := hrel
    replace E := Lib.hid hE
    clear hE
    by_cases hjm : j = m
    · go_upto_region 2 with fail
      refine wp_region_noPanic ?_; refine qa0 (S := fun _ V => Below wr.heap.size wr V) (by kernel_rfl) ((Below.refl _ _).drew) (fun hS => ?_)
      replace E := Lib.hid (E.out.below hS)
      generalize wr.drew = a1 at *
      refine qbf (S' := fun _ V => Below a1.heap.size a1 V) (fun _ V h => hS.trans (h.mono hS.size)) _ _ _ _ ?_
      replace hS := Below.refl a1.heap.size a1
      refine qad 0 rfl rfl (by kernel_rfl) (by kernel_rfl) (by kernel_rfl) (fun _ _ _ h => h) rfl (fun V hV => qae (v := .int .i64 (j : Int)) rfl rfl) hS ?_; (try simp only [Act.put, lyy])
      refine qad 1 rfl rfl (by kernel_rfl) (by kernel_rfl) (by kernel_rfl) (fun _ _ _ h => h) rfl (fun V hV => qae (v := .slice a m c) rfl rfl) hS ?_; (try simp only [Act.put, lyy])
      refine qad 2 rfl rfl (by kernel_rfl) (by kernel_rfl) (by kernel_rfl) (fun _ _ _ h => h) rfl (fun V hV => qbg rfl Tryd.underlying25 rfl) hS ?_; (try simp only [Act.put, lyy])
      refine qad 3 rfl rfl (by kernel_rfl) (by kernel_rfl) (by kernel_rfl) (fun _ _ _ h => h) rfl (fun V hV => qbo (c := false) rfl rfl rfl (decide_eq_false (by omega))) hS ?_; (try simp only [Act.put, lyy])
      refine qad 4 rfl rfl (by kernel_rfl) (by kernel_rfl) (by kernel_rfl) (fun _ _ _ h => h) rfl (fun V hV => qae (v := .bool false) rfl rfl) hS ?_; (try simp only [Act.put, lyy])
      refine qaw 5 rfl rfl (by kernel_rfl) (by kernel_rfl) (by kernel_rfl) (fun _ _ _ h => h) rfl hS ?_; (try simp only [Act.put, lyy])
      refine qaw 6 rfl rfl (by kernel_rfl) (by kernel_rfl) (by kernel_rfl) (fun _ _ _ h => h) rfl hS ?_; (try simp only [Act.put, lyy])
      refine qaw 7 rfl rfl (by kernel_rfl) (by kernel_rfl) (by kernel_rfl) (fun _ _ _ h => h) rfl hS ?_; (try simp only [Act.put, lyy])
      refine qaw 8 rfl rfl (by kernel_rfl) (by kernel_rfl) (by kernel_rfl) (fun _ _ _ h => h) rfl hS ?_; (try simp only [Act.put, lyy])
      refine qad 9 rfl rfl (by kernel_rfl) (by kernel_rfl) (by kernel_rfl) (fun _ _ _ h => h) rfl (fun V hV => qa8 (b := false) (v := .bool false) rfl rfl rfl) hS ?_; (try simp only [Act.put, lyy])
      refine qad 10 rfl rfl (by kernel_rfl) (by kernel_rfl) (by kernel_rfl) (fun _ _ _ h => h) rfl (fun V hV => qae (v := .bool false) rfl rfl) hS ?_; (try simp only [Act.put, lyy])
      refine qaw 11 rfl rfl (by kernel_rfl) (by kernel_rfl) (by kernel_rfl) (fun _ _ _ h => h) rfl hS ?_; (try simp only [Act.put, lyy])
      refine qaw 12 rfl rfl (by kernel_rfl) (by kernel_rfl) (by kernel_rfl) (fun _ _ _ h => h) rfl hS ?_; (try simp only [Act.put, lyy])
      refine qaw 13 rfl rfl (by kernel_rfl) (by kernel_rfl) (by kernel_rfl) (fun _ _ _ h => h) rfl hS ?_; (try simp only [Act.put, lyy])
      refine qaw 14 rfl rfl (by kernel_rfl) (by kernel_rfl) (by kernel_rfl) (fun _ _ _ h => h) rfl hS ?_; (try simp only [Act.put, lyy])
      refine qaw 15 rfl rfl (by kernel_rfl) (by kernel_rfl) (by kernel_rfl) (fun _ _ _ h => h) rfl hS ?_; (try simp only [Act.put, lyy])
      refine qaw 16 rfl rfl (by kernel_rfl) (by kernel_rfl) (by kernel_rfl) (fun _ _ _ h => h) rfl hS ?_; (try simp only [Act.put, lyy])
      refine qaw 17 rfl rfl (by kernel_rfl) (by kernel_rfl) (by kernel_rfl) (fun _ _ _ h => h) rfl hS ?_; (try simp only [Act.put, lyy])
      refine qaw 18 rfl rfl (by kernel_rfl) (by kernel_rfl) (by kernel_rfl) (fun _ _ _ h => h) rfl hS ?_; (try simp only [Act.put, lyy])
      refine qaw 19 rfl rfl (by kernel_rfl) (by kernel_rfl) (by kernel_rfl) (fun _ _ _ h => h) rfl hS ?_; (try simp only [Act.put, lyy])
      refine qad 20 rfl rfl (by kernel_rfl) (by kernel_rfl) (by kernel_rfl) (fun _ _ _ h => h) rfl (fun V hV => qa8 (b := false) (v := .bool false) rfl rfl rfl) hS ?_; (try simp only [Act.put, lyy])
      refine qa2 (by kernel_rfl) ?_ _; refine NoPanic.normal ?_
      go_upto_region 4 with fail; refine wp_region_lit ?_
      refine qaa (qae (v := .int .i64 (j : Int)) rfl rfl) rfl ?_; (try simp only [Act.put, lyy])
      refine qaa (qaf (v := .int .i64 (j : Int)) rfl rfl) rfl ?_; (try simp only [Act.put, lyy])
      refine qab ?_
      go_wp2_with fail
      go_ret
      exact ⟨by rw [HX.out j HJ.out (by have := HM.out; omega) (by have := HM2.out; omega) (.inl (by have := HM.out; omega))]; rfl, E.out.bl⟩
    · by_cases hjm2 : j = m2
      · go_upto_region 2 with fail
        refine wp_region_noPanic ?_; refine qa0 (S := fun _ V => Below wr.heap.size wr V) (by kernel_rfl) ((Below.refl _ _).drew) (fun hS => ?_)
        replace E := Lib.hid (E.out.below hS)
        generalize wr.drew = a1 at *
        refine qbf (S' := fun _ V => Below a1.heap.size a1 V) (fun _ V h => hS.trans (h.mono hS.size)) _ _ _ _ ?_
        replace hS := Below.refl a1.heap.size a1
        refine qad 0 rfl rfl (by kernel_rfl) (by kernel_rfl) (by kernel_rfl) (fun _ _ _ h => h) rfl (fun V hV => qae (v := .int .i64 (j : Int)) rfl rfl) hS ?_; (try simp only [Act.put, lyy])
        refine qad 1 rfl rfl (by kernel_rfl) (by kernel_rfl) (by kernel_rfl) (fun _ _ _ h => h) rfl (fun V hV => qae (v := .slice a m c) rfl rfl) hS ?_; (try simp only [Act.put, lyy])
        refine qad 2 rfl rfl (by kernel_rfl) (by kernel_rfl) (by kernel_rfl) (fun _ _ _ h => h) rfl (fun V hV => qbg rfl Tryd.underlying25 rfl) hS ?_; (try simp only [Act.put, lyy])
        refine qad 3 rfl rfl (by kernel_rfl) (by kernel_rfl) (by kernel_rfl) (fun _ _ _ h => h) rfl (fun V hV => qbo (c := true) rfl rfl rfl (decide_eq_true (by omega))) hS ?_; (try simp only [Act.put, lyy])
        refine qad 4 rfl rfl (by kernel_rfl) (by kernel_rfl) (by kernel_rfl) (fun _ _ _ h => h) rfl (fun V hV => qae (v := .bool true) rfl rfl) hS ?_; (try simp only [Act.put, lyy])
        refine qad 5 rfl rfl (by kernel_rfl) (by kernel_rfl) (by kernel_rfl) (fun _ _ _ h => h) rfl (fun V hV => qae (v := .int .i64 (j : Int)) rfl rfl) hS ?_; (try simp only [Act.put, lyy])
        refine qad 6 rfl rfl (by kernel_rfl) (by kernel_rfl) (by kernel_rfl) (fun _ _ _ h => h) rfl (fun V hV => qae (v := .slice a2 m2 c2) rfl rfl) hS ?_; (try simp only [Act.put, lyy])
        refine qad 7 rfl rfl (by kernel_rfl) (by kernel_rfl) (by kernel_rfl) (fun _ _ _ h => h) rfl (fun V hV => qbg rfl Tryd.underlying25 rfl) hS ?_; (try simp only [Act.put, lyy])
        refine qad 8 rfl rfl (by kernel_rfl) (by kernel_rfl) (by kernel_rfl) (fun _ _ _ h => h) rfl (fun V hV => qbo (c := false) rfl rfl rfl (decide_eq_false (by omega))) hS ?_; (try simp only [Act.put, lyy])
        refine qad 9 rfl rfl (by kernel_rfl) (by kernel_rfl) (by kernel_rfl) (fun _ _ _ h => h) rfl (fun V hV => qa8 (b := true) (v := .bool false) rfl rfl rfl) hS ?_; (try simp only [Act.put, lyy])
        refine qad 10 rfl rfl (by kernel_rfl) (by kernel_rfl) (by kernel_rfl) (fun _ _ _ h => h) rfl (fun V hV => qae (v := .bool false) rfl rfl) hS ?_; (try simp only [Act.put, lyy])
        refine qaw 11 rfl rfl (by kernel_rfl) (by kernel_rfl) (by kernel_rfl) (fun _ _ _ h => h) rfl hS ?_; (try simp only [Act.put, lyy])
        refine qaw 12 rfl rfl (by kernel_rfl) (by kernel_rfl) (by kernel_rfl) (fun _ _ _ h => h) rfl hS ?_; (try simp only [Act.put, lyy])
        refine qaw 13 rfl rfl (by kernel_rfl) (by kernel_rfl) (by kernel_rfl) (fun _ _ _ h => h) rfl hS ?_; (try simp only [Act.put, lyy])
        refine qaw 14 rfl rfl (by kernel_rfl) (by kernel_rfl) (by kernel_rfl) (fun _ _ _ h => h) rfl hS ?_; (try simp only [Act.put, lyy])
        refine qaw 15 rfl rfl (by kernel_rfl) (by kernel_rfl) (by kernel_rfl) (fun _ _ _ h => h) rfl hS ?_; (try simp only [Act.put, lyy])
        refine qaw 16 rfl rfl (by kernel_rfl) (by kernel_rfl) (by kernel_rfl) (fun _ _ _ h => h) rfl hS ?_; (try simp only [Act.put, lyy])
        refine qaw 17 rfl rfl (by kernel_rfl) (by kernel_rfl) (by kernel_rfl) (fun _ _ _ h => h) rfl hS ?_; (try simp only [Act.put, lyy])
        refine qaw 18 rfl rfl (by kernel_rfl) (by kernel_rfl) (by kernel_rfl) (fun _ _ _ h => h) rfl hS ?_; (try simp only [Act.put, lyy])
        refine qaw 19 rfl rfl (by kernel_rfl) (by kernel_rfl) (by kernel_rfl) (fun _ _ _ h => h) rfl hS ?_; (try simp only [Act.put, lyy])
        refine qad 20 rfl rfl (by kernel_rfl) (by kernel_rfl) (by kernel_rfl) (fun _ _ _ h => h) rfl (fun V hV => qa8 (b := false) (v := .bool false) rfl rfl rfl) hS ?_; (try simp only [Act.put, lyy])
        refine qa2 (by kernel_rfl) ?_ _; refine NoPanic.normal ?_
        go_upto_region 4 with fail; refine wp_region_lit ?_
        refine qaa (qae (v := .int .i64 (j : Int)) rfl rfl) rfl ?_; (try simp only [Act.put, lyy])
        refine qaa (qaf (v := .int .i64 (j : Int)) rfl rfl) rfl ?_; (try simp only [Act.put, lyy])
        refine qab ?_
        go_wp2_with fail
        go_ret
        exact ⟨by rw [HX.out j HJ.out (by have := HM.out; omega) (by have := HM2.out; omega) (.inr (.inl (by have := HM2.out; omega)))]; rfl, E.out.bl⟩
      · have hjl : j < l.length := by have := HM.out; omega
        have hjl2 : j < l2.length := by have := HM2.out; omega
        obtain ⟨g, fo, rfl, hg, -⟩ := pk_at E.out.f.1 hjl
        obtain ⟨g2, fo2, rfl, hg2, -⟩ := pk_at E.out.f.2 hjl2
        have HP : Hid (∀ V, SlR 33 pkAt l (some ⟨g, fo, none⟩) c V → V.rangeAt g (fo + j * 33) (pkC l[j])) := Lib.hid fun V h => pk_at2 h hjl
        have HP2 : Hid (∀ V, SlR 33 pkAt l2 (some ⟨g2, fo2, none⟩) c2 V → V.rangeAt g2 (fo2 + j * 33) (pkC l2[j])) := Lib.hid fun V h => pk_at2 h hjl2
        have hkl := HK.out _ (List.getElem_mem hjl)
        have hkl2 := HK2.out _ (List.getElem_mem hjl2)
        have HE1 := Lib.hid (List.getElem?_eq_getElem hjl)
        have HE2 := Lib.hid (List.getElem?_eq_getElem hjl2)
        generalize l[j] = q at *
        generalize l2[j] = q2 at *
        by_cases hq : eqPk q q2 = true
        · go_upto_region 2 with fail
          refine wp_region_noPanic ?_; refine qa0 (S := fun _ V => Below wr.heap.size wr V) (by kernel_rfl) ((Below.refl _ _).drew) (fun hS => ?_)
          replace E := Lib.hid (E.out.below hS)
          generalize wr.drew = a1 at *
          refine qbf (S' := fun _ V => Below a1.heap.size a1 V) (fun _ V h => hS.trans (h.mono hS.size)) _ _ _ _ ?_
          replace hS := Below.refl a1.heap.size a1
          refine qad 0 rfl rfl (by kernel_rfl) (by kernel_rfl) (by kernel_rfl) (fun _ _ _ h => h) rfl (fun V hV => qae (v := .int .i64 (j : Int)) rfl rfl) hS ?_; (try simp only [Act.put, lyy])
          refine qad 1 rfl rfl (by kernel_rfl) (by kernel_rfl) (by kernel_rfl) (fun _ _ _ h => h) rfl (fun V hV => qae (v := .slice (some ⟨g, fo, none⟩) m c) rfl rfl) hS ?_; (try simp only [Act.put, lyy])
          refine qad 2 rfl rfl (by kernel_rfl) (by kernel_rfl) (by kernel_rfl) (fun _ _ _ h => h) rfl (fun V hV => qbg rfl Tryd.underlying25 rfl) hS ?_; (try simp only [Act.put, lyy])
          refine qad 3 rfl rfl (by kernel_rfl) (by kernel_rfl) (by kernel_rfl) (fun _ _ _ h => h) rfl (fun V hV => qbo (c := true) rfl rfl rfl (decide_eq_true (by omega))) hS ?_; (try simp only [Act.put, lyy])
          refine qad 4 rfl rfl (by kernel_rfl) (by kernel_rfl) (by kernel_rfl) (fun _ _ _ h => h) rfl (fun V hV => qae (v := .bool true) rfl rfl) hS ?_; (try simp only [Act.put, lyy])
          refine qad 5 rfl rfl (by kernel_rfl) (by kernel_rfl) (by kernel_rfl) (fun _ _ _ h => h) rfl (fun V hV => qae (v := .int .i64 (j : Int)) rfl rfl) hS ?_; (try simp only [Act.put, lyy])
          refine qad 6 rfl rfl (by kernel_rfl) (by kernel_rfl) (by kernel_rfl) (fun _ _ _ h => h) rfl (fun V hV => qae (v := .slice (some ⟨g2, fo2, none⟩) m2 c2) rfl rfl) hS ?_; (try simp only [Act.put, lyy])
          refine qad 7 rfl rfl (by kernel_rfl) (by kernel_rfl) (by kernel_rfl) (fun _ _ _ h => h) rfl (fun V hV => qbg rfl Tryd.underlying25 rfl) hS ?_; (try simp only [Act.put, lyy])
          refine qad 8 rfl rfl (by kernel_rfl) (by kernel_rfl) (by kernel_rfl) (fun _ _ _ h => h) rfl (fun V hV => qbo (c := true) rfl rfl rfl (decide_eq_true (by omega))) hS ?_; (try simp only [Act.put, lyy])
          refine qad 9 rfl rfl (by kernel_rfl) (by kernel_rfl) (by kernel_rfl) (fun _ _ _ h => h) rfl (fun V hV => qa8 (b := true) (v := .bool true) rfl rfl rfl) hS ?_; (try simp only [Act.put, lyy])
          refine qad 10 rfl rfl (by kernel_rfl) (by kernel_rfl) (by kernel_rfl) (fun _ _ _ h => h) rfl (fun V hV => qae (v := .bool true) rfl rfl) hS ?_; (try simp only [Act.put, lyy])
          refine qad 11 rfl rfl (by kernel_rfl) (by kernel_rfl) (by kernel_rfl) (fun _ _ _ h => h) rfl (fun V hV => qae (v := .slice (some ⟨g, fo, none⟩) m c) rfl rfl) hS ?_; (try simp only [Act.put, lyy])
          refine qad 12 rfl rfl (by kernel_rfl) (by kernel_rfl) (by kernel_rfl) (fun _ _ _ h => h) rfl (fun V hV => qae (v := .int .i64 (j : Int)) rfl rfl) hS ?_; (try simp only [Act.put, lyy])
          refine qad 13 rfl rfl (by kernel_rfl) (by kernel_rfl) (by kernel_rfl) (fun _ _ _ h => h) rfl (fun V hV => qdg (z := 33) rfl Tryd.underlying25 (by kernel_rfl) rfl rfl (by omega)) hS ?_; (try simp only [Act.put, lyy])
          refine qad 14 rfl rfl (by kernel_rfl) (by kernel_rfl) (by kernel_rfl) (fun _ _ _ h => h) rfl (fun V hV => qai (vs := pkC q) rfl Tryd.underlying34 rfl (szR (qbq hkl) (by kernel_rfl)) rfl (HP.out _ (E.out.below hV).f.1)) hS ?_; (try simp only [Act.put, lyy])
          refine qad 15 rfl rfl (by kernel_rfl) (by kernel_rfl) (by kernel_rfl) (fun _ _ _ h => h) rfl (fun V hV => qae (v := .slice (some ⟨g2, fo2, none⟩) m2 c2) rfl rfl) hS ?_; (try simp only [Act.put, lyy])
          refine qad 16 rfl rfl (by kernel_rfl) (by kernel_rfl) (by kernel_rfl) (fun _ _ _ h => h) rfl (fun V hV => qae (v := .int .i64 (j : Int)) rfl rfl) hS ?_; (try simp only [Act.put, lyy])
          refine qad 17 rfl rfl (by kernel_rfl) (by kernel_rfl) (by kernel_rfl) (fun _ _ _ h => h) rfl (fun V hV => qdg (z := 33) rfl Tryd.underlying25 (by kernel_rfl) rfl rfl (by omega)) hS ?_; (try simp only [Act.put, lyy])
          refine qad 18 rfl rfl (by kernel_rfl) (by kernel_rfl) (by kernel_rfl) (fun _ _ _ h => h) rfl (fun V hV => qai (vs := pkC q2) rfl Tryd.underlying34 rfl (szR (qbq hkl2) (by kernel_rfl)) rfl (HP2.out _ (E.out.below hV).f.2)) hS ?_; (try simp only [Act.put, lyy])
          refine qad 19 rfl rfl (by kernel_rfl) (by kernel_rfl) (by kernel_rfl) (fun _ _ _ h => h) rfl (fun V hV => run_eqEn hkl hkl2 rfl rfl rfl hq) hS ?_; (try simp only [Act.put, lyy])
          refine qad 20 rfl rfl (by kernel_rfl) (by kernel_rfl) (by kernel_rfl) (fun _ _ _ h => h) rfl (fun V hV => qa8 (b := true) (v := .bool true) rfl rfl rfl) hS ?_; (try simp only [Act.put, lyy])
          refine qa2 (by kernel_rfl) ?_ _; refine NoPanic.normal ?_
          go_upto_region 3 with fail; refine wp_region_lit ?_
          refine qaa (qae (v := .int .i64 (j : Int)) rfl rfl) rfl ?_; (try simp only [Act.put, lyy])
          refine qaa (qb9 (a := j) (b := 1) rfl rfl rfl (by omega)) rfl ?_; (try simp only [Act.put, lyy])
          refine qaa (qaf (v := .int .i64 ((j + 1 : Nat) : Int)) rfl rfl) rfl ?_; (try simp only [Act.put, lyy])
          refine qab ?_
          have NX : Hid (∀ i : Nat, i < j + 1 → l[i]? = l2[i]?) := Lib.hid fun i hi => by
            rcases Nat.lt_or_ge i j with h9 | h9
            · exact HJ.out i h9
            · obtain rfl : i = j := by omega
              rw [HE1.out, HE2.out, eqPk_iff.1 hq]
          go_wp2_with fail
          exact ⟨⟨j + 1, rfl, by omega, by omega, NX, E.out⟩, by simp [intOf]; omega⟩
        · have hq2 : eqPk q q2 = false := by simpa using hq
          go_upto_region 2 with fail
          refine wp_region_noPanic ?_; refine qa0 (S := fun _ V => Below wr.heap.size wr V) (by kernel_rfl) ((Below.refl _ _).drew) (fun hS => ?_)
          replace E := Lib.hid (E.out.below hS)
          generalize wr.drew = a1 at *
          refine qbf (S' := fun _ V => Below a1.heap.size a1 V) (fun _ V h => hS.trans (h.mono hS.size)) _ _ _ _ ?_
          replace hS := Below.refl a1.heap.size a1
          refine qad 0 rfl rfl (by kernel_rfl) (by kernel_rfl) (by kernel_rfl) (fun _ _ _ h => h) rfl (fun V hV => qae (v := .int .i64 (j : Int)) rfl rfl) hS ?_; (try simp only [Act.put, lyy])
          refine qad 1 rfl rfl (by kernel_rfl) (by kernel_rfl) (by kernel_rfl) (fun _ _ _ h => h) rfl (fun V hV => qae (v := .slice (some ⟨g, fo, none⟩) m c) rfl rfl) hS ?_; (try simp only [Act.put, lyy])
          refine qad 2 rfl rfl (by kernel_rfl) (by kernel_rfl) (by kernel_rfl) (fun _ _ _ h => h) rfl (fun V hV => qbg rfl Tryd.underlying25 rfl) hS ?_; (try simp only [Act.put, lyy])
          refine qad 3 rfl rfl (by kernel_rfl) (by kernel_rfl) (by kernel_rfl) (fun _ _ _ h => h) rfl (fun V hV => qbo (c := true) rfl rfl rfl (decide_eq_true (by omega))) hS ?_; (try simp only [Act.put, lyy])
          refine qad 4 rfl rfl (by kernel_rfl) (by kernel_rfl) (by kernel_rfl) (fun _ _ _ h => h) rfl (fun V hV => qae (v := .bool true) rfl rfl) hS ?_; (try simp only [Act.put, lyy])
          refine qad 5 rfl rfl (by kernel_rfl) (by kernel_rfl) (by kernel_rfl) (fun _ _ _ h => h) rfl (fun V hV => qae (v := .int .i64 (j : Int)) rfl rfl) hS ?_; (try simp only [Act.put, lyy])
          refine qad 6 rfl rfl (by kernel_rfl) (by kernel_rfl) (by kernel_rfl) (fun _ _ _ h => h) rfl (fun V hV => qae (v := .slice (some ⟨g2, fo2, none⟩) m2 c2) rfl rfl) hS ?_; (try simp only [Act.put, lyy])
          refine qad 7 rfl rfl (by kernel_rfl) (by kernel_rfl) (by kernel_rfl) (fun _ _ _ h => h) rfl (fun V hV => qbg rfl Tryd.underlying25 rfl) hS ?_; (try simp only [Act.put, lyy])
          refine qad 8 rfl rfl (by kernel_rfl) (by kernel_rfl) (by kernel_rfl) (fun _ _ _ h => h) rfl (fun V hV => qbo (c := true) rfl rfl rfl (decide_eq_true (by omega))) hS ?_; (try simp only [Act.put, lyy])
          refine qad 9 rfl rfl (by kernel_rfl) (by kernel_rfl) (by kernel_rfl) (fun _ _ _ h => h) rfl (fun V hV => qa8 (b := true) (v := .bool true) rfl rfl rfl) hS ?_; (try simp only [Act.put, lyy])
          refine qad 10 rfl rfl (by kernel_rfl) (by kernel_rfl) (by kernel_rfl) (fun _ _ _ h => h) rfl (fun V hV => qae (v := .bool true) rfl rfl) hS ?_; (try simp only [Act.put, lyy])
          refine qad 11 rfl rfl (by kernel_rfl) (by kernel_rfl) (by kernel_rfl) (fun _ _ _ h => h) rfl (fun V hV => qae (v := .slice (some ⟨g, fo, none⟩) m c) rfl rfl) hS ?_; (try simp only [Act.put, lyy])
          refine qad 12 rfl rfl (by kernel_rfl) (by kernel_rfl) (by kernel_rfl) (fun _ _ _ h => h) rfl (fun V hV => qae (v := .int .i64 (j : Int)) rfl rfl) hS ?_; (try simp only [Act.put, lyy])
          refine qad 13 rfl rfl (by kernel_rfl) (by kernel_rfl) (by kernel_rfl) (fun _ _ _ h => h) rfl (fun V hV => qdg (z := 33) rfl Tryd.underlying25 (by kernel_rfl) rfl rfl (by omega)) hS ?_; (try simp only [Act.put, lyy])
          refine qad 14 rfl rfl (by kernel_rfl) (by kernel_rfl) (by kernel_rfl) (fun _ _ _ h => h) rfl (fun V hV => qai (vs := pkC q) rfl Tryd.underlying34 rfl (szR (qbq hkl) (by kernel_rfl)) rfl (HP.out _ (E.out.below hV).f.1)) hS ?_; (try simp only [Act.put, lyy])
          refine qad 15 rfl rfl (by kernel_rfl) (by kernel_rfl) (by kernel_rfl) (fun _ _ _ h => h) rfl (fun V hV => qae (v := .slice (some ⟨g2, fo2, none⟩) m2 c2) rfl rfl) hS ?_; (try simp only [Act.put, lyy])
          refine qad 16 rfl rfl (by kernel_rfl) (by kernel_rfl) (by kernel_rfl) (fun _ _ _ h => h) rfl (fun V hV => qae (v := .int .i64 (j : Int)) rfl rfl) hS ?_; (try simp only [Act.put, lyy])
          refine qad 17 rfl rfl (by kernel_rfl) (by kernel_rfl) (by kernel_rfl) (fun _ _ _ h => h) rfl (fun V hV => qdg (z := 33) rfl Tryd.underlying25 (by kernel_rfl) rfl rfl (by omega)) hS ?_; (try simp only [Act.put, lyy])
          refine qad 18 rfl rfl (by kernel_rfl) (by kernel_rfl) (by kernel_rfl) (fun _ _ _ h => h) rfl (fun V hV => qai (vs := pkC q2) rfl Tryd.underlying34 rfl (szR (qbq hkl2) (by kernel_rfl)) rfl (HP2.out _ (E.out.below hV).f.2)) hS ?_; (try simp only [Act.put, lyy])
          refine qad 19 rfl rfl (by kernel_rfl) (by kernel_rfl) (by kernel_rfl) (fun _ _ _ h => h) rfl (fun V hV => run_eqEn hkl hkl2 rfl rfl rfl hq2) hS ?_; (try simp only [Act.put, lyy])
          refine qad 20 rfl rfl (by kernel_rfl) (by kernel_rfl) (by kernel_rfl) (fun _ _ _ h => h) rfl (fun V hV => qa8 (b := true) (v := .bool false) rfl rfl rfl) hS ?_; (try simp only [Act.put, lyy])
          refine qa2 (by kernel_rfl) ?_ _; refine NoPanic.normal ?_
          go_upto_region 4 with fail; refine wp_region_lit ?_
          refine qaa (qae (v := .int .i64 (j : Int)) rfl rfl) rfl ?_; (try simp only [Act.put, lyy])
          refine qaa (qaf (v := .int .i64 (j : Int)) rfl rfl) rfl ?_; (try simp only [Act.put, lyy])
          refine qab ?_
          go_wp2_with fail
          go_ret
          exact ⟨by rw [HX.out j HJ.out (by have := HM.out; omega) (by have := HM2.out; omega) (.inr (.inr (by rw [HE1.out, HE2.out]; intro e; exact hq (eqPk_iff.2 (Option.some.inj e)))))]; rfl, E.out.bl⟩
end Go.Proofs.YtcgbgmbnagmohaaDoor
namespace Go.Proofs.YtcgbgmbnagmohaaDoor
open Go.RowKit
set_option maxRecDepth 20000
attribute [local irreducible] wpList
theorem pk0_built : Tryd.prog.built 34 [] = some (pkC pk0).toArray := by kernel_rfl
theorem pk0_len : pk0.key.length = 32 := rfl
theorem enters_added : Enters 14 := qan Tryd.func14 (by kernel_rfl) rfl
set_option maxHeartbeats 8000000 in
theorem added_any (m n : MLs) (X Y : List Value) (w : World) (hm : m.Ok) (hn : n.Ok) (hX : Fro 0 (lsAt m X) w) (hY : Fro 0 (lsAt n Y) w) : Calls Tryd.prog 14 #[.agg X.toArray, .agg Y.toArray] w fun e w' => e = .returned (.tuple #[.agg (pkC (adP m.devs n.devs)).toArray, .bool (adB m.devs n.devs)]) ∧ Below w.heap.size w w' := by
  obtain ⟨a0, c0, rfl, HF⟩ := lsAt_fix hm hX
  obtain ⟨ar, cr, rfl, HF1⟩ := lsAt_fix hn hY
  have k1 := hm.ident
  have k2 := hm.sig
  have k3 := hn.ident
  have k4 := hn.sig
  have HDV := Lib.hid hm.devs
  have HDN := Lib.hid hn.devs
  have hmany := hm.many
  have hmany1 := hn.many
  have E := Lib.hid (Ev.start (w := w) (F := fun V => SlR 33 pkAt m.devs a0 c0 V ∧ SlR 33 pkAt n.devs ar cr V) fun V hV => ⟨HF V hV, HF1 V hV⟩)
  have KE := Lib.hid pk0_built
  have lz := pk0_len
  have CE : Hid (n.devs.length = m.devs.length + 1 → ∀ u : World, Fro 0 (fun V => SlR 33 pkAt m.devs a0 c0 V ∧ SlR 33 pkAt n.devs ar cr V) u → Calls Tryd.prog 28 #[.slice a0 m.devs.length c0, .slice ar m.devs.length cr] u fun e w' => e = .returned (.bool (eqPs m.devs (n.devs.take m.devs.length))) ∧ Below u.heap.size u w') := Lib.hid fun hq u h => by
    have h2 := eqs_any a0 c0 m.devs ar cr (n.devs.take m.devs.length) u (fun V hV => (h V hV).1) (fun V hV => slR_take (h V hV).2 (by omega)) hm.devs (fun p hp => hn.devs p (List.mem_of_mem_take hp)) hm.many
    rwa [List.length_take, Nat.min_eq_left (by omega)] at h2
  clear hX hY HF HF1 hm hn
  by_cases hlen : n.devs.length = m.devs.length + 1
  · cases hEq : eqPs m.devs (n.devs.take m.devs.length) with
    | false =>
      have hB : adB m.devs n.devs = false := by unfold adB; rw [hEq, decide_eq_true hlen]; rfl
      have HP : Hid (adP m.devs n.devs = pk0) := Lib.hid (by unfold adP; rw [hB]; rfl)
      rw [HP.out, hB]
      clear HP
      generalize pk0 = z at *
      rw [hEq] at CE
      go_enter Tryd.func14, Tryd.ntmps14
      go_upto_region 0 with fail; refine wp_region_lit ?_
      refine qaa (qay (vs := lsR (.int .i64 m.acc) (.int .i64 m.ver) (m.ident.map b8) (.slice a0 m.devs.length c0) (m.sig.map b8)) rfl rfl) rfl ?_; (try simp only [Act.put, lyy])
      replace E := Lib.hid (E.out.new (lsR (.int .i64 m.acc) (.int .i64 m.ver) (m.ident.map b8) (.slice a0 m.devs.length c0) (m.sig.map b8)) 29)
      generalize w.alloc (.cells (lsR (.int .i64 m.acc) (.int .i64 m.ver) (m.ident.map b8) (.slice a0 m.devs.length c0) (m.sig.map b8)).toArray 29) = a1 at *
      generalize w.heap.size = g2 at *
      refine qaa (qay (vs := lsR (.int .i64 n.acc) (.int .i64 n.ver) (n.ident.map b8) (.slice ar n.devs.length cr) (n.sig.map b8)) rfl rfl) rfl ?_; (try simp only [Act.put, lyy])
      replace E := Lib.hid (E.out.new (lsR (.int .i64 n.acc) (.int .i64 n.ver) (n.ident.map b8) (.slice ar n.devs.length cr) (n.sig.map b8)) 29)
      generalize a1.alloc (.cells (lsR (.int .i64 n.acc) (.int .i64 n.ver) (n.ident.map b8) (.slice ar n.devs.length cr) (n.sig.map b8)).toArray 29) = a3 at *
      generalize a1.heap.size = g4 at *
      refine qaa (qas (vs := enR ((.int .i64 0)) (z8 32)) rfl (by kernel_rfl)) rfl ?_; (try simp only [Act.put, lyy])
      replace E := Lib.hid (E.out.new (enR ((.int .i64 0)) (z8 32)) 34)
      generalize a3.alloc (.cells (enR ((.int .i64 0)) (z8 32)).toArray 34) = a5 at *
      generalize a3.heap.size = g6 at *
      refine qaa (qaf (v := .bool false) rfl rfl) rfl ?_; (try simp only [Act.put, lyy])
      refine qab ?_
      go_upto_region 1 with fail; refine wp_region_lit ?_
      refine qaa (qar (s := 0) (k := 34) rfl Tryd.underlying29 rfl (by kernel_rfl) rfl rfl) rfl ?_; (try simp only [Act.put, lyy])
      refine qaa (qa9 rfl Tryd.underlying25 rfl rfl ((E.out.get (i := 2) rfl).c 34 _ (qau (by rw [List.length_map, k1])))) rfl ?_; (try simp only [Act.put, lyy])
      refine qaa (qbg rfl Tryd.underlying25 rfl) rfl ?_; (try simp only [Act.put, lyy])
      refine qaa (qaf (v := .int .i64 ((m.devs.length : Nat) : Int)) rfl rfl) rfl ?_; (try simp only [Act.put, lyy])
      refine qab ?_
      go_upto_region 2 with fail
      refine wp_region_noPanic ?_; refine qa0 (S := fun _ V => Below a5.heap.size a5 V) (by kernel_rfl) ((Below.refl _ _).drew) (fun hS => ?_)
      replace E := Lib.hid (E.out.below hS)
      generalize a5.drew = a7 at *
      refine qbf (S' := fun _ V => Below a7.heap.size a7 V) (fun _ V h => hS.trans (h.mono hS.size)) _ _ _ _ ?_
      replace hS := Below.refl a7.heap.size a7
      refine qad 0 rfl rfl (by kernel_rfl) (by kernel_rfl) (by kernel_rfl) (fun _ _ _ h => h) rfl (fun V hV => qar (s := 0) (k := 34) rfl Tryd.underlying29 rfl (by kernel_rfl) rfl rfl) hS ?_; (try simp only [Act.put, lyy])
      refine qad 1 rfl rfl (by kernel_rfl) (by kernel_rfl) (by kernel_rfl) (fun _ _ _ h => h) rfl (fun V hV => qa9 rfl Tryd.underlying25 rfl rfl (((E.out.below hV).get (i := 1) rfl).c 34 _ (qau (by rw [List.length_map, k3])))) hS ?_; (try simp only [Act.put, lyy])
      refine qad 2 rfl rfl (by kernel_rfl) (by kernel_rfl) (by kernel_rfl) (fun _ _ _ h => h) rfl (fun V hV => qbg rfl Tryd.underlying25 rfl) hS ?_; (try simp only [Act.put, lyy])
      refine qad 3 rfl rfl (by kernel_rfl) (by kernel_rfl) (by kernel_rfl) (fun _ _ _ h => h) rfl (fun V hV => qae (v := .int .i64 ((m.devs.length : Nat) : Int)) rfl rfl) hS ?_; (try simp only [Act.put, lyy])
      refine qad 4 rfl rfl (by kernel_rfl) (by kernel_rfl) (by kernel_rfl) (fun _ _ _ h => h) rfl (fun V hV => qb9 (a := m.devs.length) (b := 1) rfl rfl rfl (by omega)) hS ?_; (try simp only [Act.put, lyy])
      refine qad 5 rfl rfl (by kernel_rfl) (by kernel_rfl) (by kernel_rfl) (fun _ _ _ h => h) rfl (fun V hV => run_neqb (c := false) rfl rfl rfl (by simp; omega)) hS ?_; (try simp only [Act.put, lyy])
      refine qad 6 rfl rfl (by kernel_rfl) (by kernel_rfl) (by kernel_rfl) (fun _ _ _ h => h) rfl (fun V hV => qae (v := .bool false) rfl rfl) hS ?_; (try simp only [Act.put, lyy])
      refine qad 7 rfl rfl (by kernel_rfl) (by kernel_rfl) (by kernel_rfl) (fun _ _ _ h => h) rfl (fun V hV => qar (s := 0) (k := 34) rfl Tryd.underlying29 rfl (by kernel_rfl) rfl rfl) hS ?_; (try simp only [Act.put, lyy])
      refine qad 8 rfl rfl (by kernel_rfl) (by kernel_rfl) (by kernel_rfl) (fun _ _ _ h => h) rfl (fun V hV => qa9 rfl Tryd.underlying25 rfl rfl (((E.out.below hV).get (i := 2) rfl).c 34 _ (qau (by rw [List.length_map, k1])))) hS ?_; (try simp only [Act.put, lyy])
      refine qad 9 rfl rfl (by kernel_rfl) (by kernel_rfl) (by kernel_rfl) (fun _ _ _ h => h) rfl (fun V hV => qar (s := 0) (k := 34) rfl Tryd.underlying29 rfl (by kernel_rfl) rfl rfl) hS ?_; (try simp only [Act.put, lyy])
      refine qad 10 rfl rfl (by kernel_rfl) (by kernel_rfl) (by kernel_rfl) (fun _ _ _ h => h) rfl (fun V hV => qa9 rfl Tryd.underlying25 rfl rfl (((E.out.below hV).get (i := 1) rfl).c 34 _ (qau (by rw [List.length_map, k3])))) hS ?_; (try simp only [Act.put, lyy])
      refine qad 11 rfl rfl (by kernel_rfl) (by kernel_rfl) (by kernel_rfl) (fun _ _ _ h => h) rfl (fun V hV => qae (v := .int .i64 ((m.devs.length : Nat) : Int)) rfl rfl) hS ?_; (try simp only [Act.put, lyy])
      refine qad 12 rfl rfl (by kernel_rfl) (by kernel_rfl) (by kernel_rfl) (fun _ _ _ h => h) rfl (fun V hV => run_sloZ (z := 33) rfl Tryd.underlying25 (by kernel_rfl) rfl rfl (by have := (E.out.below hV).f.2.cap; omega)) hS ?_; (try simp only [Act.put, lyy])
      refine qbe 13 (by kernel_rfl) rfl rfl rfl (qal enters_eqs rfl rfl rfl rfl) ((qbj (CE.out hlen _ E.out.froF))) (fun v w h => hS.trans ((h.2).mono hS.size)) (fun v8 a9 hR => ?_); (try simp only [Act.put, lyy])
      obtain ⟨rfl, hb9⟩ := hR
      replace hS := hS.trans (hb9.mono hS.size)
      replace E := Lib.hid (E.out.below hb9)
      clear hb9
      refine qbf (S' := fun _ V => Below a9.heap.size a9 V) (fun _ V h => hS.trans (h.mono hS.size)) _ _ _ _ ?_
      replace hS := Below.refl a9.heap.size a9
      refine qad 14 rfl rfl (by kernel_rfl) (by kernel_rfl) (by kernel_rfl) (fun _ _ _ h => h) rfl (fun V hV => run_notF rfl rfl) hS ?_; (try simp only [Act.put, lyy])
      refine qad 15 rfl rfl (by kernel_rfl) (by kernel_rfl) (by kernel_rfl) (fun _ _ _ h => h) rfl (fun V hV => qa8 (b := false) (v := .bool true) rfl rfl rfl) hS ?_; (try simp only [Act.put, lyy])
      refine qa2 (by kernel_rfl) ?_ _; refine NoPanic.normal ?_
      go_upto_region 3 with fail; refine wp_region_lit ?_
      refine qaa (qcc (ps := []) rfl rfl KE.out) rfl ?_; (try simp only [Act.put, lyy])
      refine qag (qap (vs := pkC z) rfl (szR (qbq lz) (by kernel_rfl)) rfl rfl (One.all (pkC_one lz)) ((E.out.get (i := 0) rfl).thereM (by have q1 : (pkC z).length = 33 := (qbq lz); have q2 : (enR ((.int .i64 0)) (z8 32)).length = 33 := (qbk (qbb 32)); omega))) rfl rfl ?_
      replace E := Lib.hid (E.out.put 0 rfl (m := pkC z) ((show (pkC z).length = 33 from (qbq lz)).trans (show (enR ((.int .i64 0)) (z8 32)).length = 33 from (qbk (qbb 32))).symm))
      generalize a9.setCells g6 0 (pkC z) = a10 at *
      replace E := Lib.hid (show Ev _ [(g6, pkC z), (g4, lsR (.int .i64 n.acc) (.int .i64 n.ver) (n.ident.map b8) (.slice ar n.devs.length cr) (n.sig.map b8)), (g2, lsR (.int .i64 m.acc) (.int .i64 m.ver) (m.ident.map b8) (.slice a0 m.devs.length c0) (m.sig.map b8))] _ _ _ a10 from E.out)
      refine qaa (qaf (v := .bool false) rfl rfl) rfl ?_; (try simp only [Act.put, lyy])
      refine qab ?_
      go_wp2_with fail
      exact bodyPost_ret (v := .tuple #[.agg (pkC z).toArray, .bool false]) (qbu Tryd.results14 rfl Tryd.underlying34 rfl (szR (qbq lz) (by kernel_rfl)) (E.out.get (i := 0) rfl).range) rfl ⟨rfl, E.out.bl⟩
    | true =>
      have hB : adB m.devs n.devs = true := by unfold adB; rw [hEq, decide_eq_true hlen]; rfl
      have hk : m.devs.length < n.devs.length := by omega
      have HP : Hid (adP m.devs n.devs = n.devs[m.devs.length]) := Lib.hid (by unfold adP; rw [hB, List.getD_eq_getElem?_getD, List.getElem?_eq_getElem hk]; rfl)
      rw [HP.out, hB]
      have hkl := HDN.out _ (List.getElem_mem hk)
      have HA : Hid (∀ V, SlR 33 pkAt n.devs ar cr V → ∃ g f, ar = some ⟨g, f, none⟩ ∧ g < V.heap.size ∧ V.rangeAt g (f + m.devs.length * 33) (pkC n.devs[m.devs.length])) := Lib.hid fun V hV => pk_at hV hk
      clear HP
      generalize n.devs[m.devs.length] = q at *
      rw [hEq] at CE
      go_enter Tryd.func14, Tryd.ntmps14
      go_upto_region 0 with fail; refine wp_region_lit ?_
      refine qaa (qay (vs := lsR (.int .i64 m.acc) (.int .i64 m.ver) (m.ident.map b8) (.slice a0 m.devs.length c0) (m.sig.map b8)) rfl rfl) rfl ?_; (try simp only [Act.put, lyy])
      replace E := Lib.hid (E.out.new (lsR (.int .i64 m.acc) (.int .i64 m.ver) (m.ident.map b8) (.slice a0 m.devs.length c0) (m.sig.map b8)) 29)
      generalize w.alloc (.cells (lsR (.int .i64 m.acc) (.int .i64 m.ver) (m.ident.map b8) (.slice a0 m.devs.length c0) (m.sig.map b8)).toArray 29) = a1 at *
      generalize w.heap.size = g2 at *
      refine qaa (qay (vs := lsR (.int .i64 n.acc) (.int .i64 n.ver) (n.ident.map b8) (.slice ar n.devs.length cr) (n.sig.map b8)) rfl rfl) rfl ?_; (try simp only [Act.put, lyy])
      replace E := Lib.hid (E.out.new (lsR (.int .i64 n.acc) (.int .i64 n.ver) (n.ident.map b8) (.slice ar n.devs.length cr) (n.sig.map b8)) 29)
      generalize a1.alloc (.cells (lsR (.int .i64 n.acc) (.int .i64 n.ver) (n.ident.map b8) (.slice ar n.devs.length cr) (n.sig.map b8)).toArray 29) = a3 at *
      generalize a1.heap.size = g4 at *
      refine qaa (qas (vs := enR ((.int .i64 0)) (z8 32)) rfl (by kernel_rfl)) rfl ?_; (try simp only [Act.put, lyy])
      replace E := Lib.hid (E.out.new (enR ((.int .i64 0)) (z8 32)) 34)
      generalize a3.alloc (.cells (enR ((.int .i64 0)) (z8 32)).toArray 34) = a5 at *
      generalize a3.heap.size = g6 at *
      refine qaa (qaf (v := .bool false) rfl rfl) rfl ?_; (try simp only [Act.put, lyy])
      refine qab ?_
      go_upto_region 1 with fail; refine wp_region_lit ?_
      refine qaa (qar (s := 0) (k := 34) rfl Tryd.underlying29 rfl (by kernel_rfl) rfl rfl) rfl ?_; (try simp only [Act.put, lyy])
      refine qaa (qa9 rfl Tryd.underlying25 rfl rfl ((E.out.get (i := 2) rfl).c 34 _ (qau (by rw [List.length_map, k1])))) rfl ?_; (try simp only [Act.put, lyy])
      refine qaa (qbg rfl Tryd.underlying25 rfl) rfl ?_; (try simp only [Act.put, lyy])
      refine qaa (qaf (v := .int .i64 ((m.devs.length : Nat) : Int)) rfl rfl) rfl ?_; (try simp only [Act.put, lyy])
      refine qab ?_
      go_upto_region 2 with fail
      refine wp_region_noPanic ?_; refine qa0 (S := fun _ V => Below a5.heap.size a5 V) (by kernel_rfl) ((Below.refl _ _).drew) (fun hS => ?_)
      replace E := Lib.hid (E.out.below hS)
      generalize a5.drew = a7 at *
      refine qbf (S' := fun _ V => Below a7.heap.size a7 V) (fun _ V h => hS.trans (h.mono hS.size)) _ _ _ _ ?_
      replace hS := Below.refl a7.heap.size a7
      refine qad 0 rfl rfl (by kernel_rfl) (by kernel_rfl) (by kernel_rfl) (fun _ _ _ h => h) rfl (fun V hV => qar (s := 0) (k := 34) rfl Tryd.underlying29 rfl (by kernel_rfl) rfl rfl) hS ?_; (try simp only [Act.put, lyy])
      refine qad 1 rfl rfl (by kernel_rfl) (by kernel_rfl) (by kernel_rfl) (fun _ _ _ h => h) rfl (fun V hV => qa9 rfl Tryd.underlying25 rfl rfl (((E.out.below hV).get (i := 1) rfl).c 34 _ (qau (by rw [List.length_map, k3])))) hS ?_; (try simp only [Act.put, lyy])
      refine qad 2 rfl rfl (by kernel_rfl) (by kernel_rfl) (by kernel_rfl) (fun _ _ _ h => h) rfl (fun V hV => qbg rfl Tryd.underlying25 rfl) hS ?_; (try simp only [Act.put, lyy])
      refine qad 3 rfl rfl (by kernel_rfl) (by kernel_rfl) (by kernel_rfl) (fun _ _ _ h => h) rfl (fun V hV => qae (v := .int .i64 ((m.devs.length : Nat) : Int)) rfl rfl) hS ?_; (try simp only [Act.put, lyy])
      refine qad 4 rfl rfl (by kernel_rfl) (by kernel_rfl) (by kernel_rfl) (fun _ _ _ h => h) rfl (fun V hV => qb9 (a := m.devs.length) (b := 1) rfl rfl rfl (by omega)) hS ?_; (try simp only [Act.put, lyy])
      refine qad 5 rfl rfl (by kernel_rfl) (by kernel_rfl) (by kernel_rfl) (fun _ _ _ h => h) rfl (fun V hV => run_neqb (c := false) rfl rfl rfl (by simp; omega)) hS ?_; (try simp only [Act.put, lyy])
      refine qad 6 rfl rfl (by kernel_rfl) (by kernel_rfl) (by kernel_rfl) (fun _ _ _ h => h) rfl (fun V hV => qae (v := .bool false) rfl rfl) hS ?_; (try simp only [Act.put, lyy])
      refine qad 7 rfl rfl (by kernel_rfl) (by kernel_rfl) (by kernel_rfl) (fun _ _ _ h => h) rfl (fun V hV => qar (s := 0) (k := 34) rfl Tryd.underlying29 rfl (by kernel_rfl) rfl rfl) hS ?_; (try simp only [Act.put, lyy])
      refine qad 8 rfl rfl (by kernel_rfl) (by kernel_rfl) (by kernel_rfl) (fun _ _ _ h => h) rfl (fun V hV => qa9 rfl Tryd.underlying25 rfl rfl (((E.out.below hV).get (i := 2) rfl).c 34 _ (qau (by rw [List.length_map, k1])))) hS ?_; (try simp only [Act.put, lyy])
      refine qad 9 rfl rfl (by kernel_rfl) (by kernel_rfl) (by kernel_rfl) (fun _ _ _ h => h) rfl (fun V hV => qar (s := 0) (k := 34) rfl Tryd.underlying29 rfl (by kernel_rfl) rfl rfl) hS ?_; (try simp only [Act.put, lyy])
      refine qad 10 rfl rfl (by kernel_rfl) (by kernel_rfl) (by kernel_rfl) (fun _ _ _ h => h) rfl (fun V hV => qa9 rfl Tryd.underlying25 rfl rfl (((E.out.below hV).get (i := 1) rfl).c 34 _ (qau (by rw [List.length_map, k3])))) hS ?_; (try simp only [Act.put, lyy])
      refine qad 11 rfl rfl (by kernel_rfl) (by kernel_rfl) (by kernel_rfl) (fun _ _ _ h => h) rfl (fun V hV => qae (v := .int .i64 ((m.devs.length : Nat) : Int)) rfl rfl) hS ?_; (try simp only [Act.put, lyy])
      refine qad 12 rfl rfl (by kernel_rfl) (by kernel_rfl) (by kernel_rfl) (fun _ _ _ h => h) rfl (fun V hV => run_sloZ (z := 33) rfl Tryd.underlying25 (by kernel_rfl) rfl rfl (by have := (E.out.below hV).f.2.cap; omega)) hS ?_; (try simp only [Act.put, lyy])
      refine qbe 13 (by kernel_rfl) rfl rfl rfl (qal enters_eqs rfl rfl rfl rfl) ((qbj (CE.out hlen _ E.out.froF))) (fun v w h => hS.trans ((h.2).mono hS.size)) (fun v8 a9 hR => ?_); (try simp only [Act.put, lyy])
      obtain ⟨rfl, hb9⟩ := hR
      replace hS := hS.trans (hb9.mono hS.size)
      replace E := Lib.hid (E.out.below hb9)
      clear hb9
      refine qbf (S' := fun _ V => Below a9.heap.size a9 V) (fun _ V h => hS.trans (h.mono hS.size)) _ _ _ _ ?_
      replace hS := Below.refl a9.heap.size a9
      refine qad 14 rfl rfl (by kernel_rfl) (by kernel_rfl) (by kernel_rfl) (fun _ _ _ h => h) rfl (fun V hV => qdf rfl rfl) hS ?_; (try simp only [Act.put, lyy])
      refine qad 15 rfl rfl (by kernel_rfl) (by kernel_rfl) (by kernel_rfl) (fun _ _ _ h => h) rfl (fun V hV => qa8 (b := false) (v := .bool false) rfl rfl rfl) hS ?_; (try simp only [Act.put, lyy])
      refine qa2 (by kernel_rfl) ?_ _; refine NoPanic.normal ?_
      obtain ⟨g, fo, rfl, hg, hr⟩ := HA.out _ E.out.f.2
      have HR := Lib.hid hr
      clear hr HA
      go_upto_region 4 with fail; refine wp_region_lit ?_
      refine qaa (qar (s := 0) (k := 34) rfl Tryd.underlying29 rfl (by kernel_rfl) rfl rfl) rfl ?_; (try simp only [Act.put, lyy])
      refine qaa (qa9 rfl Tryd.underlying25 rfl rfl ((E.out.get (i := 1) rfl).c 34 _ (qau (by rw [List.length_map, k3])))) rfl ?_; (try simp only [Act.put, lyy])
      refine qaa (qae (v := .int .i64 ((m.devs.length : Nat) : Int)) rfl rfl) rfl ?_; (try simp only [Act.put, lyy])
      refine qaa (qdg (z := 33) rfl Tryd.underlying25 (by kernel_rfl) rfl rfl hk) rfl ?_; (try simp only [Act.put, lyy])
      refine qaa (qai (vs := pkC q) rfl Tryd.underlying34 rfl (szR (qbq hkl) (by kernel_rfl)) rfl HR.out) rfl ?_; (try simp only [Act.put, lyy])
      refine qag (qap (vs := pkC q) rfl (szR (qbq hkl) (by kernel_rfl)) rfl rfl (One.all (pkC_one hkl)) ((E.out.get (i := 0) rfl).thereM (by have q1 : (pkC q).length = 33 := (qbq hkl); have q2 : (enR ((.int .i64 0)) (z8 32)).length = 33 := (qbk (qbb 32)); omega))) rfl rfl ?_
      replace E := Lib.hid (E.out.put 0 rfl (m := pkC q) ((show (pkC q).length = 33 from (qbq hkl)).trans (show (enR ((.int .i64 0)) (z8 32)).length = 33 from (qbk (qbb 32))).symm))
      generalize a9.setCells g6 0 (pkC q) = a10 at *
      replace E := Lib.hid (show Ev _ [(g6, pkC q), (g4, lsR (.int .i64 n.acc) (.int .i64 n.ver) (n.ident.map b8) (.slice (some ⟨g, fo, none⟩) n.devs.length cr) (n.sig.map b8)), (g2, lsR (.int .i64 m.acc) (.int .i64 m.ver) (m.ident.map b8) (.slice a0 m.devs.length c0) (m.sig.map b8))] _ _ _ a10 from E.out)
      refine qaa (qaf (v := .bool true) rfl rfl) rfl ?_; (try simp only [Act.put, lyy])
      refine qab ?_
      go_wp2_with fail
      exact bodyPost_ret (v := .tuple #[.agg (pkC q).toArray, .bool true]) (qbu Tryd.results14 rfl Tryd.underlying34 rfl (szR (qbq hkl) (by kernel_rfl)) (E.out.get (i := 0) rfl).range) rfl ⟨rfl, E.out.bl⟩
  · have hB : adB m.devs n.devs = false := by unfold adB; rw [decide_eq_false hlen]; rfl
    have HP : Hid (adP m.devs n.devs = pk0) := Lib.hid (by unfold adP; rw [hB]; rfl)
    rw [HP.out, hB]
    clear HP
    generalize pk0 = z at *
    go_enter Tryd.func14, Tryd.ntmps14
    go_upto_region 0 with fail; refine wp_region_lit ?_
    refine qaa (qay (vs := lsR (.int .i64 m.acc) (.int .i64 m.ver) (m.ident.map b8) (.slice a0 m.devs.length c0) (m.sig.map b8)) rfl rfl) rfl ?_; (try simp only [Act.put, lyy])
    replace E := Lib.hid (E.out.new (lsR (.int .i64 m.acc) (.int .i64 m.ver) (m.ident.map b8) (.slice a0 m.devs.length c0) (m.sig.map b8)) 29)
    generalize w.alloc (.cells (lsR (.int .i64 m.acc) (.int .i64 m.ver) (m.ident.map b8) (.slice a0 m.devs.length c0) (m.sig.map b8)).toArray 29) = a1 at *
    generalize w.heap.size = g2 at *
    refine qaa (qay (vs := lsR (.int .i64 n.acc) (.int .i64 n.ver) (n.ident.map b8) (.slice ar n.devs.length cr) (n.sig.map b8)) rfl rfl) rfl ?_; (try simp only [Act.put, lyy])
    replace E := Lib.hid (E.out.new (lsR (.int .i64 n.acc) (.int .i64 n.ver) (n.ident.map b8) (.slice ar n.devs.length cr) (n.sig.map b8)) 29)
    generalize a1.alloc (.cells (lsR (.int .i64 n.acc) (.int .i64 n.ver) (n.ident.map b8) (.slice ar n.devs.length cr) (n.sig.map b8)).toArray 29) = a3 at *
    generalize a1.heap.size = g4 at *
    refine qaa (qas (vs := enR ((.int .i64 0)) (z8 32)) rfl (by kernel_rfl)) rfl ?_; (try simp only [Act.put, lyy])
    replace E := Lib.hid (E.out.new (enR ((.int .i64 0)) (z8 32)) 34)
    generalize a3.alloc (.cells (enR ((.int .i64 0)) (z8 32)).toArray 34) = a5 at *
    generalize a3.heap.size = g6 at *
    refine qaa (qaf (v := .bool false) rfl rfl) rfl ?_; (try simp only [Act.put, lyy])
    refine qab ?_
    go_upto_region 1 with fail; refine wp_region_lit ?_
    refine qaa (qar (s := 0) (k := 34) rfl Tryd.underlying29 rfl (by kernel_rfl) rfl rfl) rfl ?_; (try simp only [Act.put, lyy])
    refine qaa (qa9 rfl Tryd.underlying25 rfl rfl ((E.out.get (i := 2) rfl).c 34 _ (qau (by rw [List.length_map, k1])))) rfl ?_; (try simp only [Act.put, lyy])
    refine qaa (qbg rfl Tryd.underlying25 rfl) rfl ?_; (try simp only [Act.put, lyy])
    refine qaa (qaf (v := .int .i64 ((m.devs.length : Nat) : Int)) rfl rfl) rfl ?_; (try simp only [Act.put, lyy])
    refine qab ?_
    go_upto_region 2 with fail
    refine wp_region_noPanic ?_; refine qa0 (S := fun _ V => Below a5.heap.size a5 V) (by kernel_rfl) ((Below.refl _ _).drew) (fun hS => ?_)
    replace E := Lib.hid (E.out.below hS)
    generalize a5.drew = a7 at *
    refine qbf (S' := fun _ V => Below a7.heap.size a7 V) (fun _ V h => hS.trans (h.mono hS.size)) _ _ _ _ ?_
    replace hS := Below.refl a7.heap.size a7
    refine qad 0 rfl rfl (by kernel_rfl) (by kernel_rfl) (by kernel_rfl) (fun _ _ _ h => h) rfl (fun V hV => qar (s := 0) (k := 34) rfl Tryd.underlying29 rfl (by kernel_rfl) rfl rfl) hS ?_; (try simp only [Act.put, lyy])
    refine qad 1 rfl rfl (by kernel_rfl) (by kernel_rfl) (by kernel_rfl) (fun _ _ _ h => h) rfl (fun V hV => qa9 rfl Tryd.underlying25 rfl rfl (((E.out.below hV).get (i := 1) rfl).c 34 _ (qau (by rw [List.length_map, k3])))) hS ?_; (try simp only [Act.put, lyy])
    refine qad 2 rfl rfl (by kernel_rfl) (by kernel_rfl) (by kernel_rfl) (fun _ _ _ h => h) rfl (fun V hV => qbg rfl Tryd.underlying25 rfl) hS ?_; (try simp only [Act.put, lyy])
    refine qad 3 rfl rfl (by kernel_rfl) (by kernel_rfl) (by kernel_rfl) (fun _ _ _ h => h) rfl (fun V hV => qae (v := .int .i64 ((m.devs.length : Nat) : Int)) rfl rfl) hS ?_; (try simp only [Act.put, lyy])
    refine qad 4 rfl rfl (by kernel_rfl) (by kernel_rfl) (by kernel_rfl) (fun _ _ _ h => h) rfl (fun V hV => qb9 (a := m.devs.length) (b := 1) rfl rfl rfl (by omega)) hS ?_; (try simp only [Act.put, lyy])
    refine qad 5 rfl rfl (by kernel_rfl) (by kernel_rfl) (by kernel_rfl) (fun _ _ _ h => h) rfl (fun V hV => run_neqb (c := true) rfl rfl rfl (by simp; omega)) hS ?_; (try simp only [Act.put, lyy])
    refine qad 6 rfl rfl (by kernel_rfl) (by kernel_rfl) (by kernel_rfl) (fun _ _ _ h => h) rfl (fun V hV => qae (v := .bool true) rfl rfl) hS ?_; (try simp only [Act.put, lyy])
    refine qaw 7 rfl rfl (by kernel_rfl) (by kernel_rfl) (by kernel_rfl) (fun _ _ _ h => h) rfl hS ?_; (try simp only [Act.put, lyy])
    refine qaw 8 rfl rfl (by kernel_rfl) (by kernel_rfl) (by kernel_rfl) (fun _ _ _ h => h) rfl hS ?_; (try simp only [Act.put, lyy])
    refine qaw 9 rfl rfl (by kernel_rfl) (by kernel_rfl) (by kernel_rfl) (fun _ _ _ h => h) rfl hS ?_; (try simp only [Act.put, lyy])
    refine qaw 10 rfl rfl (by kernel_rfl) (by kernel_rfl) (by kernel_rfl) (fun _ _ _ h => h) rfl hS ?_; (try simp only [Act.put, lyy])
    refine qaw 11 rfl rfl (by kernel_rfl) (by kernel_rfl) (by kernel_rfl) (fun _ _ _ h => h) rfl hS ?_; (try simp only [Act.put, lyy])
    refine qaw 12 rfl rfl (by kernel_rfl) (by kernel_rfl) (by kernel_rfl) (fun _ _ _ h => h) rfl hS ?_; (try simp only [Act.put, lyy])
    refine qaw 13 rfl rfl (by kernel_rfl) (by kernel_rfl) (by kernel_rfl) (fun _ _ _ h => h) rfl hS ?_; (try simp only [Act.put, lyy])
    refine qaw 14 rfl rfl (by kernel_rfl) (by kernel_rfl) (by kernel_rfl) (fun _ _ _ h => h) rfl hS ?_; (try simp only [Act.put, lyy])
    refine qad 15 rfl rfl (by kernel_rfl) (by kernel_rfl) (by kernel_rfl) (fun _ _ _ h => h) rfl (fun V hV => qa8 (b := true) (v := .bool true) rfl rfl rfl) hS ?_; (try simp only [Act.put, lyy])
    refine qa2 (by kernel_rfl) ?_ _; refine NoPanic.normal ?_
    go_upto_region 3 with fail; refine wp_region_lit ?_
    refine qaa (qcc (ps := []) rfl rfl KE.out) rfl ?_; (try simp only [Act.put, lyy])
    refine qag (qap (vs := pkC z) rfl (szR (qbq lz) (by kernel_rfl)) rfl rfl (One.all (pkC_one lz)) ((E.out.get (i := 0) rfl).thereM (by have q1 : (pkC z).length = 33 := (qbq lz); have q2 : (enR ((.int .i64 0)) (z8 32)).length = 33 := (qbk (qbb 32)); omega))) rfl rfl ?_
    replace E := Lib.hid (E.out.put 0 rfl (m := pkC z) ((show (pkC z).length = 33 from (qbq lz)).trans (show (enR ((.int .i64 0)) (z8 32)).length = 33 from (qbk (qbb 32))).symm))
    generalize a7.setCells g6 0 (pkC z) = a8 at *
    replace E := Lib.hid (show Ev _ [(g6, pkC z), (g4, lsR (.int .i64 n.acc) (.int .i64 n.ver) (n.ident.map b8) (.slice ar n.devs.length cr) (n.sig.map b8)), (g2, lsR (.int .i64 m.acc) (.int .i64 m.ver) (m.ident.map b8) (.slice a0 m.devs.length c0) (m.sig.map b8))] _ _ _ a8 from E.out)
    refine qaa (qaf (v := .bool false) rfl rfl) rfl ?_; (try simp only [Act.put, lyy])
    refine qab ?_
    go_wp2_with fail
    exact bodyPost_ret (v := .tuple #[.agg (pkC z).toArray, .bool false]) (qbu Tryd.results14 rfl Tryd.underlying34 rfl (szR (qbq lz) (by kernel_rfl)) (E.out.get (i := 0) rfl).range) rfl ⟨rfl, E.out.bl⟩
theorem enters_removed : Enters 15 := qan Tryd.func15 (by kernel_rfl) rfl
set_option maxHeartbeats 8000000 in
theorem removed_any (m n : MLs) (X Y : List Value) (w : World) (hm : m.Ok) (hn : n.Ok) (hX : Fro 0 (lsAt m X) w) (hY : Fro 0 (lsAt n Y) w) : Calls Tryd.prog 15 #[.agg X.toArray, .agg Y.toArray] w fun e w' => e = .returned (.tuple #[.agg (pkC (rmP m.devs n.devs)).toArray, .bool (rmB m.devs n.devs)]) ∧ Below w.heap.size w w' := by
  obtain ⟨a0, c0, rfl, HF⟩ := lsAt_fix hm hX
  obtain ⟨ar, cr, rfl, HF1⟩ := lsAt_fix hn hY
  have k1 := hm.ident
  have k2 := hm.sig
  have k3 := hn.ident
  have k4 := hn.sig
  have HDV := Lib.hid hm.devs
  have HDN := Lib.hid hn.devs
  have hmany := hm.many
  have hmany1 := hn.many
  have E := Lib.hid (Ev.start (w := w) (F := fun V => SlR 33 pkAt m.devs a0 c0 V ∧ SlR 33 pkAt n.devs ar cr V) fun V hV => ⟨HF V hV, HF1 V hV⟩)
  have KE := Lib.hid pk0_built
  have lz := pk0_len
  have hpl := pfx_le m.devs n.devs
  have CP : Hid (∀ u : World, Fro 0 (fun V => SlR 33 pkAt m.devs a0 c0 V ∧ SlR 33 pkAt n.devs ar cr V) u → Calls Tryd.prog 29 #[.slice a0 m.devs.length c0, .slice ar n.devs.length cr] u fun e w' => e = .returned (.int .i64 ((pfx m.devs n.devs : Nat) : Int)) ∧ Below u.heap.size u w') := Lib.hid fun u h => part_any a0 c0 m.devs ar cr n.devs u (fun V hV => (h V hV).1) (fun V hV => (h V hV).2) hm.devs hn.devs hm.many
  have CE : Hid (m.devs.length = n.devs.length + 1 → ∀ u : World, Fro 0 (fun V => SlR 33 pkAt m.devs a0 c0 V ∧ SlR 33 pkAt n.devs ar cr V) u → Calls Tryd.prog 28 #[.slice (cutA 33 a0 c0 (pfx m.devs n.devs + 1)) (m.devs.length - (pfx m.devs n.devs + 1)) (c0 - (pfx m.devs n.devs + 1)), .slice (cutA 33 ar cr (pfx m.devs n.devs)) (n.devs.length - pfx m.devs n.devs) (cr - pfx m.devs n.devs)] u fun e w' => e = .returned (.bool (eqPs (m.devs.drop (pfx m.devs n.devs + 1)) (n.devs.drop (pfx m.devs n.devs)))) ∧ Below u.heap.size u w') := Lib.hid fun hq u h => by
    have h2 := eqs_any (cutA 33 a0 c0 (pfx m.devs n.devs + 1)) (c0 - (pfx m.devs n.devs + 1)) (m.devs.drop (pfx m.devs n.devs + 1)) (cutA 33 ar cr (pfx m.devs n.devs)) (cr - pfx m.devs n.devs) (n.devs.drop (pfx m.devs n.devs)) u (fun V hV => slR_drop (h V hV).1 (by omega)) (fun V hV => slR_drop (h V hV).2 hpl.2) (fun p hp => hm.devs p (List.mem_of_mem_drop hp)) (fun p hp => hn.devs p (List.mem_of_mem_drop hp)) (by rw [List.length_drop]; have := hm.many; omega)
    rwa [List.length_drop, List.length_drop] at h2
  clear hX hY HF HF1 hm hn
  by_cases hlen : m.devs.length = n.devs.length + 1
  · cases hEq : eqPs (m.devs.drop (pfx m.devs n.devs + 1)) (n.devs.drop (pfx m.devs n.devs)) with
    | false =>
      have hB : rmB m.devs n.devs = false := by unfold rmB; rw [hEq, decide_eq_true hlen]; rfl
      have HP : Hid (rmP m.devs n.devs = pk0) := Lib.hid (by unfold rmP; rw [hB]; rfl)
      rw [HP.out, hB]
      clear HP
      generalize pk0 = z at *
      rw [hEq] at CE
      clear hB hEq
      generalize pfx m.devs n.devs = k at *
      go_enter Tryd.func15, Tryd.ntmps15
      go_upto_region 0 with fail; refine wp_region_lit ?_
      refine qaa (qay (vs := lsR (.int .i64 m.acc) (.int .i64 m.ver) (m.ident.map b8) (.slice a0 m.devs.length c0) (m.sig.map b8)) rfl rfl) rfl ?_; (try simp only [Act.put, lyy])
      replace E := Lib.hid (E.out.new (lsR (.int .i64 m.acc) (.int .i64 m.ver) (m.ident.map b8) (.slice a0 m.devs.length c0) (m.sig.map b8)) 29)
      generalize w.alloc (.cells (lsR (.int .i64 m.acc) (.int .i64 m.ver) (m.ident.map b8) (.slice a0 m.devs.length c0) (m.sig.map b8)).toArray 29) = a1 at *
      generalize w.heap.size = g2 at *
      refine qaa (qay (vs := lsR (.int .i64 n.acc) (.int .i64 n.ver) (n.ident.map b8) (.slice ar n.devs.length cr) (n.sig.map b8)) rfl rfl) rfl ?_; (try simp only [Act.put, lyy])
      replace E := Lib.hid (E.out.new (lsR (.int .i64 n.acc) (.int .i64 n.ver) (n.ident.map b8) (.slice ar n.devs.length cr) (n.sig.map b8)) 29)
      generalize a1.alloc (.cells (lsR (.int .i64 n.acc) (.int .i64 n.ver) (n.ident.map b8) (.slice ar n.devs.length cr) (n.sig.map b8)).toArray 29) = a3 at *
      generalize a1.heap.size = g4 at *
      refine qaa (qas (vs := enR ((.int .i64 0)) (z8 32)) rfl (by kernel_rfl)) rfl ?_; (try simp only [Act.put, lyy])
      replace E := Lib.hid (E.out.new (enR ((.int .i64 0)) (z8 32)) 34)
      generalize a3.alloc (.cells (enR ((.int .i64 0)) (z8 32)).toArray 34) = a5 at *
      generalize a3.heap.size = g6 at *
      refine qaa (qaf (v := .bool false) rfl rfl) rfl ?_; (try simp only [Act.put, lyy])
      refine qab ?_
      go_upto_region 1 with fail; refine wp_region_lit ?_
      refine qaa (qar (s := 0) (k := 34) rfl Tryd.underlying29 rfl (by kernel_rfl) rfl rfl) rfl ?_; (try simp only [Act.put, lyy])
      refine qaa (qa9 rfl Tryd.underlying25 rfl rfl ((E.out.get (i := 2) rfl).c 34 _ (qau (by rw [List.length_map, k1])))) rfl ?_; (try simp only [Act.put, lyy])
      refine qaa (qbg rfl Tryd.underlying25 rfl) rfl ?_; (try simp only [Act.put, lyy])
      refine qaa (qar (s := 0) (k := 34) rfl Tryd.underlying29 rfl (by kernel_rfl) rfl rfl) rfl ?_; (try simp only [Act.put, lyy])
      refine qaa (qa9 rfl Tryd.underlying25 rfl rfl ((E.out.get (i := 1) rfl).c 34 _ (qau (by rw [List.length_map, k3])))) rfl ?_; (try simp only [Act.put, lyy])
      refine qaa (qbg rfl Tryd.underlying25 rfl) rfl ?_; (try simp only [Act.put, lyy])
      refine qaa (qb9 (a := n.devs.length) (b := 1) rfl rfl rfl (by omega)) rfl ?_; (try simp only [Act.put, lyy])
      refine qaa (run_neqb (c := false) rfl rfl rfl (by simp; omega)) rfl ?_; (try simp only [Act.put, lyy])
      refine qab ?_
      go_upto_region 3 with fail; refine wp_region_lit ?_
      refine qaa (qar (s := 0) (k := 34) rfl Tryd.underlying29 rfl (by kernel_rfl) rfl rfl) rfl ?_; (try simp only [Act.put, lyy])
      refine qaa (qa9 rfl Tryd.underlying25 rfl rfl ((E.out.get (i := 2) rfl).c 34 _ (qau (by rw [List.length_map, k1])))) rfl ?_; (try simp only [Act.put, lyy])
      refine qaa (qar (s := 0) (k := 34) rfl Tryd.underlying29 rfl (by kernel_rfl) rfl rfl) rfl ?_; (try simp only [Act.put, lyy])
      refine qaa (qa9 rfl Tryd.underlying25 rfl rfl ((E.out.get (i := 1) rfl).c 34 _ (qau (by rw [List.length_map, k3])))) rfl ?_; (try simp only [Act.put, lyy])
      refine qao (qal enters_part rfl rfl rfl rfl) rfl (CP.out _ E.out.froF) (fun a7 hb => ?_); (try simp only [Act.put, lyy])
      replace E := Lib.hid (E.out.below hb)
      clear hb
      refine qaa (qaf (v := .int .i64 ((k : Nat) : Int)) rfl rfl) rfl ?_; (try simp only [Act.put, lyy])
      refine qab ?_
      go_upto_region 4 with fail
      refine wp_region_noPanic ?_; refine qa0 (S := fun _ V => Below a7.heap.size a7 V) (by kernel_rfl) ((Below.refl _ _).drew) (fun hS => ?_)
      replace E := Lib.hid (E.out.below hS)
      generalize a7.drew = a8 at *
      refine qbf (S' := fun _ V => Below a8.heap.size a8 V) (fun _ V h => hS.trans (h.mono hS.size)) _ _ _ _ ?_
      replace hS := Below.refl a8.heap.size a8
      refine qad 0 rfl rfl (by kernel_rfl) (by kernel_rfl) (by kernel_rfl) (fun _ _ _ h => h) rfl (fun V hV => qar (s := 0) (k := 34) rfl Tryd.underlying29 rfl (by kernel_rfl) rfl rfl) hS ?_; (try simp only [Act.put, lyy])
      refine qad 1 rfl rfl (by kernel_rfl) (by kernel_rfl) (by kernel_rfl) (fun _ _ _ h => h) rfl (fun V hV => qa9 rfl Tryd.underlying25 rfl rfl (((E.out.below hV).get (i := 2) rfl).c 34 _ (qau (by rw [List.length_map, k1])))) hS ?_; (try simp only [Act.put, lyy])
      refine qad 2 rfl rfl (by kernel_rfl) (by kernel_rfl) (by kernel_rfl) (fun _ _ _ h => h) rfl (fun V hV => qae (v := .int .i64 ((k : Nat) : Int)) rfl rfl) hS ?_; (try simp only [Act.put, lyy])
      refine qad 3 rfl rfl (by kernel_rfl) (by kernel_rfl) (by kernel_rfl) (fun _ _ _ h => h) rfl (fun V hV => qb9 (a := k) (b := 1) rfl rfl rfl (by omega)) hS ?_; (try simp only [Act.put, lyy])
      refine qad 4 rfl rfl (by kernel_rfl) (by kernel_rfl) (by kernel_rfl) (fun _ _ _ h => h) rfl (fun V hV => run_sllZ (z := 33) rfl Tryd.underlying25 (by kernel_rfl) rfl rfl (by omega)) hS ?_; (try simp only [Act.put, lyy])
      refine qad 5 rfl rfl (by kernel_rfl) (by kernel_rfl) (by kernel_rfl) (fun _ _ _ h => h) rfl (fun V hV => qar (s := 0) (k := 34) rfl Tryd.underlying29 rfl (by kernel_rfl) rfl rfl) hS ?_; (try simp only [Act.put, lyy])
      refine qad 6 rfl rfl (by kernel_rfl) (by kernel_rfl) (by kernel_rfl) (fun _ _ _ h => h) rfl (fun V hV => qa9 rfl Tryd.underlying25 rfl rfl (((E.out.below hV).get (i := 1) rfl).c 34 _ (qau (by rw [List.length_map, k3])))) hS ?_; (try simp only [Act.put, lyy])
      refine qad 7 rfl rfl (by kernel_rfl) (by kernel_rfl) (by kernel_rfl) (fun _ _ _ h => h) rfl (fun V hV => qae (v := .int .i64 ((k : Nat) : Int)) rfl rfl) hS ?_; (try simp only [Act.put, lyy])
      refine qad 8 rfl rfl (by kernel_rfl) (by kernel_rfl) (by kernel_rfl) (fun _ _ _ h => h) rfl (fun V hV => run_sllZ (z := 33) rfl Tryd.underlying25 (by kernel_rfl) rfl rfl (by omega)) hS ?_; (try simp only [Act.put, lyy])
      refine qbe 9 (by kernel_rfl) rfl rfl rfl (qal enters_eqs rfl rfl rfl rfl) ((qbj (CE.out hlen _ E.out.froF))) (fun v w h => hS.trans ((h.2).mono hS.size)) (fun v9 a10 hR => ?_); (try simp only [Act.put, lyy])
      obtain ⟨rfl, hb9⟩ := hR
      replace hS := hS.trans (hb9.mono hS.size)
      replace E := Lib.hid (E.out.below hb9)
      clear hb9
      refine qbf (S' := fun _ V => Below a10.heap.size a10 V) (fun _ V h => hS.trans (h.mono hS.size)) _ _ _ _ ?_
      replace hS := Below.refl a10.heap.size a10
      refine qad 10 rfl rfl (by kernel_rfl) (by kernel_rfl) (by kernel_rfl) (fun _ _ _ h => h) rfl (fun V hV => run_notF rfl rfl) hS ?_; (try simp only [Act.put, lyy])
      refine qa2 (by kernel_rfl) ?_ _; refine NoPanic.normal ?_
      go_upto_region 5 with fail; refine wp_region_lit ?_
      refine qaa (qcc (ps := []) rfl rfl KE.out) rfl ?_; (try simp only [Act.put, lyy])
      refine qag (qap (vs := pkC z) rfl (szR (qbq lz) (by kernel_rfl)) rfl rfl (One.all (pkC_one lz)) ((E.out.get (i := 0) rfl).thereM (by have q1 : (pkC z).length = 33 := (qbq lz); have q2 : (enR ((.int .i64 0)) (z8 32)).length = 33 := (qbk (qbb 32)); omega))) rfl rfl ?_
      replace E := Lib.hid (E.out.put 0 rfl (m := pkC z) ((show (pkC z).length = 33 from (qbq lz)).trans (show (enR ((.int .i64 0)) (z8 32)).length = 33 from (qbk (qbb 32))).symm))
      generalize a10.setCells g6 0 (pkC z) = a11 at *
      replace E := Lib.hid (show Ev _ [(g6, pkC z), (g4, lsR (.int .i64 n.acc) (.int .i64 n.ver) (n.ident.map b8) (.slice ar n.devs.length cr) (n.sig.map b8)), (g2, lsR (.int .i64 m.acc) (.int .i64 m.ver) (m.ident.map b8) (.slice a0 m.devs.length c0) (m.sig.map b8))] _ _ _ a11 from E.out)
      refine qaa (qaf (v := .bool false) rfl rfl) rfl ?_; (try simp only [Act.put, lyy])
      refine qab ?_
      go_wp2_with fail
      exact bodyPost_ret (v := .tuple #[.agg (pkC z).toArray, .bool false]) (qbu Tryd.results15 rfl Tryd.underlying34 rfl (szR (qbq lz) (by kernel_rfl)) (E.out.get (i := 0) rfl).range) rfl ⟨rfl, E.out.bl⟩
    | true =>
      have hB : rmB m.devs n.devs = true := by unfold rmB; rw [hEq, decide_eq_true hlen]; rfl
      have hk : pfx m.devs n.devs < m.devs.length := by omega
      have HP : Hid (rmP m.devs n.devs = m.devs[pfx m.devs n.devs]) := Lib.hid (by unfold rmP; rw [hB, List.getD_eq_getElem?_getD, List.getElem?_eq_getElem hk]; rfl)
      rw [HP.out, hB]
      have hkl := HDV.out _ (List.getElem_mem hk)
      have HA : Hid (∀ V, SlR 33 pkAt m.devs a0 c0 V → ∃ g f, a0 = some ⟨g, f, none⟩ ∧ g < V.heap.size ∧ V.rangeAt g (f + pfx m.devs n.devs * 33) (pkC m.devs[pfx m.devs n.devs])) := Lib.hid fun V hV => pk_at hV hk
      clear HP
      rw [hEq] at CE
      generalize m.devs[pfx m.devs n.devs] = q at *
      clear hB hEq
      generalize pfx m.devs n.devs = k at *
      go_enter Tryd.func15, Tryd.ntmps15
      go_upto_region 0 with fail; refine wp_region_lit ?_
      refine qaa (qay (vs := lsR (.int .i64 m.acc) (.int .i64 m.ver) (m.ident.map b8) (.slice a0 m.devs.length c0) (m.sig.map b8)) rfl rfl) rfl ?_; (try simp only [Act.put, lyy])
      replace E := Lib.hid (E.out.new (lsR (.int .i64 m.acc) (.int .i64 m.ver) (m.ident.map b8) (.slice a0 m.devs.length c0) (m.sig.map b8)) 29)
      generalize w.alloc (.cells (lsR (.int .i64 m.acc) (.int .i64 m.ver) (m.ident.map b8) (.slice a0 m.devs.length c0) (m.sig.map b8)).toArray 29) = a1 at *
      generalize w.heap.size = g2 at *
      refine qaa (qay (vs := lsR (.int .i64 n.acc) (.int .i64 n.ver) (n.ident.map b8) (.slice ar n.devs.length cr) (n.sig.map b8)) rfl rfl) rfl ?_; (try simp only [Act.put, lyy])
      replace E := Lib.hid (E.out.new (lsR (.int .i64 n.acc) (.int .i64 n.ver) (n.ident.map b8) (.slice ar n.devs.length cr) (n.sig.map b8)) 29)
      generalize a1.alloc (.cells (lsR (.int .i64 n.acc) (.int .i64 n.ver) (n.ident.map b8) (.slice ar n.devs.length cr) (n.sig.map b8)).toArray 29) = a3 at *
      generalize a1.heap.size = g4 at *
      refine qaa (qas (vs := enR ((.int .i64 0)) (z8 32)) rfl (by kernel_rfl)) rfl ?_; (try simp only [Act.put, lyy])
      replace E := Lib.hid (E.out.new (enR ((.int .i64 0)) (z8 32)) 34)
      generalize a3.alloc (.cells (enR ((.int .i64 0)) (z8 32)).toArray 34) = a5 at *
      generalize a3.heap.size = g6 at *
      refine qaa (qaf (v := .bool false) rfl rfl) rfl ?_; (try simp only [Act.put, lyy])
      refine qab ?_
      go_upto_region 1 with fail; refine wp_region_lit ?_
      refine qaa (qar (s := 0) (k := 34) rfl Tryd.underlying29 rfl (by kernel_rfl) rfl rfl) rfl ?_; (try simp only [Act.put, lyy])
      refine qaa (qa9 rfl Tryd.underlying25 rfl rfl ((E.out.get (i := 2) rfl).c 34 _ (qau (by rw [List.length_map, k1])))) rfl ?_; (try simp only [Act.put, lyy])
      refine qaa (qbg rfl Tryd.underlying25 rfl) rfl ?_; (try simp only [Act.put, lyy])
      refine qaa (qar (s := 0) (k := 34) rfl Tryd.underlying29 rfl (by kernel_rfl) rfl rfl) rfl ?_; (try simp only [Act.put, lyy])
      refine qaa (qa9 rfl Tryd.underlying25 rfl rfl ((E.out.get (i := 1) rfl).c 34 _ (qau (by rw [List.length_map, k3])))) rfl ?_; (try simp only [Act.put, lyy])
      refine qaa (qbg rfl Tryd.underlying25 rfl) rfl ?_; (try simp only [Act.put, lyy])
      refine qaa (qb9 (a := n.devs.length) (b := 1) rfl rfl rfl (by omega)) rfl ?_; (try simp only [Act.put, lyy])
      refine qaa (run_neqb (c := false) rfl rfl rfl (by simp; omega)) rfl ?_; (try simp only [Act.put, lyy])
      refine qab ?_
      go_upto_region 3 with fail; refine wp_region_lit ?_
      refine qaa (qar (s := 0) (k := 34) rfl Tryd.underlying29 rfl (by kernel_rfl) rfl rfl) rfl ?_; (try simp only [Act.put, lyy])
      refine qaa (qa9 rfl Tryd.underlying25 rfl rfl ((E.out.get (i := 2) rfl).c 34 _ (qau (by rw [List.length_map, k1])))) rfl ?_; (try simp only [Act.put, lyy])
      refine qaa (qar (s := 0) (k := 34) rfl Tryd.underlying29 rfl (by kernel_rfl) rfl rfl) rfl ?_; (try simp only [Act.put, lyy])
      refine qaa (qa9 rfl Tryd.underlying25 rfl rfl ((E.out.get (i := 1) rfl).c 34 _ (qau (by rw [List.length_map, k3])))) rfl ?_; (try simp only [Act.put, lyy])
      refine qao (qal enters_part rfl rfl rfl rfl) rfl (CP.out _ E.out.froF) (fun a7 hb => ?_); (try simp only [Act.put, lyy])
      replace E := Lib.hid (E.out.below hb)
      clear hb
      refine qaa (qaf (v := .int .i64 ((k : Nat) : Int)) rfl rfl) rfl ?_; (try simp only [Act.put, lyy])
      refine qab ?_
      go_upto_region 4 with fail
      refine wp_region_noPanic ?_; refine qa0 (S := fun _ V => Below a7.heap.size a7 V) (by kernel_rfl) ((Below.refl _ _).drew) (fun hS => ?_)
      replace E := Lib.hid (E.out.below hS)
      generalize a7.drew = a8 at *
      refine qbf (S' := fun _ V => Below a8.heap.size a8 V) (fun _ V h => hS.trans (h.mono hS.size)) _ _ _ _ ?_
      replace hS := Below.refl a8.heap.size a8
      refine qad 0 rfl rfl (by kernel_rfl) (by kernel_rfl) (by kernel_rfl) (fun _ _ _ h => h) rfl (fun V hV => qar (s := 0) (k := 34) rfl Tryd.underlying29 rfl (by kernel_rfl) rfl rfl) hS ?_; (try simp only [Act.put, lyy])
      refine qad 1 rfl rfl (by kernel_rfl) (by kernel_rfl) (by kernel_rfl) (fun _ _ _ h => h) rfl (fun V hV => qa9 rfl Tryd.underlying25 rfl rfl (((E.out.below hV).get (i := 2) rfl).c 34 _ (qau (by rw [List.length_map, k1])))) hS ?_; (try simp only [Act.put, lyy])
      refine qad 2 rfl rfl (by kernel_rfl) (by kernel_rfl) (by kernel_rfl) (fun _ _ _ h => h) rfl (fun V hV => qae (v := .int .i64 ((k : Nat) : Int)) rfl rfl) hS ?_; (try simp only [Act.put, lyy])
      refine qad 3 rfl rfl (by kernel_rfl) (by kernel_rfl) (by kernel_rfl) (fun _ _ _ h => h) rfl (fun V hV => qb9 (a := k) (b := 1) rfl rfl rfl (by omega)) hS ?_; (try simp only [Act.put, lyy])
      refine qad 4 rfl rfl (by kernel_rfl) (by kernel_rfl) (by kernel_rfl) (fun _ _ _ h => h) rfl (fun V hV => run_sllZ (z := 33) rfl Tryd.underlying25 (by kernel_rfl) rfl rfl (by omega)) hS ?_; (try simp only [Act.put, lyy])
      refine qad 5 rfl rfl (by kernel_rfl) (by kernel_rfl) (by kernel_rfl) (fun _ _ _ h => h) rfl (fun V hV => qar (s := 0) (k := 34) rfl Tryd.underlying29 rfl (by kernel_rfl) rfl rfl) hS ?_; (try simp only [Act.put, lyy])
      refine qad 6 rfl rfl (by kernel_rfl) (by kernel_rfl) (by kernel_rfl) (fun _ _ _ h => h) rfl (fun V hV => qa9 rfl Tryd.underlying25 rfl rfl (((E.out.below hV).get (i := 1) rfl).c 34 _ (qau (by rw [List.length_map, k3])))) hS ?_; (try simp only [Act.put, lyy])
      refine qad 7 rfl rfl (by kernel_rfl) (by kernel_rfl) (by kernel_rfl) (fun _ _ _ h => h) rfl (fun V hV => qae (v := .int .i64 ((k : Nat) : Int)) rfl rfl) hS ?_; (try simp only [Act.put, lyy])
      refine qad 8 rfl rfl (by kernel_rfl) (by kernel_rfl) (by kernel_rfl) (fun _ _ _ h => h) rfl (fun V hV => run_sllZ (z := 33) rfl Tryd.underlying25 (by kernel_rfl) rfl rfl (by omega)) hS ?_; (try simp only [Act.put, lyy])
      refine qbe 9 (by kernel_rfl) rfl rfl rfl (qal enters_eqs rfl rfl rfl rfl) ((qbj (CE.out hlen _ E.out.froF))) (fun v w h => hS.trans ((h.2).mono hS.size)) (fun v9 a10 hR => ?_); (try simp only [Act.put, lyy])
      obtain ⟨rfl, hb9⟩ := hR
      replace hS := hS.trans (hb9.mono hS.size)
      replace E := Lib.hid (E.out.below hb9)
      clear hb9
      refine qbf (S' := fun _ V => Below a10.heap.size a10 V) (fun _ V h => hS.trans (h.mono hS.size)) _ _ _ _ ?_
      replace hS := Below.refl a10.heap.size a10
      refine qad 10 rfl rfl (by kernel_rfl) (by kernel_rfl) (by kernel_rfl) (fun _ _ _ h => h) rfl (fun V hV => qdf rfl rfl) hS ?_; (try simp only [Act.put, lyy])
      refine qa2 (by kernel_rfl) ?_ _; refine NoPanic.normal ?_
      obtain ⟨g, fo, rfl, hg, hr⟩ := HA.out _ E.out.f.1
      have HR := Lib.hid hr
      clear hr HA
      go_upto_region 6 with fail; refine wp_region_lit ?_
      refine qaa (qar (s := 0) (k := 34) rfl Tryd.underlying29 rfl (by kernel_rfl) rfl rfl) rfl ?_; (try simp only [Act.put, lyy])
      refine qaa (qa9 rfl Tryd.underlying25 rfl rfl ((E.out.get (i := 2) rfl).c 34 _ (qau (by rw [List.length_map, k1])))) rfl ?_; (try simp only [Act.put, lyy])
      refine qaa (qae (v := .int .i64 ((k : Nat) : Int)) rfl rfl) rfl ?_; (try simp only [Act.put, lyy])
      refine qaa (qdg (z := 33) rfl Tryd.underlying25 (by kernel_rfl) rfl rfl hk) rfl ?_; (try simp only [Act.put, lyy])
      refine qaa (qai (vs := pkC q) rfl Tryd.underlying34 rfl (szR (qbq hkl) (by kernel_rfl)) rfl HR.out) rfl ?_; (try simp only [Act.put, lyy])
      refine qag (qap (vs := pkC q) rfl (szR (qbq hkl) (by kernel_rfl)) rfl rfl (One.all (pkC_one hkl)) ((E.out.get (i := 0) rfl).thereM (by have q1 : (pkC q).length = 33 := (qbq hkl); have q2 : (enR ((.int .i64 0)) (z8 32)).length = 33 := (qbk (qbb 32)); omega))) rfl rfl ?_
      replace E := Lib.hid (E.out.put 0 rfl (m := pkC q) ((show (pkC q).length = 33 from (qbq hkl)).trans (show (enR ((.int .i64 0)) (z8 32)).length = 33 from (qbk (qbb 32))).symm))
      generalize a10.setCells g6 0 (pkC q) = a11 at *
      replace E := Lib.hid (show Ev _ [(g6, pkC q), (g4, lsR (.int .i64 n.acc) (.int .i64 n.ver) (n.ident.map b8) (.slice ar n.devs.length cr) (n.sig.map b8)), (g2, lsR (.int .i64 m.acc) (.int .i64 m.ver) (m.ident.map b8) (.slice (some ⟨g, fo, none⟩) m.devs.length c0) (m.sig.map b8))] _ _ _ a11 from E.out)
      refine qaa (qaf (v := .bool true) rfl rfl) rfl ?_; (try simp only [Act.put, lyy])
      refine qab ?_
      go_wp2_with fail
      exact bodyPost_ret (v := .tuple #[.agg (pkC q).toArray, .bool true]) (qbu Tryd.results15 rfl Tryd.underlying34 rfl (szR (qbq hkl) (by kernel_rfl)) (E.out.get (i := 0) rfl).range) rfl ⟨rfl, E.out.bl⟩
  · have hB : rmB m.devs n.devs = false := by unfold rmB; rw [decide_eq_false hlen]; rfl
    have HP : Hid (rmP m.devs n.devs = pk0) := Lib.hid (by unfold rmP; rw [hB]; rfl)
    rw [HP.out, hB]
    clear HP
    generalize pk0 = z at *
    clear hB
    go_enter Tryd.func15, Tryd.ntmps15
    go_upto_region 0 with fail; refine wp_region_lit ?_
    refine qaa (qay (vs := lsR (.int .i64 m.acc) (.int .i64 m.ver) (m.ident.map b8) (.slice a0 m.devs.length c0) (m.sig.map b8)) rfl rfl) rfl ?_; (try simp only [Act.put, lyy])
    replace E := Lib.hid (E.out.new (lsR (.int .i64 m.acc) (.int .i64 m.ver) (m.ident.map b8) (.slice a0 m.devs.length c0) (m.sig.map b8)) 29)
    generalize w.alloc (.cells (lsR (.int .i64 m.acc) (.int .i64 m.ver) (m.ident.map b8) (.slice a0 m.devs.length c0) (m.sig.map b8)).toArray 29) = a1 at *
    generalize w.heap.size = g2 at *
    refine qaa (qay (vs := lsR (.int .i64 n.acc) (.int .i64 n.ver) (n.ident.map b8) (.slice ar n.devs.length cr) (n.sig.map b8)) rfl rfl) rfl ?_; (try simp only [Act.put, lyy])
    replace E := Lib.hid (E.out.new (lsR (.int .i64 n.acc) (.int .i64 n.ver) (n.ident.map b8) (.slice ar n.devs.length cr) (n.sig.map b8)) 29)
    generalize a1.alloc (.cells (lsR (.int .i64 n.acc) (.int .i64 n.ver) (n.ident.map b8) (.slice ar n.devs.length cr) (n.sig.map b8)).toArray 29) = a3 at *
    generalize a1.heap.size = g4 at *
    refine qaa (qas (vs := enR ((.int .i64 0)) (z8 32)) rfl (by kernel_rfl)) rfl ?_; (try simp only [Act.put, lyy])
    replace E := Lib.hid (E.out.new (enR ((.int .i64 0)) (z8 32)) 34)
    generalize a3.alloc (.cells (enR ((.int .i64 0)) (z8 32)).toArray 34) = a5 at *
    generalize a3.heap.size = g6 at *
    refine qaa (qaf (v := .bool false) rfl rfl) rfl ?_; (try simp only [Act.put, lyy])
    refine qab ?_
    go_upto_region 1 with fail; refine wp_region_lit ?_
    refine qaa (qar (s := 0) (k := 34) rfl Tryd.underlying29 rfl (by kernel_rfl) rfl rfl) rfl ?_; (try simp only [Act.put, lyy])
    refine qaa (qa9 rfl Tryd.underlying25 rfl rfl ((E.out.get (i := 2) rfl).c 34 _ (qau (by rw [List.length_map, k1])))) rfl ?_; (try simp only [Act.put, lyy])
    refine qaa (qbg rfl Tryd.underlying25 rfl) rfl ?_; (try simp only [Act.put, lyy])
    refine qaa (qar (s := 0) (k := 34) rfl Tryd.underlying29 rfl (by kernel_rfl) rfl rfl) rfl ?_; (try simp only [Act.put, lyy])
    refine qaa (qa9 rfl Tryd.underlying25 rfl rfl ((E.out.get (i := 1) rfl).c 34 _ (qau (by rw [List.length_map, k3])))) rfl ?_; (try simp only [Act.put, lyy])
    refine qaa (qbg rfl Tryd.underlying25 rfl) rfl ?_; (try simp only [Act.put, lyy])
    refine qaa (qb9 (a := n.devs.length) (b := 1) rfl rfl rfl (by omega)) rfl ?_; (try simp only [Act.put, lyy])
    refine qaa (run_neqb (c := true) rfl rfl rfl (by simp; omega)) rfl ?_; (try simp only [Act.put, lyy])
    refine qab ?_
    go_upto_region 2 with fail; refine wp_region_lit ?_
    refine qaa (qcc (ps := []) rfl rfl KE.out) rfl ?_; (try simp only [Act.put, lyy])
    refine qag (qap (vs := pkC z) rfl (szR (qbq lz) (by kernel_rfl)) rfl rfl (One.all (pkC_one lz)) ((E.out.get (i := 0) rfl).thereM (by have q1 : (pkC z).length = 33 := (qbq lz); have q2 : (enR ((.int .i64 0)) (z8 32)).length = 33 := (qbk (qbb 32)); omega))) rfl rfl ?_
    replace E := Lib.hid (E.out.put 0 rfl (m := pkC z) ((show (pkC z).length = 33 from (qbq lz)).trans (show (enR ((.int .i64 0)) (z8 32)).length = 33 from (qbk (qbb 32))).symm))
    generalize a5.setCells g6 0 (pkC z) = a7 at *
    replace E := Lib.hid (show Ev _ [(g6, pkC z), (g4, lsR (.int .i64 n.acc) (.int .i64 n.ver) (n.ident.map b8) (.slice ar n.devs.length cr) (n.sig.map b8)), (g2, lsR (.int .i64 m.acc) (.int .i64 m.ver) (m.ident.map b8) (.slice a0 m.devs.length c0) (m.sig.map b8))] _ _ _ a7 from E.out)
    refine qaa (qaf (v := .bool false) rfl rfl) rfl ?_; (try simp only [Act.put, lyy])
    refine qab ?_
    go_wp2_with fail
    exact bodyPost_ret (v := .tuple #[.agg (pkC z).toArray, .bool false]) (qbu Tryd.results15 rfl Tryd.underlying34 rfl (szR (qbq lz) (by kernel_rfl)) (E.out.get (i := 0) rfl).range) rfl ⟨rfl, E.out.bl⟩
end Go.Proofs.YtcgbgmbnagmohaaDoor
namespace Go.Proofs.YtcgbgmbnagmohaaDoor
open Go.RowKit
set_option maxRecDepth 20000
attribute [local irreducible] wpList
def scK (y : BitVec 8) : List (BitVec 8) := (y % 4#8) :: 7#8 :: List.replicate 30 0
theorem scK_len (y : BitVec 8) : (scK y).length = 32 := rfl
theorem run_addZ {w : World} {ρ : Operand → Value} {o : Oper} {x y : Operand} {t t' : TypeId} {a b : Int} (ho : o.op = .binOp .add t x y t') (hx : ρ x = .int .i64 a) (hy : ρ y = .int .i64 b) (h1 : -4611686018427387904 ≤ a + b) (h2 : a + b < 4611686018427387904) : (execOp ρ o).run Tryd.prog w = .ok (.value (.int .i64 (a + b))) w := by
  rw [run_add ho hx hy (by omega) (by omega)]
theorem run_subZ {w : World} {ρ : Operand → Value} {o : Oper} {x y : Operand} {t t' : TypeId} {a b : Int} (ho : o.op = .binOp .sub t x y t') (hx : ρ x = .int .i64 a) (hy : ρ y = .int .i64 b) (h1 : -4611686018427387904 ≤ a - b) (h2 : a - b < 4611686018427387904) : (execOp ρ o).run Tryd.prog w = .ok (.value (.int .i64 (a - b))) w := by
  rw [run_sub ho hx hy (by omega) (by omega)]
theorem enters_sec11 : Enters 12 := qan Tryd.func12 (by kernel_rfl) rfl
set_option maxHeartbeats 4000000 in
theorem sec_any (y : BitVec 8) (w : World) : Calls Tryd.prog 12 #[b8 y] w fun e w' => e = .returned (.agg ((scK y).map b8).toArray) ∧ Below w.heap.size w w' := by
  have E := Lib.hid (Ev.start (w := w) (F := fun _ => True) fun _ _ => trivial)
  have EK : Hid (Tryd.prog.built 24 [(0, b8 (y % 4#8)), (1, .int .u8 7)] = some ((scK y).map b8).toArray) := Lib.hid (by unfold scK; generalize y % 4#8 = z; kernel_rfl)
  have lS := scK_len y
  generalize scK y = q at *
  go_enter Tryd.func12, Tryd.ntmps12
  go_upto_region 0 with fail; refine wp_region_lit ?_
  refine qaa (qas (vs := z8 32) rfl (by kernel_rfl)) rfl ?_; (try simp only [Act.put, lyy])
  replace E := Lib.hid (E.out.new (z8 32) 24)
  generalize w.alloc (.cells (z8 32).toArray 24) = a1 at *
  generalize w.heap.size = g2 at *
  refine qab ?_
  go_upto_region 1 with fail; refine wp_region_lit ?_
  refine qaa (qae (v := b8 y) rfl rfl) rfl ?_; (try simp only [Act.put, lyy])
  refine qaa (run_rem8C (b := 4#8) rfl rfl rfl (by decide)) rfl ?_; (try simp only [Act.put, lyy])
  refine qaa (qcc (ps := [(0, b8 (y % 4#8)), (1, .int .u8 7)]) rfl rfl EK.out) rfl ?_; (try simp only [Act.put, lyy])
  refine qag (qap (vs := q.map b8) rfl (szR (by rw [List.length_map, lS]) (by kernel_rfl)) rfl rfl (One.all (One.b8 _)) ((E.out.get (i := 0) rfl).thereM (by have q1 : (q.map b8).length = 32 := (by rw [List.length_map, lS]); have q2 : (z8 32).length = 32 := (qbb 32); omega))) rfl rfl ?_
  replace E := Lib.hid (E.out.put 0 rfl (m := q.map b8) ((show (q.map b8).length = 32 from (by rw [List.length_map, lS])).trans (show (z8 32).length = 32 from (qbb 32)).symm))
  generalize a1.setCells g2 0 (q.map b8) = a3 at *
  replace E := Lib.hid (show Ev _ [(g2, q.map b8)] _ _ _ a3 from E.out)
  refine qab ?_
  go_wp2_with fail
  exact bodyPost_ret (v := .agg (q.map b8).toArray) (qa1 Tryd.results12 rfl Tryd.underlying24 rfl (szR (by rw [List.length_map, lS]) (by kernel_rfl)) (E.out.get (i := 0) rfl).range) rfl ⟨rfl, E.out.bl⟩
def plA (c : List (BitVec 8)) (j : Nat) : Int := if 0 < j then 1 + ((c.getD 0 0 % 3#8).toNat : Int) else 1
def plV (c : List (BitVec 8)) (j : Nat) : Int := if 1 < j then 1 + ((c.getD 1 0 % 4#8).toNat : Int) else 1
def plL (c : List (BitVec 8)) : Nat → Int
  | 0 => 0
  | j + 1 => if j < 2 then 0 else plL c j + (1 + ((c.getD j 0 % 2#8).toNat : Int)) - (if 250 < (c.getD j 0).toNat then 2 else 0)
def plE (c : List (BitVec 8)) (j : Nat) : MPk := ⟨plL c (j + 1), c.getD j 0 :: BitVec.ofNat 8 j :: List.replicate 30 0⟩
def plDs (c : List (BitVec 8)) (j : Nat) : List MPk := (List.range (j - 2)).map fun i => plE c (i + 2)
def s0 : List (BitVec 8) := List.replicate 64 0
def plM (c : List (BitVec 8)) : MLs := ⟨plA c (min c.length 9), plV c (min c.length 9), k0, plDs c (min c.length 9), s0⟩
theorem plDs_len (c : List (BitVec 8)) (j : Nat) : (plDs c j).length = j - 2 := by simp [plDs]
theorem plDs_succ (c : List (BitVec 8)) {j : Nat} (h : 2 ≤ j) : plDs c (j + 1) = plDs c j ++ [plE c j] := by
  unfold plDs
  rw [show j + 1 - 2 = (j - 2) + 1 by omega, List.range_succ, List.map_append, List.map_singleton, show j - 2 + 2 = j by omega]
theorem plDs_two (c : List (BitVec 8)) {j : Nat} (h : j ≤ 2) : plDs c j = [] := by
  unfold plDs
  rw [show j - 2 = 0 by omega]
  rfl
theorem plL_two (c : List (BitVec 8)) {j : Nat} (h : j ≤ 2) : plL c j = 0 := by
  match j, h with
  | 0, _ => rfl
  | 1, _ => rfl
  | 2, _ => rfl
theorem plL_le (c : List (BitVec 8)) : ∀ j : Nat, -(2 * (j : Int)) ≤ plL c j ∧ plL c j ≤ 2 * (j : Int)
  | 0 => by simp [plL]
  | j + 1 => by
    have h := plL_le c j
    have h2 : (c.getD j 0 % 2#8).toNat < 2 := by
      rw [BitVec.toNat_umod]
      exact Nat.mod_lt _ (by decide)
    unfold plL
    split
    · omega
    · split <;> omega
theorem plDs_key (c : List (BitVec 8)) (j : Nat) : ∀ p ∈ plDs c j, p.key.length = 32 := fun p hp => by
  obtain ⟨i, _, rfl⟩ := List.mem_map.1 hp
  rfl
theorem plDs_id (c : List (BitVec 8)) {j : Nat} (hj : j ≤ 9) : ∀ p ∈ plDs c j, -20 ≤ p.id ∧ p.id ≤ 20 := fun p hp => by
  obtain ⟨i, hi, rfl⟩ := List.mem_map.1 hp
  have h := plL_le c (i + 2 + 1)
  have h3 := List.mem_range.1 hi
  show -20 ≤ plL c (i + 2 + 1) ∧ plL c (i + 2 + 1) ≤ 20
  omega
theorem plM_ok (c : List (BitVec 8)) : (plM c).Ok := ⟨rfl, rfl, plDs_key c _, by show (plDs c _).length ≤ 60000; rw [plDs_len]; omega⟩
theorem byteAt {ao : Option Addr} {c : List (BitVec 8)} {cc : Nat} {u : World} (h : Sl (.slice ao c.length cc) c u) (hp : 0 < c.length) : ∃ g f, ao = some ⟨g, f, none⟩ ∧ g < u.heap.size ∧ ∀ i, i < c.length → u.cell? ⟨g, f + i, none⟩ = some (b8 (c.getD i 0)) := by
  obtain ⟨g, f, c2, h1, h2, h3⟩ := h.adr hp
  simp only [Value.slice.injEq] at h1
  obtain ⟨rfl, _, _⟩ := h1
  exact ⟨g, f, rfl, h2, fun i hi => h3 i _ (qbs b8 0 hi)⟩
theorem enters_plain11 : Enters 7 := qan Tryd.func7 (by kernel_rfl) rfl
set_option maxHeartbeats 16000000 in
theorem plain_any (ao : Option Addr) (c : List (BitVec 8)) (cc : Nat) (w : World) (hc : Sl (.slice ao c.length cc) c w) : Calls Tryd.prog 7 #[.slice ao c.length cc] w fun r w' => ∃ v', r = .returned v' ∧ ((∃ va vc, v' = .agg (lsR (.int .i64 (plM c).acc) (.int .i64 (plM c).ver) ((plM c).ident.map b8) (.slice va (plM c).devs.length vc) ((plM c).sig.map b8)).toArray ∧ Fro w.heap.size (fun V => SlR 33 pkAt (plM c).devs va vc V ∧ V.ownsRow w.heap.size 34 33 (.slice va (plM c).devs.length vc) (plM c).devs.length ((plM c).devs.map pkC).flatten) w') ∧ Below w.heap.size w w') := by
  have E := Lib.hid (Ev.start (w := w) (F := fun V => Sl (.slice ao c.length cc) c V) fun V hV => hc.ext hV)
  clear hc
  have EL : Hid (Tryd.prog.built 29 [(0, .int .i64 1), (1, .int .i64 1)] = some (lsR (.int .i64 1) (.int .i64 1) (k0.map b8) (.slice none 0 0) (s0.map b8)).toArray) := Lib.hid (by kernel_rfl)
  have EC : Hid (plM c = ⟨plA c (min c.length 9), plV c (min c.length 9), k0, plDs c (min c.length 9), s0⟩) := Lib.hid rfl
  have lK : k0.length = 32 := rfl
  have lZ : s0.length = 64 := rfl
  have PL := Lib.hid (plL_le c)
  have PS : Hid (∀ j : Nat, 2 ≤ j → plDs c (j + 1) = plDs c j ++ [plE c j]) := Lib.hid fun j h => plDs_succ c h
  have P2 : Hid (∀ j : Nat, j ≤ 2 → plDs c j = []) := Lib.hid fun j h => plDs_two c h
  have A0 : Hid (∀ j : Nat, j ≠ 0 → plA c (j + 1) = plA c j) := Lib.hid fun j h => by unfold plA; rw [if_pos (by omega), if_pos (by omega)]
  have A1 : Hid (plA c 1 = 1 + ((c.getD 0 0 % 3#8).toNat : Int)) := Lib.hid (by unfold plA; rw [if_pos (by omega)])
  have V0 : Hid (∀ j : Nat, j ≠ 1 → plV c (j + 1) = plV c j) := Lib.hid fun j h => by unfold plV; rcases Nat.lt_or_ge 1 j with q | q; rw [if_pos (by omega), if_pos q]; rw [if_neg (by omega), if_neg (by omega)]
  have V1 : Hid (plV c 2 = 1 + ((c.getD 1 0 % 4#8).toNat : Int)) := Lib.hid (by unfold plV; rw [if_pos (by omega)])
  have L2 : Hid (∀ j : Nat, j ≤ 2 → plL c j = 0) := Lib.hid fun j h => plL_two c h
  have L3 : Hid (∀ j : Nat, 2 ≤ j → plL c (j + 1) = plL c j + (1 + ((c.getD j 0 % 2#8).toNat : Int)) - (if 250 < (c.getD j 0).toNat then 2 else 0)) := Lib.hid fun j h => by rw [plL, if_neg (by omega)]
  have PE : Hid (∀ j : Nat, plE c j = ⟨plL c (j + 1), c.getD j 0 :: BitVec.ofNat 8 j :: List.replicate 30 0⟩) := Lib.hid fun j => rfl
  have AA : Hid (plA c 0 = 1 ∧ plV c 0 = 1) := Lib.hid ⟨rfl, rfl⟩
  generalize plM c = mm at *
  generalize k0 = kz at *
  generalize s0 = sz at *
  have HB : Hid (∀ u, Sl (.slice ao c.length cc) c u → 0 < c.length → ∃ g f, ao = some ⟨g, f, none⟩ ∧ g < u.heap.size ∧ ∀ i, i < c.length → u.cell? ⟨g, f + i, none⟩ = some (b8 (c.getD i 0))) := Lib.hid fun u h hp => byteAt h hp
  generalize hm : c.length = m at *
  clear hm
  go_enter Tryd.func7, Tryd.ntmps7
  go_upto_region 0 with fail; refine wp_region_lit ?_
  refine qaa (qas (vs := lsR ((.int .i64 0)) ((.int .i64 0)) (z8 32) ((.slice none 0 0)) (z8 64)) rfl (by kernel_rfl)) rfl ?_; (try simp only [Act.put, lyy])
  replace E := Lib.hid (E.out.new (lsR ((.int .i64 0)) ((.int .i64 0)) (z8 32) ((.slice none 0 0)) (z8 64)) 29)
  generalize w.alloc (.cells (lsR ((.int .i64 0)) ((.int .i64 0)) (z8 32) ((.slice none 0 0)) (z8 64)).toArray 29) = a1 at *
  generalize w.heap.size = g2 at *
  refine qab ?_
  go_upto_region 1 with fail; refine wp_region_lit ?_
  refine qaa (qcc (ps := [(0, .int .i64 1), (1, .int .i64 1)]) rfl rfl EL.out) rfl ?_; (try simp only [Act.put, lyy])
  refine qaa (qas (vs := lsR ((.int .i64 0)) ((.int .i64 0)) (z8 32) ((.slice none 0 0)) (z8 64)) rfl (by kernel_rfl)) rfl ?_; (try simp only [Act.put, lyy])
  replace E := Lib.hid (E.out.new (lsR ((.int .i64 0)) ((.int .i64 0)) (z8 32) ((.slice none 0 0)) (z8 64)) 29)
  generalize a1.alloc (.cells (lsR ((.int .i64 0)) ((.int .i64 0)) (z8 32) ((.slice none 0 0)) (z8 64)).toArray 29) = a3 at *
  generalize a1.heap.size = g4 at *
  refine qag (qap (vs := lsR (.int .i64 1) (.int .i64 1) (kz.map b8) (.slice none 0 0) (sz.map b8)) rfl (szR (qa7 (by rw [List.length_map, lK]) (by rw [List.length_map, lZ])) (by kernel_rfl)) rfl rfl (One.all (lsR_one rfl rfl (One.b8 _) rfl (One.b8 _))) ((E.out.get (i := 0) rfl).thereM (by have q1 : (lsR (.int .i64 1) (.int .i64 1) (kz.map b8) (.slice none 0 0) (sz.map b8)).length = 99 := (qa7 (by rw [List.length_map, lK]) (by rw [List.length_map, lZ])); have q2 : (lsR ((.int .i64 0)) ((.int .i64 0)) (z8 32) ((.slice none 0 0)) (z8 64)).length = 99 := (qa7 (qbb 32) (qbb 64)); omega))) rfl rfl ?_
  replace E := Lib.hid (E.out.put 0 rfl (m := lsR (.int .i64 1) (.int .i64 1) (kz.map b8) (.slice none 0 0) (sz.map b8)) ((show (lsR (.int .i64 1) (.int .i64 1) (kz.map b8) (.slice none 0 0) (sz.map b8)).length = 99 from (qa7 (by rw [List.length_map, lK]) (by rw [List.length_map, lZ]))).trans (show (lsR ((.int .i64 0)) ((.int .i64 0)) (z8 32) ((.slice none 0 0)) (z8 64)).length = 99 from (qa7 (qbb 32) (qbb 64))).symm))
  generalize a3.setCells g4 0 (lsR (.int .i64 1) (.int .i64 1) (kz.map b8) (.slice none 0 0) (sz.map b8)) = a5 at *
  replace E := Lib.hid (show Ev _ [(g4, lsR (.int .i64 1) (.int .i64 1) (kz.map b8) (.slice none 0 0) (sz.map b8)), (g2, lsR ((.int .i64 0)) ((.int .i64 0)) (z8 32) ((.slice none 0 0)) (z8 64))] _ _ _ a5 from E.out)
  refine qab ?_
  go_upto_region 2 with fail; refine wp_region_lit ?_
  refine qaa (qaf (v := .int .i64 0) rfl rfl) rfl ?_; (try simp only [Act.put, lyy])
  refine qab ?_
  go_upto_region 3 with fail; refine wp_region_lit ?_
  refine qaa (qaf (v := .int .i64 0) rfl rfl) rfl ?_; (try simp only [Act.put, lyy])
  refine qab ?_
  replace E := Lib.hid ((Gw.start E.out 34 33).know (H0 := LR pkAt [] []) fun V _ => LR.nil V)
  go_wp2_with fail
  go_loopw [4, 5] (fun s4 s5 u => ∃ (j : Nat) (l : List MPk) (css : List (List Value)) (va : Option Addr) (vn vc : Nat), s4 = .int .i64 (plL c j) ∧ s5 = .int .i64 (j : Int) ∧ l = plDs c j ∧ j - 2 = l.length ∧ j ≤ m ∧ j ≤ 9 ∧ (∀ p ∈ css, p.length = 33) ∧ css = l.map pkC ∧ Gw w [(g4, lsR (.int .i64 (plA c j)) (.int .i64 (plV c j)) (kz.map b8) (.slice va vn vc) (sz.map b8)), (g2, lsR ((.int .i64 0)) ((.int .i64 0)) (z8 32) ((.slice none 0 0)) (z8 64))] 34 33 (.slice va vn vc) (j - 2) css.flatten (fun V => Sl (.slice ao m cc) c V) (LR pkAt l css) u) (fun _ s5 _ => (9 - intOf s5).toNat)
  case atStart => exact ⟨0, [], [], none, 0, 0, rfl, rfl, (P2.out 0 (by omega)).symm, rfl, Nat.zero_le _, Nat.zero_le _, (fun _ h => by cases h), rfl, by rw [AA.out.1, AA.out.2]; exact E.out⟩
  case round =>
    obtain ⟨j, l, css, va, vn, vc, rfl, rfl, hl, hjl, hjm, hj9, hq, hcs, hJ⟩ := hrel
    replace E := Lib.hid hJ
    have HK := Lib.hid hq
    have HL := Lib.hid hl
    clear hJ hq hl
    have hpl := PL.out j
    by_cases hend : j = m ∨ j = 9
    · by_cases hjm2 : j = m
      · have hmj : m ≤ j := by omega
        clear hjm2 hend
        go_upto_region 4 with fail; refine wp_region_lit ?_
        refine qaa (qae (v := .int .i64 (j : Int)) rfl rfl) rfl ?_; (try simp only [Act.put, lyy])
        refine qaa (qae (v := .slice ao m cc) rfl rfl) rfl ?_; (try simp only [Act.put, lyy])
        refine qaa (qbg rfl Tryd.underlying22 rfl) rfl ?_; (try simp only [Act.put, lyy])
        refine qaa (qbo (c := false) rfl rfl rfl (decide_eq_false (by omega))) rfl ?_; (try simp only [Act.put, lyy])
        refine qaa (qae (v := .bool false) rfl rfl) rfl ?_; (try simp only [Act.put, lyy])
        refine qbl rfl ?_; (try simp only [Act.put, lyy])
        refine qbl rfl ?_; (try simp only [Act.put, lyy])
        refine qaa (qa8 (b := false) (v := .bool false) rfl rfl rfl) rfl ?_; (try simp only [Act.put, lyy])
        refine qab ?_
        have E1 := Lib.hid E.out.done
        clear E
        have E := E1
        clear E1
        go_upto_region 14 with fail; refine wp_region_lit ?_
        refine qaa (qai (vs := lsR (.int .i64 (plA c j)) (.int .i64 (plV c j)) (kz.map b8) (.slice va vn vc) (sz.map b8)) rfl Tryd.underlying29 rfl (szR (qa7 (by rw [List.length_map, lK]) (by rw [List.length_map, lZ])) (by kernel_rfl)) rfl (E.out.get (i := 0) rfl).range) rfl ?_; (try simp only [Act.put, lyy])
        refine qag (qap (vs := lsR (.int .i64 (plA c j)) (.int .i64 (plV c j)) (kz.map b8) (.slice va vn vc) (sz.map b8)) rfl (szR (qa7 (by rw [List.length_map, lK]) (by rw [List.length_map, lZ])) (by kernel_rfl)) rfl rfl (One.all (lsR_one rfl rfl (One.b8 _) rfl (One.b8 _))) ((E.out.get (i := 1) rfl).thereM (by have q1 : (lsR (.int .i64 (plA c j)) (.int .i64 (plV c j)) (kz.map b8) (.slice va vn vc) (sz.map b8)).length = 99 := (qa7 (by rw [List.length_map, lK]) (by rw [List.length_map, lZ])); have q2 : (lsR ((.int .i64 0)) ((.int .i64 0)) (z8 32) ((.slice none 0 0)) (z8 64)).length = 99 := (qa7 (qbb 32) (qbb 64)); omega))) rfl rfl ?_
        replace E := Lib.hid (E.out.put 1 rfl (m := lsR (.int .i64 (plA c j)) (.int .i64 (plV c j)) (kz.map b8) (.slice va vn vc) (sz.map b8)) ((show (lsR (.int .i64 (plA c j)) (.int .i64 (plV c j)) (kz.map b8) (.slice va vn vc) (sz.map b8)).length = 99 from (qa7 (by rw [List.length_map, lK]) (by rw [List.length_map, lZ]))).trans (show (lsR ((.int .i64 0)) ((.int .i64 0)) (z8 32) ((.slice none 0 0)) (z8 64)).length = 99 from (qa7 (qbb 32) (qbb 64))).symm))
        generalize wr.setCells g2 0 (lsR (.int .i64 (plA c j)) (.int .i64 (plV c j)) (kz.map b8) (.slice va vn vc) (sz.map b8)) = a6 at *
        replace E := Lib.hid (show Ev _ [(g4, lsR (.int .i64 (plA c j)) (.int .i64 (plV c j)) (kz.map b8) (.slice va vn vc) (sz.map b8)), (g2, lsR (.int .i64 (plA c j)) (.int .i64 (plV c j)) (kz.map b8) (.slice va vn vc) (sz.map b8))] _ _ _ a6 from E.out)
        refine qab ?_
        have HF : Hid (Fro w.heap.size (fun V => ∃ a' c', (.slice va vn vc : Value) = .slice a' l.length c' ∧ SlR 33 pkAt l a' c' V) a6) := Lib.hid fun V hV => slR_own (E.out.tell V hV).1 hjl (E.out.tell V hV).2.1 HK.out (E.out.tell V hV).2.2
        obtain ⟨a', c', hv6, hS0⟩ := HF.out.now
        simp only [Value.slice.injEq] at hv6
        obtain ⟨-, hvn, -⟩ := hv6
        have HF2 : Hid (Fro w.heap.size (SlR 33 pkAt l va vc) a6) := Lib.hid fun V hV => by
          obtain ⟨a2, c2, h1, h2⟩ := HF.out V hV
          simp only [Value.slice.injEq] at h1
          obtain ⟨rfl, _, rfl⟩ := h1
          exact h2
        have hmm := EC.out
        rw [show min m 9 = j by omega, ← HL.out] at hmm
        subst hmm
        go_wp2_with fail
        refine bodyPost_ret (v := .agg (lsR (.int .i64 (plA c j)) (.int .i64 (plV c j)) (kz.map b8) (.slice va vn vc) (sz.map b8)).toArray) (qa1 Tryd.results7 rfl Tryd.underlying29 rfl (szR (qa7 (by rw [List.length_map, lK]) (by rw [List.length_map, lZ])) (by kernel_rfl)) (E.out.get (i := 1) rfl).range) rfl ⟨_, rfl, ⟨va, vc, ?_, fun V hV => ⟨HF2.out V hV, ?_⟩⟩, E.out.bl⟩
        · rw [hvn]
        · have h9 := (E.out.tell V hV).1
          rw [hjl, hvn, hcs] at h9
          exact h9
      · go_upto_region 4 with fail; refine wp_region_lit ?_
        refine qaa (qae (v := .int .i64 (j : Int)) rfl rfl) rfl ?_; (try simp only [Act.put, lyy])
        refine qaa (qae (v := .slice ao m cc) rfl rfl) rfl ?_; (try simp only [Act.put, lyy])
        refine qaa (qbg rfl Tryd.underlying22 rfl) rfl ?_; (try simp only [Act.put, lyy])
        refine qaa (qbo (c := true) rfl rfl rfl (decide_eq_true (by omega))) rfl ?_; (try simp only [Act.put, lyy])
        refine qaa (qae (v := .bool true) rfl rfl) rfl ?_; (try simp only [Act.put, lyy])
        refine qak (qae (v := .int .i64 (j : Int)) rfl rfl) rfl ?_; (try simp only [Act.put, lyy])
        refine qak (qbo (c := false) rfl rfl rfl (decide_eq_false (by omega))) rfl ?_; (try simp only [Act.put, lyy])
        refine qaa (qa8 (b := true) (v := .bool false) rfl rfl rfl) rfl ?_; (try simp only [Act.put, lyy])
        refine qab ?_
        have E1 := Lib.hid E.out.done
        clear E
        have E := E1
        clear E1
        go_upto_region 14 with fail; refine wp_region_lit ?_
        refine qaa (qai (vs := lsR (.int .i64 (plA c j)) (.int .i64 (plV c j)) (kz.map b8) (.slice va vn vc) (sz.map b8)) rfl Tryd.underlying29 rfl (szR (qa7 (by rw [List.length_map, lK]) (by rw [List.length_map, lZ])) (by kernel_rfl)) rfl (E.out.get (i := 0) rfl).range) rfl ?_; (try simp only [Act.put, lyy])
        refine qag (qap (vs := lsR (.int .i64 (plA c j)) (.int .i64 (plV c j)) (kz.map b8) (.slice va vn vc) (sz.map b8)) rfl (szR (qa7 (by rw [List.length_map, lK]) (by rw [List.length_map, lZ])) (by kernel_rfl)) rfl rfl (One.all (lsR_one rfl rfl (One.b8 _) rfl (One.b8 _))) ((E.out.get (i := 1) rfl).thereM (by have q1 : (lsR (.int .i64 (plA c j)) (.int .i64 (plV c j)) (kz.map b8) (.slice va vn vc) (sz.map b8)).length = 99 := (qa7 (by rw [List.length_map, lK]) (by rw [List.length_map, lZ])); have q2 : (lsR ((.int .i64 0)) ((.int .i64 0)) (z8 32) ((.slice none 0 0)) (z8 64)).length = 99 := (qa7 (qbb 32) (qbb 64)); omega))) rfl rfl ?_
        replace E := Lib.hid (E.out.put 1 rfl (m := lsR (.int .i64 (plA c j)) (.int .i64 (plV c j)) (kz.map b8) (.slice va vn vc) (sz.map b8)) ((show (lsR (.int .i64 (plA c j)) (.int .i64 (plV c j)) (kz.map b8) (.slice va vn vc) (sz.map b8)).length = 99 from (qa7 (by rw [List.length_map, lK]) (by rw [List.length_map, lZ]))).trans (show (lsR ((.int .i64 0)) ((.int .i64 0)) (z8 32) ((.slice none 0 0)) (z8 64)).length = 99 from (qa7 (qbb 32) (qbb 64))).symm))
        generalize wr.setCells g2 0 (lsR (.int .i64 (plA c j)) (.int .i64 (plV c j)) (kz.map b8) (.slice va vn vc) (sz.map b8)) = a6 at *
        replace E := Lib.hid (show Ev _ [(g4, lsR (.int .i64 (plA c j)) (.int .i64 (plV c j)) (kz.map b8) (.slice va vn vc) (sz.map b8)), (g2, lsR (.int .i64 (plA c j)) (.int .i64 (plV c j)) (kz.map b8) (.slice va vn vc) (sz.map b8))] _ _ _ a6 from E.out)
        refine qab ?_
        have HF : Hid (Fro w.heap.size (fun V => ∃ a' c', (.slice va vn vc : Value) = .slice a' l.length c' ∧ SlR 33 pkAt l a' c' V) a6) := Lib.hid fun V hV => slR_own (E.out.tell V hV).1 hjl (E.out.tell V hV).2.1 HK.out (E.out.tell V hV).2.2
        obtain ⟨a', c', hv6, hS0⟩ := HF.out.now
        simp only [Value.slice.injEq] at hv6
        obtain ⟨-, hvn, -⟩ := hv6
        have HF2 : Hid (Fro w.heap.size (SlR 33 pkAt l va vc) a6) := Lib.hid fun V hV => by
          obtain ⟨a2, c2, h1, h2⟩ := HF.out V hV
          simp only [Value.slice.injEq] at h1
          obtain ⟨rfl, _, rfl⟩ := h1
          exact h2
        have hmm := EC.out
        rw [show min m 9 = j by omega, ← HL.out] at hmm
        subst hmm
        go_wp2_with fail
        refine bodyPost_ret (v := .agg (lsR (.int .i64 (plA c j)) (.int .i64 (plV c j)) (kz.map b8) (.slice va vn vc) (sz.map b8)).toArray) (qa1 Tryd.results7 rfl Tryd.underlying29 rfl (szR (qa7 (by rw [List.length_map, lK]) (by rw [List.length_map, lZ])) (by kernel_rfl)) (E.out.get (i := 1) rfl).range) rfl ⟨_, rfl, ⟨va, vc, ?_, fun V hV => ⟨HF2.out V hV, ?_⟩⟩, E.out.bl⟩
        · rw [hvn]
        · have h9 := (E.out.tell V hV).1
          rw [hjl, hvn, hcs] at h9
          exact h9
    · have hsl0 := E.out.ev.fs wr (Ext.refl _ _ _)
      obtain ⟨g, fo, rfl, hg, -⟩ := HB.out _ hsl0 (by omega)
      have HY : Hid (∀ u, Sl (.slice (some ⟨g, fo, none⟩) m cc) c u → u.cell? ⟨g, fo + j, none⟩ = some (b8 (c.getD j 0))) := Lib.hid fun u hu => by
        obtain ⟨g2, f2, h1, _, h3⟩ := HB.out u hu (by omega)
        simp only [Option.some.injEq, Addr.mk.injEq] at h1
        obtain ⟨rfl, rfl, _⟩ := h1
        exact h3 j (by omega)
      clear hsl0
      go_upto_region 4 with fail; refine wp_region_lit ?_
      refine qaa (qae (v := .int .i64 (j : Int)) rfl rfl) rfl ?_; (try simp only [Act.put, lyy])
      refine qaa (qae (v := .slice (some ⟨g, fo, none⟩) m cc) rfl rfl) rfl ?_; (try simp only [Act.put, lyy])
      refine qaa (qbg rfl Tryd.underlying22 rfl) rfl ?_; (try simp only [Act.put, lyy])
      refine qaa (qbo (c := true) rfl rfl rfl (decide_eq_true (by omega))) rfl ?_; (try simp only [Act.put, lyy])
      refine qaa (qae (v := .bool true) rfl rfl) rfl ?_; (try simp only [Act.put, lyy])
      refine qak (qae (v := .int .i64 (j : Int)) rfl rfl) rfl ?_; (try simp only [Act.put, lyy])
      refine qak (qbo (c := true) rfl rfl rfl (decide_eq_true (by omega))) rfl ?_; (try simp only [Act.put, lyy])
      refine qaa (qa8 (b := true) (v := .bool true) rfl rfl rfl) rfl ?_; (try simp only [Act.put, lyy])
      refine qab ?_
      by_cases hj0 : j = 0
      · have HY0 : Hid (∀ u, Sl (.slice (some ⟨g, fo, none⟩) m cc) c u → u.cell? ⟨g, fo + 0, none⟩ = some (b8 (c.getD 0 0))) := Lib.hid (by rw [← hj0]; exact HY.out)
        obtain ⟨B, hB⟩ : ∃ B, B = c.getD 0 0 := ⟨_, rfl⟩
        rw [← hB] at HY0
        have hBm : (B % 3#8).toNat < 3 := by rw [BitVec.toNat_umod]; exact Nat.mod_lt _ (by decide)
        go_upto_region 10 with fail; refine wp_region_lit ?_
        refine qaa (qae (v := .int .i64 (j : Int)) rfl rfl) rfl ?_; (try simp only [Act.put, lyy])
        refine qaa (run_eqlb (c := true) rfl rfl rfl (by rw [hj0]; rfl)) rfl ?_; (try simp only [Act.put, lyy])
        refine qaa (qaf (v := .bool true) rfl rfl) rfl ?_; (try simp only [Act.put, lyy])
        refine qab ?_
        go_upto_region 11 with fail; refine wp_region_lit ?_
        refine qaa (qae (v := .slice (some ⟨g, fo, none⟩) m cc) rfl rfl) rfl ?_; (try simp only [Act.put, lyy])
        refine qaa (qcz (i := 0) rfl Tryd.underlying22 (by kernel_rfl) rfl rfl (by omega)) rfl ?_; (try simp only [Act.put, lyy])
        refine qaa (qa9 rfl Tryd.underlying5 rfl rfl (HY0.out _ (E.out.ev.f))) rfl ?_; (try simp only [Act.put, lyy])
        refine qaa (run_rem8C (b := 3#8) rfl rfl rfl (by decide)) rfl ?_; (try simp only [Act.put, lyy])
        refine qaa (run_cv8i rfl rfl) rfl ?_; (try simp only [Act.put, lyy])
        refine qaa (run_addZ (a := 1) rfl rfl rfl (by omega) (by omega)) rfl ?_; (try simp only [Act.put, lyy])
        refine qaa (qar (s := 0) (k := 0) rfl Tryd.underlying29 rfl (by kernel_rfl) rfl rfl) rfl ?_; (try simp only [Act.put, lyy])
        refine qag (run_stc (v := .int .i64 (1 + ((B % 3#8).toNat : Int))) rfl (by kernel_rfl) rfl rfl rfl rfl ((E.out.get (i := 0) rfl).c 0 _ (lsR_Account )) ((E.out.get (i := 0) rfl).f _)) rfl rfl ?_
        replace E := Lib.hid (E.out.set 0 rfl (j := 0) (by have q2 : (lsR (.int .i64 (plA c j)) (.int .i64 (plV c j)) (kz.map b8) (.slice va vn vc) (sz.map b8)).length = 99 := (qa7 (by rw [List.length_map, lK]) (by rw [List.length_map, lZ])); omega) (.int .i64 (1 + ((B % 3#8).toNat : Int))))
        rw [show (lsR (.int .i64 (plA c j)) (.int .i64 (plV c j)) (kz.map b8) (.slice va vn vc) (sz.map b8)).set 0 (.int .i64 (1 + ((B % 3#8).toNat : Int))) = lsR (.int .i64 (1 + ((B % 3#8).toNat : Int))) (.int .i64 (plV c j)) (kz.map b8) (.slice va vn vc) (sz.map b8) from (lsR_setAccount  _)] at E
        generalize wr.setCell ⟨g4, 0, none⟩ (.int .i64 (1 + ((B % 3#8).toNat : Int))) = a6 at *
        replace E := Lib.hid (show Gw _ [(g4, lsR (.int .i64 (1 + ((B % 3#8).toNat : Int))) (.int .i64 (plV c j)) (kz.map b8) (.slice va vn vc) (sz.map b8)), (g2, lsR ((.int .i64 0)) ((.int .i64 0)) (z8 32) ((.slice none 0 0)) (z8 64))] _ _ _ _ _ _ _ a6 from E.out)
        refine qab ?_
        go_upto_region 5 with fail; refine wp_region_lit ?_
        refine qaa (qae (v := .int .i64 (j : Int)) rfl rfl) rfl ?_; (try simp only [Act.put, lyy])
        refine qaa (qb9 (a := j) (b := 1) rfl rfl rfl (by omega)) rfl ?_; (try simp only [Act.put, lyy])
        refine qaa (qaf (v := .int .i64 ((j + 1 : Nat) : Int)) rfl rfl) rfl ?_; (try simp only [Act.put, lyy])
        refine qab ?_
        have e1 := A1.out
        have e2 := V0.out j (by omega)
        rw [← hB] at e1
        have E9 : Hid (plA c (j + 1) = 1 + ((B % 3#8).toNat : Int)) := Lib.hid (by rw [hj0]; exact e1)
        have E8 := Lib.hid e2
        clear e1 e2
        have E7 := Lib.hid (L2.out (j + 1) (by omega))
        have E6 := Lib.hid (L2.out j (by omega))
        have E5 := Lib.hid (P2.out (j + 1) (by omega))
        have E4 : Hid (l = []) := Lib.hid (by rw [HL.out, P2.out j (by omega)])
        go_wp2_with fail
        exact ⟨⟨j + 1, l, css, va, vn, vc, by rw [E7.out, E6.out], rfl, by rw [E4.out, E5.out], by rw [E4.out]; show j + 1 - 2 = 0; omega, by omega, by omega, HK.out, hcs, by rw [E9.out, E8.out, show j + 1 - 2 = j - 2 by omega]; exact E.out⟩, by simp [intOf]; omega⟩
      by_cases hj1 : j = 1
      · have HY0 : Hid (∀ u, Sl (.slice (some ⟨g, fo, none⟩) m cc) c u → u.cell? ⟨g, fo + 1, none⟩ = some (b8 (c.getD 1 0))) := Lib.hid (by rw [← hj1]; exact HY.out)
        obtain ⟨B, hB⟩ : ∃ B, B = c.getD 1 0 := ⟨_, rfl⟩
        rw [← hB] at HY0
        have hBm : (B % 4#8).toNat < 4 := by rw [BitVec.toNat_umod]; exact Nat.mod_lt _ (by decide)
        go_upto_region 10 with fail; refine wp_region_lit ?_
        refine qaa (qae (v := .int .i64 (j : Int)) rfl rfl) rfl ?_; (try simp only [Act.put, lyy])
        refine qaa (run_eqlb (c := false) rfl rfl rfl (by simp; omega)) rfl ?_; (try simp only [Act.put, lyy])
        refine qaa (qaf (v := .bool false) rfl rfl) rfl ?_; (try simp only [Act.put, lyy])
        refine qab ?_
        go_upto_region 12 with fail; refine wp_region_lit ?_
        refine qaa (qae (v := .int .i64 (j : Int)) rfl rfl) rfl ?_; (try simp only [Act.put, lyy])
        refine qaa (run_eqlb (c := true) rfl rfl rfl (by rw [hj1]; rfl)) rfl ?_; (try simp only [Act.put, lyy])
        refine qaa (qaf (v := .bool true) rfl rfl) rfl ?_; (try simp only [Act.put, lyy])
        refine qab ?_
        go_upto_region 13 with fail; refine wp_region_lit ?_
        refine qaa (qae (v := .slice (some ⟨g, fo, none⟩) m cc) rfl rfl) rfl ?_; (try simp only [Act.put, lyy])
        refine qaa (qcz (i := 1) rfl Tryd.underlying22 (by kernel_rfl) rfl rfl (by omega)) rfl ?_; (try simp only [Act.put, lyy])
        refine qaa (qa9 rfl Tryd.underlying5 rfl rfl (HY0.out _ (E.out.ev.f))) rfl ?_; (try simp only [Act.put, lyy])
        refine qaa (run_rem8C (b := 4#8) rfl rfl rfl (by decide)) rfl ?_; (try simp only [Act.put, lyy])
        refine qaa (run_cv8i rfl rfl) rfl ?_; (try simp only [Act.put, lyy])
        refine qaa (run_addZ (a := 1) rfl rfl rfl (by omega) (by omega)) rfl ?_; (try simp only [Act.put, lyy])
        refine qaa (qar (s := 0) (k := 1) rfl Tryd.underlying29 rfl (by kernel_rfl) rfl rfl) rfl ?_; (try simp only [Act.put, lyy])
        refine qag (run_stc (v := .int .i64 (1 + ((B % 4#8).toNat : Int))) rfl (by kernel_rfl) rfl rfl rfl rfl ((E.out.get (i := 0) rfl).c 1 _ (lsR_Version )) ((E.out.get (i := 0) rfl).f _)) rfl rfl ?_
        replace E := Lib.hid (E.out.set 0 rfl (j := 1) (by have q2 : (lsR (.int .i64 (plA c j)) (.int .i64 (plV c j)) (kz.map b8) (.slice va vn vc) (sz.map b8)).length = 99 := (qa7 (by rw [List.length_map, lK]) (by rw [List.length_map, lZ])); omega) (.int .i64 (1 + ((B % 4#8).toNat : Int))))
        rw [show (lsR (.int .i64 (plA c j)) (.int .i64 (plV c j)) (kz.map b8) (.slice va vn vc) (sz.map b8)).set 1 (.int .i64 (1 + ((B % 4#8).toNat : Int))) = lsR (.int .i64 (plA c j)) (.int .i64 (1 + ((B % 4#8).toNat : Int))) (kz.map b8) (.slice va vn vc) (sz.map b8) from (lsR_setVersion  _)] at E
        generalize wr.setCell ⟨g4, 1, none⟩ (.int .i64 (1 + ((B % 4#8).toNat : Int))) = a6 at *
        replace E := Lib.hid (show Gw _ [(g4, lsR (.int .i64 (plA c j)) (.int .i64 (1 + ((B % 4#8).toNat : Int))) (kz.map b8) (.slice va vn vc) (sz.map b8)), (g2, lsR ((.int .i64 0)) ((.int .i64 0)) (z8 32) ((.slice none 0 0)) (z8 64))] _ _ _ _ _ _ _ a6 from E.out)
        refine qab ?_
        go_upto_region 5 with fail; refine wp_region_lit ?_
        refine qaa (qae (v := .int .i64 (j : Int)) rfl rfl) rfl ?_; (try simp only [Act.put, lyy])
        refine qaa (qb9 (a := j) (b := 1) rfl rfl rfl (by omega)) rfl ?_; (try simp only [Act.put, lyy])
        refine qaa (qaf (v := .int .i64 ((j + 1 : Nat) : Int)) rfl rfl) rfl ?_; (try simp only [Act.put, lyy])
        refine qab ?_
        have e1 := V1.out
        have e2 := A0.out j (by omega)
        rw [← hB] at e1
        have E9 : Hid (plV c (j + 1) = 1 + ((B % 4#8).toNat : Int)) := Lib.hid (by rw [hj1]; exact e1)
        have E8 := Lib.hid e2
        clear e1 e2
        have E7 := Lib.hid (L2.out (j + 1) (by omega))
        have E6 := Lib.hid (L2.out j (by omega))
        have E5 := Lib.hid (P2.out (j + 1) (by omega))
        have E4 : Hid (l = []) := Lib.hid (by rw [HL.out, P2.out j (by omega)])
        go_wp2_with fail
        exact ⟨⟨j + 1, l, css, va, vn, vc, by rw [E7.out, E6.out], rfl, by rw [E4.out, E5.out], by rw [E4.out]; show j + 1 - 2 = 0; omega, by omega, by omega, HK.out, hcs, by rw [E9.out, E8.out, show j + 1 - 2 = j - 2 by omega]; exact E.out⟩, by simp [intOf]; omega⟩
      have HL3 := Lib.hid (L3.out j (by omega))
      have HPE := Lib.hid (PE.out j)
      obtain ⟨B, hB⟩ : ∃ B, B = c.getD j 0 := ⟨_, rfl⟩
      rw [← hB] at HY HL3 HPE
      have hBm : (B % 2#8).toNat < 2 := by rw [BitVec.toNat_umod]; exact Nat.mod_lt _ (by decide)
      have HPS := Lib.hid (PS.out j (by omega))
      have HA0 := Lib.hid (A0.out j hj0)
      have HV0 := Lib.hid (V0.out j hj1)
      have hpl2 := PL.out (j + 1)
      have KLN : Hid ((B :: BitVec.ofNat 8 j :: List.replicate 30 0 : List (BitVec 8)).length = 32) := Lib.hid rfl
      have EKY : Hid (Tryd.prog.built 24 [(0, b8 B), (1, b8 (BitVec.ofNat 8 j))] = some ((B :: BitVec.ofNat 8 j :: List.replicate 30 0 : List (BitVec 8)).map b8).toArray) := Lib.hid (by generalize BitVec.ofNat 8 j = z; kernel_rfl)
      go_upto_region 10 with fail; refine wp_region_lit ?_
      refine qaa (qae (v := .int .i64 (j : Int)) rfl rfl) rfl ?_; (try simp only [Act.put, lyy])
      refine qaa (run_eqlb (c := false) rfl rfl rfl (by simp; omega)) rfl ?_; (try simp only [Act.put, lyy])
      refine qaa (qaf (v := .bool false) rfl rfl) rfl ?_; (try simp only [Act.put, lyy])
      refine qab ?_
      go_upto_region 12 with fail; refine wp_region_lit ?_
      refine qaa (qae (v := .int .i64 (j : Int)) rfl rfl) rfl ?_; (try simp only [Act.put, lyy])
      refine qaa (run_eqlb (c := false) rfl rfl rfl (by simp; omega)) rfl ?_; (try simp only [Act.put, lyy])
      refine qaa (qaf (v := .bool false) rfl rfl) rfl ?_; (try simp only [Act.put, lyy])
      refine qab ?_
      go_upto_region 6 with fail; refine wp_region_lit ?_
      refine qaa (qae (v := .int .i64 (plL c j)) rfl rfl) rfl ?_; (try simp only [Act.put, lyy])
      refine qaa (qae (v := .slice (some ⟨g, fo, none⟩) m cc) rfl rfl) rfl ?_; (try simp only [Act.put, lyy])
      refine qaa (qae (v := .int .i64 (j : Int)) rfl rfl) rfl ?_; (try simp only [Act.put, lyy])
      refine qaa (qcz (i := j) rfl Tryd.underlying22 (by kernel_rfl) rfl rfl (by omega)) rfl ?_; (try simp only [Act.put, lyy])
      refine qaa (qa9 rfl Tryd.underlying5 rfl rfl (HY.out _ (E.out.ev.f))) rfl ?_; (try simp only [Act.put, lyy])
      refine qaa (run_rem8C (b := 2#8) rfl rfl rfl (by decide)) rfl ?_; (try simp only [Act.put, lyy])
      refine qaa (run_cv8i rfl rfl) rfl ?_; (try simp only [Act.put, lyy])
      refine qaa (run_addZ (a := 1) rfl rfl rfl (by omega) (by omega)) rfl ?_; (try simp only [Act.put, lyy])
      refine qaa (run_addZ rfl rfl rfl (by omega) (by omega)) rfl ?_; (try simp only [Act.put, lyy])
      refine qaa (qaf (v := .int .i64 (plL c j + (1 + ((B % 2#8).toNat : Int)))) rfl rfl) rfl ?_; (try simp only [Act.put, lyy])
      refine qab ?_
      by_cases h250 : 250 < B.toNat
      · have NL : Hid (plL c (j + 1) = plL c j + (1 + ((B % 2#8).toNat : Int)) - 2) := Lib.hid (by rw [HL3.out, if_pos h250])
        go_upto_region 7 with fail; refine wp_region_lit ?_
        refine qaa (qae (v := .slice (some ⟨g, fo, none⟩) m cc) rfl rfl) rfl ?_; (try simp only [Act.put, lyy])
        refine qaa (qae (v := .int .i64 (j : Int)) rfl rfl) rfl ?_; (try simp only [Act.put, lyy])
        refine qaa (qcz (i := j) rfl Tryd.underlying22 (by kernel_rfl) rfl rfl (by omega)) rfl ?_; (try simp only [Act.put, lyy])
        refine qaa (qa9 rfl Tryd.underlying5 rfl rfl (HY.out _ (E.out.ev.f))) rfl ?_; (try simp only [Act.put, lyy])
        refine qaa (run_gtrb (c := true) rfl rfl rfl (decide_eq_true (by omega))) rfl ?_; (try simp only [Act.put, lyy])
        refine qab ?_
        go_upto_region 8 with fail; refine wp_region_lit ?_
        refine qaa (qae (v := .int .i64 (plL c j + (1 + ((B % 2#8).toNat : Int)))) rfl rfl) rfl ?_; (try simp only [Act.put, lyy])
        refine qaa (run_subZ rfl rfl rfl (by omega) (by omega)) rfl ?_; (try simp only [Act.put, lyy])
        refine qaa (qaf (v := .int .i64 (plL c j + (1 + ((B % 2#8).toNat : Int)) - 2)) rfl rfl) rfl ?_; (try simp only [Act.put, lyy])
        refine qab ?_
        rw [← NL.out]
        generalize hnx : plL c (j + 1) = nx at *
        have HNX := Lib.hid hnx
        clear hnx
        go_upto_region 9 with fail
        refine wp_region_noPanic ?_; refine qa0 (S := Till 12 (fun V => Below wr.heap.size wr V)) (by kernel_rfl) (.inr (Below.refl _ _).drew) (fun _ => ?_); have hS : Below wr.heap.size wr wr.drew := (Below.refl _ _).drew
        have E0 := E
        replace E := Lib.hid (E.out.below hS)
        generalize wr.drew = a6 at *
        refine qaj 0 rfl rfl (by kernel_rfl) (by kernel_rfl) (by kernel_rfl) (by kernel_rfl) (by kernel_rfl) (fun _ _ _ h => h) rfl (fun V hV => qar (s := 0) (k := 34) rfl Tryd.underlying29 rfl (by kernel_rfl) rfl rfl) hS ?_; (try simp only [Act.put, lyy])
        refine qaj 1 rfl rfl (by kernel_rfl) (by kernel_rfl) (by kernel_rfl) (by kernel_rfl) (by kernel_rfl) (fun _ _ _ h => h) rfl (fun V hV => qa9 rfl Tryd.underlying25 rfl rfl (((E0.out.below hV).get (i := 0) rfl).c 34 _ (qau (by rw [List.length_map, lK])))) hS ?_; (try simp only [Act.put, lyy])
        refine qaj 2 rfl rfl (by kernel_rfl) (by kernel_rfl) (by kernel_rfl) (by kernel_rfl) (by kernel_rfl) (fun _ _ _ h => h) rfl (fun V hV => qae (v := .int .i64 nx) rfl rfl) hS ?_; (try simp only [Act.put, lyy])
        refine qaj 3 rfl rfl (by kernel_rfl) (by kernel_rfl) (by kernel_rfl) (by kernel_rfl) (by kernel_rfl) (fun _ _ _ h => h) rfl (fun V hV => qae (v := .slice (some ⟨g, fo, none⟩) m cc) rfl rfl) hS ?_; (try simp only [Act.put, lyy])
        refine qaj 4 rfl rfl (by kernel_rfl) (by kernel_rfl) (by kernel_rfl) (by kernel_rfl) (by kernel_rfl) (fun _ _ _ h => h) rfl (fun V hV => qae (v := .int .i64 (j : Int)) rfl rfl) hS ?_; (try simp only [Act.put, lyy])
        refine qaj 5 rfl rfl (by kernel_rfl) (by kernel_rfl) (by kernel_rfl) (by kernel_rfl) (by kernel_rfl) (fun _ _ _ h => h) rfl (fun V hV => qcz (i := j) rfl Tryd.underlying22 (by kernel_rfl) rfl rfl (by omega)) hS ?_; (try simp only [Act.put, lyy])
        refine qaj 6 rfl rfl (by kernel_rfl) (by kernel_rfl) (by kernel_rfl) (by kernel_rfl) (by kernel_rfl) (fun _ _ _ h => h) rfl (fun V hV => qa9 rfl Tryd.underlying5 rfl rfl (HY.out _ ((E0.out.below hV).ev.f))) hS ?_; (try simp only [Act.put, lyy])
        refine qaj 7 rfl rfl (by kernel_rfl) (by kernel_rfl) (by kernel_rfl) (by kernel_rfl) (by kernel_rfl) (fun _ _ _ h => h) rfl (fun V hV => qae (v := .int .i64 (j : Int)) rfl rfl) hS ?_; (try simp only [Act.put, lyy])
        refine qaj 8 rfl rfl (by kernel_rfl) (by kernel_rfl) (by kernel_rfl) (by kernel_rfl) (by kernel_rfl) (fun _ _ _ h => h) rfl (fun V hV => run_cvi_8 rfl rfl) hS ?_; (try simp only [Act.put, lyy])
        refine qaj 9 rfl rfl (by kernel_rfl) (by kernel_rfl) (by kernel_rfl) (by kernel_rfl) (by kernel_rfl) (fun _ _ _ h => h) rfl (fun V hV => qcc (ps := [(0, b8 B), (1, b8 (BitVec.ofNat 8 j))]) rfl rfl EKY.out) hS ?_; (try simp only [Act.put, lyy])
        refine qaj 10 rfl rfl (by kernel_rfl) (by kernel_rfl) (by kernel_rfl) (by kernel_rfl) (by kernel_rfl) (fun _ _ _ h => h) rfl (fun V hV => qcc (cells := (enR (.int .i64 nx) ((B :: BitVec.ofNat 8 j :: List.replicate 30 0 : List (BitVec 8)).map b8)).toArray) (ps := [(0, .int .i64 nx), (1, .agg ((B :: BitVec.ofNat 8 j :: List.replicate 30 0 : List (BitVec 8)).map b8).toArray)]) rfl rfl (enR_all rfl (by rw [List.length_map, KLN.out]))) hS ?_; (try simp only [Act.put, lyy])
        have hml : (enR (.int .i64 nx) ((B :: BitVec.ofNat 8 j :: List.replicate 30 0 : List (BitVec 8)).map b8)).length = 33 := (qbk (by rw [List.length_map, KLN.out]))
        have hmo : One (enR (.int .i64 nx) ((B :: BitVec.ofNat 8 j :: List.replicate 30 0 : List (BitVec 8)).map b8)) := (enR_one rfl (One.b8 _))
        refine qcj 11 (by kernel_rfl) rfl rfl rfl (run_bsl1 (m := enR (.int .i64 nx) ((B :: BitVec.ofNat 8 j :: List.replicate 30 0 : List (BitVec 8)).map b8)) (z := 33) (zv := .agg ([.int .i64 0] ++ List.replicate 32 (.int .u8 0) : List Value).toArray) rfl Tryd.underlying25 (by kernel_rfl) rfl hml (by omega) (by omega)) (.inr (hS.alloc hS.size _)) ?_; (try simp only [Act.put, lyy])
        have A2 := Lib.hid (Arr.new a6 (enR (.int .i64 nx) ((B :: BitVec.ofNat 8 j :: List.replicate 30 0 : List (BitVec 8)).map b8)) 34)
        replace E := Lib.hid (E.out.below ((Below.refl a6.heap.size a6).alloc (Nat.le_refl _) (.cells (enR (.int .i64 nx) ((B :: BitVec.ofNat 8 j :: List.replicate 30 0 : List (BitVec 8)).map b8)).toArray 34)))
        generalize a6.alloc (.cells (enR (.int .i64 nx) ((B :: BitVec.ofNat 8 j :: List.replicate 30 0 : List (BitVec 8)).map b8)).toArray 34) = b1 at *
        generalize a6.heap.size = g0 at *
        refine wpAnyD_growC (t := 25) (bw := 40) (zv := .agg ([.int .i64 0] ++ List.replicate 32 (.int .u8 0) : List Value).toArray) (z := 33) 12 (by kernel_rfl) rfl rfl rfl rfl rfl Tryd.underlying25 (by kernel_rfl) rfl (by omega) rfl rfl A2.out.range hml hmo (by omega) (by omega) E.out (fun v7 b2 hG => ?_); (try simp only [Act.put, lyy])
        replace E := Lib.hid hG
        clear hG A2 E0 hS
        obtain ⟨ya, yn, yc, rfl⟩ := E.out.isSlice
        refine qcj 13 (by kernel_rfl) rfl rfl rfl (qar (s := 0) (k := 34) rfl Tryd.underlying29 rfl (by kernel_rfl) rfl rfl) (.inl rfl) ?_; (try simp only [Act.put, lyy])
        refine qbm 14 (by kernel_rfl) rfl rfl rfl (run_stc (v := .slice ya yn yc) rfl (by kernel_rfl) rfl rfl rfl rfl ((E.out.get (i := 0) rfl).c _ _ (qau (by rw [List.length_map, lK]))) ((E.out.get (i := 0) rfl).f _)) (.inl rfl) ?_
        replace E := Lib.hid (E.out.set 0 rfl (j := 0 + 34) (by have q2 : (lsR (.int .i64 (plA c j)) (.int .i64 (plV c j)) (kz.map b8) (.slice va vn vc) (sz.map b8)).length = 99 := (qa7 (by rw [List.length_map, lK]) (by rw [List.length_map, lZ])); omega) (.slice ya yn yc))
        simp only [List.set_cons_zero] at E
        rw [show (0 + 34 : Nat) = 34 from rfl, lsR_setDevices (by rw [List.length_map, lK])] at E
        generalize b2.setCell ⟨g4, 0 + 34, none⟩ (.slice ya yn yc) = b3 at *
        refine qa2 (by kernel_rfl) ?_ _; refine NoPanic.normal ?_
        have E9 := Lib.hid (E.out.know (H0 := LR pkAt (l ++ [plE c j]) (css ++ [enR (.int .i64 nx) ((B :: BitVec.ofNat 8 j :: List.replicate 30 0 : List (BitVec 8)).map b8)])) fun V h => h.snoc (by show _ = pkC _; rw [pkC_en, HPE.out]))
        clear E
        have E := E9
        clear E9
        go_upto_region 5 with fail; refine wp_region_lit ?_
        refine qaa (qae (v := .int .i64 (j : Int)) rfl rfl) rfl ?_; (try simp only [Act.put, lyy])
        refine qaa (qb9 (a := j) (b := 1) rfl rfl rfl (by omega)) rfl ?_; (try simp only [Act.put, lyy])
        refine qaa (qaf (v := .int .i64 ((j + 1 : Nat) : Int)) rfl rfl) rfl ?_; (try simp only [Act.put, lyy])
        refine qab ?_
        have hcm : css ++ [enR (.int .i64 nx) ((B :: BitVec.ofNat 8 j :: List.replicate 30 0 : List (BitVec 8)).map b8)] = (l ++ [plE c j]).map pkC := by rw [List.map_append, List.map_singleton, ← hcs, pkC_en (p := plE c j), HPE.out]
        go_wp2_with fail
        exact ⟨⟨j + 1, l ++ [plE c j], css ++ [enR (.int .i64 nx) ((B :: BitVec.ofNat 8 j :: List.replicate 30 0 : List (BitVec 8)).map b8)], ya, yn, yc, by rw [HNX.out], rfl, by rw [HPS.out, HL.out], by rw [List.length_append, ← hjl]; show j + 1 - 2 = j - 2 + 1; omega, by omega, by omega, (fun p hp => by rcases List.mem_append.1 hp with hp | hp; exact HK.out p hp; obtain rfl := List.mem_singleton.1 hp; exact hml), hcm, by rw [List.flatten_append, HA0.out, HV0.out, show j + 1 - 2 = j - 2 + 1 by omega]; simpa using E.out⟩, by simp [intOf]; omega⟩
      · have NL : Hid (plL c (j + 1) = plL c j + (1 + ((B % 2#8).toNat : Int))) := Lib.hid (by rw [HL3.out, if_neg h250]; omega)
        go_upto_region 7 with fail; refine wp_region_lit ?_
        refine qaa (qae (v := .slice (some ⟨g, fo, none⟩) m cc) rfl rfl) rfl ?_; (try simp only [Act.put, lyy])
        refine qaa (qae (v := .int .i64 (j : Int)) rfl rfl) rfl ?_; (try simp only [Act.put, lyy])
        refine qaa (qcz (i := j) rfl Tryd.underlying22 (by kernel_rfl) rfl rfl (by omega)) rfl ?_; (try simp only [Act.put, lyy])
        refine qaa (qa9 rfl Tryd.underlying5 rfl rfl (HY.out _ (E.out.ev.f))) rfl ?_; (try simp only [Act.put, lyy])
        refine qaa (run_gtrb (c := false) rfl rfl rfl (decide_eq_false (by omega))) rfl ?_; (try simp only [Act.put, lyy])
        refine qab ?_
        rw [← NL.out]
        generalize hnx : plL c (j + 1) = nx at *
        have HNX := Lib.hid hnx
        clear hnx
        go_upto_region 9 with fail
        refine wp_region_noPanic ?_; refine qa0 (S := Till 12 (fun V => Below wr.heap.size wr V)) (by kernel_rfl) (.inr (Below.refl _ _).drew) (fun _ => ?_); have hS : Below wr.heap.size wr wr.drew := (Below.refl _ _).drew
        have E0 := E
        replace E := Lib.hid (E.out.below hS)
        generalize wr.drew = a6 at *
        refine qaj 0 rfl rfl (by kernel_rfl) (by kernel_rfl) (by kernel_rfl) (by kernel_rfl) (by kernel_rfl) (fun _ _ _ h => h) rfl (fun V hV => qar (s := 0) (k := 34) rfl Tryd.underlying29 rfl (by kernel_rfl) rfl rfl) hS ?_; (try simp only [Act.put, lyy])
        refine qaj 1 rfl rfl (by kernel_rfl) (by kernel_rfl) (by kernel_rfl) (by kernel_rfl) (by kernel_rfl) (fun _ _ _ h => h) rfl (fun V hV => qa9 rfl Tryd.underlying25 rfl rfl (((E0.out.below hV).get (i := 0) rfl).c 34 _ (qau (by rw [List.length_map, lK])))) hS ?_; (try simp only [Act.put, lyy])
        refine qaj 2 rfl rfl (by kernel_rfl) (by kernel_rfl) (by kernel_rfl) (by kernel_rfl) (by kernel_rfl) (fun _ _ _ h => h) rfl (fun V hV => qae (v := .int .i64 nx) rfl rfl) hS ?_; (try simp only [Act.put, lyy])
        refine qaj 3 rfl rfl (by kernel_rfl) (by kernel_rfl) (by kernel_rfl) (by kernel_rfl) (by kernel_rfl) (fun _ _ _ h => h) rfl (fun V hV => qae (v := .slice (some ⟨g, fo, none⟩) m cc) rfl rfl) hS ?_; (try simp only [Act.put, lyy])
        refine qaj 4 rfl rfl (by kernel_rfl) (by kernel_rfl) (by kernel_rfl) (by kernel_rfl) (by kernel_rfl) (fun _ _ _ h => h) rfl (fun V hV => qae (v := .int .i64 (j : Int)) rfl rfl) hS ?_; (try simp only [Act.put, lyy])
        refine qaj 5 rfl rfl (by kernel_rfl) (by kernel_rfl) (by kernel_rfl) (by kernel_rfl) (by kernel_rfl) (fun _ _ _ h => h) rfl (fun V hV => qcz (i := j) rfl Tryd.underlying22 (by kernel_rfl) rfl rfl (by omega)) hS ?_; (try simp only [Act.put, lyy])
        refine qaj 6 rfl rfl (by kernel_rfl) (by kernel_rfl) (by kernel_rfl) (by kernel_rfl) (by kernel_rfl) (fun _ _ _ h => h) rfl (fun V hV => qa9 rfl Tryd.underlying5 rfl rfl (HY.out _ ((E0.out.below hV).ev.f))) hS ?_; (try simp only [Act.put, lyy])
        refine qaj 7 rfl rfl (by kernel_rfl) (by kernel_rfl) (by kernel_rfl) (by kernel_rfl) (by kernel_rfl) (fun _ _ _ h => h) rfl (fun V hV => qae (v := .int .i64 (j : Int)) rfl rfl) hS ?_; (try simp only [Act.put, lyy])
        refine qaj 8 rfl rfl (by kernel_rfl) (by kernel_rfl) (by kernel_rfl) (by kernel_rfl) (by kernel_rfl) (fun _ _ _ h => h) rfl (fun V hV => run_cvi_8 rfl rfl) hS ?_; (try simp only [Act.put, lyy])
        refine qaj 9 rfl rfl (by kernel_rfl) (by kernel_rfl) (by kernel_rfl) (by kernel_rfl) (by kernel_rfl) (fun _ _ _ h => h) rfl (fun V hV => qcc (ps := [(0, b8 B), (1, b8 (BitVec.ofNat 8 j))]) rfl rfl EKY.out) hS ?_; (try simp only [Act.put, lyy])
        refine qaj 10 rfl rfl (by kernel_rfl) (by kernel_rfl) (by kernel_rfl) (by kernel_rfl) (by kernel_rfl) (fun _ _ _ h => h) rfl (fun V hV => qcc (cells := (enR (.int .i64 nx) ((B :: BitVec.ofNat 8 j :: List.replicate 30 0 : List (BitVec 8)).map b8)).toArray) (ps := [(0, .int .i64 nx), (1, .agg ((B :: BitVec.ofNat 8 j :: List.replicate 30 0 : List (BitVec 8)).map b8).toArray)]) rfl rfl (enR_all rfl (by rw [List.length_map, KLN.out]))) hS ?_; (try simp only [Act.put, lyy])
        have hml : (enR (.int .i64 nx) ((B :: BitVec.ofNat 8 j :: List.replicate 30 0 : List (BitVec 8)).map b8)).length = 33 := (qbk (by rw [List.length_map, KLN.out]))
        have hmo : One (enR (.int .i64 nx) ((B :: BitVec.ofNat 8 j :: List.replicate 30 0 : List (BitVec 8)).map b8)) := (enR_one rfl (One.b8 _))
        refine qcj 11 (by kernel_rfl) rfl rfl rfl (run_bsl1 (m := enR (.int .i64 nx) ((B :: BitVec.ofNat 8 j :: List.replicate 30 0 : List (BitVec 8)).map b8)) (z := 33) (zv := .agg ([.int .i64 0] ++ List.replicate 32 (.int .u8 0) : List Value).toArray) rfl Tryd.underlying25 (by kernel_rfl) rfl hml (by omega) (by omega)) (.inr (hS.alloc hS.size _)) ?_; (try simp only [Act.put, lyy])
        have A2 := Lib.hid (Arr.new a6 (enR (.int .i64 nx) ((B :: BitVec.ofNat 8 j :: List.replicate 30 0 : List (BitVec 8)).map b8)) 34)
        replace E := Lib.hid (E.out.below ((Below.refl a6.heap.size a6).alloc (Nat.le_refl _) (.cells (enR (.int .i64 nx) ((B :: BitVec.ofNat 8 j :: List.replicate 30 0 : List (BitVec 8)).map b8)).toArray 34)))
        generalize a6.alloc (.cells (enR (.int .i64 nx) ((B :: BitVec.ofNat 8 j :: List.replicate 30 0 : List (BitVec 8)).map b8)).toArray 34) = b1 at *
        generalize a6.heap.size = g0 at *
        refine wpAnyD_growC (t := 25) (bw := 40) (zv := .agg ([.int .i64 0] ++ List.replicate 32 (.int .u8 0) : List Value).toArray) (z := 33) 12 (by kernel_rfl) rfl rfl rfl rfl rfl Tryd.underlying25 (by kernel_rfl) rfl (by omega) rfl rfl A2.out.range hml hmo (by omega) (by omega) E.out (fun v7 b2 hG => ?_); (try simp only [Act.put, lyy])
        replace E := Lib.hid hG
        clear hG A2 E0 hS
        obtain ⟨ya, yn, yc, rfl⟩ := E.out.isSlice
        refine qcj 13 (by kernel_rfl) rfl rfl rfl (qar (s := 0) (k := 34) rfl Tryd.underlying29 rfl (by kernel_rfl) rfl rfl) (.inl rfl) ?_; (try simp only [Act.put, lyy])
        refine qbm 14 (by kernel_rfl) rfl rfl rfl (run_stc (v := .slice ya yn yc) rfl (by kernel_rfl) rfl rfl rfl rfl ((E.out.get (i := 0) rfl).c _ _ (qau (by rw [List.length_map, lK]))) ((E.out.get (i := 0) rfl).f _)) (.inl rfl) ?_
        replace E := Lib.hid (E.out.set 0 rfl (j := 0 + 34) (by have q2 : (lsR (.int .i64 (plA c j)) (.int .i64 (plV c j)) (kz.map b8) (.slice va vn vc) (sz.map b8)).length = 99 := (qa7 (by rw [List.length_map, lK]) (by rw [List.length_map, lZ])); omega) (.slice ya yn yc))
        simp only [List.set_cons_zero] at E
        rw [show (0 + 34 : Nat) = 34 from rfl, lsR_setDevices (by rw [List.length_map, lK])] at E
        generalize b2.setCell ⟨g4, 0 + 34, none⟩ (.slice ya yn yc) = b3 at *
        refine qa2 (by kernel_rfl) ?_ _; refine NoPanic.normal ?_
        have E9 := Lib.hid (E.out.know (H0 := LR pkAt (l ++ [plE c j]) (css ++ [enR (.int .i64 nx) ((B :: BitVec.ofNat 8 j :: List.replicate 30 0 : List (BitVec 8)).map b8)])) fun V h => h.snoc (by show _ = pkC _; rw [pkC_en, HPE.out]))
        clear E
        have E := E9
        clear E9
        go_upto_region 5 with fail; refine wp_region_lit ?_
        refine qaa (qae (v := .int .i64 (j : Int)) rfl rfl) rfl ?_; (try simp only [Act.put, lyy])
        refine qaa (qb9 (a := j) (b := 1) rfl rfl rfl (by omega)) rfl ?_; (try simp only [Act.put, lyy])
        refine qaa (qaf (v := .int .i64 ((j + 1 : Nat) : Int)) rfl rfl) rfl ?_; (try simp only [Act.put, lyy])
        refine qab ?_
        have hcm : css ++ [enR (.int .i64 nx) ((B :: BitVec.ofNat 8 j :: List.replicate 30 0 : List (BitVec 8)).map b8)] = (l ++ [plE c j]).map pkC := by rw [List.map_append, List.map_singleton, ← hcs, pkC_en (p := plE c j), HPE.out]
        go_wp2_with fail
        exact ⟨⟨j + 1, l ++ [plE c j], css ++ [enR (.int .i64 nx) ((B :: BitVec.ofNat 8 j :: List.replicate 30 0 : List (BitVec 8)).map b8)], ya, yn, yc, by rw [HNX.out], rfl, by rw [HPS.out, HL.out], by rw [List.length_append, ← hjl]; show j + 1 - 2 = j - 2 + 1; omega, by omega, by omega, (fun p hp => by rcases List.mem_append.1 hp with hp | hp; exact HK.out p hp; obtain rfl := List.mem_singleton.1 hp; exact hml), hcm, by rw [List.flatten_append, HA0.out, HV0.out, show j + 1 - 2 = j - 2 + 1 by omega]; simpa using E.out⟩, by simp [intOf]; omega⟩
end Go.Proofs.YtcgbgmbnagmohaaDoor
namespace Go.Proofs.YtcgbgmbnagmohaaDoor
open Go.RowKit
set_option maxRecDepth 20000
attribute [local irreducible] wpList
theorem enters_fd1 : Enters 17 := qan Tryd.func17 (by kernel_rfl) rfl
set_option maxHeartbeats 4000000 in
theorem fd1_any (p : MPk) (B : Nat) (d : Int) (u : World) (_ : p.key.length = 32) (hB : B < u.heap.size) (hd : u.cell? ⟨B, 0, none⟩ = some (.int .i64 d)) : Calls Tryd.prog 17 #[.agg (pkC p).toArray, .pointer (some ⟨B, 0, none⟩)] u fun e w' => e = .returned (.bool (decide (p.id = d))) ∧ Below u.heap.size u w' := by
  have E := Lib.hid (Ev.start (w := u) (F := fun V => V.cell? ⟨B, 0, none⟩ = some (.int .i64 d)) (cell_fro hB hd))
  have hq : (p.id == d) = decide (p.id = d) := by rw [Bool.eq_iff_iff]; simp
  have HQ := Lib.hid hq
  clear hd hB hq
  rw [pkC_en]
  generalize decide (p.id = d) = r at *
  go_enter Tryd.func17, Tryd.ntmps17
  go_upto_region 0 with fail; refine wp_region_lit ?_
  refine qaa (qay (vs := enR (.int .i64 p.id) (p.key.map b8)) rfl rfl) rfl ?_; (try simp only [Act.put, lyy])
  replace E := Lib.hid (E.out.new (enR (.int .i64 p.id) (p.key.map b8)) 34)
  generalize u.alloc (.cells (enR (.int .i64 p.id) (p.key.map b8)).toArray 34) = a1 at *
  generalize u.heap.size = g2 at *
  refine qaa (qaf (v := .bool false) rfl rfl) rfl ?_; (try simp only [Act.put, lyy])
  refine qab ?_
  go_upto_region 1 with fail; refine wp_region_lit ?_
  refine qaa (qar (s := 0) (k := 0) rfl Tryd.underlying34 rfl (by kernel_rfl) rfl rfl) rfl ?_; (try simp only [Act.put, lyy])
  refine qaa (qa9 rfl Tryd.underlying3 rfl rfl ((E.out.get (i := 0) rfl).c 0 _ (enR_ID ))) rfl ?_; (try simp only [Act.put, lyy])
  refine qaa (qa9 rfl Tryd.underlying3 rfl rfl E.out.f) rfl ?_; (try simp only [Act.put, lyy])
  refine qaa (run_eqlb (c := r) rfl rfl rfl HQ.out) rfl ?_; (try simp only [Act.put, lyy])
  refine qaa (qaf (v := .bool r) rfl rfl) rfl ?_; (try simp only [Act.put, lyy])
  refine qab ?_
  go_wp2_with fail
  go_ret
  exact ⟨rfl, E.out.bl⟩
theorem enters_idxf : Enters 16 := qan Tryd.func16 (by kernel_rfl) rfl
set_option maxHeartbeats 8000000 in
theorem idxf_any (a : Option Addr) (c : Nat) (l : List MPk) (B : Nat) (d : Int) (w : World) (hs : Fro 0 (SlR 33 pkAt l a c) w) (hk : ∀ p ∈ l, p.key.length = 32) (hmany : l.length ≤ 60000) (hB : B < w.heap.size) (hd : w.cell? ⟨B, 0, none⟩ = some (.int .i64 d)) : Calls Tryd.prog 16 #[.slice a l.length c, .func (.func 17) #[] #[.pointer (some ⟨B, 0, none⟩)]] w fun e w' => e = .returned (.int .i64 (fdI l d)) ∧ Below w.heap.size w w' := by
  have E := Lib.hid (Ev.start (w := w) (F := fun V => SlR 33 pkAt l a c V ∧ V.cell? ⟨B, 0, none⟩ = some (.int .i64 d)) fun V hV => ⟨hs V hV, cell_fro hB hd V hV⟩)
  have HI : Hid (∀ j (hj : j < l.length), l[j].id = d → (∀ (i : Nat) (p : MPk), i < j → l[i]? = some p → p.id ≠ d) → fdI l d = (j : Int)) := Lib.hid fun j hj h1 h2 => by unfold fdI; rw [fdN_hit hj h1 h2, if_pos hj]
  have HN : Hid ((∀ (i : Nat) (p : MPk), i < l.length → l[i]? = some p → p.id ≠ d) → fdI l d = -1) := Lib.hid fun h => by unfold fdI; rw [fdN_none fun i p hp => h i p (List.getElem?_eq_some_iff.1 hp).1 hp, if_neg (Nat.lt_irrefl _)]
  have HK := Lib.hid hk
  have hBs := hB
  clear hs hd hk
  generalize fdI l d = r at *
  obtain ⟨m, hm⟩ : ∃ m, m = l.length := ⟨_, rfl⟩
  rw [← hm]
  rw [← hm] at hmany
  have HM := Lib.hid hm
  clear hB
  go_enter Tryd.func16, Tryd.ntmps16
  go_upto_region 0 with fail; refine wp_region_lit ?_
  refine qaa (qaf (v := .int .i64 0) rfl rfl) rfl ?_; (try simp only [Act.put, lyy])
  refine qab ?_
  go_upto_region 1 with fail; refine wp_region_lit ?_
  refine qaa (qae (v := .slice a m c) rfl rfl) rfl ?_; (try simp only [Act.put, lyy])
  refine qaa (qbg rfl Tryd.underlying25 rfl) rfl ?_; (try simp only [Act.put, lyy])
  refine qaa (qae (v := .int .i64 0) rfl rfl) rfl ?_; (try simp only [Act.put, lyy])
  refine qab ?_
  go_wp2_with fail
  go_loopw [5, 8] (fun s5 s8 u => ∃ j : Nat, s8 = .int .i64 (j : Int) ∧ j ≤ m ∧ Hid (∀ (i : Nat) (p : MPk), i < j → l[i]? = some p → p.id ≠ d) ∧ Ev w [] [] (fun V => SlR 33 pkAt l a c V ∧ V.cell? ⟨B, 0, none⟩ = some (.int .i64 d)) (fun _ => True) u) (fun _ s8 _ => ((m : Int) - intOf s8).toNat)
  case atStart => exact ⟨0, rfl, Nat.zero_le _, Lib.hid fun i p hi => absurd hi (Nat.not_lt_zero _), E.out⟩
  case round =>
    obtain ⟨j, rfl, hj, HJ, hE⟩ := hrel
    replace E := Lib.hid hE
    clear hE
    by_cases hjm : j = m
    · go_upto_region 2 with fail; refine wp_region_lit ?_
      refine qaa (qbo (c := false) rfl rfl rfl (decide_eq_false (by omega))) rfl ?_; (try simp only [Act.put, lyy])
      refine qab ?_
      go_upto_region 7 with fail; refine wp_region_lit ?_
      refine qaa (qaf (v := .int .i64 (-1)) rfl rfl) rfl ?_; (try simp only [Act.put, lyy])
      refine qab ?_
      go_wp2_with fail
      go_ret
      exact ⟨by rw [HN.out fun i p hi => HJ.out i p (by have := HM.out; omega)]; rfl, E.out.bl⟩
    · have hjl : j < l.length := by have := HM.out; omega
      obtain ⟨g, fo, rfl, hg, hr⟩ := pk_at E.out.f.1 hjl
      have HR := Lib.hid hr
      clear hr
      have hkl := HK.out _ (List.getElem_mem hjl)
      have HD := Lib.hid (show ∀ p, l[j]? = some p → p = l[j] from fun p hp => by rw [List.getElem?_eq_getElem hjl] at hp; exact (Option.some.inj hp).symm)
      have HI2 := Lib.hid (HI.out j hjl)
      generalize l[j] = q at *
      go_upto_region 2 with fail; refine wp_region_lit ?_
      refine qaa (qbo (c := true) rfl rfl rfl (decide_eq_true (by omega))) rfl ?_; (try simp only [Act.put, lyy])
      refine qab ?_
      go_upto_region 3 with fail; refine wp_region_lit ?_
      refine qaa (qae (v := .int .i64 (j : Int)) rfl rfl) rfl ?_; (try simp only [Act.put, lyy])
      refine qaa (qaf (v := .int .i64 (j : Int)) rfl rfl) rfl ?_; (try simp only [Act.put, lyy])
      refine qab ?_
      go_upto_region 4 with fail; refine wp_region_lit ?_
      refine qaa (qae (v := .func (.func 17) #[] #[.pointer (some ⟨B, 0, none⟩)]) rfl rfl) rfl ?_; (try simp only [Act.put, lyy])
      refine qaa (qae (v := .slice (some ⟨g, fo, none⟩) m c) rfl rfl) rfl ?_; (try simp only [Act.put, lyy])
      refine qaa (qae (v := .int .i64 (j : Int)) rfl rfl) rfl ?_; (try simp only [Act.put, lyy])
      refine qaa (qdg (z := 33) rfl Tryd.underlying25 (by kernel_rfl) rfl rfl (by omega)) rfl ?_; (try simp only [Act.put, lyy])
      refine qaa (qai (vs := pkC q) rfl Tryd.underlying34 rfl (szR (qbq hkl) (by kernel_rfl)) rfl HR.out) rfl ?_; (try simp only [Act.put, lyy])
      refine qao (run_callc1 enters_fd1 rfl rfl rfl) rfl (fd1_any q B d _ hkl (Nat.lt_of_lt_of_le hBs E.out.bl.size) E.out.f.2) (fun b1 hb => ?_); (try simp only [Act.put, lyy])
      replace E := Lib.hid (E.out.below hb)
      clear hb HR
      refine qab ?_
      by_cases hq : q.id = d
      · rw [decide_eq_true hq]
        go_upto_region 5 with fail; refine wp_region_lit ?_
        refine qaa (qae (v := .int .i64 (j : Int)) rfl rfl) rfl ?_; (try simp only [Act.put, lyy])
        refine qaa (qaf (v := .int .i64 (j : Int)) rfl rfl) rfl ?_; (try simp only [Act.put, lyy])
        refine qab ?_
        go_wp2_with fail
        go_ret
        exact ⟨by rw [HI2.out hq HJ.out]; rfl, E.out.bl⟩
      · rw [decide_eq_false hq]
        go_upto_region 6 with fail; refine wp_region_lit ?_
        refine qaa (qb9 (a := j) (b := 1) rfl rfl rfl (by omega)) rfl ?_; (try simp only [Act.put, lyy])
        refine qaa (qae (v := .int .i64 ((j + 1 : Nat) : Int)) rfl rfl) rfl ?_; (try simp only [Act.put, lyy])
        refine qab ?_
        have NX : Hid (∀ (i : Nat) (p : MPk), i < j + 1 → l[i]? = some p → p.id ≠ d) := Lib.hid fun i p hi hp => by
          rcases Nat.lt_or_ge i j with h9 | h9
          · exact HJ.out i p h9 hp
          · obtain rfl : i = j := by omega
            rw [HD.out p hp]
            exact hq
        go_wp2_with fail
        exact ⟨⟨j + 1, rfl, by omega, NX, E.out⟩, by simp [intOf]; omega⟩
theorem enters_find : Enters 8 := qan Tryd.func8 (by kernel_rfl) rfl
theorem k0_built : Tryd.prog.built 24 [] = some (k0.map b8).toArray := by kernel_rfl
set_option maxHeartbeats 8000000 in
theorem find_any (m : MLs) (X : List Value) (d : Int) (w : World) (hm : m.Ok) (hX : Fro 0 (lsAt m X) w) : Calls Tryd.prog 8 #[.agg X.toArray, .int .i64 d] w fun e w' => e = .returned (.tuple #[.agg ((fdK m.devs d).map b8).toArray, .bool (fdB m.devs d)]) ∧ Below w.heap.size w w' := by
  obtain ⟨a0, c0, rfl, HF⟩ := lsAt_fix hm hX
  have k1 := hm.ident
  have k2 := hm.sig
  have HDV := Lib.hid hm.devs
  have hmany := hm.many
  have E := Lib.hid (Ev.start (w := w) (F := SlR 33 pkAt m.devs a0 c0) HF)
  have CI : Hid (∀ (u : World) (B : Nat), Fro 0 (SlR 33 pkAt m.devs a0 c0) u → B < u.heap.size → u.cell? ⟨B, 0, none⟩ = some (.int .i64 d) → Calls Tryd.prog 16 #[.slice a0 m.devs.length c0, .func (.func 17) #[] #[.pointer (some ⟨B, 0, none⟩)]] u fun e w' => e = .returned (.int .i64 (fdI m.devs d)) ∧ Below u.heap.size u w') := Lib.hid fun u B h1 h2 h3 => idxf_any a0 c0 m.devs B d u h1 hm.devs hm.many h2 h3
  have KZ := Lib.hid k0_built
  have lz : k0.length = 32 := rfl
  clear hX HF hm
  by_cases hf : fdN m.devs d < m.devs.length
  · have HI : Hid (fdI m.devs d = ((fdN m.devs d : Nat) : Int)) := Lib.hid (by unfold fdI; rw [if_pos hf])
    have HB : Hid (fdB m.devs d = true) := Lib.hid (decide_eq_true hf)
    have HQ : Hid (fdK m.devs d = (m.devs[fdN m.devs d]).key) := Lib.hid (by unfold fdK; rw [List.getD_eq_getElem?_getD, List.getElem?_eq_getElem hf]; rfl)
    have hkl := HDV.out _ (List.getElem_mem hf)
    have HA : Hid (∀ V, SlR 33 pkAt m.devs a0 c0 V → ∃ g f, a0 = some ⟨g, f, none⟩ ∧ g < V.heap.size ∧ V.rangeAt g (f + fdN m.devs d * 33) (pkC m.devs[fdN m.devs d])) := Lib.hid fun V hV => pk_at hV hf
    rw [HI.out] at CI
    generalize m.devs[fdN m.devs d] = q at *
    generalize hkk : fdN m.devs d = k at *
    clear hkk
    rw [HQ.out, HB.out]
    clear HI HB HQ
    go_enter Tryd.func8, Tryd.ntmps8
    go_upto_region 0 with fail; refine wp_region_lit ?_
    refine qaa (qay (vs := lsR (.int .i64 m.acc) (.int .i64 m.ver) (m.ident.map b8) (.slice a0 m.devs.length c0) (m.sig.map b8)) rfl rfl) rfl ?_; (try simp only [Act.put, lyy])
    replace E := Lib.hid (E.out.new (lsR (.int .i64 m.acc) (.int .i64 m.ver) (m.ident.map b8) (.slice a0 m.devs.length c0) (m.sig.map b8)) 29)
    generalize w.alloc (.cells (lsR (.int .i64 m.acc) (.int .i64 m.ver) (m.ident.map b8) (.slice a0 m.devs.length c0) (m.sig.map b8)).toArray 29) = a1 at *
    generalize w.heap.size = g2 at *
    refine qaa (run_box1 (v := .int .i64 d) rfl rfl rfl) rfl ?_; (try simp only [Act.put, lyy])
    replace E := Lib.hid (E.out.new ([.int .i64 d]) 3)
    generalize a1.alloc (.cells ([.int .i64 d]).toArray 3) = a3 at *
    generalize a1.heap.size = g4 at *
    refine qaa (qas (vs := z8 32) rfl (by kernel_rfl)) rfl ?_; (try simp only [Act.put, lyy])
    replace E := Lib.hid (E.out.new (z8 32) 24)
    generalize a3.alloc (.cells (z8 32).toArray 24) = a5 at *
    generalize a3.heap.size = g6 at *
    refine qaa (qaf (v := .bool false) rfl rfl) rfl ?_; (try simp only [Act.put, lyy])
    refine qab ?_
    go_upto_region 1 with fail; refine wp_region_lit ?_
    refine qaa (qar (s := 0) (k := 34) rfl Tryd.underlying29 rfl (by kernel_rfl) rfl rfl) rfl ?_; (try simp only [Act.put, lyy])
    refine qaa (qa9 rfl Tryd.underlying25 rfl rfl ((E.out.get (i := 2) rfl).c 34 _ (qau (by rw [List.length_map, k1])))) rfl ?_; (try simp only [Act.put, lyy])
    refine qaa (run_mkf1 rfl rfl) rfl ?_; (try simp only [Act.put, lyy])
    refine qao (qal enters_idxf rfl rfl rfl rfl) rfl (CI.out _ _ E.out.froF (E.out.get (i := 1) rfl).lt ((E.out.get (i := 1) rfl).c 0 _ rfl)) (fun a7 hb => ?_); (try simp only [Act.put, lyy])
    replace E := Lib.hid (E.out.below hb)
    clear hb
    refine qaa (qaf (v := .int .i64 (k : Int)) rfl rfl) rfl ?_; (try simp only [Act.put, lyy])
    refine qab ?_
    go_upto_region 2 with fail; refine wp_region_lit ?_
    refine qaa (qae (v := .int .i64 (k : Int)) rfl rfl) rfl ?_; (try simp only [Act.put, lyy])
    refine qaa (qbo (c := false) rfl rfl rfl (decide_eq_false (by omega))) rfl ?_; (try simp only [Act.put, lyy])
    refine qab ?_
    obtain ⟨g, fo, rfl, hg, hr⟩ := HA.out _ E.out.f
    rw [pkC_en] at hr
    have HR : Hid (a7.rangeAt g (fo + k * 33 + 1) (q.key.map b8)) := Lib.hid (by have h6 := qca (k := 32) (qcb (k := 1) hr); rwa [enR_Key (by rw [List.length_map, hkl])] at h6)
    clear hr HA
    go_upto_region 4 with fail; refine wp_region_lit ?_
    refine qaa (qar (s := 0) (k := 34) rfl Tryd.underlying29 rfl (by kernel_rfl) rfl rfl) rfl ?_; (try simp only [Act.put, lyy])
    refine qaa (qa9 rfl Tryd.underlying25 rfl rfl ((E.out.get (i := 2) rfl).c 34 _ (qau (by rw [List.length_map, k1])))) rfl ?_; (try simp only [Act.put, lyy])
    refine qaa (qae (v := .int .i64 (k : Int)) rfl rfl) rfl ?_; (try simp only [Act.put, lyy])
    refine qaa (qdg (z := 33) rfl Tryd.underlying25 (by kernel_rfl) rfl rfl (by omega)) rfl ?_; (try simp only [Act.put, lyy])
    refine qaa (qar (s := 31) (k := 1) rfl Tryd.underlying34 rfl (by kernel_rfl) rfl rfl) rfl ?_; (try simp only [Act.put, lyy])
    refine qaa (qai (vs := q.key.map b8) rfl Tryd.underlying24 rfl (szR (by rw [List.length_map, hkl]) (by kernel_rfl)) rfl HR.out) rfl ?_; (try simp only [Act.put, lyy])
    refine qag (qap (vs := q.key.map b8) rfl (szR (by rw [List.length_map, hkl]) (by kernel_rfl)) rfl rfl (One.all (One.b8 _)) ((E.out.get (i := 0) rfl).thereM (by have q1 : (q.key.map b8).length = 32 := (by rw [List.length_map, hkl]); have q2 : (z8 32).length = 32 := (qbb 32); omega))) rfl rfl ?_
    replace E := Lib.hid (E.out.put 0 rfl (m := q.key.map b8) ((show (q.key.map b8).length = 32 from (by rw [List.length_map, hkl])).trans (show (z8 32).length = 32 from (qbb 32)).symm))
    generalize a7.setCells g6 0 (q.key.map b8) = a8 at *
    replace E := Lib.hid (show Ev _ [(g6, q.key.map b8), (g4, [.int .i64 d]), (g2, lsR (.int .i64 m.acc) (.int .i64 m.ver) (m.ident.map b8) (.slice (some ⟨g, fo, none⟩) m.devs.length c0) (m.sig.map b8))] _ _ _ a8 from E.out)
    refine qaa (qaf (v := .bool true) rfl rfl) rfl ?_; (try simp only [Act.put, lyy])
    refine qab ?_
    go_wp2_with fail
    exact bodyPost_ret (v := .tuple #[.agg (q.key.map b8).toArray, .bool true]) (qbu Tryd.results8 rfl Tryd.underlying24 rfl (szR (by rw [List.length_map, hkl]) (by kernel_rfl)) (E.out.get (i := 0) rfl).range) rfl ⟨rfl, E.out.bl⟩
  · have HI : Hid (fdI m.devs d = -1) := Lib.hid (by unfold fdI; rw [if_neg hf])
    have HB : Hid (fdB m.devs d = false) := Lib.hid (decide_eq_false hf)
    have HQ : Hid (fdK m.devs d = k0) := Lib.hid (by unfold fdK; rw [List.getD_eq_getElem?_getD, List.getElem?_eq_none (by omega)]; rfl)
    rw [HI.out] at CI
    rw [HQ.out, HB.out]
    clear HI HB HQ hf
    generalize k0 = z at *
    go_enter Tryd.func8, Tryd.ntmps8
    go_upto_region 0 with fail; refine wp_region_lit ?_
    refine qaa (qay (vs := lsR (.int .i64 m.acc) (.int .i64 m.ver) (m.ident.map b8) (.slice a0 m.devs.length c0) (m.sig.map b8)) rfl rfl) rfl ?_; (try simp only [Act.put, lyy])
    replace E := Lib.hid (E.out.new (lsR (.int .i64 m.acc) (.int .i64 m.ver) (m.ident.map b8) (.slice a0 m.devs.length c0) (m.sig.map b8)) 29)
    generalize w.alloc (.cells (lsR (.int .i64 m.acc) (.int .i64 m.ver) (m.ident.map b8) (.slice a0 m.devs.length c0) (m.sig.map b8)).toArray 29) = a1 at *
    generalize w.heap.size = g2 at *
    refine qaa (run_box1 (v := .int .i64 d) rfl rfl rfl) rfl ?_; (try simp only [Act.put, lyy])
    replace E := Lib.hid (E.out.new ([.int .i64 d]) 3)
    generalize a1.alloc (.cells ([.int .i64 d]).toArray 3) = a3 at *
    generalize a1.heap.size = g4 at *
    refine qaa (qas (vs := z8 32) rfl (by kernel_rfl)) rfl ?_; (try simp only [Act.put, lyy])
    replace E := Lib.hid (E.out.new (z8 32) 24)
    generalize a3.alloc (.cells (z8 32).toArray 24) = a5 at *
    generalize a3.heap.size = g6 at *
    refine qaa (qaf (v := .bool false) rfl rfl) rfl ?_; (try simp only [Act.put, lyy])
    refine qab ?_
    go_upto_region 1 with fail; refine wp_region_lit ?_
    refine qaa (qar (s := 0) (k := 34) rfl Tryd.underlying29 rfl (by kernel_rfl) rfl rfl) rfl ?_; (try simp only [Act.put, lyy])
    refine qaa (qa9 rfl Tryd.underlying25 rfl rfl ((E.out.get (i := 2) rfl).c 34 _ (qau (by rw [List.length_map, k1])))) rfl ?_; (try simp only [Act.put, lyy])
    refine qaa (run_mkf1 rfl rfl) rfl ?_; (try simp only [Act.put, lyy])
    refine qao (qal enters_idxf rfl rfl rfl rfl) rfl (CI.out _ _ E.out.froF (E.out.get (i := 1) rfl).lt ((E.out.get (i := 1) rfl).c 0 _ rfl)) (fun a7 hb => ?_); (try simp only [Act.put, lyy])
    replace E := Lib.hid (E.out.below hb)
    clear hb
    refine qaa (qaf (v := .int .i64 (-1)) rfl rfl) rfl ?_; (try simp only [Act.put, lyy])
    refine qab ?_
    go_upto_region 2 with fail; refine wp_region_lit ?_
    refine qaa (qae (v := .int .i64 (-1)) rfl rfl) rfl ?_; (try simp only [Act.put, lyy])
    refine qaa (qbo (c := true) rfl rfl rfl (decide_eq_true (by omega))) rfl ?_; (try simp only [Act.put, lyy])
    refine qab ?_
    go_upto_region 3 with fail; refine wp_region_lit ?_
    refine qaa (qcc (ps := []) rfl rfl KZ.out) rfl ?_; (try simp only [Act.put, lyy])
    refine qag (qap (vs := z.map b8) rfl (szR (by rw [List.length_map, lz]) (by kernel_rfl)) rfl rfl (One.all (One.b8 _)) ((E.out.get (i := 0) rfl).thereM (by have q1 : (z.map b8).length = 32 := (by rw [List.length_map, lz]); have q2 : (z8 32).length = 32 := (qbb 32); omega))) rfl rfl ?_
    replace E := Lib.hid (E.out.put 0 rfl (m := z.map b8) ((show (z.map b8).length = 32 from (by rw [List.length_map, lz])).trans (show (z8 32).length = 32 from (qbb 32)).symm))
    generalize a7.setCells g6 0 (z.map b8) = a8 at *
    replace E := Lib.hid (show Ev _ [(g6, z.map b8), (g4, [.int .i64 d]), (g2, lsR (.int .i64 m.acc) (.int .i64 m.ver) (m.ident.map b8) (.slice a0 m.devs.length c0) (m.sig.map b8))] _ _ _ a8 from E.out)
    refine qaa (qaf (v := .bool false) rfl rfl) rfl ?_; (try simp only [Act.put, lyy])
    refine qab ?_
    go_wp2_with fail
    exact bodyPost_ret (v := .tuple #[.agg (z.map b8).toArray, .bool false]) (qbu Tryd.results8 rfl Tryd.underlying24 rfl (szR (by rw [List.length_map, lz]) (by kernel_rfl)) (E.out.get (i := 0) rfl).range) rfl ⟨rfl, E.out.bl⟩
end Go.Proofs.YtcgbgmbnagmohaaDoor
namespace Go.Proofs.YtcgbgmbnagmohaaDoor
open Go.RowKit
set_option maxRecDepth 20000
attribute [local irreducible] wpList
theorem slR_nilE {α : Type} {z : Nat} {At : α → List Value → World → Prop} (V : World) : SlR z At ([] : List α) none 0 V := ⟨Nat.le_refl _, [], rfl, (fun _ h => by cases h), (fun _ _ _ h => by simp at h), fun h => absurd rfl h⟩
def p1 : MPk := ⟨1, k0⟩
theorem p1_row : pkC p1 = enR (.int .i64 1) (k0.map b8) := pkC_en
def zM : MLs := ⟨0, 0, k0, [], s0⟩
def oM : MLs := ⟨0, 0, k0, [p1], s0⟩
def pM : MLs := ⟨1, 1, k0, [p1], s0⟩
theorem zM_ok : zM.Ok := ⟨rfl, rfl, (fun _ h => by cases h), by decide⟩
theorem oM_ok : oM.Ok := ⟨rfl, rfl, (fun p h => by rw [List.mem_singleton.1 h]; rfl), by decide⟩
theorem pM_ok : pM.Ok := ⟨rfl, rfl, (fun p h => by rw [List.mem_singleton.1 h]; rfl), by decide⟩
theorem right_sign (k : List (BitVec 8)) (m : MLs) : rightB (snM k m) = frB m := by
  have h : verB (snM k m).ident (conB (snM k m)) (snM k m).sig = true := ver_sig k _
  unfold rightB
  rw [h, Bool.and_true]
  rfl
theorem snM_con {k : List (BitVec 8)} {m : MLs} (h : m.ident.length = 32) : (conB (snM k m)).length = (conB m).length := by
  rw [conB_len, conB_len]
  have e : (lsF (snM k m) (snM k m).devs.length).length = (lsF m m.devs.length).length := by
    unfold lsF
    simp only [List.length_append, h]
    rw [show (snM k m).ident.length = 32 from pubB_len k]
    rfl
  rw [e]
theorem txt_str : strOf txtL = ⟨#[107, 101, 121, 119, 97, 114, 100, 32, 108, 105, 115, 116]⟩ := by rfl
theorem run_eqTxt {w : World} {ρ : Operand → Value} {o : Oper} {x y : Operand} {t t' : TypeId} (ho : o.op = .binOp .eql t x y t') (hx : ρ x = .string (strOf txtL)) (hy : ρ y = .string ⟨#[107, 101, 121, 119, 97, 114, 100, 32, 108, 105, 115, 116]⟩) : (execOp ρ o).run Tryd.prog w = .ok (.value (.bool true)) w := by
  rw [txt_str] at hx
  rw [run_eqstrG ho hx hy]
  simp
theorem enters_kn11 : Enters 9 := qan Tryd.func9 (by kernel_rfl) rfl
set_option maxHeartbeats 16000000 in
theorem known11_any (HP : PubC) (HS : SigC) (HV : VerC) (w : World) (hW : W9 w) : Calls Tryd.prog 9 #[] w fun e w' => e = .returned (.bool true) ∧ Below w.heap.size w w' := by
  have HW := Lib.hid hW
  have E := Lib.hid (Ev.start (w := w) (F := fun _ => True) fun _ _ => trivial)
  have ZL : Hid (Tryd.prog.built 29 [] = some (lsR (.int .i64 0) (.int .i64 0) (k0.map b8) (.slice none 0 0) (s0.map b8)).toArray) := Lib.hid (by kernel_rfl)
  have EB : Hid (Tryd.prog.built 34 [(0, .int .i64 1)] = some (enR (.int .i64 1) (k0.map b8)).toArray) := Lib.hid (by kernel_rfl)
  have OL : Hid (∀ g : Nat, Tryd.prog.built 29 [(3, .slice (some ⟨g, 0, none⟩) 1 1)] = some (lsR (.int .i64 0) (.int .i64 0) (k0.map b8) (.slice (some ⟨g, 0, none⟩) 1 1) (s0.map b8)).toArray) := Lib.hid fun g => by kernel_rfl
  have PL : Hid (∀ g : Nat, Tryd.prog.built 29 [(0, .int .i64 1), (1, .int .i64 1), (3, .slice (some ⟨g, 0, none⟩) 1 1)] = some (lsR (.int .i64 1) (.int .i64 1) (k0.map b8) (.slice (some ⟨g, 0, none⟩) 1 1) (s0.map b8)).toArray) := Lib.hid fun g => by kernel_rfl
  have HZ : ∀ u, Fro 0 (lsAt zM (lsR (.int .i64 0) (.int .i64 0) (k0.map b8) (.slice none 0 0) (s0.map b8))) u := fun u V hV => ⟨none, 0, rfl, slR_nilE V⟩
  have HO : ∀ (u : World) (g : Nat), Arr g (enR (.int .i64 1) (k0.map b8)) u → Fro 0 (SlR 33 pkAt [p1] (some ⟨g, 0, none⟩) 1) u := fun u g h => slR_sole h (qbk rfl) fun V _ => p1_row.symm
  have CA : Hid (∀ (u : World) (g : Nat), Arr g (enR (.int .i64 1) (k0.map b8)) u → Calls Tryd.prog 14 #[.agg (lsR (.int .i64 0) (.int .i64 0) (k0.map b8) (.slice none 0 0) (s0.map b8)).toArray, .agg (lsR (.int .i64 0) (.int .i64 0) (k0.map b8) (.slice (some ⟨g, 0, none⟩) 1 1) (s0.map b8)).toArray] u fun e w' => e = .returned (.tuple #[.agg (enR (.int .i64 1) (k0.map b8)).toArray, .bool true]) ∧ Below u.heap.size u w') := Lib.hid fun u g h => by
    have h2 := added_any zM oM _ _ u zM_ok oM_ok (HZ u) (fun V hV => ⟨_, _, rfl, HO u g h V hV⟩)
    have e1 : adB zM.devs oM.devs = true := rfl
    have e2 : adP zM.devs oM.devs = p1 := rfl
    rw [e1, e2, p1_row] at h2
    exact h2
  have CK : Hid (∀ u : World, Calls Tryd.prog 12 #[.int .u8 1] u fun e w' => e = .returned (.agg ((scK 1#8).map b8).toArray) ∧ Below u.heap.size u w') := Lib.hid fun u => sec_any 1#8 u
  have lZ : (conB pM).length ≤ 300 := by decide +kernel
  have CS : Hid (∀ (u : World) (g : Nat), Since w u → Arr g (enR (.int .i64 1) (k0.map b8)) u → Calls Tryd.prog 11 #[.agg ((scK 1#8).map b8).toArray, .agg (lsR (.int .i64 1) (.int .i64 1) (k0.map b8) (.slice (some ⟨g, 0, none⟩) 1 1) (s0.map b8)).toArray] u fun e w' => ∃ v', e = .returned v' ∧ ((∃ a c, v' = .agg (lsR (.int .i64 1) (.int .i64 1) ((snM (scK 1#8) pM).ident.map b8) (.slice a 1 c) ((snM (scK 1#8) pM).sig.map b8)).toArray ∧ Fro u.heap.size (SlR 33 pkAt [p1] a c) w') ∧ Below u.heap.size u w')) := Lib.hid fun u g hu h => lsign_any HP HS (scK 1#8) pM _ u rfl pM_ok (fun V hV => ⟨_, _, rfl, HO u g h V hV⟩) lZ (hW.below hu)
  have lZ2 : (conB (snM (scK 1#8) pM)).length ≤ 300 := by rw [snM_con rfl]; exact lZ
  have CR : Hid (∀ (u : World) (a : Option Addr) (c : Nat), Since w u → Fro 0 (SlR 33 pkAt [p1] a c) u → Calls Tryd.prog 13 #[.agg (lsR (.int .i64 1) (.int .i64 1) ((snM (scK 1#8) pM).ident.map b8) (.slice a 1 c) ((snM (scK 1#8) pM).sig.map b8)).toArray] u fun e w' => e = .returned (.bool true) ∧ Below u.heap.size u w') := Lib.hid fun u a c hu h => by
    have h2 := right_any HV (snM (scK 1#8) pM) _ u (snM_ok pM_ok) (fun V hV => ⟨a, c, rfl, h V hV⟩) lZ2 (hW.below hu)
    rw [right_sign, show frB pM = true from rfl] at h2
    exact h2
  have CZ : Hid (∀ u : World, Since w u → Calls Tryd.prog 13 #[.agg (lsR (.int .i64 0) (.int .i64 0) (k0.map b8) (.slice none 0 0) (s0.map b8)).toArray] u fun e w' => e = .returned (.bool false) ∧ Below u.heap.size u w') := Lib.hid fun u hu => by
    have h2 := right_any HV zM _ u zM_ok (HZ u) (by decide +kernel) (hW.below hu)
    rwa [show rightB zM = false from rfl] at h2
  have CC : Hid (∀ (u : World) (a : Option Addr) (c : Nat), Fro 0 (SlR 33 pkAt [p1] a c) u → Calls Tryd.prog 18 #[.agg (lsR (.int .i64 1) (.int .i64 1) ((snM (scK 1#8) pM).ident.map b8) (.slice a 1 c) ((snM (scK 1#8) pM).sig.map b8)).toArray] u fun e w' => ∃ v', e = .returned v' ∧ S5 u v' (conB (snM (scK 1#8) pM)) w') := Lib.hid fun u a c h => cont_any (snM (scK 1#8) pM) _ u (snM_ok pM_ok) fun V hV => ⟨a, c, rfl, h V hV⟩
  have lI : (snM (scK 1#8) pM).ident.length = 32 := pubB_len _
  have lG : (snM (scK 1#8) pM).sig.length = 64 := sigB_len _ _
  have lS := scK_len 1#8
  have lK : k0.length = 32 := rfl
  have lY : s0.length = 64 := rfl
  have ET : Hid ((conB (snM (scK 1#8) pM)).take 12 = txtL) := Lib.hid (by unfold conB; exact List.take_left' rfl)
  have EN : Hid (12 ≤ (conB (snM (scK 1#8) pM)).length) := Lib.hid (by rw [conB_len]; omega)
  clear hW HZ HO lZ lZ2
  generalize conB (snM (scK 1#8) pM) = B at *
  generalize (snM (scK 1#8) pM).ident = I9 at *
  generalize (snM (scK 1#8) pM).sig = G9 at *
  generalize scK 1#8 = K9 at *
  generalize k0 = kz at *
  generalize s0 = sz at *
  go_enter Tryd.func9, Tryd.ntmps9
  go_upto_region 0 with fail; refine wp_region_lit ?_
  refine qaa (qaf (v := .bool false) rfl rfl) rfl ?_; (try simp only [Act.put, List.setIfInBounds_toArray, List.set_cons_zero])
  refine qab ?_
  go_upto_region 1 with fail; refine wp_region_lit ?_
  refine qaa (qcc (ps := []) rfl rfl ZL.out) rfl ?_; (try simp only [Act.put, lyy])
  refine qaa (qcc (ps := [(0, .int .i64 1)]) rfl rfl EB.out) rfl ?_; (try simp only [Act.put, lyy])
  refine qaa (run_bsl1 (m := enR (.int .i64 1) (kz.map b8)) (z := 33) (zv := .agg ([.int .i64 0] ++ List.replicate 32 (.int .u8 0) : List Value).toArray) rfl Tryd.underlying25 (by kernel_rfl) rfl (qbk (by rw [List.length_map, lK])) (by omega) (by omega)) rfl ?_; (try simp only [Act.put, lyy])
  replace E := Lib.hid (E.out.new (enR (.int .i64 1) (kz.map b8)) 34)
  generalize w.alloc (.cells (enR (.int .i64 1) (kz.map b8)).toArray 34) = a1 at *
  generalize w.heap.size = g2 at *
  refine qaa (qcc (ps := [(3, .slice (some ⟨g2, 0, none⟩) 1 1)]) rfl rfl (OL.out g2)) rfl ?_; (try simp only [Act.put, lyy])
  refine qao (qal enters_added rfl rfl rfl rfl) rfl (CA.out _ g2 (E.out.get (i := 0) rfl)) (fun a3 hb => ?_); (try simp only [Act.put, lyy])
  replace E := Lib.hid (E.out.below hb)
  clear hb
  refine qaa (qae (v := .tuple #[.agg (enR (.int .i64 1) (kz.map b8)).toArray, .bool true]) rfl rfl) rfl ?_; (try simp only [Act.put, lyy])
  refine qaa (qbr (v := .agg (enR (.int .i64 1) (kz.map b8)).toArray) rfl rfl rfl) rfl ?_; (try simp only [Act.put, lyy])
  refine qaa (qbr (v := .bool true) rfl rfl rfl) rfl ?_; (try simp only [Act.put, lyy])
  refine qaa (qas (vs := enR ((.int .i64 0)) (z8 32)) rfl (by kernel_rfl)) rfl ?_; (try simp only [Act.put, lyy])
  replace E := Lib.hid (E.out.new (enR ((.int .i64 0)) (z8 32)) 34)
  generalize a3.alloc (.cells (enR ((.int .i64 0)) (z8 32)).toArray 34) = a4 at *
  generalize a3.heap.size = g5 at *
  refine qag (qap (vs := enR (.int .i64 1) (kz.map b8)) rfl (szR (qbk (by rw [List.length_map, lK])) (by kernel_rfl)) rfl rfl (One.all (enR_one rfl (One.b8 _))) ((E.out.get (i := 0) rfl).thereM (by have q1 : (enR (.int .i64 1) (kz.map b8)).length = 33 := (qbk (by rw [List.length_map, lK])); have q2 : (enR ((.int .i64 0)) (z8 32)).length = 33 := (qbk (qbb 32)); omega))) rfl rfl ?_
  replace E := Lib.hid (E.out.put 0 rfl (m := enR (.int .i64 1) (kz.map b8)) ((show (enR (.int .i64 1) (kz.map b8)).length = 33 from (qbk (by rw [List.length_map, lK]))).trans (show (enR ((.int .i64 0)) (z8 32)).length = 33 from (qbk (qbb 32))).symm))
  generalize a4.setCells g5 0 (enR (.int .i64 1) (kz.map b8)) = a6 at *
  replace E := Lib.hid (show Ev _ [(g5, enR (.int .i64 1) (kz.map b8)), (g2, enR (.int .i64 1) (kz.map b8))] _ _ _ a6 from E.out)
  refine qaa (qaf (v := .bool true) rfl rfl) rfl ?_; (try simp only [Act.put, lyy])
  refine qab ?_
  go_upto_region 2 with fail; refine wp_region_lit ?_
  refine qao (qam enters_sec11 rfl rfl rfl) rfl (CK.out _) (fun a7 hb => ?_); (try simp only [Act.put, lyy])
  replace E := Lib.hid (E.out.below hb)
  clear hb
  refine qaa (qcc (ps := [(0, .int .i64 1)]) rfl rfl EB.out) rfl ?_; (try simp only [Act.put, lyy])
  refine qaa (run_bsl1 (m := enR (.int .i64 1) (kz.map b8)) (z := 33) (zv := .agg ([.int .i64 0] ++ List.replicate 32 (.int .u8 0) : List Value).toArray) rfl Tryd.underlying25 (by kernel_rfl) rfl (qbk (by rw [List.length_map, lK])) (by omega) (by omega)) rfl ?_; (try simp only [Act.put, lyy])
  replace E := Lib.hid (E.out.new (enR (.int .i64 1) (kz.map b8)) 34)
  generalize a7.alloc (.cells (enR (.int .i64 1) (kz.map b8)).toArray 34) = a8 at *
  generalize a7.heap.size = g9 at *
  refine qaa (qcc (ps := [(0, .int .i64 1), (1, .int .i64 1), (3, .slice (some ⟨g9, 0, none⟩) 1 1)]) rfl rfl (PL.out g9)) rfl ?_; (try simp only [Act.put, lyy])
  refine qbd (qal enters_lsign rfl rfl rfl rfl) rfl (CS.out _ g9 E.out.bl (E.out.get (i := 0) rfl)) (fun v11 a10 hR => ?_); (try simp only [Act.put, lyy])
  obtain ⟨⟨av, cv, rfl, hF⟩, hb7⟩ := hR
  replace E := Lib.hid (E.out.call hb7 hF)
  clear hF hb7
  refine qaa (qas (vs := lsR ((.int .i64 0)) ((.int .i64 0)) (z8 32) ((.slice none 0 0)) (z8 64)) rfl (by kernel_rfl)) rfl ?_; (try simp only [Act.put, lyy])
  replace E := Lib.hid (E.out.new (lsR ((.int .i64 0)) ((.int .i64 0)) (z8 32) ((.slice none 0 0)) (z8 64)) 29)
  generalize a10.alloc (.cells (lsR ((.int .i64 0)) ((.int .i64 0)) (z8 32) ((.slice none 0 0)) (z8 64)).toArray 29) = a12 at *
  generalize a10.heap.size = g13 at *
  refine qag (qap (vs := lsR (.int .i64 1) (.int .i64 1) (I9.map b8) (.slice av 1 cv) (G9.map b8)) rfl (szR (qa7 (by rw [List.length_map, lI]) (by rw [List.length_map, lG])) (by kernel_rfl)) rfl rfl (One.all (lsR_one rfl rfl (One.b8 _) rfl (One.b8 _))) ((E.out.get (i := 0) rfl).thereM (by have q1 : (lsR (.int .i64 1) (.int .i64 1) (I9.map b8) (.slice av 1 cv) (G9.map b8)).length = 99 := (qa7 (by rw [List.length_map, lI]) (by rw [List.length_map, lG])); have q2 : (lsR ((.int .i64 0)) ((.int .i64 0)) (z8 32) ((.slice none 0 0)) (z8 64)).length = 99 := (qa7 (qbb 32) (qbb 64)); omega))) rfl rfl ?_
  replace E := Lib.hid (E.out.put 0 rfl (m := lsR (.int .i64 1) (.int .i64 1) (I9.map b8) (.slice av 1 cv) (G9.map b8)) ((show (lsR (.int .i64 1) (.int .i64 1) (I9.map b8) (.slice av 1 cv) (G9.map b8)).length = 99 from (qa7 (by rw [List.length_map, lI]) (by rw [List.length_map, lG]))).trans (show (lsR ((.int .i64 0)) ((.int .i64 0)) (z8 32) ((.slice none 0 0)) (z8 64)).length = 99 from (qa7 (qbb 32) (qbb 64))).symm))
  generalize a12.setCells g13 0 (lsR (.int .i64 1) (.int .i64 1) (I9.map b8) (.slice av 1 cv) (G9.map b8)) = a14 at *
  replace E := Lib.hid (show Ev _ [(g13, lsR (.int .i64 1) (.int .i64 1) (I9.map b8) (.slice av 1 cv) (G9.map b8)), (g9, enR (.int .i64 1) (kz.map b8)), (g5, enR (.int .i64 1) (kz.map b8)), (g2, enR (.int .i64 1) (kz.map b8))] _ _ _ a14 from E.out)
  refine qab ?_
  go_upto_region 3 with fail; refine wp_region_lit ?_
  refine qaa (qae (v := .bool true) rfl rfl) rfl ?_; (try simp only [Act.put, lyy])
  refine qaa (qae (v := .bool true) rfl rfl) rfl ?_; (try simp only [Act.put, lyy])
  refine qak (qar (s := 0) (k := 0) rfl Tryd.underlying34 rfl (by kernel_rfl) rfl rfl) rfl ?_; (try simp only [Act.put, lyy])
  refine qak (qa9 rfl Tryd.underlying3 rfl rfl ((E.out.get (i := 2) rfl).c 0 _ (enR_ID ))) rfl ?_; (try simp only [Act.put, lyy])
  refine qak (run_eqlb (c := true) rfl rfl rfl rfl) rfl ?_; (try simp only [Act.put, lyy])
  refine qaa (qa8 (b := true) (v := .bool true) rfl rfl rfl) rfl ?_; (try simp only [Act.put, lyy])
  refine qaa (qae (v := .bool true) rfl rfl) rfl ?_; (try simp only [Act.put, lyy])
  refine qak (qai (vs := lsR (.int .i64 1) (.int .i64 1) (I9.map b8) (.slice av 1 cv) (G9.map b8)) rfl Tryd.underlying29 rfl (szR (qa7 (by rw [List.length_map, lI]) (by rw [List.length_map, lG])) (by kernel_rfl)) rfl (E.out.get (i := 0) rfl).range) rfl ?_; (try simp only [Act.put, lyy])
  refine qcm (qam enters_right rfl rfl rfl) rfl (CR.out _ av cv E.out.bl (fun V hV => (E.out.tell V (hV.mono (Nat.zero_le _) fun _ h => h)).1)) (fun a15 hb => ?_); (try simp only [Act.put, lyy])
  replace E := Lib.hid (E.out.below hb)
  clear hb
  refine qaa (qa8 (b := true) (v := .bool true) rfl rfl rfl) rfl ?_; (try simp only [Act.put, lyy])
  refine qaa (qae (v := .bool true) rfl rfl) rfl ?_; (try simp only [Act.put, lyy])
  refine qak (qcc (ps := []) rfl rfl ZL.out) rfl ?_; (try simp only [Act.put, lyy])
  refine qcm (qam enters_right rfl rfl rfl) rfl (CZ.out _ E.out.bl) (fun a16 hb => ?_); (try simp only [Act.put, lyy])
  replace E := Lib.hid (E.out.below hb)
  clear hb
  refine qak (run_notF rfl rfl) rfl ?_; (try simp only [Act.put, lyy])
  refine qaa (qa8 (b := true) (v := .bool true) rfl rfl rfl) rfl ?_; (try simp only [Act.put, lyy])
  refine qaa (qae (v := .bool true) rfl rfl) rfl ?_; (try simp only [Act.put, lyy])
  refine qak (qai (vs := lsR (.int .i64 1) (.int .i64 1) (I9.map b8) (.slice av 1 cv) (G9.map b8)) rfl Tryd.underlying29 rfl (szR (qa7 (by rw [List.length_map, lI]) (by rw [List.length_map, lG])) (by kernel_rfl)) rfl (E.out.get (i := 0) rfl).range) rfl ?_; (try simp only [Act.put, lyy])
  refine wpList_callRG (qam enters_cont rfl rfl rfl) rfl (CC.out _ av cv (fun V hV => (E.out.tell V (hV.mono (Nat.zero_le _) fun _ h => h)).1)) (fun v18 a17 hR => ?_); (try simp only [Act.put, lyy])
  have hb7 := hR.bl
  have hs9 := hR.sl
  obtain ⟨xa, xc, rfl, -, -⟩ := id hs9
  have HT : Hid (Sl (.slice xa 12 xc) txtL a17) := Lib.hid (by have h := sl_takeC (n := 12) hs9 EN.out; rwa [ET.out] at h)
  have hc12 : 12 ≤ xc := by obtain ⟨_, _, h1, h2, _⟩ := HT.out; simp only [Value.slice.injEq] at h1; have : txtL.length = 12 := rfl; omega
  replace E := Lib.hid (E.out.below hb7)
  clear hR hb7 hs9
  refine qak (run_slo rfl Tryd.underlying22 (by kernel_rfl) rfl rfl hc12) rfl ?_; (try simp only [Act.put, lyy])
  refine qak (run_str rfl rfl HT.out) rfl ?_; (try simp only [Act.put, lyy])
  refine qak (run_eqTxt rfl rfl rfl) rfl ?_; (try simp only [Act.put, lyy])
  refine qaa (qa8 (b := true) (v := .bool true) rfl rfl rfl) rfl ?_; (try simp only [Act.put, lyy])
  refine qaa (qaf (v := .bool true) rfl rfl) rfl ?_; (try simp only [Act.put, List.setIfInBounds_toArray, List.set_cons_zero])
  refine qab ?_
  go_wp2_with fail
  go_ret
  exact ⟨rfl, E.out.bl⟩
end Go.Proofs.YtcgbgmbnagmohaaDoor
namespace Go.Proofs.YtcgbgmbnagmohaaDoor
open Go.RowKit
set_option maxRecDepth 20000
attribute [local irreducible] wpList
theorem fdK_len {l : List MPk} (h : ∀ p ∈ l, p.key.length = 32) (d : Int) : (fdK l d).length = 32 := by
  unfold fdK
  rw [List.getD_eq_getElem?_getD]
  rcases Nat.lt_or_ge (fdN l d) l.length with hi | hi
  · rw [List.getElem?_eq_getElem hi]
    exact h _ (List.getElem_mem hi)
  · rw [List.getElem?_eq_none hi]
    rfl
theorem fdB_no {l : List MPk} {d : Int} (h : ∀ p ∈ l, p.id ≠ d) : fdB l d = false := by
  unfold fdB
  rw [fdN_none fun i p hp => h p (List.mem_of_getElem? hp)]
  exact decide_eq_false (Nat.lt_irrefl _)
end Go.Proofs.YtcgbgmbnagmohaaDoor
namespace Go.Proofs.YtcgbgmbnagmohaaDoor
open Go.RowKit
set_option maxRecDepth 20000
attribute [local irreducible] wpList
theorem row_mono {u : World} {B B' : Nat} {e : TypeId} {z n : Nat} {v : Value} {cs : List Value} (h : u.ownsRow B e z v n cs) (hB : B' ≤ B) : u.ownsRow B' e z v n cs :=
  ⟨h.1, h.2.imp id fun ⟨g, cap, cur, h1, h2, h3⟩ => ⟨g, cap, cur, h1, Nat.le_trans hB h2, h3⟩⟩
theorem Gw.ofcall {w u u' : World} {L : List (Nat × List Value)} {F H : World → Prop} {e : TypeId} {z n : Nat} {v : Value} {cs : List Value} (h : Ev w L [] F H u) (hb : Below u.heap.size u u') (hr : u'.ownsRow u.heap.size e z v n cs) : Gw w L e z v n cs F H u' := by
  have hk : ∀ k, v.ownBlock = some k → u.heap.size ≤ k ∧ k < u'.heap.size := fun k hk => qbn hr hk
  have h' := h.below hb
  have key : ∀ B V, Ext B (v.ownBlock.toList ++ L.map (·.1)) u' V → Ext B ([] ++ L.map (·.1)) u V := fun B V hV =>
    ⟨Nat.le_trans hb.size hV.size, fun b k1 k2 k3 => (hV.block b k1 (Nat.lt_of_lt_of_le k2 hb.size) fun hm => by
      rcases List.mem_append.1 hm with hm | hm
      · have he : v.ownBlock = some b := by simpa using hm
        have := (hk b he).1
        omega
      · exact k3 (by simpa using hm)).trans (hb.block b k2)⟩
  refine ⟨⟨h'.mv, fun k hm => (hk k (by simpa using hm)).2, fun V hV => h.fs V (key 0 V hV), fun V hV => h.hs V (key _ V hV)⟩, row_mono hr h.bl.size, fun p hp he => ?_⟩
  have h1 := (hk p.1 he).1
  have h2 := (h.mv.all p hp).2.lt
  omega
theorem run_eqEnS {w : World} {ρ : Operand → Value} {o : Oper} {x y : Operand} {t' : TypeId} {i : Int} {k : List (BitVec 8)} (hk : k.length = 32) (ho : o.op = .binOp .eql 34 x y t') (hx : ρ x = .agg (enR (.int .i64 i) (k.map b8)).toArray) (hy : ρ y = .agg (enR (.int .i64 i) (k.map b8)).toArray) : (execOp ρ o).run Tryd.prog w = .ok (.value (.bool true)) w := by
  refine run_eqlA ho (by kernel_rfl) hx hy ?_
  rw [eqEn_in hk hk]
  simp
def q1 (k : List (BitVec 8)) : MPk := ⟨100, k⟩
def mrM (m : MLs) (k : List (BitVec 8)) : MLs := ⟨m.acc, m.ver, m.ident, m.devs ++ [q1 k], m.sig⟩
theorem mrM_ok {m : MLs} {k : List (BitVec 8)} (h : m.Ok) (hk : k.length = 32) (hn : m.devs.length ≤ 7) : (mrM m k).Ok := ⟨h.ident, h.sig, fun p hp => by
  rcases List.mem_append.1 hp with hp | hp
  · exact h.devs p hp
  · rw [List.mem_singleton.1 hp]; exact hk, by show (m.devs ++ [q1 k]).length ≤ 60000; rw [List.length_append]; show m.devs.length + 1 ≤ _; omega⟩
theorem mr_ad (l : List MPk) (q : MPk) : adB l (l ++ [q]) = true ∧ adP l (l ++ [q]) = q := by
  have h : adB l (l ++ [q]) = true := by
    unfold adB
    rw [List.take_left' rfl, eqPs_iff.2 rfl, List.length_append]
    simp
  refine ⟨h, ?_⟩
  unfold adP
  rw [if_pos h, List.getD_eq_getElem?_getD, List.getElem?_append_right (Nat.le_refl _), Nat.sub_self]
  rfl
theorem mr_rm (l : List MPk) (q : MPk) : rmB (l ++ [q]) l = true ∧ rmP (l ++ [q]) l = q := by
  have h : rmB (l ++ [q]) l = true := by
    unfold rmB
    rw [pfx_app, List.drop_of_length_le (by simp), List.drop_of_length_le (Nat.le_refl _), List.length_append]
    simp [eqPs]
  refine ⟨h, ?_⟩
  unfold rmP
  rw [if_pos h, pfx_app, List.getD_eq_getElem?_getD, List.getElem?_append_right (Nat.le_refl _), Nat.sub_self]
  rfl
theorem mr_no (l : List MPk) (q : MPk) : adB (l ++ [q]) l = false := by
  unfold adB
  rw [decide_eq_false (by rw [List.length_append]; show ¬ l.length = l.length + 1 + 1; omega)]
  rfl
theorem mr_fd {l : List MPk} {q : MPk} (h : ∀ p ∈ l, p.id ≠ q.id) : fdB (l ++ [q]) q.id = true ∧ fdK (l ++ [q]) q.id = q.key := by
  have hl : l.length < (l ++ [q]).length := by simp
  have e : fdN (l ++ [q]) q.id = l.length := fdN_hit hl (by rw [List.getElem_append_right (Nat.le_refl _)]; simp) fun i p hi hp => by
    rw [List.getElem?_append_left hi] at hp
    exact h p (List.mem_of_getElem? hp)
  refine ⟨by unfold fdB; rw [e]; exact decide_eq_true hl, ?_⟩
  unfold fdK
  rw [e, List.getD_eq_getElem?_getD, List.getElem?_append_right (Nat.le_refl _), Nat.sub_self]
  rfl
theorem adP_no {a b : List MPk} (h : adB a b = false) : adP a b = pk0 := by unfold adP; rw [h]; rfl
set_option maxHeartbeats 16000000 in
theorem listsMore_any (HP : PubC) (HS : SigC) (HV : VerC) (v0 : Value) (c : List (BitVec 8)) (k : List (BitVec 8)) (w : World) (hc : Sl v0 c w) (_ : c.length ≤ 140737488351232) (hk : k.length = 32) (hW : W9 w) : Calls Tryd.prog 6 #[v0, .agg (k.map b8).toArray] w fun e w' => e = .returned (.bool true) ∧ Below w.heap.size w w' := by
  obtain ⟨ao, cc, rfl, -, -⟩ := id hc
  have HW := Lib.hid hW
  have CPL : Hid (∀ u, Since w u → Calls Tryd.prog 7 #[.slice ao c.length cc] u fun r w' => ∃ v', r = .returned v' ∧ ((∃ va vc, v' = .agg (lsR (.int .i64 (plM c).acc) (.int .i64 (plM c).ver) ((plM c).ident.map b8) (.slice va (plM c).devs.length vc) ((plM c).sig.map b8)).toArray ∧ Fro u.heap.size (fun V => SlR 33 pkAt (plM c).devs va vc V ∧ V.ownsRow u.heap.size 34 33 (.slice va (plM c).devs.length vc) (plM c).devs.length ((plM c).devs.map pkC).flatten) w') ∧ Below u.heap.size u w')) := Lib.hid fun u hu => plain_any ao c cc u (hc.below hu)
  have hmo := plM_ok c
  have HDK := Lib.hid hmo.devs
  have hmany : (plM c).devs.length ≤ 7 := by show (plDs c _).length ≤ 7; rw [plDs_len]; omega
  have HID : Hid (∀ p ∈ (plM c).devs, -20 ≤ p.id ∧ p.id ≤ 20) := Lib.hid (plDs_id c (Nat.min_le_right _ _))
  have k1 := hmo.ident
  have k2 := hmo.sig
  clear hc hW
  generalize plM c = mm at *
  have hro := mrM_ok hmo hk hmany
  have FA : ∀ (u : World) (a : Option Addr) (x : Nat), Fro 0 (SlR 33 pkAt mm.devs a x) u → Fro 0 (lsAt mm (lsR (.int .i64 mm.acc) (.int .i64 mm.ver) (mm.ident.map b8) (.slice a mm.devs.length x) (mm.sig.map b8))) u := fun u a x h V hV => ⟨a, x, rfl, h V hV⟩
  have FB : ∀ (u : World) (a : Option Addr) (x : Nat), Fro 0 (SlR 33 pkAt (mm.devs ++ [q1 k]) a x) u → Fro 0 (lsAt (mrM mm k) (lsR (.int .i64 mm.acc) (.int .i64 mm.ver) (mm.ident.map b8) (.slice a (mm.devs.length + 1) x) (mm.sig.map b8))) u := fun u a x h V hV => ⟨a, x, (by show _ = lsR _ _ _ (.slice a (mm.devs ++ [q1 k]).length x) _; rw [List.length_append]; rfl), h V hV⟩
  have C1 : Hid (∀ (u : World) (a b : Option Addr) (x y : Nat), Fro 0 (SlR 33 pkAt mm.devs a x) u → Fro 0 (SlR 33 pkAt (mm.devs ++ [q1 k]) b y) u → Calls Tryd.prog 14 #[.agg (lsR (.int .i64 mm.acc) (.int .i64 mm.ver) (mm.ident.map b8) (.slice a mm.devs.length x) (mm.sig.map b8)).toArray, .agg (lsR (.int .i64 mm.acc) (.int .i64 mm.ver) (mm.ident.map b8) (.slice b (mm.devs.length + 1) y) (mm.sig.map b8)).toArray] u fun e w' => e = .returned (.tuple #[.agg (enR (.int .i64 100) (k.map b8)).toArray, .bool true]) ∧ Below u.heap.size u w') := Lib.hid fun u a b x y h1 h2 => by
    have h := added_any mm (mrM mm k) _ _ u hmo hro (FA u a x h1) (FB u b y h2)
    rw [show adP mm.devs (mrM mm k).devs = q1 k from (mr_ad mm.devs (q1 k)).2, show adB mm.devs (mrM mm k).devs = true from (mr_ad mm.devs (q1 k)).1, pkC_en] at h
    exact h
  have C2 : Hid (∀ (u : World) (a b : Option Addr) (x y : Nat), Fro 0 (SlR 33 pkAt mm.devs a x) u → Fro 0 (SlR 33 pkAt (mm.devs ++ [q1 k]) b y) u → Calls Tryd.prog 15 #[.agg (lsR (.int .i64 mm.acc) (.int .i64 mm.ver) (mm.ident.map b8) (.slice b (mm.devs.length + 1) y) (mm.sig.map b8)).toArray, .agg (lsR (.int .i64 mm.acc) (.int .i64 mm.ver) (mm.ident.map b8) (.slice a mm.devs.length x) (mm.sig.map b8)).toArray] u fun e w' => e = .returned (.tuple #[.agg (enR (.int .i64 100) (k.map b8)).toArray, .bool true]) ∧ Below u.heap.size u w') := Lib.hid fun u a b x y h1 h2 => by
    have h := removed_any (mrM mm k) mm _ _ u hro hmo (FB u b y h2) (FA u a x h1)
    rw [show rmP (mrM mm k).devs mm.devs = q1 k from (mr_rm mm.devs (q1 k)).2, show rmB (mrM mm k).devs mm.devs = true from (mr_rm mm.devs (q1 k)).1, pkC_en] at h
    exact h
  have hno : ∀ p ∈ mm.devs, p.id ≠ (q1 k).id := fun p hp => by have := HID.out p hp; show p.id ≠ 100; omega
  have C3 : Hid (∀ (u : World) (b : Option Addr) (y : Nat), Fro 0 (SlR 33 pkAt (mm.devs ++ [q1 k]) b y) u → Calls Tryd.prog 8 #[.agg (lsR (.int .i64 mm.acc) (.int .i64 mm.ver) (mm.ident.map b8) (.slice b (mm.devs.length + 1) y) (mm.sig.map b8)).toArray, .int .i64 100] u fun e w' => e = .returned (.tuple #[.agg (k.map b8).toArray, .bool true]) ∧ Below u.heap.size u w') := Lib.hid fun u b y h2 => by
    have h := find_any (mrM mm k) _ 100 u hro (FB u b y h2)
    rw [show fdK (mrM mm k).devs 100 = k from (mr_fd hno).2, show fdB (mrM mm k).devs 100 = true from (mr_fd hno).1] at h
    exact h
  have C4 : Hid (∀ (u : World) (a b : Option Addr) (x y : Nat), Fro 0 (SlR 33 pkAt mm.devs a x) u → Fro 0 (SlR 33 pkAt (mm.devs ++ [q1 k]) b y) u → Calls Tryd.prog 14 #[.agg (lsR (.int .i64 mm.acc) (.int .i64 mm.ver) (mm.ident.map b8) (.slice b (mm.devs.length + 1) y) (mm.sig.map b8)).toArray, .agg (lsR (.int .i64 mm.acc) (.int .i64 mm.ver) (mm.ident.map b8) (.slice a mm.devs.length x) (mm.sig.map b8)).toArray] u fun e w' => e = .returned (.tuple #[.agg (enR (.int .i64 0) (k0.map b8)).toArray, .bool false]) ∧ Below u.heap.size u w') := Lib.hid fun u a b x y h1 h2 => by
    have h := added_any (mrM mm k) mm _ _ u hro hmo (FB u b y h2) (FA u a x h1)
    rw [show adP (mrM mm k).devs mm.devs = pk0 from adP_no (mr_no mm.devs (q1 k)), show adB (mrM mm k).devs mm.devs = false from mr_no mm.devs (q1 k), pkC_en] at h
    exact h
  have lF : (fdK mm.devs 100).length = 32 := fdK_len HDK.out 100
  have C5 : Hid (∀ (u : World) (a : Option Addr) (x : Nat), Fro 0 (SlR 33 pkAt mm.devs a x) u → Calls Tryd.prog 8 #[.agg (lsR (.int .i64 mm.acc) (.int .i64 mm.ver) (mm.ident.map b8) (.slice a mm.devs.length x) (mm.sig.map b8)).toArray, .int .i64 100] u fun e w' => e = .returned (.tuple #[.agg ((fdK mm.devs 100).map b8).toArray, .bool false]) ∧ Below u.heap.size u w') := Lib.hid fun u a x h1 => by
    have h := find_any mm _ 100 u hmo (FA u a x h1)
    rwa [show fdB mm.devs 100 = false from fdB_no hno] at h
  have HPK : Hid (mm.devs.map pkC ++ [enR (.int .i64 100) (k.map b8)] = (mm.devs ++ [q1 k]).map pkC) := Lib.hid (by rw [List.map_append, List.map_singleton, pkC_en (p := q1 k)]; rfl)
  have HPL : Hid (∀ x ∈ (mm.devs ++ [q1 k]).map pkC, x.length = 33) := Lib.hid fun x hx => by obtain ⟨p, hp, rfl⟩ := List.mem_map.1 hx; exact qbq (hro.devs p hp)
  have lK : k0.length = 32 := rfl
  clear FA FB hno hro hmo HID HDK
  generalize k0 = kz at *
  generalize fdK mm.devs 100 = kf at *
  generalize c.length = lc at *
  have E := Lib.hid (Ev.start (w := w) (F := fun _ => True) fun _ _ => trivial)
  go_enter Tryd.func6, Tryd.ntmps6
  go_upto_region 0 with fail; refine wp_region_lit ?_
  refine qaa (qay (vs := k.map b8) rfl rfl) rfl ?_; (try simp only [Act.put, lyy])
  replace E := Lib.hid (E.out.new (k.map b8) 24)
  generalize w.alloc (.cells (k.map b8).toArray 24) = a1 at *
  generalize w.heap.size = g2 at *
  refine qaa (qaf (v := .bool false) rfl rfl) rfl ?_; (try simp only [Act.put, lyy])
  refine qab ?_
  go_upto_region 1 with fail; refine wp_region_lit ?_
  refine qaa (qae (v := .slice ao lc cc) rfl rfl) rfl ?_; (try simp only [Act.put, lyy])
  refine qbd (qam enters_plain11 rfl rfl rfl) rfl (CPL.out _ E.out.bl) (fun v4 a3 hR => ?_); (try simp only [Act.put, lyy])
  obtain ⟨⟨va, vc, rfl, hF⟩, hb7⟩ := hR
  replace E := Lib.hid (E.out.call hb7 hF)
  clear hF hb7
  refine qaa (qas (vs := lsR ((.int .i64 0)) ((.int .i64 0)) (z8 32) ((.slice none 0 0)) (z8 64)) rfl (by kernel_rfl)) rfl ?_; (try simp only [Act.put, lyy])
  replace E := Lib.hid (E.out.new (lsR ((.int .i64 0)) ((.int .i64 0)) (z8 32) ((.slice none 0 0)) (z8 64)) 29)
  generalize a3.alloc (.cells (lsR ((.int .i64 0)) ((.int .i64 0)) (z8 32) ((.slice none 0 0)) (z8 64)).toArray 29) = a5 at *
  generalize a3.heap.size = g6 at *
  refine qag (qap (vs := lsR (.int .i64 mm.acc) (.int .i64 mm.ver) (mm.ident.map b8) (.slice va mm.devs.length vc) (mm.sig.map b8)) rfl (szR (qa7 (by rw [List.length_map, k1]) (by rw [List.length_map, k2])) (by kernel_rfl)) rfl rfl (One.all (lsR_one rfl rfl (One.b8 _) rfl (One.b8 _))) ((E.out.get (i := 0) rfl).thereM (by have q1 : (lsR (.int .i64 mm.acc) (.int .i64 mm.ver) (mm.ident.map b8) (.slice va mm.devs.length vc) (mm.sig.map b8)).length = 99 := (qa7 (by rw [List.length_map, k1]) (by rw [List.length_map, k2])); have q2 : (lsR ((.int .i64 0)) ((.int .i64 0)) (z8 32) ((.slice none 0 0)) (z8 64)).length = 99 := (qa7 (qbb 32) (qbb 64)); omega))) rfl rfl ?_
  replace E := Lib.hid (E.out.put 0 rfl (m := lsR (.int .i64 mm.acc) (.int .i64 mm.ver) (mm.ident.map b8) (.slice va mm.devs.length vc) (mm.sig.map b8)) ((show (lsR (.int .i64 mm.acc) (.int .i64 mm.ver) (mm.ident.map b8) (.slice va mm.devs.length vc) (mm.sig.map b8)).length = 99 from (qa7 (by rw [List.length_map, k1]) (by rw [List.length_map, k2]))).trans (show (lsR ((.int .i64 0)) ((.int .i64 0)) (z8 32) ((.slice none 0 0)) (z8 64)).length = 99 from (qa7 (qbb 32) (qbb 64))).symm))
  generalize a5.setCells g6 0 (lsR (.int .i64 mm.acc) (.int .i64 mm.ver) (mm.ident.map b8) (.slice va mm.devs.length vc) (mm.sig.map b8)) = a7 at *
  replace E := Lib.hid (show Ev _ [(g6, lsR (.int .i64 mm.acc) (.int .i64 mm.ver) (mm.ident.map b8) (.slice va mm.devs.length vc) (mm.sig.map b8)), (g2, k.map b8)] _ _ _ a7 from E.out)
  refine qab ?_
  replace E := Lib.hid (E.out.knowH (H0 := SlR 33 pkAt mm.devs va vc) fun V h => h.1.1)
  go_upto_region 2 with fail; refine wp_region_lit ?_
  refine qaa (qae (v := .slice ao lc cc) rfl rfl) rfl ?_; (try simp only [Act.put, lyy])
  refine qbd (qam enters_plain11 rfl rfl rfl) rfl (CPL.out _ E.out.bl) (fun v9 a8 hR => ?_); (try simp only [Act.put, lyy])
  obtain ⟨⟨vb, vd, rfl, hF⟩, hb7⟩ := hR
  replace E := Lib.hid (Gw.ofcall E.out hb7 hF.now.2)
  clear hF hb7
  refine qaa (qas (vs := lsR ((.int .i64 0)) ((.int .i64 0)) (z8 32) ((.slice none 0 0)) (z8 64)) rfl (by kernel_rfl)) rfl ?_; (try simp only [Act.put, lyy])
  replace E := Lib.hid (E.out.new (lsR ((.int .i64 0)) ((.int .i64 0)) (z8 32) ((.slice none 0 0)) (z8 64)) 29)
  generalize a8.alloc (.cells (lsR ((.int .i64 0)) ((.int .i64 0)) (z8 32) ((.slice none 0 0)) (z8 64)).toArray 29) = a10 at *
  generalize a8.heap.size = g11 at *
  refine qag (qap (vs := lsR (.int .i64 mm.acc) (.int .i64 mm.ver) (mm.ident.map b8) (.slice vb mm.devs.length vd) (mm.sig.map b8)) rfl (szR (qa7 (by rw [List.length_map, k1]) (by rw [List.length_map, k2])) (by kernel_rfl)) rfl rfl (One.all (lsR_one rfl rfl (One.b8 _) rfl (One.b8 _))) ((E.out.get (i := 0) rfl).thereM (by have q1 : (lsR (.int .i64 mm.acc) (.int .i64 mm.ver) (mm.ident.map b8) (.slice vb mm.devs.length vd) (mm.sig.map b8)).length = 99 := (qa7 (by rw [List.length_map, k1]) (by rw [List.length_map, k2])); have q2 : (lsR ((.int .i64 0)) ((.int .i64 0)) (z8 32) ((.slice none 0 0)) (z8 64)).length = 99 := (qa7 (qbb 32) (qbb 64)); omega))) rfl rfl ?_
  replace E := Lib.hid (E.out.put 0 rfl (m := lsR (.int .i64 mm.acc) (.int .i64 mm.ver) (mm.ident.map b8) (.slice vb mm.devs.length vd) (mm.sig.map b8)) ((show (lsR (.int .i64 mm.acc) (.int .i64 mm.ver) (mm.ident.map b8) (.slice vb mm.devs.length vd) (mm.sig.map b8)).length = 99 from (qa7 (by rw [List.length_map, k1]) (by rw [List.length_map, k2]))).trans (show (lsR ((.int .i64 0)) ((.int .i64 0)) (z8 32) ((.slice none 0 0)) (z8 64)).length = 99 from (qa7 (qbb 32) (qbb 64))).symm))
  generalize a10.setCells g11 0 (lsR (.int .i64 mm.acc) (.int .i64 mm.ver) (mm.ident.map b8) (.slice vb mm.devs.length vd) (mm.sig.map b8)) = a12 at *
  replace E := Lib.hid (show Gw _ [(g11, lsR (.int .i64 mm.acc) (.int .i64 mm.ver) (mm.ident.map b8) (.slice vb mm.devs.length vd) (mm.sig.map b8)), (g6, lsR (.int .i64 mm.acc) (.int .i64 mm.ver) (mm.ident.map b8) (.slice va mm.devs.length vc) (mm.sig.map b8)), (g2, k.map b8)] _ _ _ _ _ _ _ a12 from E.out)
  refine qab ?_
  go_upto_region 3 with fail; refine wp_region_lit ?_
  refine qaa (qaf (v := .int .i64 100) rfl rfl) rfl ?_; (try simp only [Act.put, lyy])
  refine qab ?_
  go_upto_region 4 with fail; refine wp_region_lit ?_
  refine qaa (qar (s := 0) (k := 34) rfl Tryd.underlying29 rfl (by kernel_rfl) rfl rfl) rfl ?_; (try simp only [Act.put, lyy])
  refine qaa (qa9 rfl Tryd.underlying25 rfl rfl ((E.out.get (i := 0) rfl).c 34 _ (qau (by rw [List.length_map, k1])))) rfl ?_; (try simp only [Act.put, lyy])
  refine qaa (qae (v := .int .i64 100) rfl rfl) rfl ?_; (try simp only [Act.put, lyy])
  refine qaa (qai (vs := k.map b8) rfl Tryd.underlying24 rfl (szR (by rw [List.length_map, hk]) (by kernel_rfl)) rfl (E.out.get (i := 2) rfl).range) rfl ?_; (try simp only [Act.put, lyy])
  refine qaa (qcc (cells := (enR (.int .i64 100) (k.map b8)).toArray) (ps := [(0, .int .i64 100), (1, .agg (k.map b8).toArray)]) rfl rfl (enR_all rfl (by rw [List.length_map, hk]))) rfl ?_; (try simp only [Act.put, lyy])
  have hml : (enR (.int .i64 100) (k.map b8)).length = 33 := (qbk (by rw [List.length_map, hk]))
  have hmo : One (enR (.int .i64 100) (k.map b8)) := (enR_one rfl (One.b8 _))
  refine qaa (run_bsl1 (m := enR (.int .i64 100) (k.map b8)) (z := 33) (zv := .agg ([.int .i64 0] ++ List.replicate 32 (.int .u8 0) : List Value).toArray) rfl Tryd.underlying25 (by kernel_rfl) rfl hml (by omega) (by omega)) rfl ?_; (try simp only [Act.put, lyy])
  have A2 := Lib.hid (Arr.new a12 (enR (.int .i64 100) (k.map b8)) 34)
  replace E := Lib.hid (E.out.below ((Below.refl a12.heap.size a12).alloc (Nat.le_refl _) (.cells (enR (.int .i64 100) (k.map b8)).toArray 34)))
  generalize a12.alloc (.cells (enR (.int .i64 100) (k.map b8)).toArray 34) = b1 at *
  generalize a12.heap.size = g0 at *
  refine wpList_grow (t := 25) (bw := 40) (zv := .agg ([.int .i64 0] ++ List.replicate 32 (.int .u8 0) : List Value).toArray) (z := 33) rfl rfl Tryd.underlying25 (by kernel_rfl) rfl (by omega) rfl rfl A2.out.range hml hmo (by omega) (by omega) E.out (fun v7 b2 hG => ?_); (try simp only [Act.put, lyy])
  replace E := Lib.hid hG
  clear hG A2
  obtain ⟨ya, yn, yc, rfl⟩ := E.out.isSlice
  refine qaa (qar (s := 0) (k := 34) rfl Tryd.underlying29 rfl (by kernel_rfl) rfl rfl) rfl ?_; (try simp only [Act.put, lyy])
  refine qag (run_stc (v := .slice ya yn yc) rfl (by kernel_rfl) rfl rfl rfl rfl ((E.out.get (i := 0) rfl).c 34 _ (qau (by rw [List.length_map, k1]))) ((E.out.get (i := 0) rfl).f _)) rfl rfl ?_
  replace E := Lib.hid (E.out.set 0 rfl (j := 34) (by have q2 : (lsR (.int .i64 mm.acc) (.int .i64 mm.ver) (mm.ident.map b8) (.slice vb mm.devs.length vd) (mm.sig.map b8)).length = 99 := (qa7 (by rw [List.length_map, k1]) (by rw [List.length_map, k2])); omega) (.slice ya yn yc))
  rw [show (lsR (.int .i64 mm.acc) (.int .i64 mm.ver) (mm.ident.map b8) (.slice vb mm.devs.length vd) (mm.sig.map b8)).set 34 (.slice ya yn yc) = lsR (.int .i64 mm.acc) (.int .i64 mm.ver) (mm.ident.map b8) (.slice ya yn yc) (mm.sig.map b8) from (lsR_setDevices (by rw [List.length_map, k1]) _)] at E
  generalize b2.setCell ⟨g11, 34, none⟩ (.slice ya yn yc) = a13 at *
  replace E := Lib.hid (show Gw _ [(g11, lsR (.int .i64 mm.acc) (.int .i64 mm.ver) (mm.ident.map b8) (.slice ya yn yc) (mm.sig.map b8)), (g6, lsR (.int .i64 mm.acc) (.int .i64 mm.ver) (mm.ident.map b8) (.slice va mm.devs.length vc) (mm.sig.map b8)), (g2, k.map b8)] _ _ _ _ _ _ _ a13 from E.out)
  refine qab ?_
  have E1 := Lib.hid E.out.done
  clear E
  have E := E1
  clear E1
  have HF : Hid (Fro w.heap.size (fun V => ∃ a' c', (.slice ya yn yc : Value) = .slice a' (mm.devs ++ [q1 k]).length c' ∧ SlR 33 pkAt (mm.devs ++ [q1 k]) a' c' V) a13) := Lib.hid fun V hV => slR_own (css := (mm.devs ++ [q1 k]).map pkC) (by have h9 := (E.out.tell V hV).1; rw [← HPK.out, List.flatten_append]; simpa using h9) (by simp) (by simp) HPL.out fun i m cs q1 q2 => by rw [List.getElem?_map, q1] at q2; exact (Option.some.inj q2).symm
  obtain ⟨a', c', hv6, hS0⟩ := HF.out.now
  simp only [Value.slice.injEq, List.length_append, List.length_singleton] at hv6
  obtain ⟨-, hvn, -⟩ := hv6
  subst hvn
  have HF2 : Hid (∀ u, Below a13.heap.size a13 u → Fro 0 (SlR 33 pkAt (mm.devs ++ [q1 k]) ya yc) u) := Lib.hid fun u hu V hV => by
    obtain ⟨a2, c2, h1, h2⟩ := HF.out V ((hV.below hu).mono (Nat.zero_le _) fun _ h => h)
    simp only [Value.slice.injEq] at h1
    obtain ⟨rfl, _, rfl⟩ := h1
    exact h2
  have HF1 : Hid (∀ u, Below a13.heap.size a13 u → Fro 0 (SlR 33 pkAt mm.devs va vc) u) := Lib.hid fun u hu V hV => (E.out.tell V ((hV.below hu).mono (Nat.zero_le _) fun _ h => h)).2
  have HWB := Lib.hid E.out.bl
  clear HF hS0 HPK HPL CPL
  replace E := Lib.hid (E.out.knowH (H0 := fun V => Below a13.heap.size a13 a13 ∧ True) fun _ _ => ⟨Below.refl _ _, trivial⟩)
  have E3 : Hid (Ev w [(g11, lsR (.int .i64 mm.acc) (.int .i64 mm.ver) (mm.ident.map b8) (.slice ya (mm.devs.length + 1) yc) (mm.sig.map b8)), (g6, lsR (.int .i64 mm.acc) (.int .i64 mm.ver) (mm.ident.map b8) (.slice va mm.devs.length vc) (mm.sig.map b8)), (g2, k.map b8)] [] (fun _ => True) (fun _ => True) a13 ∧ Below a13.heap.size a13 a13) := Lib.hid ⟨E.out.knowH fun _ _ => trivial, Below.refl _ _⟩
  clear E
  have E := Lib.hid E3.out.1
  clear E3
  have hS := Below.refl a13.heap.size a13
  go_upto_region 5 with fail; refine wp_region_lit ?_
  refine qaa (qai (vs := lsR (.int .i64 mm.acc) (.int .i64 mm.ver) (mm.ident.map b8) (.slice va mm.devs.length vc) (mm.sig.map b8)) rfl Tryd.underlying29 rfl (szR (qa7 (by rw [List.length_map, k1]) (by rw [List.length_map, k2])) (by kernel_rfl)) rfl (E.out.get (i := 1) rfl).range) rfl ?_; (try simp only [Act.put, lyy])
  refine qaa (qai (vs := lsR (.int .i64 mm.acc) (.int .i64 mm.ver) (mm.ident.map b8) (.slice ya (mm.devs.length + 1) yc) (mm.sig.map b8)) rfl Tryd.underlying29 rfl (szR (qa7 (by rw [List.length_map, k1]) (by rw [List.length_map, k2])) (by kernel_rfl)) rfl (E.out.get (i := 0) rfl).range) rfl ?_; (try simp only [Act.put, lyy])
  refine qbd (qal enters_added rfl rfl rfl rfl) rfl (qbj (C1.out _ va ya vc yc (HF1.out _ hS) (HF2.out _ hS))) (fun v15 a14 hR => ?_); (try simp only [Act.put, lyy])
  obtain ⟨hv9, hb9⟩ := hR
  replace hS := hS.trans (hb9.mono hS.size)
  replace E := Lib.hid (E.out.below hb9)
  clear hb9
  subst hv9
  refine qaa (qae (v := .tuple #[.agg (enR (.int .i64 100) (k.map b8)).toArray, .bool true]) rfl rfl) rfl ?_; (try simp only [Act.put, lyy])
  refine qaa (qbr (v := .agg (enR (.int .i64 100) (k.map b8)).toArray) rfl rfl rfl) rfl ?_; (try simp only [Act.put, lyy])
  refine qaa (qbr (v := .bool true) rfl rfl rfl) rfl ?_; (try simp only [Act.put, lyy])
  have hg9 := hS.size
  refine qaa (qas (vs := enR ((.int .i64 0)) (z8 32)) rfl (by kernel_rfl)) rfl ?_; (try simp only [Act.put, lyy])
  replace E := Lib.hid (E.out.new (enR ((.int .i64 0)) (z8 32)) 34)
  replace hS := hS.alloc hS.size (.cells (enR ((.int .i64 0)) (z8 32)).toArray 34)
  generalize a14.alloc (.cells (enR ((.int .i64 0)) (z8 32)).toArray 34) = a16 at *
  generalize a14.heap.size = g17 at *
  refine qag (qap (vs := enR (.int .i64 100) (k.map b8)) rfl (szR (qbk (by rw [List.length_map, hk])) (by kernel_rfl)) rfl rfl (One.all (enR_one rfl (One.b8 _))) ((E.out.get (i := 0) rfl).thereM (by have q1 : (enR (.int .i64 100) (k.map b8)).length = 33 := (qbk (by rw [List.length_map, hk])); have q2 : (enR ((.int .i64 0)) (z8 32)).length = 33 := (qbk (qbb 32)); omega))) rfl rfl ?_
  replace E := Lib.hid (E.out.put 0 rfl (m := enR (.int .i64 100) (k.map b8)) ((show (enR (.int .i64 100) (k.map b8)).length = 33 from (qbk (by rw [List.length_map, hk]))).trans (show (enR ((.int .i64 0)) (z8 32)).length = 33 from (qbk (qbb 32))).symm))
  replace hS := qaq (hg9) (enR (.int .i64 100) (k.map b8)) 0 hS
  generalize a16.setCells g17 0 (enR (.int .i64 100) (k.map b8)) = a18 at *
  replace E := Lib.hid (show Ev _ [(g17, enR (.int .i64 100) (k.map b8)), (g11, lsR (.int .i64 mm.acc) (.int .i64 mm.ver) (mm.ident.map b8) (.slice ya (mm.devs.length + 1) yc) (mm.sig.map b8)), (g6, lsR (.int .i64 mm.acc) (.int .i64 mm.ver) (mm.ident.map b8) (.slice va mm.devs.length vc) (mm.sig.map b8)), (g2, k.map b8)] _ _ _ a18 from E.out)
  refine qaa (qaf (v := .bool true) rfl rfl) rfl ?_; (try simp only [Act.put, lyy])
  refine qab ?_
  clear hg9
  go_upto_region 6 with fail; refine wp_region_lit ?_
  refine qaa (qai (vs := lsR (.int .i64 mm.acc) (.int .i64 mm.ver) (mm.ident.map b8) (.slice ya (mm.devs.length + 1) yc) (mm.sig.map b8)) rfl Tryd.underlying29 rfl (szR (qa7 (by rw [List.length_map, k1]) (by rw [List.length_map, k2])) (by kernel_rfl)) rfl (E.out.get (i := 1) rfl).range) rfl ?_; (try simp only [Act.put, lyy])
  refine qaa (qai (vs := lsR (.int .i64 mm.acc) (.int .i64 mm.ver) (mm.ident.map b8) (.slice va mm.devs.length vc) (mm.sig.map b8)) rfl Tryd.underlying29 rfl (szR (qa7 (by rw [List.length_map, k1]) (by rw [List.length_map, k2])) (by kernel_rfl)) rfl (E.out.get (i := 2) rfl).range) rfl ?_; (try simp only [Act.put, lyy])
  refine qbd (qal enters_removed rfl rfl rfl rfl) rfl (qbj (C2.out _ va ya vc yc (HF1.out _ hS) (HF2.out _ hS))) (fun v20 a19 hR => ?_); (try simp only [Act.put, lyy])
  obtain ⟨hv9, hb9⟩ := hR
  replace hS := hS.trans (hb9.mono hS.size)
  replace E := Lib.hid (E.out.below hb9)
  clear hb9
  subst hv9
  refine qaa (qae (v := .tuple #[.agg (enR (.int .i64 100) (k.map b8)).toArray, .bool true]) rfl rfl) rfl ?_; (try simp only [Act.put, lyy])
  refine qaa (qbr (v := .agg (enR (.int .i64 100) (k.map b8)).toArray) rfl rfl rfl) rfl ?_; (try simp only [Act.put, lyy])
  refine qaa (qbr (v := .bool true) rfl rfl rfl) rfl ?_; (try simp only [Act.put, lyy])
  have hg9 := hS.size
  refine qaa (qas (vs := enR ((.int .i64 0)) (z8 32)) rfl (by kernel_rfl)) rfl ?_; (try simp only [Act.put, lyy])
  replace E := Lib.hid (E.out.new (enR ((.int .i64 0)) (z8 32)) 34)
  replace hS := hS.alloc hS.size (.cells (enR ((.int .i64 0)) (z8 32)).toArray 34)
  generalize a19.alloc (.cells (enR ((.int .i64 0)) (z8 32)).toArray 34) = a21 at *
  generalize a19.heap.size = g22 at *
  refine qag (qap (vs := enR (.int .i64 100) (k.map b8)) rfl (szR (qbk (by rw [List.length_map, hk])) (by kernel_rfl)) rfl rfl (One.all (enR_one rfl (One.b8 _))) ((E.out.get (i := 0) rfl).thereM (by have q1 : (enR (.int .i64 100) (k.map b8)).length = 33 := (qbk (by rw [List.length_map, hk])); have q2 : (enR ((.int .i64 0)) (z8 32)).length = 33 := (qbk (qbb 32)); omega))) rfl rfl ?_
  replace E := Lib.hid (E.out.put 0 rfl (m := enR (.int .i64 100) (k.map b8)) ((show (enR (.int .i64 100) (k.map b8)).length = 33 from (qbk (by rw [List.length_map, hk]))).trans (show (enR ((.int .i64 0)) (z8 32)).length = 33 from (qbk (qbb 32))).symm))
  replace hS := qaq (hg9) (enR (.int .i64 100) (k.map b8)) 0 hS
  generalize a21.setCells g22 0 (enR (.int .i64 100) (k.map b8)) = a23 at *
  replace E := Lib.hid (show Ev _ [(g22, enR (.int .i64 100) (k.map b8)), (g17, enR (.int .i64 100) (k.map b8)), (g11, lsR (.int .i64 mm.acc) (.int .i64 mm.ver) (mm.ident.map b8) (.slice ya (mm.devs.length + 1) yc) (mm.sig.map b8)), (g6, lsR (.int .i64 mm.acc) (.int .i64 mm.ver) (mm.ident.map b8) (.slice va mm.devs.length vc) (mm.sig.map b8)), (g2, k.map b8)] _ _ _ a23 from E.out)
  refine qaa (qaf (v := .bool true) rfl rfl) rfl ?_; (try simp only [Act.put, lyy])
  refine qab ?_
  clear hg9
  go_upto_region 7 with fail; refine wp_region_lit ?_
  refine qaa (qai (vs := lsR (.int .i64 mm.acc) (.int .i64 mm.ver) (mm.ident.map b8) (.slice ya (mm.devs.length + 1) yc) (mm.sig.map b8)) rfl Tryd.underlying29 rfl (szR (qa7 (by rw [List.length_map, k1]) (by rw [List.length_map, k2])) (by kernel_rfl)) rfl (E.out.get (i := 2) rfl).range) rfl ?_; (try simp only [Act.put, lyy])
  refine qaa (qae (v := .int .i64 100) rfl rfl) rfl ?_; (try simp only [Act.put, lyy])
  refine qbd (qal enters_find rfl rfl rfl rfl) rfl (qbj (C3.out _ ya yc (HF2.out _ hS))) (fun v25 a24 hR => ?_); (try simp only [Act.put, lyy])
  obtain ⟨hv9, hb9⟩ := hR
  replace hS := hS.trans (hb9.mono hS.size)
  replace E := Lib.hid (E.out.below hb9)
  clear hb9
  subst hv9
  refine qaa (qae (v := .tuple #[.agg (k.map b8).toArray, .bool true]) rfl rfl) rfl ?_; (try simp only [Act.put, lyy])
  refine qaa (qbr (v := .agg (k.map b8).toArray) rfl rfl rfl) rfl ?_; (try simp only [Act.put, lyy])
  refine qaa (qbr (v := .bool true) rfl rfl rfl) rfl ?_; (try simp only [Act.put, lyy])
  have hg9 := hS.size
  refine qaa (qas (vs := z8 32) rfl (by kernel_rfl)) rfl ?_; (try simp only [Act.put, lyy])
  replace E := Lib.hid (E.out.new (z8 32) 24)
  replace hS := hS.alloc hS.size (.cells (z8 32).toArray 24)
  generalize a24.alloc (.cells (z8 32).toArray 24) = a26 at *
  generalize a24.heap.size = g27 at *
  refine qag (qap (vs := k.map b8) rfl (szR (by rw [List.length_map, hk]) (by kernel_rfl)) rfl rfl (One.all (One.b8 _)) ((E.out.get (i := 0) rfl).thereM (by have q1 : (k.map b8).length = 32 := (by rw [List.length_map, hk]); have q2 : (z8 32).length = 32 := (qbb 32); omega))) rfl rfl ?_
  replace E := Lib.hid (E.out.put 0 rfl (m := k.map b8) ((show (k.map b8).length = 32 from (by rw [List.length_map, hk])).trans (show (z8 32).length = 32 from (qbb 32)).symm))
  replace hS := qaq (hg9) (k.map b8) 0 hS
  generalize a26.setCells g27 0 (k.map b8) = a28 at *
  replace E := Lib.hid (show Ev _ [(g27, k.map b8), (g22, enR (.int .i64 100) (k.map b8)), (g17, enR (.int .i64 100) (k.map b8)), (g11, lsR (.int .i64 mm.acc) (.int .i64 mm.ver) (mm.ident.map b8) (.slice ya (mm.devs.length + 1) yc) (mm.sig.map b8)), (g6, lsR (.int .i64 mm.acc) (.int .i64 mm.ver) (mm.ident.map b8) (.slice va mm.devs.length vc) (mm.sig.map b8)), (g2, k.map b8)] _ _ _ a28 from E.out)
  refine qaa (qaf (v := .bool true) rfl rfl) rfl ?_; (try simp only [Act.put, lyy])
  refine qab ?_
  clear hg9
  go_upto_region 8 with fail; refine wp_region_lit ?_
  refine qaa (qai (vs := lsR (.int .i64 mm.acc) (.int .i64 mm.ver) (mm.ident.map b8) (.slice ya (mm.devs.length + 1) yc) (mm.sig.map b8)) rfl Tryd.underlying29 rfl (szR (qa7 (by rw [List.length_map, k1]) (by rw [List.length_map, k2])) (by kernel_rfl)) rfl (E.out.get (i := 3) rfl).range) rfl ?_; (try simp only [Act.put, lyy])
  refine qaa (qai (vs := lsR (.int .i64 mm.acc) (.int .i64 mm.ver) (mm.ident.map b8) (.slice va mm.devs.length vc) (mm.sig.map b8)) rfl Tryd.underlying29 rfl (szR (qa7 (by rw [List.length_map, k1]) (by rw [List.length_map, k2])) (by kernel_rfl)) rfl (E.out.get (i := 4) rfl).range) rfl ?_; (try simp only [Act.put, lyy])
  refine qbd (qal enters_added rfl rfl rfl rfl) rfl (qbj (C4.out _ va ya vc yc (HF1.out _ hS) (HF2.out _ hS))) (fun v30 a29 hR => ?_); (try simp only [Act.put, lyy])
  obtain ⟨hv9, hb9⟩ := hR
  replace hS := hS.trans (hb9.mono hS.size)
  replace E := Lib.hid (E.out.below hb9)
  clear hb9
  subst hv9
  refine qaa (qae (v := .tuple #[.agg (enR (.int .i64 0) (kz.map b8)).toArray, .bool false]) rfl rfl) rfl ?_; (try simp only [Act.put, lyy])
  refine qaa (qbr (v := .agg (enR (.int .i64 0) (kz.map b8)).toArray) rfl rfl rfl) rfl ?_; (try simp only [Act.put, lyy])
  refine qaa (qbr (v := .bool false) rfl rfl rfl) rfl ?_; (try simp only [Act.put, lyy])
  have hg9 := hS.size
  refine qaa (qas (vs := enR ((.int .i64 0)) (z8 32)) rfl (by kernel_rfl)) rfl ?_; (try simp only [Act.put, lyy])
  replace E := Lib.hid (E.out.new (enR ((.int .i64 0)) (z8 32)) 34)
  replace hS := hS.alloc hS.size (.cells (enR ((.int .i64 0)) (z8 32)).toArray 34)
  generalize a29.alloc (.cells (enR ((.int .i64 0)) (z8 32)).toArray 34) = a31 at *
  generalize a29.heap.size = g32 at *
  refine qag (qap (vs := enR (.int .i64 0) (kz.map b8)) rfl (szR (qbk (by rw [List.length_map, lK])) (by kernel_rfl)) rfl rfl (One.all (enR_one rfl (One.b8 _))) ((E.out.get (i := 0) rfl).thereM (by have q1 : (enR (.int .i64 0) (kz.map b8)).length = 33 := (qbk (by rw [List.length_map, lK])); have q2 : (enR ((.int .i64 0)) (z8 32)).length = 33 := (qbk (qbb 32)); omega))) rfl rfl ?_
  replace E := Lib.hid (E.out.put 0 rfl (m := enR (.int .i64 0) (kz.map b8)) ((show (enR (.int .i64 0) (kz.map b8)).length = 33 from (qbk (by rw [List.length_map, lK]))).trans (show (enR ((.int .i64 0)) (z8 32)).length = 33 from (qbk (qbb 32))).symm))
  replace hS := qaq (hg9) (enR (.int .i64 0) (kz.map b8)) 0 hS
  generalize a31.setCells g32 0 (enR (.int .i64 0) (kz.map b8)) = a33 at *
  replace E := Lib.hid (show Ev _ [(g32, enR (.int .i64 0) (kz.map b8)), (g27, k.map b8), (g22, enR (.int .i64 100) (k.map b8)), (g17, enR (.int .i64 100) (k.map b8)), (g11, lsR (.int .i64 mm.acc) (.int .i64 mm.ver) (mm.ident.map b8) (.slice ya (mm.devs.length + 1) yc) (mm.sig.map b8)), (g6, lsR (.int .i64 mm.acc) (.int .i64 mm.ver) (mm.ident.map b8) (.slice va mm.devs.length vc) (mm.sig.map b8)), (g2, k.map b8)] _ _ _ a33 from E.out)
  refine qaa (qaf (v := .bool false) rfl rfl) rfl ?_; (try simp only [Act.put, lyy])
  refine qab ?_
  clear hg9
  go_upto_region 9 with fail; refine wp_region_lit ?_
  refine qaa (qai (vs := lsR (.int .i64 mm.acc) (.int .i64 mm.ver) (mm.ident.map b8) (.slice va mm.devs.length vc) (mm.sig.map b8)) rfl Tryd.underlying29 rfl (szR (qa7 (by rw [List.length_map, k1]) (by rw [List.length_map, k2])) (by kernel_rfl)) rfl (E.out.get (i := 5) rfl).range) rfl ?_; (try simp only [Act.put, lyy])
  refine qaa (qae (v := .int .i64 100) rfl rfl) rfl ?_; (try simp only [Act.put, lyy])
  refine qbd (qal enters_find rfl rfl rfl rfl) rfl (qbj (C5.out _ va vc (HF1.out _ hS))) (fun v35 a34 hR => ?_); (try simp only [Act.put, lyy])
  obtain ⟨hv9, hb9⟩ := hR
  replace hS := hS.trans (hb9.mono hS.size)
  replace E := Lib.hid (E.out.below hb9)
  clear hb9
  subst hv9
  refine qaa (qae (v := .tuple #[.agg (kf.map b8).toArray, .bool false]) rfl rfl) rfl ?_; (try simp only [Act.put, lyy])
  refine qaa (qbr (v := .agg (kf.map b8).toArray) rfl rfl rfl) rfl ?_; (try simp only [Act.put, lyy])
  refine qaa (qbr (v := .bool false) rfl rfl rfl) rfl ?_; (try simp only [Act.put, lyy])
  have hg9 := hS.size
  refine qaa (qas (vs := z8 32) rfl (by kernel_rfl)) rfl ?_; (try simp only [Act.put, lyy])
  replace E := Lib.hid (E.out.new (z8 32) 24)
  replace hS := hS.alloc hS.size (.cells (z8 32).toArray 24)
  generalize a34.alloc (.cells (z8 32).toArray 24) = a36 at *
  generalize a34.heap.size = g37 at *
  refine qag (qap (vs := kf.map b8) rfl (szR (by rw [List.length_map, lF]) (by kernel_rfl)) rfl rfl (One.all (One.b8 _)) ((E.out.get (i := 0) rfl).thereM (by have q1 : (kf.map b8).length = 32 := (by rw [List.length_map, lF]); have q2 : (z8 32).length = 32 := (qbb 32); omega))) rfl rfl ?_
  replace E := Lib.hid (E.out.put 0 rfl (m := kf.map b8) ((show (kf.map b8).length = 32 from (by rw [List.length_map, lF])).trans (show (z8 32).length = 32 from (qbb 32)).symm))
  replace hS := qaq (hg9) (kf.map b8) 0 hS
  generalize a36.setCells g37 0 (kf.map b8) = a38 at *
  replace E := Lib.hid (show Ev _ [(g37, kf.map b8), (g32, enR (.int .i64 0) (kz.map b8)), (g27, k.map b8), (g22, enR (.int .i64 100) (k.map b8)), (g17, enR (.int .i64 100) (k.map b8)), (g11, lsR (.int .i64 mm.acc) (.int .i64 mm.ver) (mm.ident.map b8) (.slice ya (mm.devs.length + 1) yc) (mm.sig.map b8)), (g6, lsR (.int .i64 mm.acc) (.int .i64 mm.ver) (mm.ident.map b8) (.slice va mm.devs.length vc) (mm.sig.map b8)), (g2, k.map b8)] _ _ _ a38 from E.out)
  refine qaa (qaf (v := .bool false) rfl rfl) rfl ?_; (try simp only [Act.put, lyy])
  refine qab ?_
  clear hg9
  go_upto_region 10 with fail; refine wp_region_lit ?_
  refine qao (run_call0 enters_kn11 rfl rfl) rfl (known11_any HP HS HV _ (HW.out.below E.out.bl)) (fun a39 hb => ?_); (try simp only [Act.put, lyy])
  replace E := Lib.hid (E.out.below hb)
  clear hb
  refine qaa (qae (v := .bool true) rfl rfl) rfl ?_; (try simp only [Act.put, lyy])
  refine qak (qae (v := .bool true) rfl rfl) rfl ?_; (try simp only [Act.put, lyy])
  refine qaa (qa8 (b := true) (v := .bool true) rfl rfl rfl) rfl ?_; (try simp only [Act.put, lyy])
  refine qaa (qae (v := .bool true) rfl rfl) rfl ?_; (try simp only [Act.put, lyy])
  refine qak (qae (v := .bool true) rfl rfl) rfl ?_; (try simp only [Act.put, lyy])
  refine qaa (qa8 (b := true) (v := .bool true) rfl rfl rfl) rfl ?_; (try simp only [Act.put, lyy])
  refine qaa (qae (v := .bool true) rfl rfl) rfl ?_; (try simp only [Act.put, lyy])
  refine qak (qae (v := .bool true) rfl rfl) rfl ?_; (try simp only [Act.put, lyy])
  refine qaa (qa8 (b := true) (v := .bool true) rfl rfl rfl) rfl ?_; (try simp only [Act.put, lyy])
  refine qaa (qae (v := .bool true) rfl rfl) rfl ?_; (try simp only [Act.put, lyy])
  refine qak (qae (v := .bool false) rfl rfl) rfl ?_; (try simp only [Act.put, lyy])
  refine qak (run_notF rfl rfl) rfl ?_; (try simp only [Act.put, lyy])
  refine qaa (qa8 (b := true) (v := .bool true) rfl rfl rfl) rfl ?_; (try simp only [Act.put, lyy])
  refine qaa (qae (v := .bool true) rfl rfl) rfl ?_; (try simp only [Act.put, lyy])
  refine qak (qae (v := .bool false) rfl rfl) rfl ?_; (try simp only [Act.put, lyy])
  refine qak (run_notF rfl rfl) rfl ?_; (try simp only [Act.put, lyy])
  refine qaa (qa8 (b := true) (v := .bool true) rfl rfl rfl) rfl ?_; (try simp only [Act.put, lyy])
  refine qaa (qae (v := .bool true) rfl rfl) rfl ?_; (try simp only [Act.put, lyy])
  refine qak (qar (s := 0) (k := 0) rfl Tryd.underlying34 rfl (by kernel_rfl) rfl rfl) rfl ?_; (try simp only [Act.put, lyy])
  refine qak (qa9 rfl Tryd.underlying3 rfl rfl ((E.out.get (i := 4) rfl).c 0 _ (enR_ID ))) rfl ?_; (try simp only [Act.put, lyy])
  refine qak (qae (v := .int .i64 100) rfl rfl) rfl ?_; (try simp only [Act.put, lyy])
  refine qak (run_eqlb (c := true) rfl rfl rfl rfl) rfl ?_; (try simp only [Act.put, lyy])
  refine qaa (qa8 (b := true) (v := .bool true) rfl rfl rfl) rfl ?_; (try simp only [Act.put, lyy])
  refine qaa (qae (v := .bool true) rfl rfl) rfl ?_; (try simp only [Act.put, lyy])
  refine qak (qar (s := 31) (k := 1) rfl Tryd.underlying34 rfl (by kernel_rfl) rfl rfl) rfl ?_; (try simp only [Act.put, lyy])
  refine qak (qai (vs := k.map b8) rfl Tryd.underlying24 rfl (szR (by rw [List.length_map, hk]) (by kernel_rfl)) rfl ((E.out.get (i := 4) rfl).seg (enR_Key (by rw [List.length_map, hk])))) rfl ?_; (try simp only [Act.put, lyy])
  refine qak (qai (vs := k.map b8) rfl Tryd.underlying24 rfl (szR (by rw [List.length_map, hk]) (by kernel_rfl)) rfl (E.out.get (i := 7) rfl).range) rfl ?_; (try simp only [Act.put, lyy])
  refine qak (run_eqKyB (l := k) (m := k) (c := true) hk hk rfl rfl rfl (decide_eq_true rfl)) rfl ?_; (try simp only [Act.put, lyy])
  refine qaa (qa8 (b := true) (v := .bool true) rfl rfl rfl) rfl ?_; (try simp only [Act.put, lyy])
  refine qaa (qae (v := .bool true) rfl rfl) rfl ?_; (try simp only [Act.put, lyy])
  refine qak (qai (vs := enR (.int .i64 100) (k.map b8)) rfl Tryd.underlying34 rfl (szR (qbk (by rw [List.length_map, hk])) (by kernel_rfl)) rfl (E.out.get (i := 3) rfl).range) rfl ?_; (try simp only [Act.put, lyy])
  refine qak (qai (vs := enR (.int .i64 100) (k.map b8)) rfl Tryd.underlying34 rfl (szR (qbk (by rw [List.length_map, hk])) (by kernel_rfl)) rfl (E.out.get (i := 4) rfl).range) rfl ?_; (try simp only [Act.put, lyy])
  refine qak (run_eqEnS hk rfl rfl rfl) rfl ?_; (try simp only [Act.put, lyy])
  refine qaa (qa8 (b := true) (v := .bool true) rfl rfl rfl) rfl ?_; (try simp only [Act.put, lyy])
  refine qaa (qae (v := .bool true) rfl rfl) rfl ?_; (try simp only [Act.put, lyy])
  refine qak (qai (vs := k.map b8) rfl Tryd.underlying24 rfl (szR (by rw [List.length_map, hk]) (by kernel_rfl)) rfl (E.out.get (i := 2) rfl).range) rfl ?_; (try simp only [Act.put, lyy])
  refine qak (qai (vs := k.map b8) rfl Tryd.underlying24 rfl (szR (by rw [List.length_map, hk]) (by kernel_rfl)) rfl (E.out.get (i := 7) rfl).range) rfl ?_; (try simp only [Act.put, lyy])
  refine qak (run_eqKyB (l := k) (m := k) (c := true) hk hk rfl rfl rfl (decide_eq_true rfl)) rfl ?_; (try simp only [Act.put, lyy])
  refine qaa (qa8 (b := true) (v := .bool true) rfl rfl rfl) rfl ?_; (try simp only [Act.put, lyy])
  refine qaa (qaf (v := .bool true) rfl rfl) rfl ?_; (try simp only [Act.put, lyy])
  refine qab ?_
  go_wp2_with fail
  go_ret
  exact ⟨rfl, E.out.bl⟩
end Go.Proofs.YtcgbgmbnagmohaaDoor
