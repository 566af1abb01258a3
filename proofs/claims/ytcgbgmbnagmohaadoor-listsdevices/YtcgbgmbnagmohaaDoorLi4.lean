import Derived.Test.YtcgbgmbnagmohaaDoorLy
import Derived.Test.YtcgbgmbnagmohaaDoorLi0
import Derived.Deep.CutBlock
import Derived.Test.YtcgbgmbnagmohaaDoorSgW3
namespace Go.Proofs.YtcgbgmbnagmohaaDoor
open Go.RowKit
set_option maxRecDepth 20000
attribute [local irreducible] wpList
theorem enters_eqs : Enters 28 := qaq Tryd.func28 (by kernel_rfl) rfl
set_option maxHeartbeats 8000000 in
theorem eqs_any (a : Option Addr) (c : Nat) (l : List MPk) (a2 : Option Addr) (c2 : Nat) (l2 : List MPk) (w : World) (hs : Fro 0 (SlR 33 pkAt l a c) w) (hs2 : Fro 0 (SlR 33 pkAt l2 a2 c2) w) (hk : ∀ p ∈ l, p.key.length = 32) (hk2 : ∀ p ∈ l2, p.key.length = 32) (hmany : l.length ≤ 60000) : Calls Tryd.prog 28 #[.slice a l.length c, .slice a2 l2.length c2] w fun e w' => e = .returned (.bool (eqPs l l2)) ∧ Below w.heap.size w w' := by
 have E := Lib.hid (Ev.start (w := w) (F := (fun V => SlR 33 pkAt l a c V ∧ SlR 33 pkAt l2 a2 c2 V)) fun V hV => ⟨hs V hV, hs2 V hV⟩)
 have HK := Lib.hid hk
 have HK2 := Lib.hid hk2
 have HL := Lib.hid (eqPs_len (l := l) (m := l2))
 have HA := Lib.hid (eqPs_all (l := l) (m := l2))
 have HN : Hid (∀ i : Nat, l[i]? ≠ l2[i]? → eqPs l l2 = false) := Lib.hid fun i h => eqPs_not h
 clear hs hs2 hk hk2
 generalize eqPs l l2 = r at *
 obtain ⟨m, hm⟩ : ∃ m, m = l.length := ⟨_, rfl⟩
 obtain ⟨m2, hm2⟩ : ∃ m, m = l2.length := ⟨_, rfl⟩
 rw [← hm, ← hm2]
 rw [← hm] at hmany
 have HM := Lib.hid hm
 have HM2 := Lib.hid hm2
 by_cases hmm : m = m2
 ·subst hmm
  go_enter Tryd.func28, Tryd.ntmps28
  go_upto_region 0 with fail; refine wp_region_lit ?_
  refine qaa (qaf (v := .bool false) rfl rfl) rfl ?_; (try simp only [Act.put, lyy])
  refine qab ?_
  go_upto_region 1 with fail; refine wp_region_lit ?_
  refine qaa (qae (v := .slice a m c) rfl rfl) rfl ?_; (try simp only [Act.put, lyy])
  refine qaa (qbe rfl Tryd.underlying25 rfl) rfl ?_; (try simp only [Act.put, lyy])
  refine qaa (qae (v := .slice a2 m c2) rfl rfl) rfl ?_; (try simp only [Act.put, lyy])
  refine qaa (qbe rfl Tryd.underlying25 rfl) rfl ?_; (try simp only [Act.put, lyy])
  refine qaa (run_neqb (c := false) rfl rfl rfl (by simp)) rfl ?_; (try simp only [Act.put, lyy])
  refine qab ?_
  go_upto_region 3 with fail; refine wp_region_lit ?_
  refine qaa (qae (v := .slice a m c) rfl rfl) rfl ?_; (try simp only [Act.put, lyy])
  refine qaa (qbe rfl Tryd.underlying25 rfl) rfl ?_; (try simp only [Act.put, lyy])
  refine qaa (qae (v := .int .i64 0) rfl rfl) rfl ?_; (try simp only [Act.put, lyy])
  refine qab ?_
  go_wp2_with fail
  go_loopw [5, 13] (fun s5 s13 u => ∃ j : Nat, s13 = .int .i64 (j : Int) ∧ j ≤ m ∧ Hid (∀ i : Nat, i < j → l[i]? = l2[i]?) ∧ Ev w [] [] (fun V => SlR 33 pkAt l a c V ∧ SlR 33 pkAt l2 a2 c2 V) (fun _ => True) u) (fun _ s13 _ => ((m : Int) - intOf s13).toNat)
  case atStart => exact ⟨0, rfl, Nat.zero_le _, Lib.hid fun i hi => absurd hi (Nat.not_lt_zero _), E.out⟩
  case round =>
   obtain ⟨j, rfl, hj, HJ, hE⟩ := hrel
   replace E := Lib.hid hE
   clear hE
   by_cases hjm : j = m
   ·go_upto_region 4 with fail; refine wp_region_lit ?_
    refine qaa (qbr (c := false) rfl rfl rfl (decide_eq_false (by omega))) rfl ?_; (try simp only [Act.put, lyy])
    refine qab ?_
    go_upto_region 9 with fail; refine wp_region_lit ?_
    refine qaa (qaf (v := .bool true) rfl rfl) rfl ?_; (try simp only [Act.put, lyy])
    refine qab ?_
    go_wp2_with fail
    go_ret
    exact ⟨by rw [HA.out (by have := HM.out; have := HM2.out; omega) fun i hi => HJ.out i (by have := HM.out; omega)]; rfl, E.out.bl⟩
   ·have hjl : j < l.length := by have := HM.out; omega
    have hjl2 : j < l2.length := by have := HM2.out; omega
    obtain ⟨g, fo, rfl, hg, -⟩ := pk_at E.out.f.1 hjl
    obtain ⟨g2, fo2, rfl, hg2, -⟩ := pk_at E.out.f.2 hjl2
    have HP : Hid (∀ V, SlR 33 pkAt l (some ⟨g, fo, none⟩) c V → V.rangeAt g (fo + j * 33) (pkC l[j])) := Lib.hid fun V h => pk_at2 h hjl
    have HP2 : Hid (∀ V, SlR 33 pkAt l2 (some ⟨g2, fo2, none⟩) c2 V → V.rangeAt g2 (fo2 + j * 33) (pkC l2[j])) := Lib.hid fun V h => pk_at2 h hjl2
    have hkl := HK.out _ (List.getElem_mem hjl)
    have hkl2 := HK2.out _ (List.getElem_mem hjl2)
    have HE1 := Lib.hid (List.getElem?_eq_getElem hjl)
    have HE2 := Lib.hid (List.getElem?_eq_getElem hjl2)
    generalize l[j] = q at *
    generalize l2[j] = q2 at *
    go_upto_region 4 with fail; refine wp_region_lit ?_
    refine qaa (qbr (c := true) rfl rfl rfl (decide_eq_true (by omega))) rfl ?_; (try simp only [Act.put, lyy])
    refine qab ?_
    go_upto_region 5 with fail; refine wp_region_lit ?_
    refine qaa (qae (v := .int .i64 (j : Int)) rfl rfl) rfl ?_; (try simp only [Act.put, lyy])
    refine qaa (qaf (v := .int .i64 (j : Int)) rfl rfl) rfl ?_; (try simp only [Act.put, lyy])
    refine qab ?_
    by_cases hq : eqPk q q2 = true
    ·go_upto_region 6 with fail
     refine wp_region_noPanic ?_; refine qay (S := fun _ V => Below wr.heap.size wr V) (by kernel_rfl) ((Below.refl _ _).drew) (fun hS => ?_)
     replace E := Lib.hid (E.out.below hS)
     generalize wr.drew = a1 at *
     refine qbg (S' := fun _ V => Below a1.heap.size a1 V) (fun _ V h => hS.trans (h.mono hS.size)) _ _ _ _ ?_
     replace hS := Below.refl a1.heap.size a1
     refine qac 0 rfl rfl (by kernel_rfl) (by kernel_rfl) (by kernel_rfl) (fun _ _ _ h => h) rfl (fun V hV => qae (v := .slice (some ⟨g, fo, none⟩) m c) rfl rfl) hS ?_; (try simp only [Act.put, lyy])
     refine qac 1 rfl rfl (by kernel_rfl) (by kernel_rfl) (by kernel_rfl) (fun _ _ _ h => h) rfl (fun V hV => qae (v := .int .i64 (j : Int)) rfl rfl) hS ?_; (try simp only [Act.put, lyy])
     refine qac 2 rfl rfl (by kernel_rfl) (by kernel_rfl) (by kernel_rfl) (fun _ _ _ h => h) rfl (fun V hV => qcl (z := 33) rfl Tryd.underlying25 (by kernel_rfl) rfl rfl (by omega)) hS ?_; (try simp only [Act.put, lyy])
     refine qac 3 rfl rfl (by kernel_rfl) (by kernel_rfl) (by kernel_rfl) (fun _ _ _ h => h) rfl (fun V hV => qaj (vs := pkC q) rfl Tryd.underlying34 rfl (szR (qa9 hkl) (by kernel_rfl)) rfl (HP.out _ (E.out.below hV).f.1)) hS ?_; (try simp only [Act.put, lyy])
     refine qac 4 rfl rfl (by kernel_rfl) (by kernel_rfl) (by kernel_rfl) (fun _ _ _ h => h) rfl (fun V hV => qae (v := .slice (some ⟨g2, fo2, none⟩) m c2) rfl rfl) hS ?_; (try simp only [Act.put, lyy])
     refine qac 5 rfl rfl (by kernel_rfl) (by kernel_rfl) (by kernel_rfl) (fun _ _ _ h => h) rfl (fun V hV => qae (v := .int .i64 (j : Int)) rfl rfl) hS ?_; (try simp only [Act.put, lyy])
     refine qac 6 rfl rfl (by kernel_rfl) (by kernel_rfl) (by kernel_rfl) (fun _ _ _ h => h) rfl (fun V hV => qcl (z := 33) rfl Tryd.underlying25 (by kernel_rfl) rfl rfl (by omega)) hS ?_; (try simp only [Act.put, lyy])
     refine qac 7 rfl rfl (by kernel_rfl) (by kernel_rfl) (by kernel_rfl) (fun _ _ _ h => h) rfl (fun V hV => qaj (vs := pkC q2) rfl Tryd.underlying34 rfl (szR (qa9 hkl2) (by kernel_rfl)) rfl (HP2.out _ (E.out.below hV).f.2)) hS ?_; (try simp only [Act.put, lyy])
     refine qac 8 rfl rfl (by kernel_rfl) (by kernel_rfl) (by kernel_rfl) (fun _ _ _ h => h) rfl (fun V hV => run_neEnT hkl hkl2 rfl rfl rfl hq) hS ?_; (try simp only [Act.put, lyy])
     refine qa2 (by kernel_rfl) ?_ _; refine NoPanic.normal ?_
     go_upto_region 8 with fail; refine wp_region_lit ?_
     refine qaa (qb1 (a := j) (b := 1) rfl rfl rfl (by omega)) rfl ?_; (try simp only [Act.put, lyy])
     refine qaa (qae (v := .int .i64 ((j + 1 : Nat) : Int)) rfl rfl) rfl ?_; (try simp only [Act.put, lyy])
     refine qab ?_
     have NX : Hid (∀ i : Nat, i < j + 1 → l[i]? = l2[i]?) := Lib.hid fun i hi => by
      rcases Nat.lt_or_ge i j with h9 | h9
      ·exact HJ.out i h9
      ·obtain rfl : i = j := by omega
       rw [HE1.out, HE2.out, eqPk_iff.1 hq]
     go_wp2_with fail
     exact ⟨⟨j + 1, rfl, by omega, NX, E.out⟩, by simp [intOf]; omega⟩
    ·have hq2 : eqPk q q2 = false := by simpa using hq
     go_upto_region 6 with fail
     refine wp_region_noPanic ?_; refine qay (S := fun _ V => Below wr.heap.size wr V) (by kernel_rfl) ((Below.refl _ _).drew) (fun hS => ?_)
     replace E := Lib.hid (E.out.below hS)
     generalize wr.drew = a1 at *
     refine qbg (S' := fun _ V => Below a1.heap.size a1 V) (fun _ V h => hS.trans (h.mono hS.size)) _ _ _ _ ?_
     replace hS := Below.refl a1.heap.size a1
     refine qac 0 rfl rfl (by kernel_rfl) (by kernel_rfl) (by kernel_rfl) (fun _ _ _ h => h) rfl (fun V hV => qae (v := .slice (some ⟨g, fo, none⟩) m c) rfl rfl) hS ?_; (try simp only [Act.put, lyy])
     refine qac 1 rfl rfl (by kernel_rfl) (by kernel_rfl) (by kernel_rfl) (fun _ _ _ h => h) rfl (fun V hV => qae (v := .int .i64 (j : Int)) rfl rfl) hS ?_; (try simp only [Act.put, lyy])
     refine qac 2 rfl rfl (by kernel_rfl) (by kernel_rfl) (by kernel_rfl) (fun _ _ _ h => h) rfl (fun V hV => qcl (z := 33) rfl Tryd.underlying25 (by kernel_rfl) rfl rfl (by omega)) hS ?_; (try simp only [Act.put, lyy])
     refine qac 3 rfl rfl (by kernel_rfl) (by kernel_rfl) (by kernel_rfl) (fun _ _ _ h => h) rfl (fun V hV => qaj (vs := pkC q) rfl Tryd.underlying34 rfl (szR (qa9 hkl) (by kernel_rfl)) rfl (HP.out _ (E.out.below hV).f.1)) hS ?_; (try simp only [Act.put, lyy])
     refine qac 4 rfl rfl (by kernel_rfl) (by kernel_rfl) (by kernel_rfl) (fun _ _ _ h => h) rfl (fun V hV => qae (v := .slice (some ⟨g2, fo2, none⟩) m c2) rfl rfl) hS ?_; (try simp only [Act.put, lyy])
     refine qac 5 rfl rfl (by kernel_rfl) (by kernel_rfl) (by kernel_rfl) (fun _ _ _ h => h) rfl (fun V hV => qae (v := .int .i64 (j : Int)) rfl rfl) hS ?_; (try simp only [Act.put, lyy])
     refine qac 6 rfl rfl (by kernel_rfl) (by kernel_rfl) (by kernel_rfl) (fun _ _ _ h => h) rfl (fun V hV => qcl (z := 33) rfl Tryd.underlying25 (by kernel_rfl) rfl rfl (by omega)) hS ?_; (try simp only [Act.put, lyy])
     refine qac 7 rfl rfl (by kernel_rfl) (by kernel_rfl) (by kernel_rfl) (fun _ _ _ h => h) rfl (fun V hV => qaj (vs := pkC q2) rfl Tryd.underlying34 rfl (szR (qa9 hkl2) (by kernel_rfl)) rfl (HP2.out _ (E.out.below hV).f.2)) hS ?_; (try simp only [Act.put, lyy])
     refine qac 8 rfl rfl (by kernel_rfl) (by kernel_rfl) (by kernel_rfl) (fun _ _ _ h => h) rfl (fun V hV => run_neEnF hkl hkl2 rfl rfl rfl hq2) hS ?_; (try simp only [Act.put, lyy])
     refine qa2 (by kernel_rfl) ?_ _; refine NoPanic.normal ?_
     go_upto_region 7 with fail; refine wp_region_lit ?_
     refine qaa (qaf (v := .bool false) rfl rfl) rfl ?_; (try simp only [Act.put, lyy])
     refine qab ?_
     go_wp2_with fail
     go_ret
     exact ⟨by rw [HN.out j (by rw [HE1.out, HE2.out]; intro e; exact hq (eqPk_iff.2 (Option.some.inj e)))]; rfl, E.out.bl⟩
 ·go_enter Tryd.func28, Tryd.ntmps28
  go_upto_region 0 with fail; refine wp_region_lit ?_
  refine qaa (qaf (v := .bool false) rfl rfl) rfl ?_; (try simp only [Act.put, lyy])
  refine qab ?_
  go_upto_region 1 with fail; refine wp_region_lit ?_
  refine qaa (qae (v := .slice a m c) rfl rfl) rfl ?_; (try simp only [Act.put, lyy])
  refine qaa (qbe rfl Tryd.underlying25 rfl) rfl ?_; (try simp only [Act.put, lyy])
  refine qaa (qae (v := .slice a2 m2 c2) rfl rfl) rfl ?_; (try simp only [Act.put, lyy])
  refine qaa (qbe rfl Tryd.underlying25 rfl) rfl ?_; (try simp only [Act.put, lyy])
  refine qaa (run_neqb (c := true) rfl rfl rfl (by simp; omega)) rfl ?_; (try simp only [Act.put, lyy])
  refine qab ?_
  go_upto_region 2 with fail; refine wp_region_lit ?_
  refine qaa (qaf (v := .bool false) rfl rfl) rfl ?_; (try simp only [Act.put, lyy])
  refine qab ?_
  go_wp2_with fail
  go_ret
  exact ⟨by rw [HL.out (by have := HM.out; have := HM2.out; omega)]; rfl, E.out.bl⟩
theorem enters_part : Enters 29 := qaq Tryd.func29 (by kernel_rfl) rfl
set_option maxHeartbeats 8000000 in
theorem part_any (a : Option Addr) (c : Nat) (l : List MPk) (a2 : Option Addr) (c2 : Nat) (l2 : List MPk) (w : World) (hs : Fro 0 (SlR 33 pkAt l a c) w) (hs2 : Fro 0 (SlR 33 pkAt l2 a2 c2) w) (hk : ∀ p ∈ l, p.key.length = 32) (hk2 : ∀ p ∈ l2, p.key.length = 32) (hmany : l.length ≤ 60000) : Calls Tryd.prog 29 #[.slice a l.length c, .slice a2 l2.length c2] w fun e w' => e = .returned (.int .i64 ((pfx l l2 : Nat) : Int)) ∧ Below w.heap.size w w' := by
 have E := Lib.hid (Ev.start (w := w) (F := (fun V => SlR 33 pkAt l a c V ∧ SlR 33 pkAt l2 a2 c2 V)) fun V hV => ⟨hs V hV, hs2 V hV⟩)
 have HK := Lib.hid hk
 have HK2 := Lib.hid hk2
 have HX : Hid (∀ j : Nat, (∀ i : Nat, i < j → l[i]? = l2[i]?) → j ≤ l.length → j ≤ l2.length → (j = l.length ∨ j = l2.length ∨ l[j]? ≠ l2[j]?) → pfx l l2 = j) := Lib.hid fun j h1 h2 h3 h4 => pfx_at h1 h2 h3 h4
 clear hs hs2 hk hk2
 generalize pfx l l2 = r at *
 obtain ⟨m, hm⟩ : ∃ m, m = l.length := ⟨_, rfl⟩
 obtain ⟨m2, hm2⟩ : ∃ m, m = l2.length := ⟨_, rfl⟩
 rw [← hm, ← hm2]
 rw [← hm] at hmany
 have HM := Lib.hid hm
 have HM2 := Lib.hid hm2
 go_enter Tryd.func29, Tryd.ntmps29
 go_upto_region 0 with fail; refine wp_region_lit ?_
 refine qaa (qaf (v := .int .i64 0) rfl rfl) rfl ?_; (try simp only [Act.put, lyy])
 refine qab ?_
 go_upto_region 1 with fail; refine wp_region_lit ?_
 refine qaa (qaf (v := .int .i64 0) rfl rfl) rfl ?_; (try simp only [Act.put, lyy])
 refine qab ?_
 go_wp2_with fail
 go_loopw [5] (fun s5 u => ∃ j : Nat, s5 = .int .i64 (j : Int) ∧ j ≤ m ∧ j ≤ m2 ∧ Hid (∀ i : Nat, i < j → l[i]? = l2[i]?) ∧ Ev w [] [] (fun V => SlR 33 pkAt l a c V ∧ SlR 33 pkAt l2 a2 c2 V) (fun _ => True) u) (fun s5 _ => ((m : Int) - intOf s5).toNat)
 case atStart => exact ⟨0, rfl, Nat.zero_le _, Nat.zero_le _, Lib.hid fun i hi => absurd hi (Nat.not_lt_zero _), E.out⟩
 case round =>
  obtain ⟨j, rfl, hj, hj2, HJ, hE⟩ := hrel
  replace E := Lib.hid hE
  clear hE
  by_cases hjm : j = m
  ·go_upto_region 2 with fail
   refine wp_region_noPanic ?_; refine qay (S := fun _ V => Below wr.heap.size wr V) (by kernel_rfl) ((Below.refl _ _).drew) (fun hS => ?_)
   replace E := Lib.hid (E.out.below hS)
   generalize wr.drew = a1 at *
   refine qbg (S' := fun _ V => Below a1.heap.size a1 V) (fun _ V h => hS.trans (h.mono hS.size)) _ _ _ _ ?_
   replace hS := Below.refl a1.heap.size a1
   refine qac 0 rfl rfl (by kernel_rfl) (by kernel_rfl) (by kernel_rfl) (fun _ _ _ h => h) rfl (fun V hV => qae (v := .int .i64 (j : Int)) rfl rfl) hS ?_; (try simp only [Act.put, lyy])
   refine qac 1 rfl rfl (by kernel_rfl) (by kernel_rfl) (by kernel_rfl) (fun _ _ _ h => h) rfl (fun V hV => qae (v := .slice a m c) rfl rfl) hS ?_; (try simp only [Act.put, lyy])
   refine qac 2 rfl rfl (by kernel_rfl) (by kernel_rfl) (by kernel_rfl) (fun _ _ _ h => h) rfl (fun V hV => qbe rfl Tryd.underlying25 rfl) hS ?_; (try simp only [Act.put, lyy])
   refine qac 3 rfl rfl (by kernel_rfl) (by kernel_rfl) (by kernel_rfl) (fun _ _ _ h => h) rfl (fun V hV => qbr (c := false) rfl rfl rfl (decide_eq_false (by omega))) hS ?_; (try simp only [Act.put, lyy])
   refine qac 4 rfl rfl (by kernel_rfl) (by kernel_rfl) (by kernel_rfl) (fun _ _ _ h => h) rfl (fun V hV => qae (v := .bool false) rfl rfl) hS ?_; (try simp only [Act.put, lyy])
   refine qaw 5 rfl rfl (by kernel_rfl) (by kernel_rfl) (by kernel_rfl) (fun _ _ _ h => h) rfl hS ?_; (try simp only [Act.put, lyy])
   refine qaw 6 rfl rfl (by kernel_rfl) (by kernel_rfl) (by kernel_rfl) (fun _ _ _ h => h) rfl hS ?_; (try simp only [Act.put, lyy])
   refine qaw 7 rfl rfl (by kernel_rfl) (by kernel_rfl) (by kernel_rfl) (fun _ _ _ h => h) rfl hS ?_; (try simp only [Act.put, lyy])
   refine qaw 8 rfl rfl (by kernel_rfl) (by kernel_rfl) (by kernel_rfl) (fun _ _ _ h => h) rfl hS ?_; (try simp only [Act.put, lyy])
   refine qac 9 rfl rfl (by kernel_rfl) (by kernel_rfl) (by kernel_rfl) (fun _ _ _ h => h) rfl (fun V hV => qaz (b := false) (v := .bool false) rfl rfl rfl) hS ?_; (try simp only [Act.put, lyy])
   refine qac 10 rfl rfl (by kernel_rfl) (by kernel_rfl) (by kernel_rfl) (fun _ _ _ h => h) rfl (fun V hV => qae (v := .bool false) rfl rfl) hS ?_; (try simp only [Act.put, lyy])
   refine qaw 11 rfl rfl (by kernel_rfl) (by kernel_rfl) (by kernel_rfl) (fun _ _ _ h => h) rfl hS ?_; (try simp only [Act.put, lyy])
   refine qaw 12 rfl rfl (by kernel_rfl) (by kernel_rfl) (by kernel_rfl) (fun _ _ _ h => h) rfl hS ?_; (try simp only [Act.put, lyy])
   refine qaw 13 rfl rfl (by kernel_rfl) (by kernel_rfl) (by kernel_rfl) (fun _ _ _ h => h) rfl hS ?_; (try simp only [Act.put, lyy])
   refine qaw 14 rfl rfl (by kernel_rfl) (by kernel_rfl) (by kernel_rfl) (fun _ _ _ h => h) rfl hS ?_; (try simp only [Act.put, lyy])
   refine qaw 15 rfl rfl (by kernel_rfl) (by kernel_rfl) (by kernel_rfl) (fun _ _ _ h => h) rfl hS ?_; (try simp only [Act.put, lyy])
   refine qaw 16 rfl rfl (by kernel_rfl) (by kernel_rfl) (by kernel_rfl) (fun _ _ _ h => h) rfl hS ?_; (try simp only [Act.put, lyy])
   refine qaw 17 rfl rfl (by kernel_rfl) (by kernel_rfl) (by kernel_rfl) (fun _ _ _ h => h) rfl hS ?_; (try simp only [Act.put, lyy])
   refine qaw 18 rfl rfl (by kernel_rfl) (by kernel_rfl) (by kernel_rfl) (fun _ _ _ h => h) rfl hS ?_; (try simp only [Act.put, lyy])
   refine qaw 19 rfl rfl (by kernel_rfl) (by kernel_rfl) (by kernel_rfl) (fun _ _ _ h => h) rfl hS ?_; (try simp only [Act.put, lyy])
   refine qac 20 rfl rfl (by kernel_rfl) (by kernel_rfl) (by kernel_rfl) (fun _ _ _ h => h) rfl (fun V hV => qaz (b := false) (v := .bool false) rfl rfl rfl) hS ?_; (try simp only [Act.put, lyy])
   refine qa2 (by kernel_rfl) ?_ _; refine NoPanic.normal ?_
   go_upto_region 4 with fail; refine wp_region_lit ?_
   refine qaa (qae (v := .int .i64 (j : Int)) rfl rfl) rfl ?_; (try simp only [Act.put, lyy])
   refine qaa (qaf (v := .int .i64 (j : Int)) rfl rfl) rfl ?_; (try simp only [Act.put, lyy])
   refine qab ?_
   go_wp2_with fail
   go_ret
   exact ⟨by rw [HX.out j HJ.out (by have := HM.out; omega) (by have := HM2.out; omega) (.inl (by have := HM.out; omega))]; rfl, E.out.bl⟩
  ·by_cases hjm2 : j = m2
   ·go_upto_region 2 with fail
    refine wp_region_noPanic ?_; refine qay (S := fun _ V => Below wr.heap.size wr V) (by kernel_rfl) ((Below.refl _ _).drew) (fun hS => ?_)
    replace E := Lib.hid (E.out.below hS)
    generalize wr.drew = a1 at *
    refine qbg (S' := fun _ V => Below a1.heap.size a1 V) (fun _ V h => hS.trans (h.mono hS.size)) _ _ _ _ ?_
    replace hS := Below.refl a1.heap.size a1
    refine qac 0 rfl rfl (by kernel_rfl) (by kernel_rfl) (by kernel_rfl) (fun _ _ _ h => h) rfl (fun V hV => qae (v := .int .i64 (j : Int)) rfl rfl) hS ?_; (try simp only [Act.put, lyy])
    refine qac 1 rfl rfl (by kernel_rfl) (by kernel_rfl) (by kernel_rfl) (fun _ _ _ h => h) rfl (fun V hV => qae (v := .slice a m c) rfl rfl) hS ?_; (try simp only [Act.put, lyy])
    refine qac 2 rfl rfl (by kernel_rfl) (by kernel_rfl) (by kernel_rfl) (fun _ _ _ h => h) rfl (fun V hV => qbe rfl Tryd.underlying25 rfl) hS ?_; (try simp only [Act.put, lyy])
    refine qac 3 rfl rfl (by kernel_rfl) (by kernel_rfl) (by kernel_rfl) (fun _ _ _ h => h) rfl (fun V hV => qbr (c := true) rfl rfl rfl (decide_eq_true (by omega))) hS ?_; (try simp only [Act.put, lyy])
    refine qac 4 rfl rfl (by kernel_rfl) (by kernel_rfl) (by kernel_rfl) (fun _ _ _ h => h) rfl (fun V hV => qae (v := .bool true) rfl rfl) hS ?_; (try simp only [Act.put, lyy])
    refine qac 5 rfl rfl (by kernel_rfl) (by kernel_rfl) (by kernel_rfl) (fun _ _ _ h => h) rfl (fun V hV => qae (v := .int .i64 (j : Int)) rfl rfl) hS ?_; (try simp only [Act.put, lyy])
    refine qac 6 rfl rfl (by kernel_rfl) (by kernel_rfl) (by kernel_rfl) (fun _ _ _ h => h) rfl (fun V hV => qae (v := .slice a2 m2 c2) rfl rfl) hS ?_; (try simp only [Act.put, lyy])
    refine qac 7 rfl rfl (by kernel_rfl) (by kernel_rfl) (by kernel_rfl) (fun _ _ _ h => h) rfl (fun V hV => qbe rfl Tryd.underlying25 rfl) hS ?_; (try simp only [Act.put, lyy])
    refine qac 8 rfl rfl (by kernel_rfl) (by kernel_rfl) (by kernel_rfl) (fun _ _ _ h => h) rfl (fun V hV => qbr (c := false) rfl rfl rfl (decide_eq_false (by omega))) hS ?_; (try simp only [Act.put, lyy])
    refine qac 9 rfl rfl (by kernel_rfl) (by kernel_rfl) (by kernel_rfl) (fun _ _ _ h => h) rfl (fun V hV => qaz (b := true) (v := .bool false) rfl rfl rfl) hS ?_; (try simp only [Act.put, lyy])
    refine qac 10 rfl rfl (by kernel_rfl) (by kernel_rfl) (by kernel_rfl) (fun _ _ _ h => h) rfl (fun V hV => qae (v := .bool false) rfl rfl) hS ?_; (try simp only [Act.put, lyy])
    refine qaw 11 rfl rfl (by kernel_rfl) (by kernel_rfl) (by kernel_rfl) (fun _ _ _ h => h) rfl hS ?_; (try simp only [Act.put, lyy])
    refine qaw 12 rfl rfl (by kernel_rfl) (by kernel_rfl) (by kernel_rfl) (fun _ _ _ h => h) rfl hS ?_; (try simp only [Act.put, lyy])
    refine qaw 13 rfl rfl (by kernel_rfl) (by kernel_rfl) (by kernel_rfl) (fun _ _ _ h => h) rfl hS ?_; (try simp only [Act.put, lyy])
    refine qaw 14 rfl rfl (by kernel_rfl) (by kernel_rfl) (by kernel_rfl) (fun _ _ _ h => h) rfl hS ?_; (try simp only [Act.put, lyy])
    refine qaw 15 rfl rfl (by kernel_rfl) (by kernel_rfl) (by kernel_rfl) (fun _ _ _ h => h) rfl hS ?_; (try simp only [Act.put, lyy])
    refine qaw 16 rfl rfl (by kernel_rfl) (by kernel_rfl) (by kernel_rfl) (fun _ _ _ h => h) rfl hS ?_; (try simp only [Act.put, lyy])
    refine qaw 17 rfl rfl (by kernel_rfl) (by kernel_rfl) (by kernel_rfl) (fun _ _ _ h => h) rfl hS ?_; (try simp only [Act.put, lyy])
    refine qaw 18 rfl rfl (by kernel_rfl) (by kernel_rfl) (by kernel_rfl) (fun _ _ _ h => h) rfl hS ?_; (try simp only [Act.put, lyy])
    refine qaw 19 rfl rfl (by kernel_rfl) (by kernel_rfl) (by kernel_rfl) (fun _ _ _ h => h) rfl hS ?_; (try simp only [Act.put, lyy])
    refine qac 20 rfl rfl (by kernel_rfl) (by kernel_rfl) (by kernel_rfl) (fun _ _ _ h => h) rfl (fun V hV => qaz (b := false) (v := .bool false) rfl rfl rfl) hS ?_; (try simp only [Act.put, lyy])
    refine qa2 (by kernel_rfl) ?_ _; refine NoPanic.normal ?_
    go_upto_region 4 with fail; refine wp_region_lit ?_
    refine qaa (qae (v := .int .i64 (j : Int)) rfl rfl) rfl ?_; (try simp only [Act.put, lyy])
    refine qaa (qaf (v := .int .i64 (j : Int)) rfl rfl) rfl ?_; (try simp only [Act.put, lyy])
    refine qab ?_
    go_wp2_with fail
    go_ret
    exact ⟨by rw [HX.out j HJ.out (by have := HM.out; omega) (by have := HM2.out; omega) (.inr (.inl (by have := HM2.out; omega)))]; rfl, E.out.bl⟩
   ·have hjl : j < l.length := by have := HM.out; omega
    have hjl2 : j < l2.length := by have := HM2.out; omega
    obtain ⟨g, fo, rfl, hg, -⟩ := pk_at E.out.f.1 hjl
    obtain ⟨g2, fo2, rfl, hg2, -⟩ := pk_at E.out.f.2 hjl2
    have HP : Hid (∀ V, SlR 33 pkAt l (some ⟨g, fo, none⟩) c V → V.rangeAt g (fo + j * 33) (pkC l[j])) := Lib.hid fun V h => pk_at2 h hjl
    have HP2 : Hid (∀ V, SlR 33 pkAt l2 (some ⟨g2, fo2, none⟩) c2 V → V.rangeAt g2 (fo2 + j * 33) (pkC l2[j])) := Lib.hid fun V h => pk_at2 h hjl2
    have hkl := HK.out _ (List.getElem_mem hjl)
    have hkl2 := HK2.out _ (List.getElem_mem hjl2)
    have HE1 := Lib.hid (List.getElem?_eq_getElem hjl)
    have HE2 := Lib.hid (List.getElem?_eq_getElem hjl2)
    generalize l[j] = q at *
    generalize l2[j] = q2 at *
    by_cases hq : eqPk q q2 = true
    ·go_upto_region 2 with fail
     refine wp_region_noPanic ?_; refine qay (S := fun _ V => Below wr.heap.size wr V) (by kernel_rfl) ((Below.refl _ _).drew) (fun hS => ?_)
     replace E := Lib.hid (E.out.below hS)
     generalize wr.drew = a1 at *
     refine qbg (S' := fun _ V => Below a1.heap.size a1 V) (fun _ V h => hS.trans (h.mono hS.size)) _ _ _ _ ?_
     replace hS := Below.refl a1.heap.size a1
     refine qac 0 rfl rfl (by kernel_rfl) (by kernel_rfl) (by kernel_rfl) (fun _ _ _ h => h) rfl (fun V hV => qae (v := .int .i64 (j : Int)) rfl rfl) hS ?_; (try simp only [Act.put, lyy])
     refine qac 1 rfl rfl (by kernel_rfl) (by kernel_rfl) (by kernel_rfl) (fun _ _ _ h => h) rfl (fun V hV => qae (v := .slice (some ⟨g, fo, none⟩) m c) rfl rfl) hS ?_; (try simp only [Act.put, lyy])
     refine qac 2 rfl rfl (by kernel_rfl) (by kernel_rfl) (by kernel_rfl) (fun _ _ _ h => h) rfl (fun V hV => qbe rfl Tryd.underlying25 rfl) hS ?_; (try simp only [Act.put, lyy])
     refine qac 3 rfl rfl (by kernel_rfl) (by kernel_rfl) (by kernel_rfl) (fun _ _ _ h => h) rfl (fun V hV => qbr (c := true) rfl rfl rfl (decide_eq_true (by omega))) hS ?_; (try simp only [Act.put, lyy])
     refine qac 4 rfl rfl (by kernel_rfl) (by kernel_rfl) (by kernel_rfl) (fun _ _ _ h => h) rfl (fun V hV => qae (v := .bool true) rfl rfl) hS ?_; (try simp only [Act.put, lyy])
     refine qac 5 rfl rfl (by kernel_rfl) (by kernel_rfl) (by kernel_rfl) (fun _ _ _ h => h) rfl (fun V hV => qae (v := .int .i64 (j : Int)) rfl rfl) hS ?_; (try simp only [Act.put, lyy])
     refine qac 6 rfl rfl (by kernel_rfl) (by kernel_rfl) (by kernel_rfl) (fun _ _ _ h => h) rfl (fun V hV => qae (v := .slice (some ⟨g2, fo2, none⟩) m2 c2) rfl rfl) hS ?_; (try simp only [Act.put, lyy])
     refine qac 7 rfl rfl (by kernel_rfl) (by kernel_rfl) (by kernel_rfl) (fun _ _ _ h => h) rfl (fun V hV => qbe rfl Tryd.underlying25 rfl) hS ?_; (try simp only [Act.put, lyy])
     refine qac 8 rfl rfl (by kernel_rfl) (by kernel_rfl) (by kernel_rfl) (fun _ _ _ h => h) rfl (fun V hV => qbr (c := true) rfl rfl rfl (decide_eq_true (by omega))) hS ?_; (try simp only [Act.put, lyy])
     refine qac 9 rfl rfl (by kernel_rfl) (by kernel_rfl) (by kernel_rfl) (fun _ _ _ h => h) rfl (fun V hV => qaz (b := true) (v := .bool true) rfl rfl rfl) hS ?_; (try simp only [Act.put, lyy])
     refine qac 10 rfl rfl (by kernel_rfl) (by kernel_rfl) (by kernel_rfl) (fun _ _ _ h => h) rfl (fun V hV => qae (v := .bool true) rfl rfl) hS ?_; (try simp only [Act.put, lyy])
     refine qac 11 rfl rfl (by kernel_rfl) (by kernel_rfl) (by kernel_rfl) (fun _ _ _ h => h) rfl (fun V hV => qae (v := .slice (some ⟨g, fo, none⟩) m c) rfl rfl) hS ?_; (try simp only [Act.put, lyy])
     refine qac 12 rfl rfl (by kernel_rfl) (by kernel_rfl) (by kernel_rfl) (fun _ _ _ h => h) rfl (fun V hV => qae (v := .int .i64 (j : Int)) rfl rfl) hS ?_; (try simp only [Act.put, lyy])
     refine qac 13 rfl rfl (by kernel_rfl) (by kernel_rfl) (by kernel_rfl) (fun _ _ _ h => h) rfl (fun V hV => qcl (z := 33) rfl Tryd.underlying25 (by kernel_rfl) rfl rfl (by omega)) hS ?_; (try simp only [Act.put, lyy])
     refine qac 14 rfl rfl (by kernel_rfl) (by kernel_rfl) (by kernel_rfl) (fun _ _ _ h => h) rfl (fun V hV => qaj (vs := pkC q) rfl Tryd.underlying34 rfl (szR (qa9 hkl) (by kernel_rfl)) rfl (HP.out _ (E.out.below hV).f.1)) hS ?_; (try simp only [Act.put, lyy])
     refine qac 15 rfl rfl (by kernel_rfl) (by kernel_rfl) (by kernel_rfl) (fun _ _ _ h => h) rfl (fun V hV => qae (v := .slice (some ⟨g2, fo2, none⟩) m2 c2) rfl rfl) hS ?_; (try simp only [Act.put, lyy])
     refine qac 16 rfl rfl (by kernel_rfl) (by kernel_rfl) (by kernel_rfl) (fun _ _ _ h => h) rfl (fun V hV => qae (v := .int .i64 (j : Int)) rfl rfl) hS ?_; (try simp only [Act.put, lyy])
     refine qac 17 rfl rfl (by kernel_rfl) (by kernel_rfl) (by kernel_rfl) (fun _ _ _ h => h) rfl (fun V hV => qcl (z := 33) rfl Tryd.underlying25 (by kernel_rfl) rfl rfl (by omega)) hS ?_; (try simp only [Act.put, lyy])
     refine qac 18 rfl rfl (by kernel_rfl) (by kernel_rfl) (by kernel_rfl) (fun _ _ _ h => h) rfl (fun V hV => qaj (vs := pkC q2) rfl Tryd.underlying34 rfl (szR (qa9 hkl2) (by kernel_rfl)) rfl (HP2.out _ (E.out.below hV).f.2)) hS ?_; (try simp only [Act.put, lyy])
     refine qac 19 rfl rfl (by kernel_rfl) (by kernel_rfl) (by kernel_rfl) (fun _ _ _ h => h) rfl (fun V hV => run_eqEn hkl hkl2 rfl rfl rfl hq) hS ?_; (try simp only [Act.put, lyy])
     refine qac 20 rfl rfl (by kernel_rfl) (by kernel_rfl) (by kernel_rfl) (fun _ _ _ h => h) rfl (fun V hV => qaz (b := true) (v := .bool true) rfl rfl rfl) hS ?_; (try simp only [Act.put, lyy])
     refine qa2 (by kernel_rfl) ?_ _; refine NoPanic.normal ?_
     go_upto_region 3 with fail; refine wp_region_lit ?_
     refine qaa (qae (v := .int .i64 (j : Int)) rfl rfl) rfl ?_; (try simp only [Act.put, lyy])
     refine qaa (qb1 (a := j) (b := 1) rfl rfl rfl (by omega)) rfl ?_; (try simp only [Act.put, lyy])
     refine qaa (qaf (v := .int .i64 ((j + 1 : Nat) : Int)) rfl rfl) rfl ?_; (try simp only [Act.put, lyy])
     refine qab ?_
     have NX : Hid (∀ i : Nat, i < j + 1 → l[i]? = l2[i]?) := Lib.hid fun i hi => by
      rcases Nat.lt_or_ge i j with h9 | h9
      ·exact HJ.out i h9
      ·obtain rfl : i = j := by omega
       rw [HE1.out, HE2.out, eqPk_iff.1 hq]
     go_wp2_with fail
     exact ⟨⟨j + 1, rfl, by omega, by omega, NX, E.out⟩, by simp [intOf]; omega⟩
    ·have hq2 : eqPk q q2 = false := by simpa using hq
     go_upto_region 2 with fail
     refine wp_region_noPanic ?_; refine qay (S := fun _ V => Below wr.heap.size wr V) (by kernel_rfl) ((Below.refl _ _).drew) (fun hS => ?_)
     replace E := Lib.hid (E.out.below hS)
     generalize wr.drew = a1 at *
     refine qbg (S' := fun _ V => Below a1.heap.size a1 V) (fun _ V h => hS.trans (h.mono hS.size)) _ _ _ _ ?_
     replace hS := Below.refl a1.heap.size a1
     refine qac 0 rfl rfl (by kernel_rfl) (by kernel_rfl) (by kernel_rfl) (fun _ _ _ h => h) rfl (fun V hV => qae (v := .int .i64 (j : Int)) rfl rfl) hS ?_; (try simp only [Act.put, lyy])
     refine qac 1 rfl rfl (by kernel_rfl) (by kernel_rfl) (by kernel_rfl) (fun _ _ _ h => h) rfl (fun V hV => qae (v := .slice (some ⟨g, fo, none⟩) m c) rfl rfl) hS ?_; (try simp only [Act.put, lyy])
     refine qac 2 rfl rfl (by kernel_rfl) (by kernel_rfl) (by kernel_rfl) (fun _ _ _ h => h) rfl (fun V hV => qbe rfl Tryd.underlying25 rfl) hS ?_; (try simp only [Act.put, lyy])
     refine qac 3 rfl rfl (by kernel_rfl) (by kernel_rfl) (by kernel_rfl) (fun _ _ _ h => h) rfl (fun V hV => qbr (c := true) rfl rfl rfl (decide_eq_true (by omega))) hS ?_; (try simp only [Act.put, lyy])
     refine qac 4 rfl rfl (by kernel_rfl) (by kernel_rfl) (by kernel_rfl) (fun _ _ _ h => h) rfl (fun V hV => qae (v := .bool true) rfl rfl) hS ?_; (try simp only [Act.put, lyy])
     refine qac 5 rfl rfl (by kernel_rfl) (by kernel_rfl) (by kernel_rfl) (fun _ _ _ h => h) rfl (fun V hV => qae (v := .int .i64 (j : Int)) rfl rfl) hS ?_; (try simp only [Act.put, lyy])
     refine qac 6 rfl rfl (by kernel_rfl) (by kernel_rfl) (by kernel_rfl) (fun _ _ _ h => h) rfl (fun V hV => qae (v := .slice (some ⟨g2, fo2, none⟩) m2 c2) rfl rfl) hS ?_; (try simp only [Act.put, lyy])
     refine qac 7 rfl rfl (by kernel_rfl) (by kernel_rfl) (by kernel_rfl) (fun _ _ _ h => h) rfl (fun V hV => qbe rfl Tryd.underlying25 rfl) hS ?_; (try simp only [Act.put, lyy])
     refine qac 8 rfl rfl (by kernel_rfl) (by kernel_rfl) (by kernel_rfl) (fun _ _ _ h => h) rfl (fun V hV => qbr (c := true) rfl rfl rfl (decide_eq_true (by omega))) hS ?_; (try simp only [Act.put, lyy])
     refine qac 9 rfl rfl (by kernel_rfl) (by kernel_rfl) (by kernel_rfl) (fun _ _ _ h => h) rfl (fun V hV => qaz (b := true) (v := .bool true) rfl rfl rfl) hS ?_; (try simp only [Act.put, lyy])
     refine qac 10 rfl rfl (by kernel_rfl) (by kernel_rfl) (by kernel_rfl) (fun _ _ _ h => h) rfl (fun V hV => qae (v := .bool true) rfl rfl) hS ?_; (try simp only [Act.put, lyy])
     refine qac 11 rfl rfl (by kernel_rfl) (by kernel_rfl) (by kernel_rfl) (fun _ _ _ h => h) rfl (fun V hV => qae (v := .slice (some ⟨g, fo, none⟩) m c) rfl rfl) hS ?_; (try simp only [Act.put, lyy])
     refine qac 12 rfl rfl (by kernel_rfl) (by kernel_rfl) (by kernel_rfl) (fun _ _ _ h => h) rfl (fun V hV => qae (v := .int .i64 (j : Int)) rfl rfl) hS ?_; (try simp only [Act.put, lyy])
     refine qac 13 rfl rfl (by kernel_rfl) (by kernel_rfl) (by kernel_rfl) (fun _ _ _ h => h) rfl (fun V hV => qcl (z := 33) rfl Tryd.underlying25 (by kernel_rfl) rfl rfl (by omega)) hS ?_; (try simp only [Act.put, lyy])
     refine qac 14 rfl rfl (by kernel_rfl) (by kernel_rfl) (by kernel_rfl) (fun _ _ _ h => h) rfl (fun V hV => qaj (vs := pkC q) rfl Tryd.underlying34 rfl (szR (qa9 hkl) (by kernel_rfl)) rfl (HP.out _ (E.out.below hV).f.1)) hS ?_; (try simp only [Act.put, lyy])
     refine qac 15 rfl rfl (by kernel_rfl) (by kernel_rfl) (by kernel_rfl) (fun _ _ _ h => h) rfl (fun V hV => qae (v := .slice (some ⟨g2, fo2, none⟩) m2 c2) rfl rfl) hS ?_; (try simp only [Act.put, lyy])
     refine qac 16 rfl rfl (by kernel_rfl) (by kernel_rfl) (by kernel_rfl) (fun _ _ _ h => h) rfl (fun V hV => qae (v := .int .i64 (j : Int)) rfl rfl) hS ?_; (try simp only [Act.put, lyy])
     refine qac 17 rfl rfl (by kernel_rfl) (by kernel_rfl) (by kernel_rfl) (fun _ _ _ h => h) rfl (fun V hV => qcl (z := 33) rfl Tryd.underlying25 (by kernel_rfl) rfl rfl (by omega)) hS ?_; (try simp only [Act.put, lyy])
     refine qac 18 rfl rfl (by kernel_rfl) (by kernel_rfl) (by kernel_rfl) (fun _ _ _ h => h) rfl (fun V hV => qaj (vs := pkC q2) rfl Tryd.underlying34 rfl (szR (qa9 hkl2) (by kernel_rfl)) rfl (HP2.out _ (E.out.below hV).f.2)) hS ?_; (try simp only [Act.put, lyy])
     refine qac 19 rfl rfl (by kernel_rfl) (by kernel_rfl) (by kernel_rfl) (fun _ _ _ h => h) rfl (fun V hV => run_eqEn hkl hkl2 rfl rfl rfl hq2) hS ?_; (try simp only [Act.put, lyy])
     refine qac 20 rfl rfl (by kernel_rfl) (by kernel_rfl) (by kernel_rfl) (fun _ _ _ h => h) rfl (fun V hV => qaz (b := true) (v := .bool false) rfl rfl rfl) hS ?_; (try simp only [Act.put, lyy])
     refine qa2 (by kernel_rfl) ?_ _; refine NoPanic.normal ?_
     go_upto_region 4 with fail; refine wp_region_lit ?_
     refine qaa (qae (v := .int .i64 (j : Int)) rfl rfl) rfl ?_; (try simp only [Act.put, lyy])
     refine qaa (qaf (v := .int .i64 (j : Int)) rfl rfl) rfl ?_; (try simp only [Act.put, lyy])
     refine qab ?_
     go_wp2_with fail
     go_ret
     exact ⟨by rw [HX.out j HJ.out (by have := HM.out; omega) (by have := HM2.out; omega) (.inr (.inr (by rw [HE1.out, HE2.out]; intro e; exact hq (eqPk_iff.2 (Option.some.inj e)))))]; rfl, E.out.bl⟩
end Go.Proofs.YtcgbgmbnagmohaaDoor
namespace Go.Proofs.YtcgbgmbnagmohaaDoor
open Go.RowKit
set_option maxRecDepth 20000
attribute [local irreducible] wpList
theorem pk0_built : Tryd.prog.built 34 [] = some (pkC pk0).toArray := by kernel_rfl
theorem pk0_len : pk0.key.length = 32 := rfl
theorem enters_added : Enters 14 := qaq Tryd.func14 (by kernel_rfl) rfl
set_option maxHeartbeats 8000000 in
theorem added_any (m n : MLs) (X Y : List Value) (w : World) (hm : m.Ok) (hn : n.Ok) (hX : Fro 0 (lsAt m X) w) (hY : Fro 0 (lsAt n Y) w) : Calls Tryd.prog 14 #[.agg X.toArray, .agg Y.toArray] w fun e w' => e = .returned (.tuple #[.agg (pkC (adP m.devs n.devs)).toArray, .bool (adB m.devs n.devs)]) ∧ Below w.heap.size w w' := by
 obtain ⟨a0, c0, rfl, HF⟩ := qcx hm hX
 obtain ⟨ar, cr, rfl, HF1⟩ := qcx hn hY
 have k1 := hm.ident
 have k2 := hm.sig
 have k3 := hn.ident
 have k4 := hn.sig
 have HDV := Lib.hid hm.devs
 have HDN := Lib.hid hn.devs
 have hmany := hm.many
 have hmany1 := hn.many
 have E := Lib.hid (Ev.start (w := w) (F := fun V => SlR 33 pkAt m.devs a0 c0 V ∧ SlR 33 pkAt n.devs ar cr V) fun V hV => ⟨HF V hV, HF1 V hV⟩)
 have KE := Lib.hid pk0_built
 have lz := pk0_len
 have CE : Hid (n.devs.length = m.devs.length + 1 → ∀ u : World, Fro 0 (fun V => SlR 33 pkAt m.devs a0 c0 V ∧ SlR 33 pkAt n.devs ar cr V) u → Calls Tryd.prog 28 #[.slice a0 m.devs.length c0, .slice ar m.devs.length cr] u fun e w' => e = .returned (.bool (eqPs m.devs (n.devs.take m.devs.length))) ∧ Below u.heap.size u w') := Lib.hid fun hq u h => by
  have h2 := eqs_any a0 c0 m.devs ar cr (n.devs.take m.devs.length) u (fun V hV => (h V hV).1) (fun V hV => slR_take (h V hV).2 (by omega)) hm.devs (fun p hp => hn.devs p (List.mem_of_mem_take hp)) hm.many
  rwa [List.length_take, Nat.min_eq_left (by omega)] at h2
 clear hX hY HF HF1 hm hn
 by_cases hlen : n.devs.length = m.devs.length + 1
 ·cases hEq : eqPs m.devs (n.devs.take m.devs.length) with
  | false =>
   have hB : adB m.devs n.devs = false := by unfold adB; rw [hEq, decide_eq_true hlen]; rfl
   have HP : Hid (adP m.devs n.devs = pk0) := Lib.hid (by unfold adP; rw [hB]; rfl)
   rw [HP.out, hB]
   clear HP
   generalize pk0 = z at *
   rw [hEq] at CE
   go_enter Tryd.func14, Tryd.ntmps14
   go_upto_region 0 with fail; refine wp_region_lit ?_
   refine qaa (qau (vs := lsR (.int .i64 m.acc) (.int .i64 m.ver) (m.ident.map b8) (.slice a0 m.devs.length c0) (m.sig.map b8)) rfl rfl) rfl ?_; (try simp only [Act.put, lyy])
   replace E := Lib.hid (E.out.new (lsR (.int .i64 m.acc) (.int .i64 m.ver) (m.ident.map b8) (.slice a0 m.devs.length c0) (m.sig.map b8)) 29)
   generalize w.alloc (.cells (lsR (.int .i64 m.acc) (.int .i64 m.ver) (m.ident.map b8) (.slice a0 m.devs.length c0) (m.sig.map b8)).toArray 29) = a1 at *
   generalize w.heap.size = g2 at *
   refine qaa (qau (vs := lsR (.int .i64 n.acc) (.int .i64 n.ver) (n.ident.map b8) (.slice ar n.devs.length cr) (n.sig.map b8)) rfl rfl) rfl ?_; (try simp only [Act.put, lyy])
   replace E := Lib.hid (E.out.new (lsR (.int .i64 n.acc) (.int .i64 n.ver) (n.ident.map b8) (.slice ar n.devs.length cr) (n.sig.map b8)) 29)
   generalize a1.alloc (.cells (lsR (.int .i64 n.acc) (.int .i64 n.ver) (n.ident.map b8) (.slice ar n.devs.length cr) (n.sig.map b8)).toArray 29) = a3 at *
   generalize a1.heap.size = g4 at *
   refine qaa (qat (vs := enR ((.int .i64 0)) (z8 32)) rfl (by kernel_rfl)) rfl ?_; (try simp only [Act.put, lyy])
   replace E := Lib.hid (E.out.new (enR ((.int .i64 0)) (z8 32)) 34)
   generalize a3.alloc (.cells (enR ((.int .i64 0)) (z8 32)).toArray 34) = a5 at *
   generalize a3.heap.size = g6 at *
   refine qaa (qaf (v := .bool false) rfl rfl) rfl ?_; (try simp only [Act.put, lyy])
   refine qab ?_
   go_upto_region 1 with fail; refine wp_region_lit ?_
   refine qaa (qan (s := 0) (k := 34) rfl Tryd.underlying29 rfl (by kernel_rfl) rfl rfl) rfl ?_; (try simp only [Act.put, lyy])
   refine qaa (qav rfl Tryd.underlying25 rfl rfl ((E.out.get (i := 2) rfl).c 34 _ (qal (by rw [List.length_map, k1])))) rfl ?_; (try simp only [Act.put, lyy])
   refine qaa (qbe rfl Tryd.underlying25 rfl) rfl ?_; (try simp only [Act.put, lyy])
   refine qaa (qaf (v := .int .i64 ((m.devs.length : Nat) : Int)) rfl rfl) rfl ?_; (try simp only [Act.put, lyy])
   refine qab ?_
   go_upto_region 2 with fail
   refine wp_region_noPanic ?_; refine qay (S := fun _ V => Below a5.heap.size a5 V) (by kernel_rfl) ((Below.refl _ _).drew) (fun hS => ?_)
   replace E := Lib.hid (E.out.below hS)
   generalize a5.drew = a7 at *
   refine qbg (S' := fun _ V => Below a7.heap.size a7 V) (fun _ V h => hS.trans (h.mono hS.size)) _ _ _ _ ?_
   replace hS := Below.refl a7.heap.size a7
   refine qac 0 rfl rfl (by kernel_rfl) (by kernel_rfl) (by kernel_rfl) (fun _ _ _ h => h) rfl (fun V hV => qan (s := 0) (k := 34) rfl Tryd.underlying29 rfl (by kernel_rfl) rfl rfl) hS ?_; (try simp only [Act.put, lyy])
   refine qac 1 rfl rfl (by kernel_rfl) (by kernel_rfl) (by kernel_rfl) (fun _ _ _ h => h) rfl (fun V hV => qav rfl Tryd.underlying25 rfl rfl (((E.out.below hV).get (i := 1) rfl).c 34 _ (qal (by rw [List.length_map, k3])))) hS ?_; (try simp only [Act.put, lyy])
   refine qac 2 rfl rfl (by kernel_rfl) (by kernel_rfl) (by kernel_rfl) (fun _ _ _ h => h) rfl (fun V hV => qbe rfl Tryd.underlying25 rfl) hS ?_; (try simp only [Act.put, lyy])
   refine qac 3 rfl rfl (by kernel_rfl) (by kernel_rfl) (by kernel_rfl) (fun _ _ _ h => h) rfl (fun V hV => qae (v := .int .i64 ((m.devs.length : Nat) : Int)) rfl rfl) hS ?_; (try simp only [Act.put, lyy])
   refine qac 4 rfl rfl (by kernel_rfl) (by kernel_rfl) (by kernel_rfl) (fun _ _ _ h => h) rfl (fun V hV => qb1 (a := m.devs.length) (b := 1) rfl rfl rfl (by omega)) hS ?_; (try simp only [Act.put, lyy])
   refine qac 5 rfl rfl (by kernel_rfl) (by kernel_rfl) (by kernel_rfl) (fun _ _ _ h => h) rfl (fun V hV => run_neqb (c := false) rfl rfl rfl (by simp; omega)) hS ?_; (try simp only [Act.put, lyy])
   refine qac 6 rfl rfl (by kernel_rfl) (by kernel_rfl) (by kernel_rfl) (fun _ _ _ h => h) rfl (fun V hV => qae (v := .bool false) rfl rfl) hS ?_; (try simp only [Act.put, lyy])
   refine qac 7 rfl rfl (by kernel_rfl) (by kernel_rfl) (by kernel_rfl) (fun _ _ _ h => h) rfl (fun V hV => qan (s := 0) (k := 34) rfl Tryd.underlying29 rfl (by kernel_rfl) rfl rfl) hS ?_; (try simp only [Act.put, lyy])
   refine qac 8 rfl rfl (by kernel_rfl) (by kernel_rfl) (by kernel_rfl) (fun _ _ _ h => h) rfl (fun V hV => qav rfl Tryd.underlying25 rfl rfl (((E.out.below hV).get (i := 2) rfl).c 34 _ (qal (by rw [List.length_map, k1])))) hS ?_; (try simp only [Act.put, lyy])
   refine qac 9 rfl rfl (by kernel_rfl) (by kernel_rfl) (by kernel_rfl) (fun _ _ _ h => h) rfl (fun V hV => qan (s := 0) (k := 34) rfl Tryd.underlying29 rfl (by kernel_rfl) rfl rfl) hS ?_; (try simp only [Act.put, lyy])
   refine qac 10 rfl rfl (by kernel_rfl) (by kernel_rfl) (by kernel_rfl) (fun _ _ _ h => h) rfl (fun V hV => qav rfl Tryd.underlying25 rfl rfl (((E.out.below hV).get (i := 1) rfl).c 34 _ (qal (by rw [List.length_map, k3])))) hS ?_; (try simp only [Act.put, lyy])
   refine qac 11 rfl rfl (by kernel_rfl) (by kernel_rfl) (by kernel_rfl) (fun _ _ _ h => h) rfl (fun V hV => qae (v := .int .i64 ((m.devs.length : Nat) : Int)) rfl rfl) hS ?_; (try simp only [Act.put, lyy])
   refine qac 12 rfl rfl (by kernel_rfl) (by kernel_rfl) (by kernel_rfl) (fun _ _ _ h => h) rfl (fun V hV => run_sloZ (z := 33) rfl Tryd.underlying25 (by kernel_rfl) rfl rfl (by have := (E.out.below hV).f.2.cap; omega)) hS ?_; (try simp only [Act.put, lyy])
   refine qbi 13 (by kernel_rfl) rfl rfl rfl (qao enters_eqs rfl rfl rfl rfl) ((qbq (CE.out hlen _ E.out.froF))) (fun v w h => hS.trans ((h.2).mono hS.size)) (fun v8 a9 hR => ?_); (try simp only [Act.put, lyy])
   obtain ⟨rfl, hb9⟩ := hR
   replace hS := hS.trans (hb9.mono hS.size)
   replace E := Lib.hid (E.out.below hb9)
   clear hb9
   refine qbg (S' := fun _ V => Below a9.heap.size a9 V) (fun _ V h => hS.trans (h.mono hS.size)) _ _ _ _ ?_
   replace hS := Below.refl a9.heap.size a9
   refine qac 14 rfl rfl (by kernel_rfl) (by kernel_rfl) (by kernel_rfl) (fun _ _ _ h => h) rfl (fun V hV => run_notF rfl rfl) hS ?_; (try simp only [Act.put, lyy])
   refine qac 15 rfl rfl (by kernel_rfl) (by kernel_rfl) (by kernel_rfl) (fun _ _ _ h => h) rfl (fun V hV => qaz (b := false) (v := .bool true) rfl rfl rfl) hS ?_; (try simp only [Act.put, lyy])
   refine qa2 (by kernel_rfl) ?_ _; refine NoPanic.normal ?_
   go_upto_region 3 with fail; refine wp_region_lit ?_
   refine qaa (qcb (ps := []) rfl rfl KE.out) rfl ?_; (try simp only [Act.put, lyy])
   refine qag (qar (vs := pkC z) rfl (szR (qa9 lz) (by kernel_rfl)) rfl rfl (One.all (qc2 lz)) ((E.out.get (i := 0) rfl).thereM (by have q1 : (pkC z).length = 33 := (qa9 lz); have q2 : (enR ((.int .i64 0)) (z8 32)).length = 33 := (qbn (qa7 32)); omega))) rfl rfl ?_
   replace E := Lib.hid (E.out.put 0 rfl (m := pkC z) ((show (pkC z).length = 33 from (qa9 lz)).trans (show (enR ((.int .i64 0)) (z8 32)).length = 33 from (qbn (qa7 32))).symm))
   generalize a9.setCells g6 0 (pkC z) = a10 at *
   replace E := Lib.hid (show Ev _ [(g6, pkC z), (g4, lsR (.int .i64 n.acc) (.int .i64 n.ver) (n.ident.map b8) (.slice ar n.devs.length cr) (n.sig.map b8)), (g2, lsR (.int .i64 m.acc) (.int .i64 m.ver) (m.ident.map b8) (.slice a0 m.devs.length c0) (m.sig.map b8))] _ _ _ a10 from E.out)
   refine qaa (qaf (v := .bool false) rfl rfl) rfl ?_; (try simp only [Act.put, lyy])
   refine qab ?_
   go_wp2_with fail
   exact bodyPost_ret (v := .tuple #[.agg (pkC z).toArray, .bool false]) (qbm Tryd.results14 rfl Tryd.underlying34 rfl (szR (qa9 lz) (by kernel_rfl)) (E.out.get (i := 0) rfl).range) rfl ⟨rfl, E.out.bl⟩
  | true =>
   have hB : adB m.devs n.devs = true := by unfold adB; rw [hEq, decide_eq_true hlen]; rfl
   have hk : m.devs.length < n.devs.length := by omega
   have HP : Hid (adP m.devs n.devs = n.devs[m.devs.length]) := Lib.hid (by unfold adP; rw [hB, List.getD_eq_getElem?_getD, List.getElem?_eq_getElem hk]; rfl)
   rw [HP.out, hB]
   have hkl := HDN.out _ (List.getElem_mem hk)
   have HA : Hid (∀ V, SlR 33 pkAt n.devs ar cr V → ∃ g f, ar = some ⟨g, f, none⟩ ∧ g < V.heap.size ∧ V.rangeAt g (f + m.devs.length * 33) (pkC n.devs[m.devs.length])) := Lib.hid fun V hV => pk_at hV hk
   clear HP
   generalize n.devs[m.devs.length] = q at *
   rw [hEq] at CE
   go_enter Tryd.func14, Tryd.ntmps14
   go_upto_region 0 with fail; refine wp_region_lit ?_
   refine qaa (qau (vs := lsR (.int .i64 m.acc) (.int .i64 m.ver) (m.ident.map b8) (.slice a0 m.devs.length c0) (m.sig.map b8)) rfl rfl) rfl ?_; (try simp only [Act.put, lyy])
   replace E := Lib.hid (E.out.new (lsR (.int .i64 m.acc) (.int .i64 m.ver) (m.ident.map b8) (.slice a0 m.devs.length c0) (m.sig.map b8)) 29)
   generalize w.alloc (.cells (lsR (.int .i64 m.acc) (.int .i64 m.ver) (m.ident.map b8) (.slice a0 m.devs.length c0) (m.sig.map b8)).toArray 29) = a1 at *
   generalize w.heap.size = g2 at *
   refine qaa (qau (vs := lsR (.int .i64 n.acc) (.int .i64 n.ver) (n.ident.map b8) (.slice ar n.devs.length cr) (n.sig.map b8)) rfl rfl) rfl ?_; (try simp only [Act.put, lyy])
   replace E := Lib.hid (E.out.new (lsR (.int .i64 n.acc) (.int .i64 n.ver) (n.ident.map b8) (.slice ar n.devs.length cr) (n.sig.map b8)) 29)
   generalize a1.alloc (.cells (lsR (.int .i64 n.acc) (.int .i64 n.ver) (n.ident.map b8) (.slice ar n.devs.length cr) (n.sig.map b8)).toArray 29) = a3 at *
   generalize a1.heap.size = g4 at *
   refine qaa (qat (vs := enR ((.int .i64 0)) (z8 32)) rfl (by kernel_rfl)) rfl ?_; (try simp only [Act.put, lyy])
   replace E := Lib.hid (E.out.new (enR ((.int .i64 0)) (z8 32)) 34)
   generalize a3.alloc (.cells (enR ((.int .i64 0)) (z8 32)).toArray 34) = a5 at *
   generalize a3.heap.size = g6 at *
   refine qaa (qaf (v := .bool false) rfl rfl) rfl ?_; (try simp only [Act.put, lyy])
   refine qab ?_
   go_upto_region 1 with fail; refine wp_region_lit ?_
   refine qaa (qan (s := 0) (k := 34) rfl Tryd.underlying29 rfl (by kernel_rfl) rfl rfl) rfl ?_; (try simp only [Act.put, lyy])
   refine qaa (qav rfl Tryd.underlying25 rfl rfl ((E.out.get (i := 2) rfl).c 34 _ (qal (by rw [List.length_map, k1])))) rfl ?_; (try simp only [Act.put, lyy])
   refine qaa (qbe rfl Tryd.underlying25 rfl) rfl ?_; (try simp only [Act.put, lyy])
   refine qaa (qaf (v := .int .i64 ((m.devs.length : Nat) : Int)) rfl rfl) rfl ?_; (try simp only [Act.put, lyy])
   refine qab ?_
   go_upto_region 2 with fail
   refine wp_region_noPanic ?_; refine qay (S := fun _ V => Below a5.heap.size a5 V) (by kernel_rfl) ((Below.refl _ _).drew) (fun hS => ?_)
   replace E := Lib.hid (E.out.below hS)
   generalize a5.drew = a7 at *
   refine qbg (S' := fun _ V => Below a7.heap.size a7 V) (fun _ V h => hS.trans (h.mono hS.size)) _ _ _ _ ?_
   replace hS := Below.refl a7.heap.size a7
   refine qac 0 rfl rfl (by kernel_rfl) (by kernel_rfl) (by kernel_rfl) (fun _ _ _ h => h) rfl (fun V hV => qan (s := 0) (k := 34) rfl Tryd.underlying29 rfl (by kernel_rfl) rfl rfl) hS ?_; (try simp only [Act.put, lyy])
   refine qac 1 rfl rfl (by kernel_rfl) (by kernel_rfl) (by kernel_rfl) (fun _ _ _ h => h) rfl (fun V hV => qav rfl Tryd.underlying25 rfl rfl (((E.out.below hV).get (i := 1) rfl).c 34 _ (qal (by rw [List.length_map, k3])))) hS ?_; (try simp only [Act.put, lyy])
   refine qac 2 rfl rfl (by kernel_rfl) (by kernel_rfl) (by kernel_rfl) (fun _ _ _ h => h) rfl (fun V hV => qbe rfl Tryd.underlying25 rfl) hS ?_; (try simp only [Act.put, lyy])
   refine qac 3 rfl rfl (by kernel_rfl) (by kernel_rfl) (by kernel_rfl) (fun _ _ _ h => h) rfl (fun V hV => qae (v := .int .i64 ((m.devs.length : Nat) : Int)) rfl rfl) hS ?_; (try simp only [Act.put, lyy])
   refine qac 4 rfl rfl (by kernel_rfl) (by kernel_rfl) (by kernel_rfl) (fun _ _ _ h => h) rfl (fun V hV => qb1 (a := m.devs.length) (b := 1) rfl rfl rfl (by omega)) hS ?_; (try simp only [Act.put, lyy])
   refine qac 5 rfl rfl (by kernel_rfl) (by kernel_rfl) (by kernel_rfl) (fun _ _ _ h => h) rfl (fun V hV => run_neqb (c := false) rfl rfl rfl (by simp; omega)) hS ?_; (try simp only [Act.put, lyy])
   refine qac 6 rfl rfl (by kernel_rfl) (by kernel_rfl) (by kernel_rfl) (fun _ _ _ h => h) rfl (fun V hV => qae (v := .bool false) rfl rfl) hS ?_; (try simp only [Act.put, lyy])
   refine qac 7 rfl rfl (by kernel_rfl) (by kernel_rfl) (by kernel_rfl) (fun _ _ _ h => h) rfl (fun V hV => qan (s := 0) (k := 34) rfl Tryd.underlying29 rfl (by kernel_rfl) rfl rfl) hS ?_; (try simp only [Act.put, lyy])
   refine qac 8 rfl rfl (by kernel_rfl) (by kernel_rfl) (by kernel_rfl) (fun _ _ _ h => h) rfl (fun V hV => qav rfl Tryd.underlying25 rfl rfl (((E.out.below hV).get (i := 2) rfl).c 34 _ (qal (by rw [List.length_map, k1])))) hS ?_; (try simp only [Act.put, lyy])
   refine qac 9 rfl rfl (by kernel_rfl) (by kernel_rfl) (by kernel_rfl) (fun _ _ _ h => h) rfl (fun V hV => qan (s := 0) (k := 34) rfl Tryd.underlying29 rfl (by kernel_rfl) rfl rfl) hS ?_; (try simp only [Act.put, lyy])
   refine qac 10 rfl rfl (by kernel_rfl) (by kernel_rfl) (by kernel_rfl) (fun _ _ _ h => h) rfl (fun V hV => qav rfl Tryd.underlying25 rfl rfl (((E.out.below hV).get (i := 1) rfl).c 34 _ (qal (by rw [List.length_map, k3])))) hS ?_; (try simp only [Act.put, lyy])
   refine qac 11 rfl rfl (by kernel_rfl) (by kernel_rfl) (by kernel_rfl) (fun _ _ _ h => h) rfl (fun V hV => qae (v := .int .i64 ((m.devs.length : Nat) : Int)) rfl rfl) hS ?_; (try simp only [Act.put, lyy])
   refine qac 12 rfl rfl (by kernel_rfl) (by kernel_rfl) (by kernel_rfl) (fun _ _ _ h => h) rfl (fun V hV => run_sloZ (z := 33) rfl Tryd.underlying25 (by kernel_rfl) rfl rfl (by have := (E.out.below hV).f.2.cap; omega)) hS ?_; (try simp only [Act.put, lyy])
   refine qbi 13 (by kernel_rfl) rfl rfl rfl (qao enters_eqs rfl rfl rfl rfl) ((qbq (CE.out hlen _ E.out.froF))) (fun v w h => hS.trans ((h.2).mono hS.size)) (fun v8 a9 hR => ?_); (try simp only [Act.put, lyy])
   obtain ⟨rfl, hb9⟩ := hR
   replace hS := hS.trans (hb9.mono hS.size)
   replace E := Lib.hid (E.out.below hb9)
   clear hb9
   refine qbg (S' := fun _ V => Below a9.heap.size a9 V) (fun _ V h => hS.trans (h.mono hS.size)) _ _ _ _ ?_
   replace hS := Below.refl a9.heap.size a9
   refine qac 14 rfl rfl (by kernel_rfl) (by kernel_rfl) (by kernel_rfl) (fun _ _ _ h => h) rfl (fun V hV => qc7 rfl rfl) hS ?_; (try simp only [Act.put, lyy])
   refine qac 15 rfl rfl (by kernel_rfl) (by kernel_rfl) (by kernel_rfl) (fun _ _ _ h => h) rfl (fun V hV => qaz (b := false) (v := .bool false) rfl rfl rfl) hS ?_; (try simp only [Act.put, lyy])
   refine qa2 (by kernel_rfl) ?_ _; refine NoPanic.normal ?_
   obtain ⟨g, fo, rfl, hg, hr⟩ := HA.out _ E.out.f.2
   have HR := Lib.hid hr
   clear hr HA
   go_upto_region 4 with fail; refine wp_region_lit ?_
   refine qaa (qan (s := 0) (k := 34) rfl Tryd.underlying29 rfl (by kernel_rfl) rfl rfl) rfl ?_; (try simp only [Act.put, lyy])
   refine qaa (qav rfl Tryd.underlying25 rfl rfl ((E.out.get (i := 1) rfl).c 34 _ (qal (by rw [List.length_map, k3])))) rfl ?_; (try simp only [Act.put, lyy])
   refine qaa (qae (v := .int .i64 ((m.devs.length : Nat) : Int)) rfl rfl) rfl ?_; (try simp only [Act.put, lyy])
   refine qaa (qcl (z := 33) rfl Tryd.underlying25 (by kernel_rfl) rfl rfl hk) rfl ?_; (try simp only [Act.put, lyy])
   refine qaa (qaj (vs := pkC q) rfl Tryd.underlying34 rfl (szR (qa9 hkl) (by kernel_rfl)) rfl HR.out) rfl ?_; (try simp only [Act.put, lyy])
   refine qag (qar (vs := pkC q) rfl (szR (qa9 hkl) (by kernel_rfl)) rfl rfl (One.all (qc2 hkl)) ((E.out.get (i := 0) rfl).thereM (by have q1 : (pkC q).length = 33 := (qa9 hkl); have q2 : (enR ((.int .i64 0)) (z8 32)).length = 33 := (qbn (qa7 32)); omega))) rfl rfl ?_
   replace E := Lib.hid (E.out.put 0 rfl (m := pkC q) ((show (pkC q).length = 33 from (qa9 hkl)).trans (show (enR ((.int .i64 0)) (z8 32)).length = 33 from (qbn (qa7 32))).symm))
   generalize a9.setCells g6 0 (pkC q) = a10 at *
   replace E := Lib.hid (show Ev _ [(g6, pkC q), (g4, lsR (.int .i64 n.acc) (.int .i64 n.ver) (n.ident.map b8) (.slice (some ⟨g, fo, none⟩) n.devs.length cr) (n.sig.map b8)), (g2, lsR (.int .i64 m.acc) (.int .i64 m.ver) (m.ident.map b8) (.slice a0 m.devs.length c0) (m.sig.map b8))] _ _ _ a10 from E.out)
   refine qaa (qaf (v := .bool true) rfl rfl) rfl ?_; (try simp only [Act.put, lyy])
   refine qab ?_
   go_wp2_with fail
   exact bodyPost_ret (v := .tuple #[.agg (pkC q).toArray, .bool true]) (qbm Tryd.results14 rfl Tryd.underlying34 rfl (szR (qa9 hkl) (by kernel_rfl)) (E.out.get (i := 0) rfl).range) rfl ⟨rfl, E.out.bl⟩
 ·have hB : adB m.devs n.devs = false := by unfold adB; rw [decide_eq_false hlen]; rfl
  have HP : Hid (adP m.devs n.devs = pk0) := Lib.hid (by unfold adP; rw [hB]; rfl)
  rw [HP.out, hB]
  clear HP
  generalize pk0 = z at *
  go_enter Tryd.func14, Tryd.ntmps14
  go_upto_region 0 with fail; refine wp_region_lit ?_
  refine qaa (qau (vs := lsR (.int .i64 m.acc) (.int .i64 m.ver) (m.ident.map b8) (.slice a0 m.devs.length c0) (m.sig.map b8)) rfl rfl) rfl ?_; (try simp only [Act.put, lyy])
  replace E := Lib.hid (E.out.new (lsR (.int .i64 m.acc) (.int .i64 m.ver) (m.ident.map b8) (.slice a0 m.devs.length c0) (m.sig.map b8)) 29)
  generalize w.alloc (.cells (lsR (.int .i64 m.acc) (.int .i64 m.ver) (m.ident.map b8) (.slice a0 m.devs.length c0) (m.sig.map b8)).toArray 29) = a1 at *
  generalize w.heap.size = g2 at *
  refine qaa (qau (vs := lsR (.int .i64 n.acc) (.int .i64 n.ver) (n.ident.map b8) (.slice ar n.devs.length cr) (n.sig.map b8)) rfl rfl) rfl ?_; (try simp only [Act.put, lyy])
  replace E := Lib.hid (E.out.new (lsR (.int .i64 n.acc) (.int .i64 n.ver) (n.ident.map b8) (.slice ar n.devs.length cr) (n.sig.map b8)) 29)
  generalize a1.alloc (.cells (lsR (.int .i64 n.acc) (.int .i64 n.ver) (n.ident.map b8) (.slice ar n.devs.length cr) (n.sig.map b8)).toArray 29) = a3 at *
  generalize a1.heap.size = g4 at *
  refine qaa (qat (vs := enR ((.int .i64 0)) (z8 32)) rfl (by kernel_rfl)) rfl ?_; (try simp only [Act.put, lyy])
  replace E := Lib.hid (E.out.new (enR ((.int .i64 0)) (z8 32)) 34)
  generalize a3.alloc (.cells (enR ((.int .i64 0)) (z8 32)).toArray 34) = a5 at *
  generalize a3.heap.size = g6 at *
  refine qaa (qaf (v := .bool false) rfl rfl) rfl ?_; (try simp only [Act.put, lyy])
  refine qab ?_
  go_upto_region 1 with fail; refine wp_region_lit ?_
  refine qaa (qan (s := 0) (k := 34) rfl Tryd.underlying29 rfl (by kernel_rfl) rfl rfl) rfl ?_; (try simp only [Act.put, lyy])
  refine qaa (qav rfl Tryd.underlying25 rfl rfl ((E.out.get (i := 2) rfl).c 34 _ (qal (by rw [List.length_map, k1])))) rfl ?_; (try simp only [Act.put, lyy])
  refine qaa (qbe rfl Tryd.underlying25 rfl) rfl ?_; (try simp only [Act.put, lyy])
  refine qaa (qaf (v := .int .i64 ((m.devs.length : Nat) : Int)) rfl rfl) rfl ?_; (try simp only [Act.put, lyy])
  refine qab ?_
  go_upto_region 2 with fail
  refine wp_region_noPanic ?_; refine qay (S := fun _ V => Below a5.heap.size a5 V) (by kernel_rfl) ((Below.refl _ _).drew) (fun hS => ?_)
  replace E := Lib.hid (E.out.below hS)
  generalize a5.drew = a7 at *
  refine qbg (S' := fun _ V => Below a7.heap.size a7 V) (fun _ V h => hS.trans (h.mono hS.size)) _ _ _ _ ?_
  replace hS := Below.refl a7.heap.size a7
  refine qac 0 rfl rfl (by kernel_rfl) (by kernel_rfl) (by kernel_rfl) (fun _ _ _ h => h) rfl (fun V hV => qan (s := 0) (k := 34) rfl Tryd.underlying29 rfl (by kernel_rfl) rfl rfl) hS ?_; (try simp only [Act.put, lyy])
  refine qac 1 rfl rfl (by kernel_rfl) (by kernel_rfl) (by kernel_rfl) (fun _ _ _ h => h) rfl (fun V hV => qav rfl Tryd.underlying25 rfl rfl (((E.out.below hV).get (i := 1) rfl).c 34 _ (qal (by rw [List.length_map, k3])))) hS ?_; (try simp only [Act.put, lyy])
  refine qac 2 rfl rfl (by kernel_rfl) (by kernel_rfl) (by kernel_rfl) (fun _ _ _ h => h) rfl (fun V hV => qbe rfl Tryd.underlying25 rfl) hS ?_; (try simp only [Act.put, lyy])
  refine qac 3 rfl rfl (by kernel_rfl) (by kernel_rfl) (by kernel_rfl) (fun _ _ _ h => h) rfl (fun V hV => qae (v := .int .i64 ((m.devs.length : Nat) : Int)) rfl rfl) hS ?_; (try simp only [Act.put, lyy])
  refine qac 4 rfl rfl (by kernel_rfl) (by kernel_rfl) (by kernel_rfl) (fun _ _ _ h => h) rfl (fun V hV => qb1 (a := m.devs.length) (b := 1) rfl rfl rfl (by omega)) hS ?_; (try simp only [Act.put, lyy])
  refine qac 5 rfl rfl (by kernel_rfl) (by kernel_rfl) (by kernel_rfl) (fun _ _ _ h => h) rfl (fun V hV => run_neqb (c := true) rfl rfl rfl (by simp; omega)) hS ?_; (try simp only [Act.put, lyy])
  refine qac 6 rfl rfl (by kernel_rfl) (by kernel_rfl) (by kernel_rfl) (fun _ _ _ h => h) rfl (fun V hV => qae (v := .bool true) rfl rfl) hS ?_; (try simp only [Act.put, lyy])
  refine qaw 7 rfl rfl (by kernel_rfl) (by kernel_rfl) (by kernel_rfl) (fun _ _ _ h => h) rfl hS ?_; (try simp only [Act.put, lyy])
  refine qaw 8 rfl rfl (by kernel_rfl) (by kernel_rfl) (by kernel_rfl) (fun _ _ _ h => h) rfl hS ?_; (try simp only [Act.put, lyy])
  refine qaw 9 rfl rfl (by kernel_rfl) (by kernel_rfl) (by kernel_rfl) (fun _ _ _ h => h) rfl hS ?_; (try simp only [Act.put, lyy])
  refine qaw 10 rfl rfl (by kernel_rfl) (by kernel_rfl) (by kernel_rfl) (fun _ _ _ h => h) rfl hS ?_; (try simp only [Act.put, lyy])
  refine qaw 11 rfl rfl (by kernel_rfl) (by kernel_rfl) (by kernel_rfl) (fun _ _ _ h => h) rfl hS ?_; (try simp only [Act.put, lyy])
  refine qaw 12 rfl rfl (by kernel_rfl) (by kernel_rfl) (by kernel_rfl) (fun _ _ _ h => h) rfl hS ?_; (try simp only [Act.put, lyy])
  refine qaw 13 rfl rfl (by kernel_rfl) (by kernel_rfl) (by kernel_rfl) (fun _ _ _ h => h) rfl hS ?_; (try simp only [Act.put, lyy])
  refine qaw 14 rfl rfl (by kernel_rfl) (by kernel_rfl) (by kernel_rfl) (fun _ _ _ h => h) rfl hS ?_; (try simp only [Act.put, lyy])
  refine qac 15 rfl rfl (by kernel_rfl) (by kernel_rfl) (by kernel_rfl) (fun _ _ _ h => h) rfl (fun V hV => qaz (b := true) (v := .bool true) rfl rfl rfl) hS ?_; (try simp only [Act.put, lyy])
  refine qa2 (by kernel_rfl) ?_ _; refine NoPanic.normal ?_
  go_upto_region 3 with fail; refine wp_region_lit ?_
  refine qaa (qcb (ps := []) rfl rfl KE.out) rfl ?_; (try simp only [Act.put, lyy])
  refine qag (qar (vs := pkC z) rfl (szR (qa9 lz) (by kernel_rfl)) rfl rfl (One.all (qc2 lz)) ((E.out.get (i := 0) rfl).thereM (by have q1 : (pkC z).length = 33 := (qa9 lz); have q2 : (enR ((.int .i64 0)) (z8 32)).length = 33 := (qbn (qa7 32)); omega))) rfl rfl ?_
  replace E := Lib.hid (E.out.put 0 rfl (m := pkC z) ((show (pkC z).length = 33 from (qa9 lz)).trans (show (enR ((.int .i64 0)) (z8 32)).length = 33 from (qbn (qa7 32))).symm))
  generalize a7.setCells g6 0 (pkC z) = a8 at *
  replace E := Lib.hid (show Ev _ [(g6, pkC z), (g4, lsR (.int .i64 n.acc) (.int .i64 n.ver) (n.ident.map b8) (.slice ar n.devs.length cr) (n.sig.map b8)), (g2, lsR (.int .i64 m.acc) (.int .i64 m.ver) (m.ident.map b8) (.slice a0 m.devs.length c0) (m.sig.map b8))] _ _ _ a8 from E.out)
  refine qaa (qaf (v := .bool false) rfl rfl) rfl ?_; (try simp only [Act.put, lyy])
  refine qab ?_
  go_wp2_with fail
  exact bodyPost_ret (v := .tuple #[.agg (pkC z).toArray, .bool false]) (qbm Tryd.results14 rfl Tryd.underlying34 rfl (szR (qa9 lz) (by kernel_rfl)) (E.out.get (i := 0) rfl).range) rfl ⟨rfl, E.out.bl⟩
theorem enters_removed : Enters 15 := qaq Tryd.func15 (by kernel_rfl) rfl
set_option maxHeartbeats 8000000 in
theorem removed_any (m n : MLs) (X Y : List Value) (w : World) (hm : m.Ok) (hn : n.Ok) (hX : Fro 0 (lsAt m X) w) (hY : Fro 0 (lsAt n Y) w) : Calls Tryd.prog 15 #[.agg X.toArray, .agg Y.toArray] w fun e w' => e = .returned (.tuple #[.agg (pkC (rmP m.devs n.devs)).toArray, .bool (rmB m.devs n.devs)]) ∧ Below w.heap.size w w' := by
 obtain ⟨a0, c0, rfl, HF⟩ := qcx hm hX
 obtain ⟨ar, cr, rfl, HF1⟩ := qcx hn hY
 have k1 := hm.ident
 have k2 := hm.sig
 have k3 := hn.ident
 have k4 := hn.sig
 have HDV := Lib.hid hm.devs
 have HDN := Lib.hid hn.devs
 have hmany := hm.many
 have hmany1 := hn.many
 have E := Lib.hid (Ev.start (w := w) (F := fun V => SlR 33 pkAt m.devs a0 c0 V ∧ SlR 33 pkAt n.devs ar cr V) fun V hV => ⟨HF V hV, HF1 V hV⟩)
 have KE := Lib.hid pk0_built
 have lz := pk0_len
 have hpl := pfx_le m.devs n.devs
 have CP : Hid (∀ u : World, Fro 0 (fun V => SlR 33 pkAt m.devs a0 c0 V ∧ SlR 33 pkAt n.devs ar cr V) u → Calls Tryd.prog 29 #[.slice a0 m.devs.length c0, .slice ar n.devs.length cr] u fun e w' => e = .returned (.int .i64 ((pfx m.devs n.devs : Nat) : Int)) ∧ Below u.heap.size u w') := Lib.hid fun u h => part_any a0 c0 m.devs ar cr n.devs u (fun V hV => (h V hV).1) (fun V hV => (h V hV).2) hm.devs hn.devs hm.many
 have CE : Hid (m.devs.length = n.devs.length + 1 → ∀ u : World, Fro 0 (fun V => SlR 33 pkAt m.devs a0 c0 V ∧ SlR 33 pkAt n.devs ar cr V) u → Calls Tryd.prog 28 #[.slice (cutA 33 a0 c0 (pfx m.devs n.devs + 1)) (m.devs.length - (pfx m.devs n.devs + 1)) (c0 - (pfx m.devs n.devs + 1)), .slice (cutA 33 ar cr (pfx m.devs n.devs)) (n.devs.length - pfx m.devs n.devs) (cr - pfx m.devs n.devs)] u fun e w' => e = .returned (.bool (eqPs (m.devs.drop (pfx m.devs n.devs + 1)) (n.devs.drop (pfx m.devs n.devs)))) ∧ Below u.heap.size u w') := Lib.hid fun hq u h => by
  have h2 := eqs_any (cutA 33 a0 c0 (pfx m.devs n.devs + 1)) (c0 - (pfx m.devs n.devs + 1)) (m.devs.drop (pfx m.devs n.devs + 1)) (cutA 33 ar cr (pfx m.devs n.devs)) (cr - pfx m.devs n.devs) (n.devs.drop (pfx m.devs n.devs)) u (fun V hV => slR_drop (h V hV).1 (by omega)) (fun V hV => slR_drop (h V hV).2 hpl.2) (fun p hp => hm.devs p (List.mem_of_mem_drop hp)) (fun p hp => hn.devs p (List.mem_of_mem_drop hp)) (by rw [List.length_drop]; have := hm.many; omega)
  rwa [List.length_drop, List.length_drop] at h2
 clear hX hY HF HF1 hm hn
 by_cases hlen : m.devs.length = n.devs.length + 1
 ·cases hEq : eqPs (m.devs.drop (pfx m.devs n.devs + 1)) (n.devs.drop (pfx m.devs n.devs)) with
  | false =>
   have hB : rmB m.devs n.devs = false := by unfold rmB; rw [hEq, decide_eq_true hlen]; rfl
   have HP : Hid (rmP m.devs n.devs = pk0) := Lib.hid (by unfold rmP; rw [hB]; rfl)
   rw [HP.out, hB]
   clear HP
   generalize pk0 = z at *
   rw [hEq] at CE
   clear hB hEq
   generalize pfx m.devs n.devs = k at *
   go_enter Tryd.func15, Tryd.ntmps15
   go_upto_region 0 with fail; refine wp_region_lit ?_
   refine qaa (qau (vs := lsR (.int .i64 m.acc) (.int .i64 m.ver) (m.ident.map b8) (.slice a0 m.devs.length c0) (m.sig.map b8)) rfl rfl) rfl ?_; (try simp only [Act.put, lyy])
   replace E := Lib.hid (E.out.new (lsR (.int .i64 m.acc) (.int .i64 m.ver) (m.ident.map b8) (.slice a0 m.devs.length c0) (m.sig.map b8)) 29)
   generalize w.alloc (.cells (lsR (.int .i64 m.acc) (.int .i64 m.ver) (m.ident.map b8) (.slice a0 m.devs.length c0) (m.sig.map b8)).toArray 29) = a1 at *
   generalize w.heap.size = g2 at *
   refine qaa (qau (vs := lsR (.int .i64 n.acc) (.int .i64 n.ver) (n.ident.map b8) (.slice ar n.devs.length cr) (n.sig.map b8)) rfl rfl) rfl ?_; (try simp only [Act.put, lyy])
   replace E := Lib.hid (E.out.new (lsR (.int .i64 n.acc) (.int .i64 n.ver) (n.ident.map b8) (.slice ar n.devs.length cr) (n.sig.map b8)) 29)
   generalize a1.alloc (.cells (lsR (.int .i64 n.acc) (.int .i64 n.ver) (n.ident.map b8) (.slice ar n.devs.length cr) (n.sig.map b8)).toArray 29) = a3 at *
   generalize a1.heap.size = g4 at *
   refine qaa (qat (vs := enR ((.int .i64 0)) (z8 32)) rfl (by kernel_rfl)) rfl ?_; (try simp only [Act.put, lyy])
   replace E := Lib.hid (E.out.new (enR ((.int .i64 0)) (z8 32)) 34)
   generalize a3.alloc (.cells (enR ((.int .i64 0)) (z8 32)).toArray 34) = a5 at *
   generalize a3.heap.size = g6 at *
   refine qaa (qaf (v := .bool false) rfl rfl) rfl ?_; (try simp only [Act.put, lyy])
   refine qab ?_
   go_upto_region 1 with fail; refine wp_region_lit ?_
   refine qaa (qan (s := 0) (k := 34) rfl Tryd.underlying29 rfl (by kernel_rfl) rfl rfl) rfl ?_; (try simp only [Act.put, lyy])
   refine qaa (qav rfl Tryd.underlying25 rfl rfl ((E.out.get (i := 2) rfl).c 34 _ (qal (by rw [List.length_map, k1])))) rfl ?_; (try simp only [Act.put, lyy])
   refine qaa (qbe rfl Tryd.underlying25 rfl) rfl ?_; (try simp only [Act.put, lyy])
   refine qaa (qan (s := 0) (k := 34) rfl Tryd.underlying29 rfl (by kernel_rfl) rfl rfl) rfl ?_; (try simp only [Act.put, lyy])
   refine qaa (qav rfl Tryd.underlying25 rfl rfl ((E.out.get (i := 1) rfl).c 34 _ (qal (by rw [List.length_map, k3])))) rfl ?_; (try simp only [Act.put, lyy])
   refine qaa (qbe rfl Tryd.underlying25 rfl) rfl ?_; (try simp only [Act.put, lyy])
   refine qaa (qb1 (a := n.devs.length) (b := 1) rfl rfl rfl (by omega)) rfl ?_; (try simp only [Act.put, lyy])
   refine qaa (run_neqb (c := false) rfl rfl rfl (by simp; omega)) rfl ?_; (try simp only [Act.put, lyy])
   refine qab ?_
   go_upto_region 3 with fail; refine wp_region_lit ?_
   refine qaa (qan (s := 0) (k := 34) rfl Tryd.underlying29 rfl (by kernel_rfl) rfl rfl) rfl ?_; (try simp only [Act.put, lyy])
   refine qaa (qav rfl Tryd.underlying25 rfl rfl ((E.out.get (i := 2) rfl).c 34 _ (qal (by rw [List.length_map, k1])))) rfl ?_; (try simp only [Act.put, lyy])
   refine qaa (qan (s := 0) (k := 34) rfl Tryd.underlying29 rfl (by kernel_rfl) rfl rfl) rfl ?_; (try simp only [Act.put, lyy])
   refine qaa (qav rfl Tryd.underlying25 rfl rfl ((E.out.get (i := 1) rfl).c 34 _ (qal (by rw [List.length_map, k3])))) rfl ?_; (try simp only [Act.put, lyy])
   refine qam (qao enters_part rfl rfl rfl rfl) rfl (CP.out _ E.out.froF) (fun a7 hb => ?_); (try simp only [Act.put, lyy])
   replace E := Lib.hid (E.out.below hb)
   clear hb
   refine qaa (qaf (v := .int .i64 ((k : Nat) : Int)) rfl rfl) rfl ?_; (try simp only [Act.put, lyy])
   refine qab ?_
   go_upto_region 4 with fail
   refine wp_region_noPanic ?_; refine qay (S := fun _ V => Below a7.heap.size a7 V) (by kernel_rfl) ((Below.refl _ _).drew) (fun hS => ?_)
   replace E := Lib.hid (E.out.below hS)
   generalize a7.drew = a8 at *
   refine qbg (S' := fun _ V => Below a8.heap.size a8 V) (fun _ V h => hS.trans (h.mono hS.size)) _ _ _ _ ?_
   replace hS := Below.refl a8.heap.size a8
   refine qac 0 rfl rfl (by kernel_rfl) (by kernel_rfl) (by kernel_rfl) (fun _ _ _ h => h) rfl (fun V hV => qan (s := 0) (k := 34) rfl Tryd.underlying29 rfl (by kernel_rfl) rfl rfl) hS ?_; (try simp only [Act.put, lyy])
   refine qac 1 rfl rfl (by kernel_rfl) (by kernel_rfl) (by kernel_rfl) (fun _ _ _ h => h) rfl (fun V hV => qav rfl Tryd.underlying25 rfl rfl (((E.out.below hV).get (i := 2) rfl).c 34 _ (qal (by rw [List.length_map, k1])))) hS ?_; (try simp only [Act.put, lyy])
   refine qac 2 rfl rfl (by kernel_rfl) (by kernel_rfl) (by kernel_rfl) (fun _ _ _ h => h) rfl (fun V hV => qae (v := .int .i64 ((k : Nat) : Int)) rfl rfl) hS ?_; (try simp only [Act.put, lyy])
   refine qac 3 rfl rfl (by kernel_rfl) (by kernel_rfl) (by kernel_rfl) (fun _ _ _ h => h) rfl (fun V hV => qb1 (a := k) (b := 1) rfl rfl rfl (by omega)) hS ?_; (try simp only [Act.put, lyy])
   refine qac 4 rfl rfl (by kernel_rfl) (by kernel_rfl) (by kernel_rfl) (fun _ _ _ h => h) rfl (fun V hV => run_sllZ (z := 33) rfl Tryd.underlying25 (by kernel_rfl) rfl rfl (by omega)) hS ?_; (try simp only [Act.put, lyy])
   refine qac 5 rfl rfl (by kernel_rfl) (by kernel_rfl) (by kernel_rfl) (fun _ _ _ h => h) rfl (fun V hV => qan (s := 0) (k := 34) rfl Tryd.underlying29 rfl (by kernel_rfl) rfl rfl) hS ?_; (try simp only [Act.put, lyy])
   refine qac 6 rfl rfl (by kernel_rfl) (by kernel_rfl) (by kernel_rfl) (fun _ _ _ h => h) rfl (fun V hV => qav rfl Tryd.underlying25 rfl rfl (((E.out.below hV).get (i := 1) rfl).c 34 _ (qal (by rw [List.length_map, k3])))) hS ?_; (try simp only [Act.put, lyy])
   refine qac 7 rfl rfl (by kernel_rfl) (by kernel_rfl) (by kernel_rfl) (fun _ _ _ h => h) rfl (fun V hV => qae (v := .int .i64 ((k : Nat) : Int)) rfl rfl) hS ?_; (try simp only [Act.put, lyy])
   refine qac 8 rfl rfl (by kernel_rfl) (by kernel_rfl) (by kernel_rfl) (fun _ _ _ h => h) rfl (fun V hV => run_sllZ (z := 33) rfl Tryd.underlying25 (by kernel_rfl) rfl rfl (by omega)) hS ?_; (try simp only [Act.put, lyy])
   refine qbi 9 (by kernel_rfl) rfl rfl rfl (qao enters_eqs rfl rfl rfl rfl) ((qbq (CE.out hlen _ E.out.froF))) (fun v w h => hS.trans ((h.2).mono hS.size)) (fun v9 a10 hR => ?_); (try simp only [Act.put, lyy])
   obtain ⟨rfl, hb9⟩ := hR
   replace hS := hS.trans (hb9.mono hS.size)
   replace E := Lib.hid (E.out.below hb9)
   clear hb9
   refine qbg (S' := fun _ V => Below a10.heap.size a10 V) (fun _ V h => hS.trans (h.mono hS.size)) _ _ _ _ ?_
   replace hS := Below.refl a10.heap.size a10
   refine qac 10 rfl rfl (by kernel_rfl) (by kernel_rfl) (by kernel_rfl) (fun _ _ _ h => h) rfl (fun V hV => run_notF rfl rfl) hS ?_; (try simp only [Act.put, lyy])
   refine qa2 (by kernel_rfl) ?_ _; refine NoPanic.normal ?_
   go_upto_region 5 with fail; refine wp_region_lit ?_
   refine qaa (qcb (ps := []) rfl rfl KE.out) rfl ?_; (try simp only [Act.put, lyy])
   refine qag (qar (vs := pkC z) rfl (szR (qa9 lz) (by kernel_rfl)) rfl rfl (One.all (qc2 lz)) ((E.out.get (i := 0) rfl).thereM (by have q1 : (pkC z).length = 33 := (qa9 lz); have q2 : (enR ((.int .i64 0)) (z8 32)).length = 33 := (qbn (qa7 32)); omega))) rfl rfl ?_
   replace E := Lib.hid (E.out.put 0 rfl (m := pkC z) ((show (pkC z).length = 33 from (qa9 lz)).trans (show (enR ((.int .i64 0)) (z8 32)).length = 33 from (qbn (qa7 32))).symm))
   generalize a10.setCells g6 0 (pkC z) = a11 at *
   replace E := Lib.hid (show Ev _ [(g6, pkC z), (g4, lsR (.int .i64 n.acc) (.int .i64 n.ver) (n.ident.map b8) (.slice ar n.devs.length cr) (n.sig.map b8)), (g2, lsR (.int .i64 m.acc) (.int .i64 m.ver) (m.ident.map b8) (.slice a0 m.devs.length c0) (m.sig.map b8))] _ _ _ a11 from E.out)
   refine qaa (qaf (v := .bool false) rfl rfl) rfl ?_; (try simp only [Act.put, lyy])
   refine qab ?_
   go_wp2_with fail
   exact bodyPost_ret (v := .tuple #[.agg (pkC z).toArray, .bool false]) (qbm Tryd.results15 rfl Tryd.underlying34 rfl (szR (qa9 lz) (by kernel_rfl)) (E.out.get (i := 0) rfl).range) rfl ⟨rfl, E.out.bl⟩
  | true =>
   have hB : rmB m.devs n.devs = true := by unfold rmB; rw [hEq, decide_eq_true hlen]; rfl
   have hk : pfx m.devs n.devs < m.devs.length := by omega
   have HP : Hid (rmP m.devs n.devs = m.devs[pfx m.devs n.devs]) := Lib.hid (by unfold rmP; rw [hB, List.getD_eq_getElem?_getD, List.getElem?_eq_getElem hk]; rfl)
   rw [HP.out, hB]
   have hkl := HDV.out _ (List.getElem_mem hk)
   have HA : Hid (∀ V, SlR 33 pkAt m.devs a0 c0 V → ∃ g f, a0 = some ⟨g, f, none⟩ ∧ g < V.heap.size ∧ V.rangeAt g (f + pfx m.devs n.devs * 33) (pkC m.devs[pfx m.devs n.devs])) := Lib.hid fun V hV => pk_at hV hk
   clear HP
   rw [hEq] at CE
   generalize m.devs[pfx m.devs n.devs] = q at *
   clear hB hEq
   generalize pfx m.devs n.devs = k at *
   go_enter Tryd.func15, Tryd.ntmps15
   go_upto_region 0 with fail; refine wp_region_lit ?_
   refine qaa (qau (vs := lsR (.int .i64 m.acc) (.int .i64 m.ver) (m.ident.map b8) (.slice a0 m.devs.length c0) (m.sig.map b8)) rfl rfl) rfl ?_; (try simp only [Act.put, lyy])
   replace E := Lib.hid (E.out.new (lsR (.int .i64 m.acc) (.int .i64 m.ver) (m.ident.map b8) (.slice a0 m.devs.length c0) (m.sig.map b8)) 29)
   generalize w.alloc (.cells (lsR (.int .i64 m.acc) (.int .i64 m.ver) (m.ident.map b8) (.slice a0 m.devs.length c0) (m.sig.map b8)).toArray 29) = a1 at *
   generalize w.heap.size = g2 at *
   refine qaa (qau (vs := lsR (.int .i64 n.acc) (.int .i64 n.ver) (n.ident.map b8) (.slice ar n.devs.length cr) (n.sig.map b8)) rfl rfl) rfl ?_; (try simp only [Act.put, lyy])
   replace E := Lib.hid (E.out.new (lsR (.int .i64 n.acc) (.int .i64 n.ver) (n.ident.map b8) (.slice ar n.devs.length cr) (n.sig.map b8)) 29)
   generalize a1.alloc (.cells (lsR (.int .i64 n.acc) (.int .i64 n.ver) (n.ident.map b8) (.slice ar n.devs.length cr) (n.sig.map b8)).toArray 29) = a3 at *
   generalize a1.heap.size = g4 at *
   refine qaa (qat (vs := enR ((.int .i64 0)) (z8 32)) rfl (by kernel_rfl)) rfl ?_; (try simp only [Act.put, lyy])
   replace E := Lib.hid (E.out.new (enR ((.int .i64 0)) (z8 32)) 34)
   generalize a3.alloc (.cells (enR ((.int .i64 0)) (z8 32)).toArray 34) = a5 at *
   generalize a3.heap.size = g6 at *
   refine qaa (qaf (v := .bool false) rfl rfl) rfl ?_; (try simp only [Act.put, lyy])
   refine qab ?_
   go_upto_region 1 with fail; refine wp_region_lit ?_
   refine qaa (qan (s := 0) (k := 34) rfl Tryd.underlying29 rfl (by kernel_rfl) rfl rfl) rfl ?_; (try simp only [Act.put, lyy])
   refine qaa (qav rfl Tryd.underlying25 rfl rfl ((E.out.get (i := 2) rfl).c 34 _ (qal (by rw [List.length_map, k1])))) rfl ?_; (try simp only [Act.put, lyy])
   refine qaa (qbe rfl Tryd.underlying25 rfl) rfl ?_; (try simp only [Act.put, lyy])
   refine qaa (qan (s := 0) (k := 34) rfl Tryd.underlying29 rfl (by kernel_rfl) rfl rfl) rfl ?_; (try simp only [Act.put, lyy])
   refine qaa (qav rfl Tryd.underlying25 rfl rfl ((E.out.get (i := 1) rfl).c 34 _ (qal (by rw [List.length_map, k3])))) rfl ?_; (try simp only [Act.put, lyy])
   refine qaa (qbe rfl Tryd.underlying25 rfl) rfl ?_; (try simp only [Act.put, lyy])
   refine qaa (qb1 (a := n.devs.length) (b := 1) rfl rfl rfl (by omega)) rfl ?_; (try simp only [Act.put, lyy])
   refine qaa (run_neqb (c := false) rfl rfl rfl (by simp; omega)) rfl ?_; (try simp only [Act.put, lyy])
   refine qab ?_
   go_upto_region 3 with fail; refine wp_region_lit ?_
   refine qaa (qan (s := 0) (k := 34) rfl Tryd.underlying29 rfl (by kernel_rfl) rfl rfl) rfl ?_; (try simp only [Act.put, lyy])
   refine qaa (qav rfl Tryd.underlying25 rfl rfl ((E.out.get (i := 2) rfl).c 34 _ (qal (by rw [List.length_map, k1])))) rfl ?_; (try simp only [Act.put, lyy])
   refine qaa (qan (s := 0) (k := 34) rfl Tryd.underlying29 rfl (by kernel_rfl) rfl rfl) rfl ?_; (try simp only [Act.put, lyy])
   refine qaa (qav rfl Tryd.underlying25 rfl rfl ((E.out.get (i := 1) rfl).c 34 _ (qal (by rw [List.length_map, k3])))) rfl ?_; (try simp only [Act.put, lyy])
   refine qam (qao enters_part rfl rfl rfl rfl) rfl (CP.out _ E.out.froF) (fun a7 hb => ?_); (try simp only [Act.put, lyy])
   replace E := Lib.hid (E.out.below hb)
   clear hb
   refine qaa (qaf (v := .int .i64 ((k : Nat) : Int)) rfl rfl) rfl ?_; (try simp only [Act.put, lyy])
   refine qab ?_
   go_upto_region 4 with fail
   refine wp_region_noPanic ?_; refine qay (S := fun _ V => Below a7.heap.size a7 V) (by kernel_rfl) ((Below.refl _ _).drew) (fun hS => ?_)
   replace E := Lib.hid (E.out.below hS)
   generalize a7.drew = a8 at *
   refine qbg (S' := fun _ V => Below a8.heap.size a8 V) (fun _ V h => hS.trans (h.mono hS.size)) _ _ _ _ ?_
   replace hS := Below.refl a8.heap.size a8
   refine qac 0 rfl rfl (by kernel_rfl) (by kernel_rfl) (by kernel_rfl) (fun _ _ _ h => h) rfl (fun V hV => qan (s := 0) (k := 34) rfl Tryd.underlying29 rfl (by kernel_rfl) rfl rfl) hS ?_; (try simp only [Act.put, lyy])
   refine qac 1 rfl rfl (by kernel_rfl) (by kernel_rfl) (by kernel_rfl) (fun _ _ _ h => h) rfl (fun V hV => qav rfl Tryd.underlying25 rfl rfl (((E.out.below hV).get (i := 2) rfl).c 34 _ (qal (by rw [List.length_map, k1])))) hS ?_; (try simp only [Act.put, lyy])
   refine qac 2 rfl rfl (by kernel_rfl) (by kernel_rfl) (by kernel_rfl) (fun _ _ _ h => h) rfl (fun V hV => qae (v := .int .i64 ((k : Nat) : Int)) rfl rfl) hS ?_; (try simp only [Act.put, lyy])
   refine qac 3 rfl rfl (by kernel_rfl) (by kernel_rfl) (by kernel_rfl) (fun _ _ _ h => h) rfl (fun V hV => qb1 (a := k) (b := 1) rfl rfl rfl (by omega)) hS ?_; (try simp only [Act.put, lyy])
   refine qac 4 rfl rfl (by kernel_rfl) (by kernel_rfl) (by kernel_rfl) (fun _ _ _ h => h) rfl (fun V hV => run_sllZ (z := 33) rfl Tryd.underlying25 (by kernel_rfl) rfl rfl (by omega)) hS ?_; (try simp only [Act.put, lyy])
   refine qac 5 rfl rfl (by kernel_rfl) (by kernel_rfl) (by kernel_rfl) (fun _ _ _ h => h) rfl (fun V hV => qan (s := 0) (k := 34) rfl Tryd.underlying29 rfl (by kernel_rfl) rfl rfl) hS ?_; (try simp only [Act.put, lyy])
   refine qac 6 rfl rfl (by kernel_rfl) (by kernel_rfl) (by kernel_rfl) (fun _ _ _ h => h) rfl (fun V hV => qav rfl Tryd.underlying25 rfl rfl (((E.out.below hV).get (i := 1) rfl).c 34 _ (qal (by rw [List.length_map, k3])))) hS ?_; (try simp only [Act.put, lyy])
   refine qac 7 rfl rfl (by kernel_rfl) (by kernel_rfl) (by kernel_rfl) (fun _ _ _ h => h) rfl (fun V hV => qae (v := .int .i64 ((k : Nat) : Int)) rfl rfl) hS ?_; (try simp only [Act.put, lyy])
   refine qac 8 rfl rfl (by kernel_rfl) (by kernel_rfl) (by kernel_rfl) (fun _ _ _ h => h) rfl (fun V hV => run_sllZ (z := 33) rfl Tryd.underlying25 (by kernel_rfl) rfl rfl (by omega)) hS ?_; (try simp only [Act.put, lyy])
   refine qbi 9 (by kernel_rfl) rfl rfl rfl (qao enters_eqs rfl rfl rfl rfl) ((qbq (CE.out hlen _ E.out.froF))) (fun v w h => hS.trans ((h.2).mono hS.size)) (fun v9 a10 hR => ?_); (try simp only [Act.put, lyy])
   obtain ⟨rfl, hb9⟩ := hR
   replace hS := hS.trans (hb9.mono hS.size)
   replace E := Lib.hid (E.out.below hb9)
   clear hb9
   refine qbg (S' := fun _ V => Below a10.heap.size a10 V) (fun _ V h => hS.trans (h.mono hS.size)) _ _ _ _ ?_
   replace hS := Below.refl a10.heap.size a10
   refine qac 10 rfl rfl (by kernel_rfl) (by kernel_rfl) (by kernel_rfl) (fun _ _ _ h => h) rfl (fun V hV => qc7 rfl rfl) hS ?_; (try simp only [Act.put, lyy])
   refine qa2 (by kernel_rfl) ?_ _; refine NoPanic.normal ?_
   obtain ⟨g, fo, rfl, hg, hr⟩ := HA.out _ E.out.f.1
   have HR := Lib.hid hr
   clear hr HA
   go_upto_region 6 with fail; refine wp_region_lit ?_
   refine qaa (qan (s := 0) (k := 34) rfl Tryd.underlying29 rfl (by kernel_rfl) rfl rfl) rfl ?_; (try simp only [Act.put, lyy])
   refine qaa (qav rfl Tryd.underlying25 rfl rfl ((E.out.get (i := 2) rfl).c 34 _ (qal (by rw [List.length_map, k1])))) rfl ?_; (try simp only [Act.put, lyy])
   refine qaa (qae (v := .int .i64 ((k : Nat) : Int)) rfl rfl) rfl ?_; (try simp only [Act.put, lyy])
   refine qaa (qcl (z := 33) rfl Tryd.underlying25 (by kernel_rfl) rfl rfl hk) rfl ?_; (try simp only [Act.put, lyy])
   refine qaa (qaj (vs := pkC q) rfl Tryd.underlying34 rfl (szR (qa9 hkl) (by kernel_rfl)) rfl HR.out) rfl ?_; (try simp only [Act.put, lyy])
   refine qag (qar (vs := pkC q) rfl (szR (qa9 hkl) (by kernel_rfl)) rfl rfl (One.all (qc2 hkl)) ((E.out.get (i := 0) rfl).thereM (by have q1 : (pkC q).length = 33 := (qa9 hkl); have q2 : (enR ((.int .i64 0)) (z8 32)).length = 33 := (qbn (qa7 32)); omega))) rfl rfl ?_
   replace E := Lib.hid (E.out.put 0 rfl (m := pkC q) ((show (pkC q).length = 33 from (qa9 hkl)).trans (show (enR ((.int .i64 0)) (z8 32)).length = 33 from (qbn (qa7 32))).symm))
   generalize a10.setCells g6 0 (pkC q) = a11 at *
   replace E := Lib.hid (show Ev _ [(g6, pkC q), (g4, lsR (.int .i64 n.acc) (.int .i64 n.ver) (n.ident.map b8) (.slice ar n.devs.length cr) (n.sig.map b8)), (g2, lsR (.int .i64 m.acc) (.int .i64 m.ver) (m.ident.map b8) (.slice (some ⟨g, fo, none⟩) m.devs.length c0) (m.sig.map b8))] _ _ _ a11 from E.out)
   refine qaa (qaf (v := .bool true) rfl rfl) rfl ?_; (try simp only [Act.put, lyy])
   refine qab ?_
   go_wp2_with fail
   exact bodyPost_ret (v := .tuple #[.agg (pkC q).toArray, .bool true]) (qbm Tryd.results15 rfl Tryd.underlying34 rfl (szR (qa9 hkl) (by kernel_rfl)) (E.out.get (i := 0) rfl).range) rfl ⟨rfl, E.out.bl⟩
 ·have hB : rmB m.devs n.devs = false := by unfold rmB; rw [decide_eq_false hlen]; rfl
  have HP : Hid (rmP m.devs n.devs = pk0) := Lib.hid (by unfold rmP; rw [hB]; rfl)
  rw [HP.out, hB]
  clear HP
  generalize pk0 = z at *
  clear hB
  go_enter Tryd.func15, Tryd.ntmps15
  go_upto_region 0 with fail; refine wp_region_lit ?_
  refine qaa (qau (vs := lsR (.int .i64 m.acc) (.int .i64 m.ver) (m.ident.map b8) (.slice a0 m.devs.length c0) (m.sig.map b8)) rfl rfl) rfl ?_; (try simp only [Act.put, lyy])
  replace E := Lib.hid (E.out.new (lsR (.int .i64 m.acc) (.int .i64 m.ver) (m.ident.map b8) (.slice a0 m.devs.length c0) (m.sig.map b8)) 29)
  generalize w.alloc (.cells (lsR (.int .i64 m.acc) (.int .i64 m.ver) (m.ident.map b8) (.slice a0 m.devs.length c0) (m.sig.map b8)).toArray 29) = a1 at *
  generalize w.heap.size = g2 at *
  refine qaa (qau (vs := lsR (.int .i64 n.acc) (.int .i64 n.ver) (n.ident.map b8) (.slice ar n.devs.length cr) (n.sig.map b8)) rfl rfl) rfl ?_; (try simp only [Act.put, lyy])
  replace E := Lib.hid (E.out.new (lsR (.int .i64 n.acc) (.int .i64 n.ver) (n.ident.map b8) (.slice ar n.devs.length cr) (n.sig.map b8)) 29)
  generalize a1.alloc (.cells (lsR (.int .i64 n.acc) (.int .i64 n.ver) (n.ident.map b8) (.slice ar n.devs.length cr) (n.sig.map b8)).toArray 29) = a3 at *
  generalize a1.heap.size = g4 at *
  refine qaa (qat (vs := enR ((.int .i64 0)) (z8 32)) rfl (by kernel_rfl)) rfl ?_; (try simp only [Act.put, lyy])
  replace E := Lib.hid (E.out.new (enR ((.int .i64 0)) (z8 32)) 34)
  generalize a3.alloc (.cells (enR ((.int .i64 0)) (z8 32)).toArray 34) = a5 at *
  generalize a3.heap.size = g6 at *
  refine qaa (qaf (v := .bool false) rfl rfl) rfl ?_; (try simp only [Act.put, lyy])
  refine qab ?_
  go_upto_region 1 with fail; refine wp_region_lit ?_
  refine qaa (qan (s := 0) (k := 34) rfl Tryd.underlying29 rfl (by kernel_rfl) rfl rfl) rfl ?_; (try simp only [Act.put, lyy])
  refine qaa (qav rfl Tryd.underlying25 rfl rfl ((E.out.get (i := 2) rfl).c 34 _ (qal (by rw [List.length_map, k1])))) rfl ?_; (try simp only [Act.put, lyy])
  refine qaa (qbe rfl Tryd.underlying25 rfl) rfl ?_; (try simp only [Act.put, lyy])
  refine qaa (qan (s := 0) (k := 34) rfl Tryd.underlying29 rfl (by kernel_rfl) rfl rfl) rfl ?_; (try simp only [Act.put, lyy])
  refine qaa (qav rfl Tryd.underlying25 rfl rfl ((E.out.get (i := 1) rfl).c 34 _ (qal (by rw [List.length_map, k3])))) rfl ?_; (try simp only [Act.put, lyy])
  refine qaa (qbe rfl Tryd.underlying25 rfl) rfl ?_; (try simp only [Act.put, lyy])
  refine qaa (qb1 (a := n.devs.length) (b := 1) rfl rfl rfl (by omega)) rfl ?_; (try simp only [Act.put, lyy])
  refine qaa (run_neqb (c := true) rfl rfl rfl (by simp; omega)) rfl ?_; (try simp only [Act.put, lyy])
  refine qab ?_
  go_upto_region 2 with fail; refine wp_region_lit ?_
  refine qaa (qcb (ps := []) rfl rfl KE.out) rfl ?_; (try simp only [Act.put, lyy])
  refine qag (qar (vs := pkC z) rfl (szR (qa9 lz) (by kernel_rfl)) rfl rfl (One.all (qc2 lz)) ((E.out.get (i := 0) rfl).thereM (by have q1 : (pkC z).length = 33 := (qa9 lz); have q2 : (enR ((.int .i64 0)) (z8 32)).length = 33 := (qbn (qa7 32)); omega))) rfl rfl ?_
  replace E := Lib.hid (E.out.put 0 rfl (m := pkC z) ((show (pkC z).length = 33 from (qa9 lz)).trans (show (enR ((.int .i64 0)) (z8 32)).length = 33 from (qbn (qa7 32))).symm))
  generalize a5.setCells g6 0 (pkC z) = a7 at *
  replace E := Lib.hid (show Ev _ [(g6, pkC z), (g4, lsR (.int .i64 n.acc) (.int .i64 n.ver) (n.ident.map b8) (.slice ar n.devs.length cr) (n.sig.map b8)), (g2, lsR (.int .i64 m.acc) (.int .i64 m.ver) (m.ident.map b8) (.slice a0 m.devs.length c0) (m.sig.map b8))] _ _ _ a7 from E.out)
  refine qaa (qaf (v := .bool false) rfl rfl) rfl ?_; (try simp only [Act.put, lyy])
  refine qab ?_
  go_wp2_with fail
  exact bodyPost_ret (v := .tuple #[.agg (pkC z).toArray, .bool false]) (qbm Tryd.results15 rfl Tryd.underlying34 rfl (szR (qa9 lz) (by kernel_rfl)) (E.out.get (i := 0) rfl).range) rfl ⟨rfl, E.out.bl⟩
end Go.Proofs.YtcgbgmbnagmohaaDoor
