import Derived.Test.YtcgbgmbnagmohaaDoorGw
import Derived.Test.YtcgbgmbnagmohaaDoorLy
import Derived.Test.YtcgbgmbnagmohaaDoorLi0
import Derived.Test.YtcgbgmbnagmohaaDoorLi5
import Derived.Test.YtcgbgmbnagmohaaDoorLi4
import Derived.Test.YtcgbgmbnagmohaaDoorLi1
import Derived.Test.YtcgbgmbnagmohaaDoorEqKeyB
import Derived.Test.YtcgbgmbnagmohaaDoorChG
import Derived.Test.YtcgbgmbnagmohaaDoorLi8
import Derived.Test.YtcgbgmbnagmohaaDoorOpenT
namespace Go.Proofs.YtcgbgmbnagmohaaDoor
open Go.RowKit
set_option maxRecDepth 20000
attribute [local irreducible] wpList
end Go.Proofs.YtcgbgmbnagmohaaDoor
namespace Go.Proofs.YtcgbgmbnagmohaaDoor
open Go.RowKit
set_option maxRecDepth 20000
attribute [local irreducible] wpList
theorem enters_rsd : Enters 31 := qaq Tryd.func31 (by kernel_rfl) rfl
set_option maxHeartbeats 8000000 in
theorem rsd_any (a : Option Addr) (c : Nat) (l : List MPk) (a2 : Option Addr) (c2 : Nat) (l2 : List MPk) (w : World) (hs : Fro 0 (SlR 33 pkAt l a c) w) (hs2 : Fro 0 (SlR 33 pkAt l2 a2 c2) w) (hk : ∀ p ∈ l, p.key.length = 32) (hk2 : ∀ p ∈ l2, p.key.length = 32) (hmany : l.length ≤ 60000) : Calls Tryd.prog 31 #[.slice a l.length c, .slice a2 l2.length c2] w fun e w' => e = .returned (.bool (eqPs l l2)) ∧ Below w.heap.size w w' := by
 have E := Lib.hid (Ev.start (w := w) (F := (fun V => SlR 33 pkAt l a c V ∧ SlR 33 pkAt l2 a2 c2 V)) fun V hV => ⟨hs V hV, hs2 V hV⟩)
 have HK := Lib.hid hk
 have HK2 := Lib.hid hk2
 have HL := Lib.hid (eqPs_len (l := l) (m := l2))
 have HA := Lib.hid (eqPs_all (l := l) (m := l2))
 have HN : Hid (∀ i : Nat, l[i]? ≠ l2[i]? → eqPs l l2 = false) := Lib.hid fun i h => eqPs_not h
 clear hs hs2 hk hk2
 generalize eqPs l l2 = r at *
 obtain ⟨m, hm⟩ : ∃ m, m = l.length := ⟨_, rfl⟩
 obtain ⟨m2, hm2⟩ : ∃ m, m = l2.length := ⟨_, rfl⟩
 rw [← hm, ← hm2]
 rw [← hm] at hmany
 have HM := Lib.hid hm
 have HM2 := Lib.hid hm2
 by_cases hmm : m = m2
 ·subst hmm
  go_enter Tryd.func31, Tryd.ntmps31
  go_upto_region 0 with fail; refine wp_region_lit ?_
  refine qaa (qaf (v := .bool false) rfl rfl) rfl ?_; (try simp only [Act.put, lyy])
  refine qab ?_
  go_upto_region 1 with fail; refine wp_region_lit ?_
  refine qaa (qae (v := .slice a m c) rfl rfl) rfl ?_; (try simp only [Act.put, lyy])
  refine qaa (qbe rfl Tryd.underlying25 rfl) rfl ?_; (try simp only [Act.put, lyy])
  refine qaa (qae (v := .slice a2 m c2) rfl rfl) rfl ?_; (try simp only [Act.put, lyy])
  refine qaa (qbe rfl Tryd.underlying25 rfl) rfl ?_; (try simp only [Act.put, lyy])
  refine qaa (run_neqb (c := false) rfl rfl rfl (by simp)) rfl ?_; (try simp only [Act.put, lyy])
  refine qab ?_
  go_upto_region 3 with fail; refine wp_region_lit ?_
  refine qaa (qaf (v := .int .i64 0) rfl rfl) rfl ?_; (try simp only [Act.put, lyy])
  refine qab ?_
  go_wp2_with fail
  go_loopw [5] (fun s5 u => ∃ j : Nat, s5 = .int .i64 (j : Int) ∧ j ≤ m ∧ Hid (∀ i : Nat, i < j → l[i]? = l2[i]?) ∧ Ev w [] [] (fun V => SlR 33 pkAt l a c V ∧ SlR 33 pkAt l2 a2 c2 V) (fun _ => True) u) (fun s5 _ => ((m : Int) - intOf s5).toNat)
  case atStart => exact ⟨0, rfl, Nat.zero_le _, Lib.hid fun i hi => absurd hi (Nat.not_lt_zero _), E.out⟩
  case round =>
   obtain ⟨j, rfl, hj, HJ, hE⟩ := hrel
   replace E := Lib.hid hE
   clear hE
   by_cases hjm : j = m
   ·go_upto_region 4 with fail; refine wp_region_lit ?_
    refine qaa (qae (v := .int .i64 (j : Int)) rfl rfl) rfl ?_; (try simp only [Act.put, lyy])
    refine qaa (qae (v := .slice a m c) rfl rfl) rfl ?_; (try simp only [Act.put, lyy])
    refine qaa (qbe rfl Tryd.underlying25 rfl) rfl ?_; (try simp only [Act.put, lyy])
    refine qaa (qbr (c := false) rfl rfl rfl (decide_eq_false (by omega))) rfl ?_; (try simp only [Act.put, lyy])
    refine qab ?_
    go_upto_region 8 with fail; refine wp_region_lit ?_
    refine qaa (qaf (v := .bool true) rfl rfl) rfl ?_; (try simp only [Act.put, lyy])
    refine qab ?_
    go_wp2_with fail
    go_ret
    exact ⟨by rw [HA.out (by have := HM.out; have := HM2.out; omega) fun i hi => HJ.out i (by have := HM.out; omega)]; rfl, E.out.bl⟩
   ·have hjl : j < l.length := by have := HM.out; omega
    have hjl2 : j < l2.length := by have := HM2.out; omega
    obtain ⟨g, fo, rfl, hg, -⟩ := pk_at E.out.f.1 hjl
    obtain ⟨g2, fo2, rfl, hg2, -⟩ := pk_at E.out.f.2 hjl2
    have HP : Hid (∀ V, SlR 33 pkAt l (some ⟨g, fo, none⟩) c V → V.rangeAt g (fo + j * 33) (pkC l[j])) := Lib.hid fun V h => pk_at2 h hjl
    have HP2 : Hid (∀ V, SlR 33 pkAt l2 (some ⟨g2, fo2, none⟩) c2 V → V.rangeAt g2 (fo2 + j * 33) (pkC l2[j])) := Lib.hid fun V h => pk_at2 h hjl2
    have hkl := HK.out _ (List.getElem_mem hjl)
    have hkl2 := HK2.out _ (List.getElem_mem hjl2)
    have HE1 := Lib.hid (List.getElem?_eq_getElem hjl)
    have HE2 := Lib.hid (List.getElem?_eq_getElem hjl2)
    generalize l[j] = q at *
    generalize l2[j] = q2 at *
    go_upto_region 4 with fail; refine wp_region_lit ?_
    refine qaa (qae (v := .int .i64 (j : Int)) rfl rfl) rfl ?_; (try simp only [Act.put, lyy])
    refine qaa (qae (v := .slice (some ⟨g, fo, none⟩) m c) rfl rfl) rfl ?_; (try simp only [Act.put, lyy])
    refine qaa (qbe rfl Tryd.underlying25 rfl) rfl ?_; (try simp only [Act.put, lyy])
    refine qaa (qbr (c := true) rfl rfl rfl (decide_eq_true (by omega))) rfl ?_; (try simp only [Act.put, lyy])
    refine qab ?_
    by_cases hq : eqPk q q2 = true
    ·go_upto_region 6 with fail
     refine wp_region_noPanic ?_; refine qay (S := fun _ V => Below wr.heap.size wr V) (by kernel_rfl) ((Below.refl _ _).drew) (fun hS => ?_)
     replace E := Lib.hid (E.out.below hS)
     generalize wr.drew = a1 at *
     refine qbg (S' := fun _ V => Below a1.heap.size a1 V) (fun _ V h => hS.trans (h.mono hS.size)) _ _ _ _ ?_
     replace hS := Below.refl a1.heap.size a1
     refine qac 0 rfl rfl (by kernel_rfl) (by kernel_rfl) (by kernel_rfl) (fun _ _ _ h => h) rfl (fun V hV => qae (v := .slice (some ⟨g, fo, none⟩) m c) rfl rfl) hS ?_; (try simp only [Act.put, lyy])
     refine qac 1 rfl rfl (by kernel_rfl) (by kernel_rfl) (by kernel_rfl) (fun _ _ _ h => h) rfl (fun V hV => qae (v := .int .i64 (j : Int)) rfl rfl) hS ?_; (try simp only [Act.put, lyy])
     refine qac 2 rfl rfl (by kernel_rfl) (by kernel_rfl) (by kernel_rfl) (fun _ _ _ h => h) rfl (fun V hV => qcl (z := 33) rfl Tryd.underlying25 (by kernel_rfl) rfl rfl (by omega)) hS ?_; (try simp only [Act.put, lyy])
     refine qac 3 rfl rfl (by kernel_rfl) (by kernel_rfl) (by kernel_rfl) (fun _ _ _ h => h) rfl (fun V hV => qaj (vs := pkC q) rfl Tryd.underlying34 rfl (szR (qa9 hkl) (by kernel_rfl)) rfl (HP.out _ (E.out.below hV).f.1)) hS ?_; (try simp only [Act.put, lyy])
     refine qac 4 rfl rfl (by kernel_rfl) (by kernel_rfl) (by kernel_rfl) (fun _ _ _ h => h) rfl (fun V hV => qae (v := .slice (some ⟨g2, fo2, none⟩) m c2) rfl rfl) hS ?_; (try simp only [Act.put, lyy])
     refine qac 5 rfl rfl (by kernel_rfl) (by kernel_rfl) (by kernel_rfl) (fun _ _ _ h => h) rfl (fun V hV => qae (v := .int .i64 (j : Int)) rfl rfl) hS ?_; (try simp only [Act.put, lyy])
     refine qac 6 rfl rfl (by kernel_rfl) (by kernel_rfl) (by kernel_rfl) (fun _ _ _ h => h) rfl (fun V hV => qcl (z := 33) rfl Tryd.underlying25 (by kernel_rfl) rfl rfl (by omega)) hS ?_; (try simp only [Act.put, lyy])
     refine qac 7 rfl rfl (by kernel_rfl) (by kernel_rfl) (by kernel_rfl) (fun _ _ _ h => h) rfl (fun V hV => qaj (vs := pkC q2) rfl Tryd.underlying34 rfl (szR (qa9 hkl2) (by kernel_rfl)) rfl (HP2.out _ (E.out.below hV).f.2)) hS ?_; (try simp only [Act.put, lyy])
     refine qac 8 rfl rfl (by kernel_rfl) (by kernel_rfl) (by kernel_rfl) (fun _ _ _ h => h) rfl (fun V hV => run_neEnT hkl hkl2 rfl rfl rfl hq) hS ?_; (try simp only [Act.put, lyy])
     refine qa2 (by kernel_rfl) ?_ _; refine NoPanic.normal ?_
     go_upto_region 5 with fail; refine wp_region_lit ?_
     refine qaa (qae (v := .int .i64 (j : Int)) rfl rfl) rfl ?_; (try simp only [Act.put, lyy])
     refine qaa (qb1 (a := j) (b := 1) rfl rfl rfl (by omega)) rfl ?_; (try simp only [Act.put, lyy])
     refine qaa (qaf (v := .int .i64 ((j + 1 : Nat) : Int)) rfl rfl) rfl ?_; (try simp only [Act.put, lyy])
     refine qab ?_
     have NX : Hid (∀ i : Nat, i < j + 1 → l[i]? = l2[i]?) := Lib.hid fun i hi => by
      rcases Nat.lt_or_ge i j with h9 | h9
      ·exact HJ.out i h9
      ·obtain rfl : i = j := by omega
       rw [HE1.out, HE2.out, eqPk_iff.1 hq]
     go_wp2_with fail
     exact ⟨⟨j + 1, rfl, by omega, NX, E.out⟩, by simp [intOf]; omega⟩
    ·have hq2 : eqPk q q2 = false := by simpa using hq
     go_upto_region 6 with fail
     refine wp_region_noPanic ?_; refine qay (S := fun _ V => Below wr.heap.size wr V) (by kernel_rfl) ((Below.refl _ _).drew) (fun hS => ?_)
     replace E := Lib.hid (E.out.below hS)
     generalize wr.drew = a1 at *
     refine qbg (S' := fun _ V => Below a1.heap.size a1 V) (fun _ V h => hS.trans (h.mono hS.size)) _ _ _ _ ?_
     replace hS := Below.refl a1.heap.size a1
     refine qac 0 rfl rfl (by kernel_rfl) (by kernel_rfl) (by kernel_rfl) (fun _ _ _ h => h) rfl (fun V hV => qae (v := .slice (some ⟨g, fo, none⟩) m c) rfl rfl) hS ?_; (try simp only [Act.put, lyy])
     refine qac 1 rfl rfl (by kernel_rfl) (by kernel_rfl) (by kernel_rfl) (fun _ _ _ h => h) rfl (fun V hV => qae (v := .int .i64 (j : Int)) rfl rfl) hS ?_; (try simp only [Act.put, lyy])
     refine qac 2 rfl rfl (by kernel_rfl) (by kernel_rfl) (by kernel_rfl) (fun _ _ _ h => h) rfl (fun V hV => qcl (z := 33) rfl Tryd.underlying25 (by kernel_rfl) rfl rfl (by omega)) hS ?_; (try simp only [Act.put, lyy])
     refine qac 3 rfl rfl (by kernel_rfl) (by kernel_rfl) (by kernel_rfl) (fun _ _ _ h => h) rfl (fun V hV => qaj (vs := pkC q) rfl Tryd.underlying34 rfl (szR (qa9 hkl) (by kernel_rfl)) rfl (HP.out _ (E.out.below hV).f.1)) hS ?_; (try simp only [Act.put, lyy])
     refine qac 4 rfl rfl (by kernel_rfl) (by kernel_rfl) (by kernel_rfl) (fun _ _ _ h => h) rfl (fun V hV => qae (v := .slice (some ⟨g2, fo2, none⟩) m c2) rfl rfl) hS ?_; (try simp only [Act.put, lyy])
     refine qac 5 rfl rfl (by kernel_rfl) (by kernel_rfl) (by kernel_rfl) (fun _ _ _ h => h) rfl (fun V hV => qae (v := .int .i64 (j : Int)) rfl rfl) hS ?_; (try simp only [Act.put, lyy])
     refine qac 6 rfl rfl (by kernel_rfl) (by kernel_rfl) (by kernel_rfl) (fun _ _ _ h => h) rfl (fun V hV => qcl (z := 33) rfl Tryd.underlying25 (by kernel_rfl) rfl rfl (by omega)) hS ?_; (try simp only [Act.put, lyy])
     refine qac 7 rfl rfl (by kernel_rfl) (by kernel_rfl) (by kernel_rfl) (fun _ _ _ h => h) rfl (fun V hV => qaj (vs := pkC q2) rfl Tryd.underlying34 rfl (szR (qa9 hkl2) (by kernel_rfl)) rfl (HP2.out _ (E.out.below hV).f.2)) hS ?_; (try simp only [Act.put, lyy])
     refine qac 8 rfl rfl (by kernel_rfl) (by kernel_rfl) (by kernel_rfl) (fun _ _ _ h => h) rfl (fun V hV => run_neEnF hkl hkl2 rfl rfl rfl hq2) hS ?_; (try simp only [Act.put, lyy])
     refine qa2 (by kernel_rfl) ?_ _; refine NoPanic.normal ?_
     go_upto_region 7 with fail; refine wp_region_lit ?_
     refine qaa (qaf (v := .bool false) rfl rfl) rfl ?_; (try simp only [Act.put, lyy])
     refine qab ?_
     go_wp2_with fail
     go_ret
     exact ⟨by rw [HN.out j (by rw [HE1.out, HE2.out]; intro e; exact hq (eqPk_iff.2 (Option.some.inj e)))]; rfl, E.out.bl⟩
 ·go_enter Tryd.func31, Tryd.ntmps31
  go_upto_region 0 with fail; refine wp_region_lit ?_
  refine qaa (qaf (v := .bool false) rfl rfl) rfl ?_; (try simp only [Act.put, lyy])
  refine qab ?_
  go_upto_region 1 with fail; refine wp_region_lit ?_
  refine qaa (qae (v := .slice a m c) rfl rfl) rfl ?_; (try simp only [Act.put, lyy])
  refine qaa (qbe rfl Tryd.underlying25 rfl) rfl ?_; (try simp only [Act.put, lyy])
  refine qaa (qae (v := .slice a2 m2 c2) rfl rfl) rfl ?_; (try simp only [Act.put, lyy])
  refine qaa (qbe rfl Tryd.underlying25 rfl) rfl ?_; (try simp only [Act.put, lyy])
  refine qaa (run_neqb (c := true) rfl rfl rfl (by simp; omega)) rfl ?_; (try simp only [Act.put, lyy])
  refine qab ?_
  go_upto_region 2 with fail; refine wp_region_lit ?_
  refine qaa (qaf (v := .bool false) rfl rfl) rfl ?_; (try simp only [Act.put, lyy])
  refine qab ?_
  go_wp2_with fail
  go_ret
  exact ⟨by rw [HL.out (by have := HM.out; have := HM2.out; omega)]; rfl, E.out.bl⟩
end Go.Proofs.YtcgbgmbnagmohaaDoor
namespace Go.Proofs.YtcgbgmbnagmohaaDoor
open Go.RowKit
set_option maxRecDepth 20000
attribute [local irreducible] wpList
theorem pfx_eq : ∀ (l m : List MPk) (i : Nat), i < pfx l m → l[i]? = m[i]?
 | [], m, i, h => by simp [pfx] at h
 | _ :: _, [], i, h => by simp [pfx] at h
 | p :: l, q :: m, i, h => by
  cases e : eqPk p q with
  | false => simp [pfx, e] at h
  | true =>
   have h0 : p = q := eqPk_iff.1 e
   cases i with
   | zero => simp [h0]
   | succ i =>
    have := pfx_eq l m i (by simp [pfx, e] at h; omega)
    simpa using this
theorem pfx_max : ∀ (l m : List MPk), pfx l m = l.length ∨ pfx l m = m.length ∨ l[pfx l m]? ≠ m[pfx l m]?
 | [], m => .inl (by simp [pfx])
 | _ :: _, [] => .inr (.inl (by simp [pfx]))
 | p :: l, q :: m => by
  cases e : eqPk p q with
  | false =>
   have hne : p ≠ q := fun h => by rw [eqPk_iff.2 h] at e; cases e
   have h0 : pfx (p :: l) (q :: m) = 0 := by simp [pfx, e]
   rw [h0]
   exact .inr (.inr (by simpa using hne))
  | true =>
   have h0 : pfx (p :: l) (q :: m) = pfx l m + 1 := by simp [pfx, e]
   rw [h0]
   rcases pfx_max l m with h | h | h
   ·exact .inl (by simp [h])
   ·exact .inr (.inl (by simp [h]))
   ·exact .inr (.inr (by simpa using h))
def woP (l : List MPk) (i : Nat) : List MPk := l.take i ++ l.drop (i + 1)
theorem woP_len {l : List MPk} {i : Nat} (h : i < l.length) : (woP l i).length = l.length - 1 := by
 unfold woP
 rw [List.length_append, List.length_take, List.length_drop]
 omega
theorem woP_lt {l : List MPk} {i k : Nat} (h : i < l.length) (hk : k < i) : (woP l i)[k]? = l[k]? := by
 unfold woP
 rw [List.getElem?_append_left (by rw [List.length_take]; omega), List.getElem?_take_of_lt hk]
theorem woP_ge {l : List MPk} {i k : Nat} (h : i < l.length) (hk : i ≤ k) : (woP l i)[k]? = l[k + 1]? := by
 unfold woP
 rw [List.getElem?_append_right (by rw [List.length_take]; omega), List.length_take, List.getElem?_drop]
 congr 1
 omega
theorem rm_hit {l m : List MPk} {i : Nat} (hi : i < l.length) (h : woP l i = m) : rmB l m = true ∧ rmP l m = l[i] := by
 have hl : m.length = l.length - 1 := by rw [← h]; exact woP_len hi
 have hle := pfx_le l m
 have hge : i ≤ pfx l m := by
  rcases Nat.lt_or_ge (pfx l m) i with h1 | h1
  ·exfalso
   rcases pfx_max l m with h2 | h2 | h2
   ·omega
   ·omega
   ·exact h2 (by rw [← h] at h1 ⊢; exact (woP_lt hi h1).symm)
  ·exact h1
 have hstep : ∀ d, i + d ≤ pfx l m → l[i + d]? = l[i]? := by
  intro d
  induction d with
  | zero => exact fun _ => rfl
  | succ d ih =>
   intro hd
   rw [← ih (by omega), pfx_eq l m (i + d) (by omega)]
   have := woP_ge hi (show i ≤ i + d by omega)
   rw [h] at this
   rw [this]
   rfl
 have hp := hstep (pfx l m - i) (by omega)
 rw [show i + (pfx l m - i) = pfx l m by omega] at hp
 have hd : l.drop (pfx l m + 1) = m.drop (pfx l m) := by
  apply List.ext_getElem?
  intro k
  rw [List.getElem?_drop, List.getElem?_drop]
  have := woP_ge hi (show i ≤ pfx l m + k by omega)
  rw [h] at this
  rw [this]
  congr 1
  omega
 have hB : rmB l m = true := by
  unfold rmB
  rw [decide_eq_true (by omega), eqPs_iff.2 hd]
  rfl
 refine ⟨hB, ?_⟩
 unfold rmP
 rw [if_pos hB, List.getD_eq_getElem?_getD, hp, List.getElem?_eq_getElem hi]
 rfl
theorem rm_none {l m : List MPk} (h : ∀ i, i < l.length → woP l i ≠ m) : rmB l m = false ∧ rmP l m = pk0 := by
 have hB : rmB l m = false := by
  cases e : rmB l m with
  | false => rfl
  | true =>
   unfold rmB at e
   rw [Bool.and_eq_true] at e
   have h1 := of_decide_eq_true e.1
   have h2 := eqPs_iff.1 e.2
   have hle := pfx_le l m
   refine absurd ?_ (h (pfx l m) (by omega))
   unfold woP
   rw [h2]
   have h3 : l.take (pfx l m) = m.take (pfx l m) := by
    apply List.ext_getElem?
    intro k
    rcases Nat.lt_or_ge k (pfx l m) with hk | hk
    ·rw [List.getElem?_take_of_lt hk, List.getElem?_take_of_lt hk]
     exact pfx_eq l m k hk
    ·rw [List.getElem?_eq_none (by rw [List.length_take]; omega), List.getElem?_eq_none (by rw [List.length_take]; omega)]
   rw [h3, List.take_append_drop]
 refine ⟨hB, ?_⟩
 unfold rmP
 rw [hB]
 rfl
structure E5 (r : World) (v : Value) (l : List MPk) (u : World) : Prop where
 bl : Below r.heap.size r u
 O : u.ownsRow r.heap.size 34 33 v l.length (l.map pkC).flatten
theorem E5.below {r u u' : World} {v : Value} {l : List MPk} (i : E5 r v l u) (hb : Below u.heap.size u u') : E5 r v l u' :=
 ⟨i.bl.trans (hb.mono i.bl.size), qbs i.O fun k hk => hb.block k (qa4 i.O hk).2⟩
theorem E5.none (r : World) : E5 r (.slice none 0 0) [] r := ⟨Below.refl _ _, ⟨rfl, .inl ⟨rfl, rfl⟩⟩⟩
theorem E5.fro {r u : World} {v : Value} {l : List MPk} (i : E5 r v l u) (hk : ∀ p ∈ l, p.key.length = 32) : ∃ a c, v = .slice a l.length c ∧ Fro r.heap.size (SlR 33 pkAt l a c) u := by
 have key : Fro r.heap.size (fun V => ∃ a' c', v = .slice a' l.length c' ∧ SlR 33 pkAt l a' c' V) u := fun V hV =>
  slR_own (qbs i.O fun k hk => hV.block k (qa4 i.O hk).1 (qa4 i.O hk).2 (by simp)) rfl (by rw [List.length_map]) (fun x hx => by obtain ⟨p, hp, rfl⟩ := List.mem_map.1 hx; exact qa9 (hk p hp)) fun i m cs q1 q2 => by
   rw [List.getElem?_map, q1] at q2
   exact (Option.some.inj q2).symm
 obtain ⟨a, c, rfl, _⟩ := key.now
 refine ⟨a, c, rfl, fun V hV => ?_⟩
 obtain ⟨a2, c2, q1, q2⟩ := key V hV
 simp only [Value.slice.injEq] at q1
 obtain ⟨rfl, _, rfl⟩ := q1
 exact q2
theorem run_appE {r w : World} {v : Value} {l l2 : List MPk} {a : Option Addr} {c : Nat} {ty : TypeId} (i : E5 r v l w) (hs : SlR 33 pkAt l2 a c w) (hk : ∀ p ∈ l2, p.key.length = 32) (hn : l.length + l2.length ≤ 60000) :
  ∃ v' u', (Builtin.append_ #[25, 25] ty #[v, .slice a l2.length c]).run Tryd.prog w = .ok v' u' ∧ E5 r v' (l ++ l2) u' := by
 have hi : (Tryd.prog.info? 34).map (fun i => (i.size, i.zero.map (·.cells.size), i.bytes)) = some (33, some 33, 40) := by kernel_rfl
 obtain ⟨inf, q1, q2⟩ := Option.map_eq_some_iff.1 hi
 obtain ⟨e1, e2, e3⟩ : inf.size = 33 ∧ inf.zero.map (·.cells.size) = some 33 ∧ inf.bytes = 40 := by simpa using q2
 obtain ⟨z, e4, e5⟩ := Option.map_eq_some_iff.1 e2
 by_cases he : l2 = []
 ·subst he
  refine ⟨v, w, ?_, by rw [List.append_nil]; exact i⟩
  have hl : ∀ b : Addr, (loadCells b 0).run Tryd.prog w = .ok #[] w := fun b => by simpa using run_loadCells_list (P := Tryd.prog) w b [] (by simp)
  rcases i.O.2 with ⟨rfl, _⟩ | ⟨g, cap, cur, rfl, _, _, h3, _⟩
  ·cases a <;> simp [Builtin.append_, run_underlying Tryd.underlying25, sizeOf, typeInfo, q1, Builtin.lenOf, Builtin.firstCells, hl]
  ·cases a <;> simp [Builtin.append_, run_underlying Tryd.underlying25, sizeOf, typeInfo, q1, Builtin.lenOf, Builtin.firstCells, hl, h3, storeCells]
 ·obtain ⟨_, css, h2, h3, h4, h5⟩ := hs
  obtain ⟨g, f, rfl, hg, hr⟩ := h5 he
  have ec : css = l2.map pkC := by
   apply List.ext_getElem?
   intro i
   rcases Nat.lt_or_ge i l2.length with hi | hi
   ·rw [List.getElem?_map, List.getElem?_eq_getElem hi, List.getElem?_eq_getElem (by rw [h2]; exact hi)]
    exact congrArg some (h4 i _ _ (List.getElem?_eq_getElem hi) (List.getElem?_eq_getElem (by rw [h2]; exact hi)))
   ·rw [List.getElem?_eq_none (by omega), List.getElem?_eq_none (by rw [List.length_map]; exact hi)]
  obtain ⟨v', w', k1, k2, k3, _⟩ := run_append_own (P := Tryd.prog) w r.heap.size 25 ty 34 inf z 33 40 Tryd.underlying25 q1 e4 e1 e3 e5 (by omega) v l.length (l.map pkC).flatten i.O ⟨g, f, none⟩ l2.length c css.flatten
   (by rw [flat_len h3, h2]) (fun j v hj => by rw [Addr.add_mid]; exact hr j v hj) (fun v hv => by
    obtain ⟨x, hx, hv⟩ := List.mem_flatten.1 hv
    rw [ec] at hx
    obtain ⟨p, hp, rfl⟩ := List.mem_map.1 hx
    exact qc2 (hk p hp) v hv) (by unfold maxLen; omega) (by omega) i.bl.size
  refine ⟨v', w', k1, i.bl.trans (below_grown k3 (fun k hk => (qa4 i.O hk).1) i.bl.size), ?_⟩
  rw [List.length_append, List.map_append, List.flatten_append, ← ec]
  exact k2
theorem run_appX {r w : World} {ρ : Operand → Value} {o : Oper} {s x : Operand} {v : Value} {l l2 : List MPk} {ao : Option Addr} {c : Nat} (ho : o.op = .call { callee := .builtin .append, args := #[s, x], argTypes := #[25, 25] })
  (hs : ρ s = v) (i : E5 r v l w) (hx : ρ x = .slice ao l2.length c) (hr : SlR 33 pkAt l2 ao c w) (hk : ∀ p ∈ l2, p.key.length = 32) (hn : l.length + l2.length ≤ 60000) :
  ∃ v' u', (execOp ρ o).run Tryd.prog w = .ok (.value v') u' ∧ E5 r v' (l ++ l2) u' := by
 obtain ⟨v', u', h1, h2⟩ := run_appE (ty := o.type) i hr hk hn
 refine ⟨v', u', ?_, h2⟩
 unfold execOp
 simp [ho, resolve, invoke, builtin, hs, hx, h1, Result.andThen]
theorem wpList_appE {r w : World} {ops : Array Oper} {Q : Exit → Act → World → Prop} {rest : List Oper} {o : Oper} {a : Act} {s x : Operand} {v : Value} {l l2 : List MPk} {ao : Option Addr} {c : Nat} (hg : o.guard = none) (ho : o.op = .call { callee := .builtin .append, args := #[s, x], argTypes := #[25, 25] })
  (hs : a.eval s = v) (i : E5 r v l w) (hx : a.eval x = .slice ao l2.length c) (hr : SlR 33 pkAt l2 ao c w) (hk : ∀ p ∈ l2, p.key.length = 32) (hn : l.length + l2.length ≤ 60000)
  (h : ∀ v' u', E5 r v' (l ++ l2) u' → wpList Tryd.prog ops Q rest (a.put o.dst v') u') : wpList Tryd.prog ops Q (o :: rest) a w := by
 obtain ⟨v', u', h1, h2⟩ := run_appE (ty := o.type) i hr hk hn
 refine qaa (v := v') (w' := u') ?_ hg (h v' u' h2)
 unfold execOp
 simp [ho, resolve, invoke, builtin, hs, hx, h1, Result.andThen]
end Go.Proofs.YtcgbgmbnagmohaaDoor
namespace Go.Proofs.YtcgbgmbnagmohaaDoor
open Go.RowKit
set_option maxRecDepth 20000
attribute [local irreducible] wpList
theorem enters_rrm : Enters 21 := qaq Tryd.func21 (by kernel_rfl) rfl
set_option maxHeartbeats 8000000 in
theorem rrm_any (m n : MLs) (X Y : List Value) (w : World) (hm : m.Ok) (hn : n.Ok) (hX : Fro 0 (lsAt m X) w) (hY : Fro 0 (lsAt n Y) w) : Calls Tryd.prog 21 #[.agg X.toArray, .agg Y.toArray] w fun e w' => e = .returned (.tuple #[.agg (pkC (rmP m.devs n.devs)).toArray, .bool (rmB m.devs n.devs)]) ∧ Below w.heap.size w w' := by
 obtain ⟨a0, c0, rfl, HF⟩ := qcx hm hX
 obtain ⟨ar, cr, rfl, HF1⟩ := qcx hn hY
 have k1 := hm.ident
 have k2 := hm.sig
 have k3 := hn.ident
 have k4 := hn.sig
 have HDV := Lib.hid hm.devs
 have HDN := Lib.hid hn.devs
 have hmany := hm.many
 have hmany1 := hn.many
 have E := Lib.hid (Ev.start (w := w) (F := fun V => SlR 33 pkAt m.devs a0 c0 V ∧ SlR 33 pkAt n.devs ar cr V) fun V hV => ⟨HF V hV, HF1 V hV⟩)
 have KE := Lib.hid pk0_built
 have lz := pk0_len
 have CE : Hid (∀ (u : World) (l : List MPk) (a : Option Addr) (c : Nat), Fro 0 (SlR 33 pkAt l a c) u → Fro 0 (SlR 33 pkAt n.devs ar cr) u → (∀ p ∈ l, p.key.length = 32) → l.length ≤ 60000 → Calls Tryd.prog 31 #[.slice a l.length c, .slice ar n.devs.length cr] u fun e w' => e = .returned (.bool (eqPs l n.devs)) ∧ Below u.heap.size u w') := Lib.hid fun u l a c h1 h2 h3 h4 => rsd_any a c l ar cr n.devs u h1 h2 h3 hn.devs h4
 have HH : Hid (∀ (i : Nat) (hi : i < m.devs.length), woP m.devs i = n.devs → rmB m.devs n.devs = true ∧ rmP m.devs n.devs = m.devs[i]) := Lib.hid fun i hi h => rm_hit hi h
 have HZ : Hid ((∀ i, i < m.devs.length → woP m.devs i ≠ n.devs) → rmB m.devs n.devs = false ∧ rmP m.devs n.devs = pk0) := Lib.hid fun h => rm_none h
 clear hX hY HF HF1 hm hn
 generalize rmB m.devs n.devs = rb at *
 generalize rmP m.devs n.devs = rp at *
 generalize pk0 = z at *
 go_enter Tryd.func21, Tryd.ntmps21
 go_upto_region 0 with fail; refine wp_region_lit ?_
 refine qaa (qau (vs := lsR (.int .i64 m.acc) (.int .i64 m.ver) (m.ident.map b8) (.slice a0 m.devs.length c0) (m.sig.map b8)) rfl rfl) rfl ?_; (try simp only [Act.put, lyy])
 replace E := Lib.hid (E.out.new (lsR (.int .i64 m.acc) (.int .i64 m.ver) (m.ident.map b8) (.slice a0 m.devs.length c0) (m.sig.map b8)) 29)
 generalize w.alloc (.cells (lsR (.int .i64 m.acc) (.int .i64 m.ver) (m.ident.map b8) (.slice a0 m.devs.length c0) (m.sig.map b8)).toArray 29) = a1 at *
 generalize w.heap.size = g2 at *
 refine qaa (qau (vs := lsR (.int .i64 n.acc) (.int .i64 n.ver) (n.ident.map b8) (.slice ar n.devs.length cr) (n.sig.map b8)) rfl rfl) rfl ?_; (try simp only [Act.put, lyy])
 replace E := Lib.hid (E.out.new (lsR (.int .i64 n.acc) (.int .i64 n.ver) (n.ident.map b8) (.slice ar n.devs.length cr) (n.sig.map b8)) 29)
 generalize a1.alloc (.cells (lsR (.int .i64 n.acc) (.int .i64 n.ver) (n.ident.map b8) (.slice ar n.devs.length cr) (n.sig.map b8)).toArray 29) = a3 at *
 generalize a1.heap.size = g4 at *
 refine qaa (qat (vs := enR ((.int .i64 0)) (z8 32)) rfl (by kernel_rfl)) rfl ?_; (try simp only [Act.put, lyy])
 replace E := Lib.hid (E.out.new (enR ((.int .i64 0)) (z8 32)) 34)
 generalize a3.alloc (.cells (enR ((.int .i64 0)) (z8 32)).toArray 34) = a5 at *
 generalize a3.heap.size = g6 at *
 refine qaa (qaf (v := .bool false) rfl rfl) rfl ?_; (try simp only [Act.put, lyy])
 refine qab ?_
 go_upto_region 1 with fail; refine wp_region_lit ?_
 refine qaa (qaf (v := .int .i64 0) rfl rfl) rfl ?_; (try simp only [Act.put, lyy])
 refine qab ?_
 go_wp2_with fail
 go_loopw [6] (fun s6 u => ∃ j : Nat, s6 = .int .i64 (j : Int) ∧ j ≤ m.devs.length ∧ Hid (∀ i, i < j → woP m.devs i ≠ n.devs) ∧ Ev w [(g6, enR ((.int .i64 0)) (z8 32)), (g4, lsR (.int .i64 n.acc) (.int .i64 n.ver) (n.ident.map b8) (.slice ar n.devs.length cr) (n.sig.map b8)), (g2, lsR (.int .i64 m.acc) (.int .i64 m.ver) (m.ident.map b8) (.slice a0 m.devs.length c0) (m.sig.map b8))] [] (fun V => SlR 33 pkAt m.devs a0 c0 V ∧ SlR 33 pkAt n.devs ar cr V) (fun _ => True) u) (fun s6 _ => ((m.devs.length : Int) - intOf s6).toNat)
 case atStart => exact ⟨0, rfl, Nat.zero_le _, Lib.hid fun i hi => absurd hi (Nat.not_lt_zero _), E.out⟩
 case round =>
  obtain ⟨j, rfl, hj, HJ, hE⟩ := hrel
  replace E := Lib.hid hE
  clear hE
  by_cases hjm : j = m.devs.length
  ·go_upto_region 2 with fail; refine wp_region_lit ?_
   refine qaa (qae (v := .int .i64 (j : Int)) rfl rfl) rfl ?_; (try simp only [Act.put, lyy])
   refine qaa (qan (s := 0) (k := 34) rfl Tryd.underlying29 rfl (by kernel_rfl) rfl rfl) rfl ?_; (try simp only [Act.put, lyy])
   refine qaa (qav rfl Tryd.underlying25 rfl rfl ((E.out.get (i := 2) rfl).c 34 _ (qal (by rw [List.length_map, k1])))) rfl ?_; (try simp only [Act.put, lyy])
   refine qaa (qbe rfl Tryd.underlying25 rfl) rfl ?_; (try simp only [Act.put, lyy])
   refine qaa (qbr (c := false) rfl rfl rfl (decide_eq_false (by omega))) rfl ?_; (try simp only [Act.put, lyy])
   refine qab ?_
   obtain ⟨e1, e2⟩ := HZ.out fun i hi => HJ.out i (by omega)
   have R1 := Lib.hid e1
   have R2 := Lib.hid e2
   clear e1 e2
   go_upto_region 9 with fail; refine wp_region_lit ?_
   refine qaa (qcb (ps := []) rfl rfl KE.out) rfl ?_; (try simp only [Act.put, lyy])
   refine qag (qar (vs := pkC z) rfl (szR (qa9 lz) (by kernel_rfl)) rfl rfl (One.all (qc2 lz)) ((E.out.get (i := 0) rfl).thereM (by have q1 : (pkC z).length = 33 := (qa9 lz); have q2 : (enR ((.int .i64 0)) (z8 32)).length = 33 := (qbn (qa7 32)); omega))) rfl rfl ?_
   replace E := Lib.hid (E.out.put 0 rfl (m := pkC z) ((show (pkC z).length = 33 from (qa9 lz)).trans (show (enR ((.int .i64 0)) (z8 32)).length = 33 from (qbn (qa7 32))).symm))
   generalize wr.setCells g6 0 (pkC z) = a7 at *
   replace E := Lib.hid (show Ev _ [(g6, pkC z), (g4, lsR (.int .i64 n.acc) (.int .i64 n.ver) (n.ident.map b8) (.slice ar n.devs.length cr) (n.sig.map b8)), (g2, lsR (.int .i64 m.acc) (.int .i64 m.ver) (m.ident.map b8) (.slice a0 m.devs.length c0) (m.sig.map b8))] _ _ _ a7 from E.out)
   refine qaa (qaf (v := .bool false) rfl rfl) rfl ?_; (try simp only [Act.put, lyy])
   refine qab ?_
   go_wp2_with fail
   exact bodyPost_ret (v := .tuple #[.agg (pkC z).toArray, .bool false]) (qbm Tryd.results21 rfl Tryd.underlying34 rfl (szR (qa9 lz) (by kernel_rfl)) (E.out.get (i := 0) rfl).range) rfl ⟨by rw [R1.out, R2.out], E.out.bl⟩
  ·have hjl : j < m.devs.length := by omega
   obtain ⟨g, fo, rfl, hg, -⟩ := pk_at E.out.f.1 hjl
   have HP : Hid (∀ V, SlR 33 pkAt m.devs (some ⟨g, fo, none⟩) c0 V → V.rangeAt g (fo + j * 33) (pkC m.devs[j])) := Lib.hid fun V h => pk_at2 h hjl
   have hkl := HDV.out _ (List.getElem_mem hjl)
   have HQ := Lib.hid (HH.out j hjl)
   generalize m.devs[j] = q at *
   go_upto_region 2 with fail; refine wp_region_lit ?_
   refine qaa (qae (v := .int .i64 (j : Int)) rfl rfl) rfl ?_; (try simp only [Act.put, lyy])
   refine qaa (qan (s := 0) (k := 34) rfl Tryd.underlying29 rfl (by kernel_rfl) rfl rfl) rfl ?_; (try simp only [Act.put, lyy])
   refine qaa (qav rfl Tryd.underlying25 rfl rfl ((E.out.get (i := 2) rfl).c 34 _ (qal (by rw [List.length_map, k1])))) rfl ?_; (try simp only [Act.put, lyy])
   refine qaa (qbe rfl Tryd.underlying25 rfl) rfl ?_; (try simp only [Act.put, lyy])
   refine qaa (qbr (c := true) rfl rfl rfl (decide_eq_true (by omega))) rfl ?_; (try simp only [Act.put, lyy])
   refine qab ?_
   go_upto_region 4 with fail; refine wp_region_lit ?_
   refine qaa (qaf (v := .slice none 0 0) rfl rfl) rfl ?_; (try simp only [Act.put, lyy])
   refine qab ?_
   have EA := E
   have HI0 : Hid (E5 wr (.slice none 0 0) [] wr) := Lib.hid (E5.none wr)
   have htl : (m.devs.take j).length = j := by rw [List.length_take]; omega
   have hdl : (m.devs.drop (j + 1)).length = m.devs.length - (j + 1) := List.length_drop
   go_upto_region 5 with fail; refine wp_region_lit ?_
   refine qaa (qae (v := .slice none 0 0) rfl rfl) rfl ?_; (try simp only [Act.put, lyy])
   refine qaa (qan (s := 0) (k := 34) rfl Tryd.underlying29 rfl (by kernel_rfl) rfl rfl) rfl ?_; (try simp only [Act.put, lyy])
   refine qaa (qav rfl Tryd.underlying25 rfl rfl ((E.out.get (i := 2) rfl).c 34 _ (qal (by rw [List.length_map, k1])))) rfl ?_; (try simp only [Act.put, lyy])
   refine qaa (qae (v := .int .i64 (j : Int)) rfl rfl) rfl ?_; (try simp only [Act.put, lyy])
   refine qaa (run_sloZ (z := 33) rfl Tryd.underlying25 (by kernel_rfl) rfl rfl (by have := E.out.f.1.cap; omega)) rfl ?_; (try simp only [Act.put, lyy])
   refine wpList_appE (l2 := m.devs.take j) rfl rfl rfl HI0.out (by rw [htl]; rfl) (slR_take E.out.f.1 (by omega)) (fun p hp => HDV.out p (List.mem_of_mem_take hp)) (by rw [htl]; show 0 + j ≤ _; omega) (fun v7 b1 hE => ?_); (try simp only [Act.put, lyy])
   have HI1 := Lib.hid hE
   replace E := Lib.hid (EA.out.below hE.bl)
   clear hE HI0
   refine qaa (qaf (v := v7) rfl rfl) rfl ?_; (try simp only [Act.put, lyy])
   refine qab ?_
   go_upto_region 6 with fail; refine wp_region_lit ?_
   refine qaa (qae (v := v7) rfl rfl) rfl ?_; (try simp only [Act.put, lyy])
   refine qaa (qan (s := 0) (k := 34) rfl Tryd.underlying29 rfl (by kernel_rfl) rfl rfl) rfl ?_; (try simp only [Act.put, lyy])
   refine qaa (qav rfl Tryd.underlying25 rfl rfl ((E.out.get (i := 2) rfl).c 34 _ (qal (by rw [List.length_map, k1])))) rfl ?_; (try simp only [Act.put, lyy])
   refine qaa (qae (v := .int .i64 (j : Int)) rfl rfl) rfl ?_; (try simp only [Act.put, lyy])
   refine qaa (qb1 (a := j) (b := 1) rfl rfl rfl (by omega)) rfl ?_; (try simp only [Act.put, lyy])
   refine qaa (run_sllZ (z := 33) rfl Tryd.underlying25 (by kernel_rfl) rfl rfl hjl) rfl ?_; (try simp only [Act.put, lyy])
   refine wpList_appE (l2 := m.devs.drop (j + 1)) rfl rfl rfl HI1.out (by rw [hdl]; rfl) (slR_drop E.out.f.1 (by omega)) (fun p hp => HDV.out p (List.mem_of_mem_drop hp)) (by rw [List.nil_append, htl, hdl]; omega) (fun v8 b2 hE => ?_); (try simp only [Act.put, lyy])
   rw [show [] ++ m.devs.take j ++ m.devs.drop (j + 1) = woP m.devs j from rfl] at hE
   have hwk : ∀ p ∈ woP m.devs j, p.key.length = 32 := fun p hp => by
    unfold woP at hp
    rcases List.mem_append.1 hp with hp | hp
    ·exact HDV.out p (List.mem_of_mem_take hp)
    ·exact HDV.out p (List.mem_of_mem_drop hp)
   have hwl : (woP m.devs j).length ≤ 60000 := by rw [woP_len hjl]; omega
   obtain ⟨la, lc, rfl, hf⟩ := hE.fro hwk
   replace E := Lib.hid (EA.out.below hE.bl)
   have CQ := Lib.hid (CE.out b2 _ la lc (hf.mono (Nat.zero_le _)) (fun V hV => (E.out.froF V hV).2) hwk hwl)
   clear hf HI1 htl hdl hE EA hwk hwl
   refine qaa (qaf (v := .slice la (woP m.devs j).length lc) rfl rfl) rfl ?_; (try simp only [Act.put, lyy])
   refine qab ?_
   cases hEq : eqPs (woP m.devs j) n.devs with
   | true =>
    have HEQ := Lib.hid hEq
    rw [hEq] at CQ
    clear hEq
    go_upto_region 7 with fail; refine wp_region_lit ?_
    refine qaa (qae (v := .slice la (woP m.devs j).length lc) rfl rfl) rfl ?_; (try simp only [Act.put, lyy])
    refine qaa (qan (s := 0) (k := 34) rfl Tryd.underlying29 rfl (by kernel_rfl) rfl rfl) rfl ?_; (try simp only [Act.put, lyy])
    refine qaa (qav rfl Tryd.underlying25 rfl rfl ((E.out.get (i := 1) rfl).c 34 _ (qal (by rw [List.length_map, k3])))) rfl ?_; (try simp only [Act.put, lyy])
    refine qam (qao enters_rsd rfl rfl rfl rfl) rfl (CQ.out) (fun a7 hb => ?_); (try simp only [Act.put, lyy])
    replace E := Lib.hid (E.out.below hb)
    clear hb
    refine qab ?_
    obtain ⟨e1, e2⟩ := HQ.out (eqPs_iff.1 HEQ.out)
    have R1 := Lib.hid e1
    have R2 := Lib.hid e2
    clear e1 e2
    go_upto_region 8 with fail; refine wp_region_lit ?_
    refine qaa (qan (s := 0) (k := 34) rfl Tryd.underlying29 rfl (by kernel_rfl) rfl rfl) rfl ?_; (try simp only [Act.put, lyy])
    refine qaa (qav rfl Tryd.underlying25 rfl rfl ((E.out.get (i := 2) rfl).c 34 _ (qal (by rw [List.length_map, k1])))) rfl ?_; (try simp only [Act.put, lyy])
    refine qaa (qae (v := .int .i64 (j : Int)) rfl rfl) rfl ?_; (try simp only [Act.put, lyy])
    refine qaa (qcl (z := 33) rfl Tryd.underlying25 (by kernel_rfl) rfl rfl (by omega)) rfl ?_; (try simp only [Act.put, lyy])
    refine qaa (qaj (vs := pkC q) rfl Tryd.underlying34 rfl (szR (qa9 hkl) (by kernel_rfl)) rfl (HP.out _ E.out.f.1)) rfl ?_; (try simp only [Act.put, lyy])
    refine qag (qar (vs := pkC q) rfl (szR (qa9 hkl) (by kernel_rfl)) rfl rfl (One.all (qc2 hkl)) ((E.out.get (i := 0) rfl).thereM (by have q1 : (pkC q).length = 33 := (qa9 hkl); have q2 : (enR ((.int .i64 0)) (z8 32)).length = 33 := (qbn (qa7 32)); omega))) rfl rfl ?_
    replace E := Lib.hid (E.out.put 0 rfl (m := pkC q) ((show (pkC q).length = 33 from (qa9 hkl)).trans (show (enR ((.int .i64 0)) (z8 32)).length = 33 from (qbn (qa7 32))).symm))
    generalize a7.setCells g6 0 (pkC q) = a8 at *
    replace E := Lib.hid (show Ev _ [(g6, pkC q), (g4, lsR (.int .i64 n.acc) (.int .i64 n.ver) (n.ident.map b8) (.slice ar n.devs.length cr) (n.sig.map b8)), (g2, lsR (.int .i64 m.acc) (.int .i64 m.ver) (m.ident.map b8) (.slice (some ⟨g, fo, none⟩) m.devs.length c0) (m.sig.map b8))] _ _ _ a8 from E.out)
    refine qaa (qaf (v := .bool true) rfl rfl) rfl ?_; (try simp only [Act.put, lyy])
    refine qab ?_
    go_wp2_with fail
    exact bodyPost_ret (v := .tuple #[.agg (pkC q).toArray, .bool true]) (qbm Tryd.results21 rfl Tryd.underlying34 rfl (szR (qa9 hkl) (by kernel_rfl)) (E.out.get (i := 0) rfl).range) rfl ⟨by rw [R1.out, R2.out], E.out.bl⟩
   | false =>
    have HEQ := Lib.hid hEq
    rw [hEq] at CQ
    clear hEq
    go_upto_region 7 with fail; refine wp_region_lit ?_
    refine qaa (qae (v := .slice la (woP m.devs j).length lc) rfl rfl) rfl ?_; (try simp only [Act.put, lyy])
    refine qaa (qan (s := 0) (k := 34) rfl Tryd.underlying29 rfl (by kernel_rfl) rfl rfl) rfl ?_; (try simp only [Act.put, lyy])
    refine qaa (qav rfl Tryd.underlying25 rfl rfl ((E.out.get (i := 1) rfl).c 34 _ (qal (by rw [List.length_map, k3])))) rfl ?_; (try simp only [Act.put, lyy])
    refine qam (qao enters_rsd rfl rfl rfl rfl) rfl (CQ.out) (fun a7 hb => ?_); (try simp only [Act.put, lyy])
    replace E := Lib.hid (E.out.below hb)
    clear hb
    refine qab ?_
    go_upto_region 3 with fail; refine wp_region_lit ?_
    refine qaa (qae (v := .int .i64 (j : Int)) rfl rfl) rfl ?_; (try simp only [Act.put, lyy])
    refine qaa (qb1 (a := j) (b := 1) rfl rfl rfl (by omega)) rfl ?_; (try simp only [Act.put, lyy])
    refine qaa (qaf (v := .int .i64 ((j + 1 : Nat) : Int)) rfl rfl) rfl ?_; (try simp only [Act.put, lyy])
    refine qab ?_
    have NX : Hid (∀ i, i < j + 1 → woP m.devs i ≠ n.devs) := Lib.hid fun i hi => by
     rcases Nat.lt_or_ge i j with h9 | h9
     ·exact HJ.out i h9
     ·obtain rfl : i = j := by omega
      intro e
      have h := HEQ.out
      rw [eqPs_iff.2 e] at h
      cases h
    go_wp2_with fail
    exact ⟨⟨j + 1, rfl, by omega, NX, E.out⟩, by simp [intOf]; omega⟩
end Go.Proofs.YtcgbgmbnagmohaaDoor
namespace Go.Proofs.YtcgbgmbnagmohaaDoor
open Go.RowKit
set_option maxRecDepth 20000
attribute [local irreducible] wpList
theorem adB_ref {l l2 : List MPk} (h : 0 < l2.length) : adB l l2 = eqPs l (l2.take (l2.length - 1)) := by
 unfold adB
 by_cases e : l2.length = l.length + 1
 ·rw [decide_eq_true e, Bool.true_and, e, Nat.add_sub_cancel]
 ·rw [decide_eq_false e, Bool.false_and, eqPs_len]
  rw [List.length_take]
  omega
theorem adB_len {l l2 : List MPk} (h : adB l l2 = true) : l2.length = l.length + 1 := by
 unfold adB at h
 rw [Bool.and_eq_true] at h
 exact of_decide_eq_true h.1
theorem adB_none {l l2 : List MPk} (h : l2.length = 0) : adB l l2 = false := by
 unfold adB
 rw [decide_eq_false (by omega)]
 rfl
theorem enters_rad : Enters 20 := qaq Tryd.func20 (by kernel_rfl) rfl
set_option maxHeartbeats 8000000 in
theorem rad_any (m n : MLs) (X Y : List Value) (w : World) (hm : m.Ok) (hn : n.Ok) (hX : Fro 0 (lsAt m X) w) (hY : Fro 0 (lsAt n Y) w) : Calls Tryd.prog 20 #[.agg X.toArray, .agg Y.toArray] w fun e w' => e = .returned (.tuple #[.agg (pkC (adP m.devs n.devs)).toArray, .bool (adB m.devs n.devs)]) ∧ Below w.heap.size w w' := by
 obtain ⟨a0, c0, rfl, HF⟩ := qcx hm hX
 obtain ⟨ar, cr, rfl, HF1⟩ := qcx hn hY
 have k1 := hm.ident
 have k2 := hm.sig
 have k3 := hn.ident
 have k4 := hn.sig
 have HDV := Lib.hid hm.devs
 have HDN := Lib.hid hn.devs
 have hmany := hm.many
 have hmany1 := hn.many
 have E := Lib.hid (Ev.start (w := w) (F := fun V => SlR 33 pkAt m.devs a0 c0 V ∧ SlR 33 pkAt n.devs ar cr V) fun V hV => ⟨HF V hV, HF1 V hV⟩)
 have KE := Lib.hid pk0_built
 have lz := pk0_len
 have CE : Hid (∀ u : World, Fro 0 (fun V => SlR 33 pkAt m.devs a0 c0 V ∧ SlR 33 pkAt n.devs ar cr V) u → Calls Tryd.prog 31 #[.slice a0 m.devs.length c0, .slice ar (n.devs.length - 1) cr] u fun e w' => e = .returned (.bool (eqPs m.devs (n.devs.take (n.devs.length - 1)))) ∧ Below u.heap.size u w') := Lib.hid fun u h => by
  have h2 := rsd_any a0 c0 m.devs ar cr (n.devs.take (n.devs.length - 1)) u (fun V hV => (h V hV).1) (fun V hV => slR_take (h V hV).2 (by omega)) hm.devs (fun p hp => hn.devs p (List.mem_of_mem_take hp)) hm.many
  rwa [List.length_take, Nat.min_eq_left (by omega)] at h2
 clear hX hY HF HF1 hm hn
 by_cases hlen : n.devs.length = 0
 ·have hB : adB m.devs n.devs = false := adB_none hlen
  have HP : Hid (adP m.devs n.devs = pk0) := Lib.hid (by unfold adP; rw [hB]; rfl)
  rw [HP.out, hB]
  clear HP hB
  generalize pk0 = z at *
  have HLN := Lib.hid hlen
  clear hlen
  go_enter Tryd.func20, Tryd.ntmps20
  go_upto_region 0 with fail; refine wp_region_lit ?_
  refine qaa (qau (vs := lsR (.int .i64 m.acc) (.int .i64 m.ver) (m.ident.map b8) (.slice a0 m.devs.length c0) (m.sig.map b8)) rfl rfl) rfl ?_; (try simp only [Act.put, lyy])
  replace E := Lib.hid (E.out.new (lsR (.int .i64 m.acc) (.int .i64 m.ver) (m.ident.map b8) (.slice a0 m.devs.length c0) (m.sig.map b8)) 29)
  generalize w.alloc (.cells (lsR (.int .i64 m.acc) (.int .i64 m.ver) (m.ident.map b8) (.slice a0 m.devs.length c0) (m.sig.map b8)).toArray 29) = a1 at *
  generalize w.heap.size = g2 at *
  refine qaa (qau (vs := lsR (.int .i64 n.acc) (.int .i64 n.ver) (n.ident.map b8) (.slice ar n.devs.length cr) (n.sig.map b8)) rfl rfl) rfl ?_; (try simp only [Act.put, lyy])
  replace E := Lib.hid (E.out.new (lsR (.int .i64 n.acc) (.int .i64 n.ver) (n.ident.map b8) (.slice ar n.devs.length cr) (n.sig.map b8)) 29)
  generalize a1.alloc (.cells (lsR (.int .i64 n.acc) (.int .i64 n.ver) (n.ident.map b8) (.slice ar n.devs.length cr) (n.sig.map b8)).toArray 29) = a3 at *
  generalize a1.heap.size = g4 at *
  refine qaa (qat (vs := enR ((.int .i64 0)) (z8 32)) rfl (by kernel_rfl)) rfl ?_; (try simp only [Act.put, lyy])
  replace E := Lib.hid (E.out.new (enR ((.int .i64 0)) (z8 32)) 34)
  generalize a3.alloc (.cells (enR ((.int .i64 0)) (z8 32)).toArray 34) = a5 at *
  generalize a3.heap.size = g6 at *
  refine qaa (qaf (v := .bool false) rfl rfl) rfl ?_; (try simp only [Act.put, lyy])
  refine qab ?_
  go_upto_region 1 with fail; refine wp_region_lit ?_
  refine qaa (qan (s := 0) (k := 34) rfl Tryd.underlying29 rfl (by kernel_rfl) rfl rfl) rfl ?_; (try simp only [Act.put, lyy])
  refine qaa (qav rfl Tryd.underlying25 rfl rfl ((E.out.get (i := 1) rfl).c 34 _ (qal (by rw [List.length_map, k3])))) rfl ?_; (try simp only [Act.put, lyy])
  refine qaa (qbe rfl Tryd.underlying25 rfl) rfl ?_; (try simp only [Act.put, lyy])
  refine qaa (qaf (v := .int .i64 ((n.devs.length : Nat) : Int)) rfl rfl) rfl ?_; (try simp only [Act.put, lyy])
  refine qab ?_
  go_upto_region 2 with fail
  refine wp_region_noPanic ?_; refine qay (S := fun _ V => Below a5.heap.size a5 V) (by kernel_rfl) ((Below.refl _ _).drew) (fun hS => ?_)
  replace E := Lib.hid (E.out.below hS)
  generalize a5.drew = a7 at *
  refine qbg (S' := fun _ V => Below a7.heap.size a7 V) (fun _ V h => hS.trans (h.mono hS.size)) _ _ _ _ ?_
  replace hS := Below.refl a7.heap.size a7
  refine qac 0 rfl rfl (by kernel_rfl) (by kernel_rfl) (by kernel_rfl) (fun _ _ _ h => h) rfl (fun V hV => qae (v := .int .i64 ((n.devs.length : Nat) : Int)) rfl rfl) hS ?_; (try simp only [Act.put, lyy])
  refine qac 1 rfl rfl (by kernel_rfl) (by kernel_rfl) (by kernel_rfl) (fun _ _ _ h => h) rfl (fun V hV => qb4 (c := true) rfl rfl rfl (by rw [HLN.out]; rfl)) hS ?_; (try simp only [Act.put, lyy])
  refine qac 2 rfl rfl (by kernel_rfl) (by kernel_rfl) (by kernel_rfl) (fun _ _ _ h => h) rfl (fun V hV => qae (v := .bool true) rfl rfl) hS ?_; (try simp only [Act.put, lyy])
  refine qaw 3 rfl rfl (by kernel_rfl) (by kernel_rfl) (by kernel_rfl) (fun _ _ _ h => h) rfl hS ?_; (try simp only [Act.put, lyy])
  refine qaw 4 rfl rfl (by kernel_rfl) (by kernel_rfl) (by kernel_rfl) (fun _ _ _ h => h) rfl hS ?_; (try simp only [Act.put, lyy])
  refine qaw 5 rfl rfl (by kernel_rfl) (by kernel_rfl) (by kernel_rfl) (fun _ _ _ h => h) rfl hS ?_; (try simp only [Act.put, lyy])
  refine qaw 6 rfl rfl (by kernel_rfl) (by kernel_rfl) (by kernel_rfl) (fun _ _ _ h => h) rfl hS ?_; (try simp only [Act.put, lyy])
  refine qaw 7 rfl rfl (by kernel_rfl) (by kernel_rfl) (by kernel_rfl) (fun _ _ _ h => h) rfl hS ?_; (try simp only [Act.put, lyy])
  refine qaw 8 rfl rfl (by kernel_rfl) (by kernel_rfl) (by kernel_rfl) (fun _ _ _ h => h) rfl hS ?_; (try simp only [Act.put, lyy])
  refine qaw 9 rfl rfl (by kernel_rfl) (by kernel_rfl) (by kernel_rfl) (fun _ _ _ h => h) rfl hS ?_; (try simp only [Act.put, lyy])
  refine qaw 10 rfl rfl (by kernel_rfl) (by kernel_rfl) (by kernel_rfl) (fun _ _ _ h => h) rfl hS ?_; (try simp only [Act.put, lyy])
  refine qaw 11 rfl rfl (by kernel_rfl) (by kernel_rfl) (by kernel_rfl) (fun _ _ _ h => h) rfl hS ?_; (try simp only [Act.put, lyy])
  refine qac 12 rfl rfl (by kernel_rfl) (by kernel_rfl) (by kernel_rfl) (fun _ _ _ h => h) rfl (fun V hV => qaz (b := true) (v := .bool true) rfl rfl rfl) hS ?_; (try simp only [Act.put, lyy])
  refine qa2 (by kernel_rfl) ?_ _; refine NoPanic.normal ?_
  go_upto_region 3 with fail; refine wp_region_lit ?_
  refine qaa (qcb (ps := []) rfl rfl KE.out) rfl ?_; (try simp only [Act.put, lyy])
  refine qag (qar (vs := pkC z) rfl (szR (qa9 lz) (by kernel_rfl)) rfl rfl (One.all (qc2 lz)) ((E.out.get (i := 0) rfl).thereM (by have q1 : (pkC z).length = 33 := (qa9 lz); have q2 : (enR ((.int .i64 0)) (z8 32)).length = 33 := (qbn (qa7 32)); omega))) rfl rfl ?_
  replace E := Lib.hid (E.out.put 0 rfl (m := pkC z) ((show (pkC z).length = 33 from (qa9 lz)).trans (show (enR ((.int .i64 0)) (z8 32)).length = 33 from (qbn (qa7 32))).symm))
  generalize a7.setCells g6 0 (pkC z) = a8 at *
  replace E := Lib.hid (show Ev _ [(g6, pkC z), (g4, lsR (.int .i64 n.acc) (.int .i64 n.ver) (n.ident.map b8) (.slice ar n.devs.length cr) (n.sig.map b8)), (g2, lsR (.int .i64 m.acc) (.int .i64 m.ver) (m.ident.map b8) (.slice a0 m.devs.length c0) (m.sig.map b8))] _ _ _ a8 from E.out)
  refine qaa (qaf (v := .bool false) rfl rfl) rfl ?_; (try simp only [Act.put, lyy])
  refine qab ?_
  go_wp2_with fail
  exact bodyPost_ret (v := .tuple #[.agg (pkC z).toArray, .bool false]) (qbm Tryd.results20 rfl Tryd.underlying34 rfl (szR (qa9 lz) (by kernel_rfl)) (E.out.get (i := 0) rfl).range) rfl ⟨rfl, E.out.bl⟩
 ·cases hEq : eqPs m.devs (n.devs.take (n.devs.length - 1)) with
  | false =>
   have hB : adB m.devs n.devs = false := by rw [adB_ref (by omega)]; exact hEq
   have HP : Hid (adP m.devs n.devs = pk0) := Lib.hid (by unfold adP; rw [hB]; rfl)
   rw [HP.out, hB]
   clear HP hB
   generalize pk0 = z at *
   rw [hEq] at CE
   clear hEq
   go_enter Tryd.func20, Tryd.ntmps20
   go_upto_region 0 with fail; refine wp_region_lit ?_
   refine qaa (qau (vs := lsR (.int .i64 m.acc) (.int .i64 m.ver) (m.ident.map b8) (.slice a0 m.devs.length c0) (m.sig.map b8)) rfl rfl) rfl ?_; (try simp only [Act.put, lyy])
   replace E := Lib.hid (E.out.new (lsR (.int .i64 m.acc) (.int .i64 m.ver) (m.ident.map b8) (.slice a0 m.devs.length c0) (m.sig.map b8)) 29)
   generalize w.alloc (.cells (lsR (.int .i64 m.acc) (.int .i64 m.ver) (m.ident.map b8) (.slice a0 m.devs.length c0) (m.sig.map b8)).toArray 29) = a1 at *
   generalize w.heap.size = g2 at *
   refine qaa (qau (vs := lsR (.int .i64 n.acc) (.int .i64 n.ver) (n.ident.map b8) (.slice ar n.devs.length cr) (n.sig.map b8)) rfl rfl) rfl ?_; (try simp only [Act.put, lyy])
   replace E := Lib.hid (E.out.new (lsR (.int .i64 n.acc) (.int .i64 n.ver) (n.ident.map b8) (.slice ar n.devs.length cr) (n.sig.map b8)) 29)
   generalize a1.alloc (.cells (lsR (.int .i64 n.acc) (.int .i64 n.ver) (n.ident.map b8) (.slice ar n.devs.length cr) (n.sig.map b8)).toArray 29) = a3 at *
   generalize a1.heap.size = g4 at *
   refine qaa (qat (vs := enR ((.int .i64 0)) (z8 32)) rfl (by kernel_rfl)) rfl ?_; (try simp only [Act.put, lyy])
   replace E := Lib.hid (E.out.new (enR ((.int .i64 0)) (z8 32)) 34)
   generalize a3.alloc (.cells (enR ((.int .i64 0)) (z8 32)).toArray 34) = a5 at *
   generalize a3.heap.size = g6 at *
   refine qaa (qaf (v := .bool false) rfl rfl) rfl ?_; (try simp only [Act.put, lyy])
   refine qab ?_
   go_upto_region 1 with fail; refine wp_region_lit ?_
   refine qaa (qan (s := 0) (k := 34) rfl Tryd.underlying29 rfl (by kernel_rfl) rfl rfl) rfl ?_; (try simp only [Act.put, lyy])
   refine qaa (qav rfl Tryd.underlying25 rfl rfl ((E.out.get (i := 1) rfl).c 34 _ (qal (by rw [List.length_map, k3])))) rfl ?_; (try simp only [Act.put, lyy])
   refine qaa (qbe rfl Tryd.underlying25 rfl) rfl ?_; (try simp only [Act.put, lyy])
   refine qaa (qaf (v := .int .i64 ((n.devs.length : Nat) : Int)) rfl rfl) rfl ?_; (try simp only [Act.put, lyy])
   refine qab ?_
   go_upto_region 2 with fail
   refine wp_region_noPanic ?_; refine qay (S := fun _ V => Below a5.heap.size a5 V) (by kernel_rfl) ((Below.refl _ _).drew) (fun hS => ?_)
   replace E := Lib.hid (E.out.below hS)
   generalize a5.drew = a7 at *
   refine qbg (S' := fun _ V => Below a7.heap.size a7 V) (fun _ V h => hS.trans (h.mono hS.size)) _ _ _ _ ?_
   replace hS := Below.refl a7.heap.size a7
   refine qac 0 rfl rfl (by kernel_rfl) (by kernel_rfl) (by kernel_rfl) (fun _ _ _ h => h) rfl (fun V hV => qae (v := .int .i64 ((n.devs.length : Nat) : Int)) rfl rfl) hS ?_; (try simp only [Act.put, lyy])
   refine qac 1 rfl rfl (by kernel_rfl) (by kernel_rfl) (by kernel_rfl) (fun _ _ _ h => h) rfl (fun V hV => qb4 (c := false) rfl rfl rfl (beq_eq_false_iff_ne.2 (by omega))) hS ?_; (try simp only [Act.put, lyy])
   refine qac 2 rfl rfl (by kernel_rfl) (by kernel_rfl) (by kernel_rfl) (fun _ _ _ h => h) rfl (fun V hV => qae (v := .bool false) rfl rfl) hS ?_; (try simp only [Act.put, lyy])
   refine qac 3 rfl rfl (by kernel_rfl) (by kernel_rfl) (by kernel_rfl) (fun _ _ _ h => h) rfl (fun V hV => qan (s := 0) (k := 34) rfl Tryd.underlying29 rfl (by kernel_rfl) rfl rfl) hS ?_; (try simp only [Act.put, lyy])
   refine qac 4 rfl rfl (by kernel_rfl) (by kernel_rfl) (by kernel_rfl) (fun _ _ _ h => h) rfl (fun V hV => qav rfl Tryd.underlying25 rfl rfl (((E.out.below hV).get (i := 2) rfl).c 34 _ (qal (by rw [List.length_map, k1])))) hS ?_; (try simp only [Act.put, lyy])
   refine qac 5 rfl rfl (by kernel_rfl) (by kernel_rfl) (by kernel_rfl) (fun _ _ _ h => h) rfl (fun V hV => qan (s := 0) (k := 34) rfl Tryd.underlying29 rfl (by kernel_rfl) rfl rfl) hS ?_; (try simp only [Act.put, lyy])
   refine qac 6 rfl rfl (by kernel_rfl) (by kernel_rfl) (by kernel_rfl) (fun _ _ _ h => h) rfl (fun V hV => qav rfl Tryd.underlying25 rfl rfl (((E.out.below hV).get (i := 1) rfl).c 34 _ (qal (by rw [List.length_map, k3])))) hS ?_; (try simp only [Act.put, lyy])
   refine qac 7 rfl rfl (by kernel_rfl) (by kernel_rfl) (by kernel_rfl) (fun _ _ _ h => h) rfl (fun V hV => qae (v := .int .i64 ((n.devs.length : Nat) : Int)) rfl rfl) hS ?_; (try simp only [Act.put, lyy])
   refine qac 8 rfl rfl (by kernel_rfl) (by kernel_rfl) (by kernel_rfl) (fun _ _ _ h => h) rfl (fun V hV => run_subN (a := n.devs.length) (b := 1) rfl rfl rfl (by omega) (by omega)) hS ?_; (try simp only [Act.put, lyy])
   refine qac 9 rfl rfl (by kernel_rfl) (by kernel_rfl) (by kernel_rfl) (fun _ _ _ h => h) rfl (fun V hV => run_sloZ (z := 33) rfl Tryd.underlying25 (by kernel_rfl) rfl rfl (by have := (E.out.below hV).f.2.cap; omega)) hS ?_; (try simp only [Act.put, lyy])
   refine qbi 10 (by kernel_rfl) rfl rfl rfl (qao enters_rsd rfl rfl rfl rfl) ((qbq (CE.out _ E.out.froF))) (fun v w h => hS.trans ((h.2).mono hS.size)) (fun v8 a9 hR => ?_); (try simp only [Act.put, lyy])
   obtain ⟨rfl, hb9⟩ := hR
   replace hS := hS.trans (hb9.mono hS.size)
   replace E := Lib.hid (E.out.below hb9)
   clear hb9
   refine qbg (S' := fun _ V => Below a9.heap.size a9 V) (fun _ V h => hS.trans (h.mono hS.size)) _ _ _ _ ?_
   replace hS := Below.refl a9.heap.size a9
   refine qac 11 rfl rfl (by kernel_rfl) (by kernel_rfl) (by kernel_rfl) (fun _ _ _ h => h) rfl (fun V hV => run_notF rfl rfl) hS ?_; (try simp only [Act.put, lyy])
   refine qac 12 rfl rfl (by kernel_rfl) (by kernel_rfl) (by kernel_rfl) (fun _ _ _ h => h) rfl (fun V hV => qaz (b := false) (v := .bool true) rfl rfl rfl) hS ?_; (try simp only [Act.put, lyy])
   refine qa2 (by kernel_rfl) ?_ _; refine NoPanic.normal ?_
   go_upto_region 3 with fail; refine wp_region_lit ?_
   refine qaa (qcb (ps := []) rfl rfl KE.out) rfl ?_; (try simp only [Act.put, lyy])
   refine qag (qar (vs := pkC z) rfl (szR (qa9 lz) (by kernel_rfl)) rfl rfl (One.all (qc2 lz)) ((E.out.get (i := 0) rfl).thereM (by have q1 : (pkC z).length = 33 := (qa9 lz); have q2 : (enR ((.int .i64 0)) (z8 32)).length = 33 := (qbn (qa7 32)); omega))) rfl rfl ?_
   replace E := Lib.hid (E.out.put 0 rfl (m := pkC z) ((show (pkC z).length = 33 from (qa9 lz)).trans (show (enR ((.int .i64 0)) (z8 32)).length = 33 from (qbn (qa7 32))).symm))
   generalize a9.setCells g6 0 (pkC z) = a10 at *
   replace E := Lib.hid (show Ev _ [(g6, pkC z), (g4, lsR (.int .i64 n.acc) (.int .i64 n.ver) (n.ident.map b8) (.slice ar n.devs.length cr) (n.sig.map b8)), (g2, lsR (.int .i64 m.acc) (.int .i64 m.ver) (m.ident.map b8) (.slice a0 m.devs.length c0) (m.sig.map b8))] _ _ _ a10 from E.out)
   refine qaa (qaf (v := .bool false) rfl rfl) rfl ?_; (try simp only [Act.put, lyy])
   refine qab ?_
   go_wp2_with fail
   exact bodyPost_ret (v := .tuple #[.agg (pkC z).toArray, .bool false]) (qbm Tryd.results20 rfl Tryd.underlying34 rfl (szR (qa9 lz) (by kernel_rfl)) (E.out.get (i := 0) rfl).range) rfl ⟨rfl, E.out.bl⟩
  | true =>
   have hB : adB m.devs n.devs = true := by rw [adB_ref (by omega)]; exact hEq
   have hk : n.devs.length - 1 < n.devs.length := by omega
   have HP : Hid (adP m.devs n.devs = n.devs[n.devs.length - 1]) := Lib.hid (by unfold adP; rw [hB, if_pos rfl, show m.devs.length = n.devs.length - 1 by have := adB_len hB; omega, List.getD_eq_getElem?_getD, List.getElem?_eq_getElem hk]; rfl)
   rw [HP.out, hB]
   have hkl := HDN.out _ (List.getElem_mem hk)
   have HA : Hid (∀ V, SlR 33 pkAt n.devs ar cr V → ∃ g f, ar = some ⟨g, f, none⟩ ∧ g < V.heap.size ∧ V.rangeAt g (f + (n.devs.length - 1) * 33) (pkC n.devs[n.devs.length - 1])) := Lib.hid fun V hV => pk_at hV hk
   clear HP hB
   generalize n.devs[n.devs.length - 1] = q at *
   rw [hEq] at CE
   clear hEq
   go_enter Tryd.func20, Tryd.ntmps20
   go_upto_region 0 with fail; refine wp_region_lit ?_
   refine qaa (qau (vs := lsR (.int .i64 m.acc) (.int .i64 m.ver) (m.ident.map b8) (.slice a0 m.devs.length c0) (m.sig.map b8)) rfl rfl) rfl ?_; (try simp only [Act.put, lyy])
   replace E := Lib.hid (E.out.new (lsR (.int .i64 m.acc) (.int .i64 m.ver) (m.ident.map b8) (.slice a0 m.devs.length c0) (m.sig.map b8)) 29)
   generalize w.alloc (.cells (lsR (.int .i64 m.acc) (.int .i64 m.ver) (m.ident.map b8) (.slice a0 m.devs.length c0) (m.sig.map b8)).toArray 29) = a1 at *
   generalize w.heap.size = g2 at *
   refine qaa (qau (vs := lsR (.int .i64 n.acc) (.int .i64 n.ver) (n.ident.map b8) (.slice ar n.devs.length cr) (n.sig.map b8)) rfl rfl) rfl ?_; (try simp only [Act.put, lyy])
   replace E := Lib.hid (E.out.new (lsR (.int .i64 n.acc) (.int .i64 n.ver) (n.ident.map b8) (.slice ar n.devs.length cr) (n.sig.map b8)) 29)
   generalize a1.alloc (.cells (lsR (.int .i64 n.acc) (.int .i64 n.ver) (n.ident.map b8) (.slice ar n.devs.length cr) (n.sig.map b8)).toArray 29) = a3 at *
   generalize a1.heap.size = g4 at *
   refine qaa (qat (vs := enR ((.int .i64 0)) (z8 32)) rfl (by kernel_rfl)) rfl ?_; (try simp only [Act.put, lyy])
   replace E := Lib.hid (E.out.new (enR ((.int .i64 0)) (z8 32)) 34)
   generalize a3.alloc (.cells (enR ((.int .i64 0)) (z8 32)).toArray 34) = a5 at *
   generalize a3.heap.size = g6 at *
   refine qaa (qaf (v := .bool false) rfl rfl) rfl ?_; (try simp only [Act.put, lyy])
   refine qab ?_
   go_upto_region 1 with fail; refine wp_region_lit ?_
   refine qaa (qan (s := 0) (k := 34) rfl Tryd.underlying29 rfl (by kernel_rfl) rfl rfl) rfl ?_; (try simp only [Act.put, lyy])
   refine qaa (qav rfl Tryd.underlying25 rfl rfl ((E.out.get (i := 1) rfl).c 34 _ (qal (by rw [List.length_map, k3])))) rfl ?_; (try simp only [Act.put, lyy])
   refine qaa (qbe rfl Tryd.underlying25 rfl) rfl ?_; (try simp only [Act.put, lyy])
   refine qaa (qaf (v := .int .i64 ((n.devs.length : Nat) : Int)) rfl rfl) rfl ?_; (try simp only [Act.put, lyy])
   refine qab ?_
   go_upto_region 2 with fail
   refine wp_region_noPanic ?_; refine qay (S := fun _ V => Below a5.heap.size a5 V) (by kernel_rfl) ((Below.refl _ _).drew) (fun hS => ?_)
   replace E := Lib.hid (E.out.below hS)
   generalize a5.drew = a7 at *
   refine qbg (S' := fun _ V => Below a7.heap.size a7 V) (fun _ V h => hS.trans (h.mono hS.size)) _ _ _ _ ?_
   replace hS := Below.refl a7.heap.size a7
   refine qac 0 rfl rfl (by kernel_rfl) (by kernel_rfl) (by kernel_rfl) (fun _ _ _ h => h) rfl (fun V hV => qae (v := .int .i64 ((n.devs.length : Nat) : Int)) rfl rfl) hS ?_; (try simp only [Act.put, lyy])
   refine qac 1 rfl rfl (by kernel_rfl) (by kernel_rfl) (by kernel_rfl) (fun _ _ _ h => h) rfl (fun V hV => qb4 (c := false) rfl rfl rfl (beq_eq_false_iff_ne.2 (by omega))) hS ?_; (try simp only [Act.put, lyy])
   refine qac 2 rfl rfl (by kernel_rfl) (by kernel_rfl) (by kernel_rfl) (fun _ _ _ h => h) rfl (fun V hV => qae (v := .bool false) rfl rfl) hS ?_; (try simp only [Act.put, lyy])
   refine qac 3 rfl rfl (by kernel_rfl) (by kernel_rfl) (by kernel_rfl) (fun _ _ _ h => h) rfl (fun V hV => qan (s := 0) (k := 34) rfl Tryd.underlying29 rfl (by kernel_rfl) rfl rfl) hS ?_; (try simp only [Act.put, lyy])
   refine qac 4 rfl rfl (by kernel_rfl) (by kernel_rfl) (by kernel_rfl) (fun _ _ _ h => h) rfl (fun V hV => qav rfl Tryd.underlying25 rfl rfl (((E.out.below hV).get (i := 2) rfl).c 34 _ (qal (by rw [List.length_map, k1])))) hS ?_; (try simp only [Act.put, lyy])
   refine qac 5 rfl rfl (by kernel_rfl) (by kernel_rfl) (by kernel_rfl) (fun _ _ _ h => h) rfl (fun V hV => qan (s := 0) (k := 34) rfl Tryd.underlying29 rfl (by kernel_rfl) rfl rfl) hS ?_; (try simp only [Act.put, lyy])
   refine qac 6 rfl rfl (by kernel_rfl) (by kernel_rfl) (by kernel_rfl) (fun _ _ _ h => h) rfl (fun V hV => qav rfl Tryd.underlying25 rfl rfl (((E.out.below hV).get (i := 1) rfl).c 34 _ (qal (by rw [List.length_map, k3])))) hS ?_; (try simp only [Act.put, lyy])
   refine qac 7 rfl rfl (by kernel_rfl) (by kernel_rfl) (by kernel_rfl) (fun _ _ _ h => h) rfl (fun V hV => qae (v := .int .i64 ((n.devs.length : Nat) : Int)) rfl rfl) hS ?_; (try simp only [Act.put, lyy])
   refine qac 8 rfl rfl (by kernel_rfl) (by kernel_rfl) (by kernel_rfl) (fun _ _ _ h => h) rfl (fun V hV => run_subN (a := n.devs.length) (b := 1) rfl rfl rfl (by omega) (by omega)) hS ?_; (try simp only [Act.put, lyy])
   refine qac 9 rfl rfl (by kernel_rfl) (by kernel_rfl) (by kernel_rfl) (fun _ _ _ h => h) rfl (fun V hV => run_sloZ (z := 33) rfl Tryd.underlying25 (by kernel_rfl) rfl rfl (by have := (E.out.below hV).f.2.cap; omega)) hS ?_; (try simp only [Act.put, lyy])
   refine qbi 10 (by kernel_rfl) rfl rfl rfl (qao enters_rsd rfl rfl rfl rfl) ((qbq (CE.out _ E.out.froF))) (fun v w h => hS.trans ((h.2).mono hS.size)) (fun v8 a9 hR => ?_); (try simp only [Act.put, lyy])
   obtain ⟨rfl, hb9⟩ := hR
   replace hS := hS.trans (hb9.mono hS.size)
   replace E := Lib.hid (E.out.below hb9)
   clear hb9
   refine qbg (S' := fun _ V => Below a9.heap.size a9 V) (fun _ V h => hS.trans (h.mono hS.size)) _ _ _ _ ?_
   replace hS := Below.refl a9.heap.size a9
   refine qac 11 rfl rfl (by kernel_rfl) (by kernel_rfl) (by kernel_rfl) (fun _ _ _ h => h) rfl (fun V hV => qc7 rfl rfl) hS ?_; (try simp only [Act.put, lyy])
   refine qac 12 rfl rfl (by kernel_rfl) (by kernel_rfl) (by kernel_rfl) (fun _ _ _ h => h) rfl (fun V hV => qaz (b := false) (v := .bool false) rfl rfl rfl) hS ?_; (try simp only [Act.put, lyy])
   refine qa2 (by kernel_rfl) ?_ _; refine NoPanic.normal ?_
   obtain ⟨g, fo, rfl, hg, hr⟩ := HA.out _ E.out.f.2
   have HR := Lib.hid hr
   clear hr HA
   go_upto_region 4 with fail; refine wp_region_lit ?_
   refine qaa (qan (s := 0) (k := 34) rfl Tryd.underlying29 rfl (by kernel_rfl) rfl rfl) rfl ?_; (try simp only [Act.put, lyy])
   refine qaa (qav rfl Tryd.underlying25 rfl rfl ((E.out.get (i := 1) rfl).c 34 _ (qal (by rw [List.length_map, k3])))) rfl ?_; (try simp only [Act.put, lyy])
   refine qaa (qae (v := .int .i64 ((n.devs.length : Nat) : Int)) rfl rfl) rfl ?_; (try simp only [Act.put, lyy])
   refine qaa (run_subN (a := n.devs.length) (b := 1) rfl rfl rfl (by omega) (by omega)) rfl ?_; (try simp only [Act.put, lyy])
   refine qaa (qcl (z := 33) rfl Tryd.underlying25 (by kernel_rfl) rfl rfl hk) rfl ?_; (try simp only [Act.put, lyy])
   refine qaa (qaj (vs := pkC q) rfl Tryd.underlying34 rfl (szR (qa9 hkl) (by kernel_rfl)) rfl HR.out) rfl ?_; (try simp only [Act.put, lyy])
   refine qag (qar (vs := pkC q) rfl (szR (qa9 hkl) (by kernel_rfl)) rfl rfl (One.all (qc2 hkl)) ((E.out.get (i := 0) rfl).thereM (by have q1 : (pkC q).length = 33 := (qa9 hkl); have q2 : (enR ((.int .i64 0)) (z8 32)).length = 33 := (qbn (qa7 32)); omega))) rfl rfl ?_
   replace E := Lib.hid (E.out.put 0 rfl (m := pkC q) ((show (pkC q).length = 33 from (qa9 hkl)).trans (show (enR ((.int .i64 0)) (z8 32)).length = 33 from (qbn (qa7 32))).symm))
   generalize a9.setCells g6 0 (pkC q) = a10 at *
   replace E := Lib.hid (show Ev _ [(g6, pkC q), (g4, lsR (.int .i64 n.acc) (.int .i64 n.ver) (n.ident.map b8) (.slice (some ⟨g, fo, none⟩) n.devs.length cr) (n.sig.map b8)), (g2, lsR (.int .i64 m.acc) (.int .i64 m.ver) (m.ident.map b8) (.slice a0 m.devs.length c0) (m.sig.map b8))] _ _ _ a10 from E.out)
   refine qaa (qaf (v := .bool true) rfl rfl) rfl ?_; (try simp only [Act.put, lyy])
   refine qab ?_
   go_wp2_with fail
   exact bodyPost_ret (v := .tuple #[.agg (pkC q).toArray, .bool true]) (qbm Tryd.results20 rfl Tryd.underlying34 rfl (szR (qa9 hkl) (by kernel_rfl)) (E.out.get (i := 0) rfl).range) rfl ⟨rfl, E.out.bl⟩
end Go.Proofs.YtcgbgmbnagmohaaDoor
namespace Go.Proofs.YtcgbgmbnagmohaaDoor
open Go.RowKit
set_option maxRecDepth 20000
attribute [local irreducible] wpList
theorem enters_rfd : Enters 19 := qaq Tryd.func19 (by kernel_rfl) rfl
theorem fd_hit {l : List MPk} {d : Int} {j : Nat} (hj : j < l.length) (h : l[j].id = d) (h2 : ∀ (i : Nat) (p : MPk), i < j → l[i]? = some p → p.id ≠ d) : fdK l d = l[j].key ∧ fdB l d = true := by
 have e := fdN_hit hj h h2
 refine ⟨?_, decide_eq_true (by rw [e]; exact hj)⟩
 unfold fdK
 rw [e, List.getD_eq_getElem?_getD, List.getElem?_eq_getElem hj]
 rfl
theorem fd_none {l : List MPk} {d : Int} (h2 : ∀ (i : Nat) (p : MPk), l[i]? = some p → p.id ≠ d) : fdK l d = k0 ∧ fdB l d = false := by
 have e := fdN_none h2
 refine ⟨?_, decide_eq_false (by rw [e]; exact Nat.lt_irrefl _)⟩
 unfold fdK
 rw [e, List.getD_eq_getElem?_getD, List.getElem?_eq_none (Nat.le_refl _)]
 rfl
theorem k0_builtR : Tryd.prog.built 24 [] = some (k0.map b8).toArray := by kernel_rfl
set_option maxHeartbeats 8000000 in
theorem rfd_any (m : MLs) (X : List Value) (d : Int) (w : World) (hm : m.Ok) (hX : Fro 0 (lsAt m X) w) : Calls Tryd.prog 19 #[.agg X.toArray, .int .i64 d] w fun e w' => e = .returned (.tuple #[.agg ((fdK m.devs d).map b8).toArray, .bool (fdB m.devs d)]) ∧ Below w.heap.size w w' := by
 obtain ⟨a0, c0, rfl, HF⟩ := qcx hm hX
 have k1 := hm.ident
 have k2 := hm.sig
 have HDV := Lib.hid hm.devs
 have hmany := hm.many
 have E := Lib.hid (Ev.start (w := w) (F := SlR 33 pkAt m.devs a0 c0) HF)
 have KZ := Lib.hid k0_builtR
 have lz : k0.length = 32 := rfl
 have HH : Hid (∀ (j : Nat) (hj : j < m.devs.length), m.devs[j].id = d → (∀ (i : Nat) (p : MPk), i < j → m.devs[i]? = some p → p.id ≠ d) → fdK m.devs d = m.devs[j].key ∧ fdB m.devs d = true) := Lib.hid fun j hj h1 h2 => fd_hit hj h1 h2
 have HZ : Hid ((∀ (i : Nat) (p : MPk), m.devs[i]? = some p → p.id ≠ d) → fdK m.devs d = k0 ∧ fdB m.devs d = false) := Lib.hid fun h => fd_none h
 clear hX HF hm
 generalize fdK m.devs d = rk at *
 generalize fdB m.devs d = rb at *
 generalize k0 = z at *
 go_enter Tryd.func19, Tryd.ntmps19
 go_upto_region 0 with fail; refine wp_region_lit ?_
 refine qaa (qau (vs := lsR (.int .i64 m.acc) (.int .i64 m.ver) (m.ident.map b8) (.slice a0 m.devs.length c0) (m.sig.map b8)) rfl rfl) rfl ?_; (try simp only [Act.put, lyy])
 replace E := Lib.hid (E.out.new (lsR (.int .i64 m.acc) (.int .i64 m.ver) (m.ident.map b8) (.slice a0 m.devs.length c0) (m.sig.map b8)) 29)
 generalize w.alloc (.cells (lsR (.int .i64 m.acc) (.int .i64 m.ver) (m.ident.map b8) (.slice a0 m.devs.length c0) (m.sig.map b8)).toArray 29) = a1 at *
 generalize w.heap.size = g2 at *
 refine qaa (qat (vs := z8 32) rfl (by kernel_rfl)) rfl ?_; (try simp only [Act.put, lyy])
 replace E := Lib.hid (E.out.new (z8 32) 24)
 generalize a1.alloc (.cells (z8 32).toArray 24) = a3 at *
 generalize a1.heap.size = g4 at *
 refine qaa (qaf (v := .bool false) rfl rfl) rfl ?_; (try simp only [Act.put, lyy])
 refine qab ?_
 go_upto_region 1 with fail; refine wp_region_lit ?_
 refine qaa (qaf (v := .int .i64 0) rfl rfl) rfl ?_; (try simp only [Act.put, lyy])
 refine qab ?_
 go_wp2_with fail
 go_loopw [6] (fun s6 u => ∃ j : Nat, s6 = .int .i64 (j : Int) ∧ j ≤ m.devs.length ∧ Hid (∀ (i : Nat) (p : MPk), i < j → m.devs[i]? = some p → p.id ≠ d) ∧ Ev w [(g4, z8 32), (g2, lsR (.int .i64 m.acc) (.int .i64 m.ver) (m.ident.map b8) (.slice a0 m.devs.length c0) (m.sig.map b8))] [] (SlR 33 pkAt m.devs a0 c0) (fun _ => True) u) (fun s6 _ => ((m.devs.length : Int) - intOf s6).toNat)
 case atStart => exact ⟨0, rfl, Nat.zero_le _, Lib.hid fun i p hi => absurd hi (Nat.not_lt_zero _), E.out⟩
 case round =>
  obtain ⟨j, rfl, hj, HJ, hE⟩ := hrel
  replace E := Lib.hid hE
  clear hE
  by_cases hjm : j = m.devs.length
  ·go_upto_region 2 with fail; refine wp_region_lit ?_
   refine qaa (qae (v := .int .i64 (j : Int)) rfl rfl) rfl ?_; (try simp only [Act.put, lyy])
   refine qaa (qan (s := 0) (k := 34) rfl Tryd.underlying29 rfl (by kernel_rfl) rfl rfl) rfl ?_; (try simp only [Act.put, lyy])
   refine qaa (qav rfl Tryd.underlying25 rfl rfl ((E.out.get (i := 1) rfl).c 34 _ (qal (by rw [List.length_map, k1])))) rfl ?_; (try simp only [Act.put, lyy])
   refine qaa (qbe rfl Tryd.underlying25 rfl) rfl ?_; (try simp only [Act.put, lyy])
   refine qaa (qbr (c := false) rfl rfl rfl (decide_eq_false (by omega))) rfl ?_; (try simp only [Act.put, lyy])
   refine qab ?_
   obtain ⟨e1, e2⟩ := HZ.out fun i p hp => HJ.out i p (by rcases Nat.lt_or_ge i j with h | h; exact h; rw [List.getElem?_eq_none (by omega)] at hp; cases hp) hp
   have R1 := Lib.hid e1
   have R2 := Lib.hid e2
   clear e1 e2
   go_upto_region 6 with fail; refine wp_region_lit ?_
   refine qaa (qcb (ps := []) rfl rfl KZ.out) rfl ?_; (try simp only [Act.put, lyy])
   refine qag (qar (vs := z.map b8) rfl (szR (by rw [List.length_map, lz]) (by kernel_rfl)) rfl rfl (One.all (One.b8 _)) ((E.out.get (i := 0) rfl).thereM (by have q1 : (z.map b8).length = 32 := (by rw [List.length_map, lz]); have q2 : (z8 32).length = 32 := (qa7 32); omega))) rfl rfl ?_
   replace E := Lib.hid (E.out.put 0 rfl (m := z.map b8) ((show (z.map b8).length = 32 from (by rw [List.length_map, lz])).trans (show (z8 32).length = 32 from (qa7 32)).symm))
   generalize wr.setCells g4 0 (z.map b8) = a5 at *
   replace E := Lib.hid (show Ev _ [(g4, z.map b8), (g2, lsR (.int .i64 m.acc) (.int .i64 m.ver) (m.ident.map b8) (.slice a0 m.devs.length c0) (m.sig.map b8))] _ _ _ a5 from E.out)
   refine qaa (qaf (v := .bool false) rfl rfl) rfl ?_; (try simp only [Act.put, lyy])
   refine qab ?_
   go_wp2_with fail
   exact bodyPost_ret (v := .tuple #[.agg (z.map b8).toArray, .bool false]) (qbm Tryd.results19 rfl Tryd.underlying24 rfl (szR (by rw [List.length_map, lz]) (by kernel_rfl)) (E.out.get (i := 0) rfl).range) rfl ⟨by rw [R1.out, R2.out], E.out.bl⟩
  ·have hjl : j < m.devs.length := by omega
   obtain ⟨g, fo, rfl, hg, -⟩ := pk_at E.out.f hjl
   have HP : Hid (∀ V, SlR 33 pkAt m.devs (some ⟨g, fo, none⟩) c0 V → V.rangeAt g (fo + j * 33) (pkC m.devs[j])) := Lib.hid fun V h => pk_at2 h hjl
   have hkl := HDV.out _ (List.getElem_mem hjl)
   have HE1 := Lib.hid (List.getElem?_eq_getElem hjl)
   have HQ := Lib.hid (HH.out j hjl)
   generalize m.devs[j] = q at *
   go_upto_region 2 with fail; refine wp_region_lit ?_
   refine qaa (qae (v := .int .i64 (j : Int)) rfl rfl) rfl ?_; (try simp only [Act.put, lyy])
   refine qaa (qan (s := 0) (k := 34) rfl Tryd.underlying29 rfl (by kernel_rfl) rfl rfl) rfl ?_; (try simp only [Act.put, lyy])
   refine qaa (qav rfl Tryd.underlying25 rfl rfl ((E.out.get (i := 1) rfl).c 34 _ (qal (by rw [List.length_map, k1])))) rfl ?_; (try simp only [Act.put, lyy])
   refine qaa (qbe rfl Tryd.underlying25 rfl) rfl ?_; (try simp only [Act.put, lyy])
   refine qaa (qbr (c := true) rfl rfl rfl (decide_eq_true (by omega))) rfl ?_; (try simp only [Act.put, lyy])
   refine qab ?_
   have HC : Hid (wr.cell? ⟨g, fo + j * 33 + 0, none⟩ = some (.int .i64 q.id)) := Lib.hid (HP.out _ E.out.f 0 _ rfl)
   go_upto_region 4 with fail; refine wp_region_lit ?_
   refine qaa (qan (s := 0) (k := 34) rfl Tryd.underlying29 rfl (by kernel_rfl) rfl rfl) rfl ?_; (try simp only [Act.put, lyy])
   refine qaa (qav rfl Tryd.underlying25 rfl rfl ((E.out.get (i := 1) rfl).c 34 _ (qal (by rw [List.length_map, k1])))) rfl ?_; (try simp only [Act.put, lyy])
   refine qaa (qae (v := .int .i64 (j : Int)) rfl rfl) rfl ?_; (try simp only [Act.put, lyy])
   refine qaa (qcl (z := 33) rfl Tryd.underlying25 (by kernel_rfl) rfl rfl (by omega)) rfl ?_; (try simp only [Act.put, lyy])
   refine qaa (qan (s := 0) (k := 0) rfl Tryd.underlying34 rfl (by kernel_rfl) rfl rfl) rfl ?_; (try simp only [Act.put, lyy])
   refine qaa (qav rfl Tryd.underlying3 rfl rfl HC.out) rfl ?_; (try simp only [Act.put, lyy])
   refine qaa (qae (v := .int .i64 d) rfl rfl) rfl ?_; (try simp only [Act.put, lyy])
   refine qaa (qb4 (c := decide (q.id = d)) rfl rfl rfl (by rw [Bool.eq_iff_iff]; simp)) rfl ?_; (try simp only [Act.put, lyy])
   clear HC
   refine qab ?_
   by_cases hq : q.id = d
   ·rw [decide_eq_true hq]
    obtain ⟨e1, e2⟩ := HQ.out hq HJ.out
    have R1 := Lib.hid e1
    have R2 := Lib.hid e2
    clear e1 e2
    have hr := HP.out _ E.out.f
    rw [pkC_en] at hr
    have HR : Hid (wr.rangeAt g (fo + j * 33 + 1) (q.key.map b8)) := Lib.hid (by have h6 := qcc (k := 32) (qcd (k := 1) hr); rwa [enR_Key (by rw [List.length_map, hkl])] at h6)
    clear hr
    go_upto_region 5 with fail; refine wp_region_lit ?_
    refine qaa (qan (s := 0) (k := 34) rfl Tryd.underlying29 rfl (by kernel_rfl) rfl rfl) rfl ?_; (try simp only [Act.put, lyy])
    refine qaa (qav rfl Tryd.underlying25 rfl rfl ((E.out.get (i := 1) rfl).c 34 _ (qal (by rw [List.length_map, k1])))) rfl ?_; (try simp only [Act.put, lyy])
    refine qaa (qae (v := .int .i64 (j : Int)) rfl rfl) rfl ?_; (try simp only [Act.put, lyy])
    refine qaa (qcl (z := 33) rfl Tryd.underlying25 (by kernel_rfl) rfl rfl (by omega)) rfl ?_; (try simp only [Act.put, lyy])
    refine qaa (qan (s := 31) (k := 1) rfl Tryd.underlying34 rfl (by kernel_rfl) rfl rfl) rfl ?_; (try simp only [Act.put, lyy])
    refine qaa (qaj (vs := q.key.map b8) rfl Tryd.underlying24 rfl (szR (by rw [List.length_map, hkl]) (by kernel_rfl)) rfl HR.out) rfl ?_; (try simp only [Act.put, lyy])
    refine qag (qar (vs := q.key.map b8) rfl (szR (by rw [List.length_map, hkl]) (by kernel_rfl)) rfl rfl (One.all (One.b8 _)) ((E.out.get (i := 0) rfl).thereM (by have q1 : (q.key.map b8).length = 32 := (by rw [List.length_map, hkl]); have q2 : (z8 32).length = 32 := (qa7 32); omega))) rfl rfl ?_
    replace E := Lib.hid (E.out.put 0 rfl (m := q.key.map b8) ((show (q.key.map b8).length = 32 from (by rw [List.length_map, hkl])).trans (show (z8 32).length = 32 from (qa7 32)).symm))
    generalize wr.setCells g4 0 (q.key.map b8) = a5 at *
    replace E := Lib.hid (show Ev _ [(g4, q.key.map b8), (g2, lsR (.int .i64 m.acc) (.int .i64 m.ver) (m.ident.map b8) (.slice (some ⟨g, fo, none⟩) m.devs.length c0) (m.sig.map b8))] _ _ _ a5 from E.out)
    refine qaa (qaf (v := .bool true) rfl rfl) rfl ?_; (try simp only [Act.put, lyy])
    refine qab ?_
    go_wp2_with fail
    exact bodyPost_ret (v := .tuple #[.agg (q.key.map b8).toArray, .bool true]) (qbm Tryd.results19 rfl Tryd.underlying24 rfl (szR (by rw [List.length_map, hkl]) (by kernel_rfl)) (E.out.get (i := 0) rfl).range) rfl ⟨by rw [R1.out, R2.out], E.out.bl⟩
   ·rw [decide_eq_false hq]
    go_upto_region 3 with fail; refine wp_region_lit ?_
    refine qaa (qae (v := .int .i64 (j : Int)) rfl rfl) rfl ?_; (try simp only [Act.put, lyy])
    refine qaa (qb1 (a := j) (b := 1) rfl rfl rfl (by omega)) rfl ?_; (try simp only [Act.put, lyy])
    refine qaa (qaf (v := .int .i64 ((j + 1 : Nat) : Int)) rfl rfl) rfl ?_; (try simp only [Act.put, lyy])
    refine qab ?_
    have NX : Hid (∀ (i : Nat) (p : MPk), i < j + 1 → m.devs[i]? = some p → p.id ≠ d) := Lib.hid fun i p hi hp => by
     rcases Nat.lt_or_ge i j with h9 | h9
     ·exact HJ.out i p h9 hp
     ·obtain rfl : i = j := by omega
      rw [HE1.out] at hp
      cases hp
      exact hq
    go_wp2_with fail
    exact ⟨⟨j + 1, rfl, by omega, NX, E.out⟩, by simp [intOf]; omega⟩
end Go.Proofs.YtcgbgmbnagmohaaDoor
namespace Go.Proofs.YtcgbgmbnagmohaaDoor
open Go.RowKit
set_option maxRecDepth 20000
attribute [local irreducible] wpList
theorem run_eqBt {w : World} {ρ : Operand → Value} {o : Oper} {x y : Operand} {t t' : TypeId} {a : Bool} (ho : o.op = .binOp .eql t x y t') (ht : Tryd.prog.underlying t = some .bool) (hx : ρ x = .bool a) (hy : ρ y = .bool a) : (execOp ρ o).run Tryd.prog w = .ok (.value (.bool true)) w := by
 obtain ⟨dst, op, type, pos, after, guard⟩ := o
 subst ho
 have h := run_equalIn_bool' (P := Tryd.prog) w 9999 t a a ht
 have h2 : (binOp .eql t (.bool a) (.bool a)).run Tryd.prog w = .ok (.bool (a == a)) w := by
  simp only [binOp]
  simp [Op.equal, Op.maxDepth, h]
 rw [show (a == a) = true by simp] at h2
 go_simp
theorem getD_key {l : List MPk} (h : ∀ p ∈ l, p.key.length = 32) (i : Nat) : (l.getD i pk0).key.length = 32 := by
 rw [List.getD_eq_getElem?_getD]
 cases e : l[i]? with
 | none => rfl
 | some p => exact h p (List.mem_of_getElem? e)
theorem fdK_l32 {l : List MPk} (h : ∀ p ∈ l, p.key.length = 32) (d : Int) : (fdK l d).length = 32 := getD_key h _
theorem adP_len {l m : List MPk} (h : ∀ p ∈ m, p.key.length = 32) : (adP l m).key.length = 32 := by
 unfold adP
 split
 ·exact getD_key h _
 ·rfl
theorem rmP_len {l m : List MPk} (h : ∀ p ∈ l, p.key.length = 32) : (rmP l m).key.length = 32 := by
 unfold rmP
 split
 ·exact getD_key h _
 ·rfl
theorem qbz : Enters 10 := qaq Tryd.func10 (by kernel_rfl) rfl
set_option maxHeartbeats 8000000 in
theorem qck (m n : MLs) (X Y : List Value) (d : Int) (w : World) (hm : m.Ok) (hn : n.Ok) (hX : Fro 0 (lsAt m X) w) (hY : Fro 0 (lsAt n Y) w) : Calls Tryd.prog 10 #[.agg X.toArray, .agg Y.toArray, .int .i64 d] w fun e w' => e = .returned (.bool true) ∧ Below w.heap.size w w' := by
 obtain ⟨a0, c0, rfl, -⟩ := qcx hm hX
 obtain ⟨ar, cr, rfl, -⟩ := qcx hn hY
 have k1 := hm.ident
 have k2 := hm.sig
 have k3 := hn.ident
 have k4 := hn.sig
 have E := Lib.hid (Ev.start (w := w) (F := fun _ => True) fun _ _ => trivial)
 have C1 := Lib.hid fun (u : World) (hu : Since w u) => find_any m _ d u hm (hX.below hu)
 have C2 := Lib.hid fun (u : World) (hu : Since w u) => rfd_any m _ d u hm (hX.below hu)
 have C3 := Lib.hid fun (u : World) (hu : Since w u) => added_any m n _ _ u hm hn (hX.below hu) (hY.below hu)
 have C4 := Lib.hid fun (u : World) (hu : Since w u) => rad_any m n _ _ u hm hn (hX.below hu) (hY.below hu)
 have C5 := Lib.hid fun (u : World) (hu : Since w u) => removed_any m n _ _ u hm hn (hX.below hu) (hY.below hu)
 have C6 := Lib.hid fun (u : World) (hu : Since w u) => rrm_any m n _ _ u hm hn (hX.below hu) (hY.below hu)
 have hK := fdK_l32 hm.devs d
 have hP := adP_len (l := m.devs) hn.devs
 have hQ := rmP_len (m := n.devs) hm.devs
 clear hX hY hm hn
 generalize fdK m.devs d = K at *
 generalize fdB m.devs d = KB at *
 generalize adP m.devs n.devs = P at *
 generalize adB m.devs n.devs = PB at *
 generalize rmP m.devs n.devs = Q at *
 generalize rmB m.devs n.devs = QB at *
 go_enter Tryd.func10, Tryd.ntmps10
 go_upto_region 0 with fail; refine wp_region_lit ?_
 refine qaa (qau (vs := lsR (.int .i64 m.acc) (.int .i64 m.ver) (m.ident.map b8) (.slice a0 m.devs.length c0) (m.sig.map b8)) rfl rfl) rfl ?_; (try simp only [Act.put, lyy])
 replace E := Lib.hid (E.out.new (lsR (.int .i64 m.acc) (.int .i64 m.ver) (m.ident.map b8) (.slice a0 m.devs.length c0) (m.sig.map b8)) 29)
 generalize w.alloc (.cells (lsR (.int .i64 m.acc) (.int .i64 m.ver) (m.ident.map b8) (.slice a0 m.devs.length c0) (m.sig.map b8)).toArray 29) = a1 at *
 generalize w.heap.size = g2 at *
 refine qaa (qau (vs := lsR (.int .i64 n.acc) (.int .i64 n.ver) (n.ident.map b8) (.slice ar n.devs.length cr) (n.sig.map b8)) rfl rfl) rfl ?_; (try simp only [Act.put, lyy])
 replace E := Lib.hid (E.out.new (lsR (.int .i64 n.acc) (.int .i64 n.ver) (n.ident.map b8) (.slice ar n.devs.length cr) (n.sig.map b8)) 29)
 generalize a1.alloc (.cells (lsR (.int .i64 n.acc) (.int .i64 n.ver) (n.ident.map b8) (.slice ar n.devs.length cr) (n.sig.map b8)).toArray 29) = a3 at *
 generalize a1.heap.size = g4 at *
 refine qaa (qaf (v := .bool false) rfl rfl) rfl ?_; (try simp only [Act.put, lyy])
 refine qab ?_
 go_upto_region 1 with fail; refine wp_region_lit ?_
 refine qaa (qaj (vs := lsR (.int .i64 m.acc) (.int .i64 m.ver) (m.ident.map b8) (.slice a0 m.devs.length c0) (m.sig.map b8)) rfl Tryd.underlying29 rfl (szR (qas (by rw [List.length_map, k1]) (by rw [List.length_map, k2])) (by kernel_rfl)) rfl (E.out.get (i := 1) rfl).range) rfl ?_; (try simp only [Act.put, lyy])
 refine qaa (qae (v := .int .i64 d) rfl rfl) rfl ?_; (try simp only [Act.put, lyy])
 refine qam (qao enters_find rfl rfl rfl rfl) rfl (C1.out _ E.out.bl) (fun a5 hb => ?_); (try simp only [Act.put, lyy])
 replace E := Lib.hid (E.out.below hb)
 clear hb
 refine qaa (qae (v := .tuple #[.agg (K.map b8).toArray, .bool KB]) rfl rfl) rfl ?_; (try simp only [Act.put, lyy])
 refine qaa (qbt (v := .agg (K.map b8).toArray) rfl rfl rfl) rfl ?_; (try simp only [Act.put, lyy])
 refine qaa (qbt (v := .bool KB) rfl rfl rfl) rfl ?_; (try simp only [Act.put, lyy])
 refine qaa (qat (vs := z8 32) rfl (by kernel_rfl)) rfl ?_; (try simp only [Act.put, lyy])
 replace E := Lib.hid (E.out.new (z8 32) 24)
 generalize a5.alloc (.cells (z8 32).toArray 24) = a6 at *
 generalize a5.heap.size = g7 at *
 refine qag (qar (vs := K.map b8) rfl (szR (by rw [List.length_map, hK]) (by kernel_rfl)) rfl rfl (One.all (One.b8 _)) ((E.out.get (i := 0) rfl).thereM (by have q1 : (K.map b8).length = 32 := (by rw [List.length_map, hK]); have q2 : (z8 32).length = 32 := (qa7 32); omega))) rfl rfl ?_
 replace E := Lib.hid (E.out.put 0 rfl (m := K.map b8) ((show (K.map b8).length = 32 from (by rw [List.length_map, hK])).trans (show (z8 32).length = 32 from (qa7 32)).symm))
 generalize a6.setCells g7 0 (K.map b8) = a8 at *
 replace E := Lib.hid (show Ev _ [(g7, K.map b8), (g4, lsR (.int .i64 n.acc) (.int .i64 n.ver) (n.ident.map b8) (.slice ar n.devs.length cr) (n.sig.map b8)), (g2, lsR (.int .i64 m.acc) (.int .i64 m.ver) (m.ident.map b8) (.slice a0 m.devs.length c0) (m.sig.map b8))] _ _ _ a8 from E.out)
 refine qaa (qaf (v := .bool KB) rfl rfl) rfl ?_; (try simp only [Act.put, lyy])
 refine qab ?_
 go_upto_region 2 with fail; refine wp_region_lit ?_
 refine qaa (qaj (vs := lsR (.int .i64 m.acc) (.int .i64 m.ver) (m.ident.map b8) (.slice a0 m.devs.length c0) (m.sig.map b8)) rfl Tryd.underlying29 rfl (szR (qas (by rw [List.length_map, k1]) (by rw [List.length_map, k2])) (by kernel_rfl)) rfl (E.out.get (i := 2) rfl).range) rfl ?_; (try simp only [Act.put, lyy])
 refine qaa (qae (v := .int .i64 d) rfl rfl) rfl ?_; (try simp only [Act.put, lyy])
 refine qam (qao enters_rfd rfl rfl rfl rfl) rfl (C2.out _ E.out.bl) (fun a9 hb => ?_); (try simp only [Act.put, lyy])
 replace E := Lib.hid (E.out.below hb)
 clear hb
 refine qaa (qae (v := .tuple #[.agg (K.map b8).toArray, .bool KB]) rfl rfl) rfl ?_; (try simp only [Act.put, lyy])
 refine qaa (qbt (v := .agg (K.map b8).toArray) rfl rfl rfl) rfl ?_; (try simp only [Act.put, lyy])
 refine qaa (qbt (v := .bool KB) rfl rfl rfl) rfl ?_; (try simp only [Act.put, lyy])
 refine qaa (qat (vs := z8 32) rfl (by kernel_rfl)) rfl ?_; (try simp only [Act.put, lyy])
 replace E := Lib.hid (E.out.new (z8 32) 24)
 generalize a9.alloc (.cells (z8 32).toArray 24) = a10 at *
 generalize a9.heap.size = g11 at *
 refine qag (qar (vs := K.map b8) rfl (szR (by rw [List.length_map, hK]) (by kernel_rfl)) rfl rfl (One.all (One.b8 _)) ((E.out.get (i := 0) rfl).thereM (by have q1 : (K.map b8).length = 32 := (by rw [List.length_map, hK]); have q2 : (z8 32).length = 32 := (qa7 32); omega))) rfl rfl ?_
 replace E := Lib.hid (E.out.put 0 rfl (m := K.map b8) ((show (K.map b8).length = 32 from (by rw [List.length_map, hK])).trans (show (z8 32).length = 32 from (qa7 32)).symm))
 generalize a10.setCells g11 0 (K.map b8) = a12 at *
 replace E := Lib.hid (show Ev _ [(g11, K.map b8), (g7, K.map b8), (g4, lsR (.int .i64 n.acc) (.int .i64 n.ver) (n.ident.map b8) (.slice ar n.devs.length cr) (n.sig.map b8)), (g2, lsR (.int .i64 m.acc) (.int .i64 m.ver) (m.ident.map b8) (.slice a0 m.devs.length c0) (m.sig.map b8))] _ _ _ a12 from E.out)
 refine qaa (qaf (v := .bool KB) rfl rfl) rfl ?_; (try simp only [Act.put, lyy])
 refine qab ?_
 go_upto_region 3 with fail; refine wp_region_lit ?_
 refine qaa (qaj (vs := lsR (.int .i64 m.acc) (.int .i64 m.ver) (m.ident.map b8) (.slice a0 m.devs.length c0) (m.sig.map b8)) rfl Tryd.underlying29 rfl (szR (qas (by rw [List.length_map, k1]) (by rw [List.length_map, k2])) (by kernel_rfl)) rfl (E.out.get (i := 3) rfl).range) rfl ?_; (try simp only [Act.put, lyy])
 refine qaa (qaj (vs := lsR (.int .i64 n.acc) (.int .i64 n.ver) (n.ident.map b8) (.slice ar n.devs.length cr) (n.sig.map b8)) rfl Tryd.underlying29 rfl (szR (qas (by rw [List.length_map, k3]) (by rw [List.length_map, k4])) (by kernel_rfl)) rfl (E.out.get (i := 2) rfl).range) rfl ?_; (try simp only [Act.put, lyy])
 refine qam (qao enters_added rfl rfl rfl rfl) rfl (C3.out _ E.out.bl) (fun a13 hb => ?_); (try simp only [Act.put, lyy])
 replace E := Lib.hid (E.out.below hb)
 clear hb
 refine qaa (qae (v := .tuple #[.agg (pkC P).toArray, .bool PB]) rfl rfl) rfl ?_; (try simp only [Act.put, lyy])
 refine qaa (qbt (v := .agg (pkC P).toArray) rfl rfl rfl) rfl ?_; (try simp only [Act.put, lyy])
 refine qaa (qbt (v := .bool PB) rfl rfl rfl) rfl ?_; (try simp only [Act.put, lyy])
 refine qaa (qat (vs := enR ((.int .i64 0)) (z8 32)) rfl (by kernel_rfl)) rfl ?_; (try simp only [Act.put, lyy])
 replace E := Lib.hid (E.out.new (enR ((.int .i64 0)) (z8 32)) 34)
 generalize a13.alloc (.cells (enR ((.int .i64 0)) (z8 32)).toArray 34) = a14 at *
 generalize a13.heap.size = g15 at *
 refine qag (qar (vs := pkC P) rfl (szR (qa9 hP) (by kernel_rfl)) rfl rfl (One.all (qc2 hP)) ((E.out.get (i := 0) rfl).thereM (by have q1 : (pkC P).length = 33 := (qa9 hP); have q2 : (enR ((.int .i64 0)) (z8 32)).length = 33 := (qbn (qa7 32)); omega))) rfl rfl ?_
 replace E := Lib.hid (E.out.put 0 rfl (m := pkC P) ((show (pkC P).length = 33 from (qa9 hP)).trans (show (enR ((.int .i64 0)) (z8 32)).length = 33 from (qbn (qa7 32))).symm))
 generalize a14.setCells g15 0 (pkC P) = a16 at *
 replace E := Lib.hid (show Ev _ [(g15, pkC P), (g11, K.map b8), (g7, K.map b8), (g4, lsR (.int .i64 n.acc) (.int .i64 n.ver) (n.ident.map b8) (.slice ar n.devs.length cr) (n.sig.map b8)), (g2, lsR (.int .i64 m.acc) (.int .i64 m.ver) (m.ident.map b8) (.slice a0 m.devs.length c0) (m.sig.map b8))] _ _ _ a16 from E.out)
 refine qaa (qaf (v := .bool PB) rfl rfl) rfl ?_; (try simp only [Act.put, lyy])
 refine qab ?_
 go_upto_region 4 with fail; refine wp_region_lit ?_
 refine qaa (qaj (vs := lsR (.int .i64 m.acc) (.int .i64 m.ver) (m.ident.map b8) (.slice a0 m.devs.length c0) (m.sig.map b8)) rfl Tryd.underlying29 rfl (szR (qas (by rw [List.length_map, k1]) (by rw [List.length_map, k2])) (by kernel_rfl)) rfl (E.out.get (i := 4) rfl).range) rfl ?_; (try simp only [Act.put, lyy])
 refine qaa (qaj (vs := lsR (.int .i64 n.acc) (.int .i64 n.ver) (n.ident.map b8) (.slice ar n.devs.length cr) (n.sig.map b8)) rfl Tryd.underlying29 rfl (szR (qas (by rw [List.length_map, k3]) (by rw [List.length_map, k4])) (by kernel_rfl)) rfl (E.out.get (i := 3) rfl).range) rfl ?_; (try simp only [Act.put, lyy])
 refine qam (qao enters_rad rfl rfl rfl rfl) rfl (C4.out _ E.out.bl) (fun a17 hb => ?_); (try simp only [Act.put, lyy])
 replace E := Lib.hid (E.out.below hb)
 clear hb
 refine qaa (qae (v := .tuple #[.agg (pkC P).toArray, .bool PB]) rfl rfl) rfl ?_; (try simp only [Act.put, lyy])
 refine qaa (qbt (v := .agg (pkC P).toArray) rfl rfl rfl) rfl ?_; (try simp only [Act.put, lyy])
 refine qaa (qbt (v := .bool PB) rfl rfl rfl) rfl ?_; (try simp only [Act.put, lyy])
 refine qaa (qat (vs := enR ((.int .i64 0)) (z8 32)) rfl (by kernel_rfl)) rfl ?_; (try simp only [Act.put, lyy])
 replace E := Lib.hid (E.out.new (enR ((.int .i64 0)) (z8 32)) 34)
 generalize a17.alloc (.cells (enR ((.int .i64 0)) (z8 32)).toArray 34) = a18 at *
 generalize a17.heap.size = g19 at *
 refine qag (qar (vs := pkC P) rfl (szR (qa9 hP) (by kernel_rfl)) rfl rfl (One.all (qc2 hP)) ((E.out.get (i := 0) rfl).thereM (by have q1 : (pkC P).length = 33 := (qa9 hP); have q2 : (enR ((.int .i64 0)) (z8 32)).length = 33 := (qbn (qa7 32)); omega))) rfl rfl ?_
 replace E := Lib.hid (E.out.put 0 rfl (m := pkC P) ((show (pkC P).length = 33 from (qa9 hP)).trans (show (enR ((.int .i64 0)) (z8 32)).length = 33 from (qbn (qa7 32))).symm))
 generalize a18.setCells g19 0 (pkC P) = a20 at *
 replace E := Lib.hid (show Ev _ [(g19, pkC P), (g15, pkC P), (g11, K.map b8), (g7, K.map b8), (g4, lsR (.int .i64 n.acc) (.int .i64 n.ver) (n.ident.map b8) (.slice ar n.devs.length cr) (n.sig.map b8)), (g2, lsR (.int .i64 m.acc) (.int .i64 m.ver) (m.ident.map b8) (.slice a0 m.devs.length c0) (m.sig.map b8))] _ _ _ a20 from E.out)
 refine qaa (qaf (v := .bool PB) rfl rfl) rfl ?_; (try simp only [Act.put, lyy])
 refine qab ?_
 go_upto_region 5 with fail; refine wp_region_lit ?_
 refine qaa (qaj (vs := lsR (.int .i64 m.acc) (.int .i64 m.ver) (m.ident.map b8) (.slice a0 m.devs.length c0) (m.sig.map b8)) rfl Tryd.underlying29 rfl (szR (qas (by rw [List.length_map, k1]) (by rw [List.length_map, k2])) (by kernel_rfl)) rfl (E.out.get (i := 5) rfl).range) rfl ?_; (try simp only [Act.put, lyy])
 refine qaa (qaj (vs := lsR (.int .i64 n.acc) (.int .i64 n.ver) (n.ident.map b8) (.slice ar n.devs.length cr) (n.sig.map b8)) rfl Tryd.underlying29 rfl (szR (qas (by rw [List.length_map, k3]) (by rw [List.length_map, k4])) (by kernel_rfl)) rfl (E.out.get (i := 4) rfl).range) rfl ?_; (try simp only [Act.put, lyy])
 refine qam (qao enters_removed rfl rfl rfl rfl) rfl (C5.out _ E.out.bl) (fun a21 hb => ?_); (try simp only [Act.put, lyy])
 replace E := Lib.hid (E.out.below hb)
 clear hb
 refine qaa (qae (v := .tuple #[.agg (pkC Q).toArray, .bool QB]) rfl rfl) rfl ?_; (try simp only [Act.put, lyy])
 refine qaa (qbt (v := .agg (pkC Q).toArray) rfl rfl rfl) rfl ?_; (try simp only [Act.put, lyy])
 refine qaa (qbt (v := .bool QB) rfl rfl rfl) rfl ?_; (try simp only [Act.put, lyy])
 refine qaa (qat (vs := enR ((.int .i64 0)) (z8 32)) rfl (by kernel_rfl)) rfl ?_; (try simp only [Act.put, lyy])
 replace E := Lib.hid (E.out.new (enR ((.int .i64 0)) (z8 32)) 34)
 generalize a21.alloc (.cells (enR ((.int .i64 0)) (z8 32)).toArray 34) = a22 at *
 generalize a21.heap.size = g23 at *
 refine qag (qar (vs := pkC Q) rfl (szR (qa9 hQ) (by kernel_rfl)) rfl rfl (One.all (qc2 hQ)) ((E.out.get (i := 0) rfl).thereM (by have q1 : (pkC Q).length = 33 := (qa9 hQ); have q2 : (enR ((.int .i64 0)) (z8 32)).length = 33 := (qbn (qa7 32)); omega))) rfl rfl ?_
 replace E := Lib.hid (E.out.put 0 rfl (m := pkC Q) ((show (pkC Q).length = 33 from (qa9 hQ)).trans (show (enR ((.int .i64 0)) (z8 32)).length = 33 from (qbn (qa7 32))).symm))
 generalize a22.setCells g23 0 (pkC Q) = a24 at *
 replace E := Lib.hid (show Ev _ [(g23, pkC Q), (g19, pkC P), (g15, pkC P), (g11, K.map b8), (g7, K.map b8), (g4, lsR (.int .i64 n.acc) (.int .i64 n.ver) (n.ident.map b8) (.slice ar n.devs.length cr) (n.sig.map b8)), (g2, lsR (.int .i64 m.acc) (.int .i64 m.ver) (m.ident.map b8) (.slice a0 m.devs.length c0) (m.sig.map b8))] _ _ _ a24 from E.out)
 refine qaa (qaf (v := .bool QB) rfl rfl) rfl ?_; (try simp only [Act.put, lyy])
 refine qab ?_
 go_upto_region 6 with fail; refine wp_region_lit ?_
 refine qaa (qaj (vs := lsR (.int .i64 m.acc) (.int .i64 m.ver) (m.ident.map b8) (.slice a0 m.devs.length c0) (m.sig.map b8)) rfl Tryd.underlying29 rfl (szR (qas (by rw [List.length_map, k1]) (by rw [List.length_map, k2])) (by kernel_rfl)) rfl (E.out.get (i := 6) rfl).range) rfl ?_; (try simp only [Act.put, lyy])
 refine qaa (qaj (vs := lsR (.int .i64 n.acc) (.int .i64 n.ver) (n.ident.map b8) (.slice ar n.devs.length cr) (n.sig.map b8)) rfl Tryd.underlying29 rfl (szR (qas (by rw [List.length_map, k3]) (by rw [List.length_map, k4])) (by kernel_rfl)) rfl (E.out.get (i := 5) rfl).range) rfl ?_; (try simp only [Act.put, lyy])
 refine qam (qao enters_rrm rfl rfl rfl rfl) rfl (C6.out _ E.out.bl) (fun a25 hb => ?_); (try simp only [Act.put, lyy])
 replace E := Lib.hid (E.out.below hb)
 clear hb
 refine qaa (qae (v := .tuple #[.agg (pkC Q).toArray, .bool QB]) rfl rfl) rfl ?_; (try simp only [Act.put, lyy])
 refine qaa (qbt (v := .agg (pkC Q).toArray) rfl rfl rfl) rfl ?_; (try simp only [Act.put, lyy])
 refine qaa (qbt (v := .bool QB) rfl rfl rfl) rfl ?_; (try simp only [Act.put, lyy])
 refine qaa (qat (vs := enR ((.int .i64 0)) (z8 32)) rfl (by kernel_rfl)) rfl ?_; (try simp only [Act.put, lyy])
 replace E := Lib.hid (E.out.new (enR ((.int .i64 0)) (z8 32)) 34)
 generalize a25.alloc (.cells (enR ((.int .i64 0)) (z8 32)).toArray 34) = a26 at *
 generalize a25.heap.size = g27 at *
 refine qag (qar (vs := pkC Q) rfl (szR (qa9 hQ) (by kernel_rfl)) rfl rfl (One.all (qc2 hQ)) ((E.out.get (i := 0) rfl).thereM (by have q1 : (pkC Q).length = 33 := (qa9 hQ); have q2 : (enR ((.int .i64 0)) (z8 32)).length = 33 := (qbn (qa7 32)); omega))) rfl rfl ?_
 replace E := Lib.hid (E.out.put 0 rfl (m := pkC Q) ((show (pkC Q).length = 33 from (qa9 hQ)).trans (show (enR ((.int .i64 0)) (z8 32)).length = 33 from (qbn (qa7 32))).symm))
 generalize a26.setCells g27 0 (pkC Q) = a28 at *
 replace E := Lib.hid (show Ev _ [(g27, pkC Q), (g23, pkC Q), (g19, pkC P), (g15, pkC P), (g11, K.map b8), (g7, K.map b8), (g4, lsR (.int .i64 n.acc) (.int .i64 n.ver) (n.ident.map b8) (.slice ar n.devs.length cr) (n.sig.map b8)), (g2, lsR (.int .i64 m.acc) (.int .i64 m.ver) (m.ident.map b8) (.slice a0 m.devs.length c0) (m.sig.map b8))] _ _ _ a28 from E.out)
 refine qaa (qaf (v := .bool QB) rfl rfl) rfl ?_; (try simp only [Act.put, lyy])
 refine qab ?_
 go_upto_region 7 with fail; refine wp_region_lit ?_
 refine qaa (qaj (vs := K.map b8) rfl Tryd.underlying24 rfl (szR (by rw [List.length_map, hK]) (by kernel_rfl)) rfl (E.out.get (i := 5) rfl).range) rfl ?_; (try simp only [Act.put, lyy])
 refine qaa (qaj (vs := K.map b8) rfl Tryd.underlying24 rfl (szR (by rw [List.length_map, hK]) (by kernel_rfl)) rfl (E.out.get (i := 4) rfl).range) rfl ?_; (try simp only [Act.put, lyy])
 refine qaa (run_eqKyB (l := K) (m := K) (c := true) hK hK rfl rfl rfl (decide_eq_true rfl)) rfl ?_; (try simp only [Act.put, lyy])
 refine qaa (qae (v := .bool true) rfl rfl) rfl ?_; (try simp only [Act.put, lyy])
 refine qah (qae (v := .bool KB) rfl rfl) rfl ?_; (try simp only [Act.put, lyy])
 refine qah (qae (v := .bool KB) rfl rfl) rfl ?_; (try simp only [Act.put, lyy])
 refine qah (run_eqBt rfl rfl rfl rfl) rfl ?_; (try simp only [Act.put, lyy])
 refine qaa (qaz (b := true) (v := .bool true) rfl rfl rfl) rfl ?_; (try simp only [Act.put, lyy])
 refine qaa (qae (v := .bool true) rfl rfl) rfl ?_; (try simp only [Act.put, lyy])
 refine qah (qaj (vs := pkC P) rfl Tryd.underlying34 rfl (szR (qa9 hP) (by kernel_rfl)) rfl (E.out.get (i := 3) rfl).range) rfl ?_; (try simp only [Act.put, lyy])
 refine qah (qaj (vs := pkC P) rfl Tryd.underlying34 rfl (szR (qa9 hP) (by kernel_rfl)) rfl (E.out.get (i := 2) rfl).range) rfl ?_; (try simp only [Act.put, lyy])
 refine qah (run_eqEn hP hP (c := true) rfl rfl rfl (eqPk_iff.2 rfl)) rfl ?_; (try simp only [Act.put, lyy])
 refine qaa (qaz (b := true) (v := .bool true) rfl rfl rfl) rfl ?_; (try simp only [Act.put, lyy])
 refine qaa (qae (v := .bool true) rfl rfl) rfl ?_; (try simp only [Act.put, lyy])
 refine qah (qae (v := .bool PB) rfl rfl) rfl ?_; (try simp only [Act.put, lyy])
 refine qah (qae (v := .bool PB) rfl rfl) rfl ?_; (try simp only [Act.put, lyy])
 refine qah (run_eqBt rfl rfl rfl rfl) rfl ?_; (try simp only [Act.put, lyy])
 refine qaa (qaz (b := true) (v := .bool true) rfl rfl rfl) rfl ?_; (try simp only [Act.put, lyy])
 refine qaa (qae (v := .bool true) rfl rfl) rfl ?_; (try simp only [Act.put, lyy])
 refine qah (qaj (vs := pkC Q) rfl Tryd.underlying34 rfl (szR (qa9 hQ) (by kernel_rfl)) rfl (E.out.get (i := 1) rfl).range) rfl ?_; (try simp only [Act.put, lyy])
 refine qah (qaj (vs := pkC Q) rfl Tryd.underlying34 rfl (szR (qa9 hQ) (by kernel_rfl)) rfl (E.out.get (i := 0) rfl).range) rfl ?_; (try simp only [Act.put, lyy])
 refine qah (run_eqEn hQ hQ (c := true) rfl rfl rfl (eqPk_iff.2 rfl)) rfl ?_; (try simp only [Act.put, lyy])
 refine qaa (qaz (b := true) (v := .bool true) rfl rfl rfl) rfl ?_; (try simp only [Act.put, lyy])
 refine qaa (qae (v := .bool true) rfl rfl) rfl ?_; (try simp only [Act.put, lyy])
 refine qah (qae (v := .bool QB) rfl rfl) rfl ?_; (try simp only [Act.put, lyy])
 refine qah (qae (v := .bool QB) rfl rfl) rfl ?_; (try simp only [Act.put, lyy])
 refine qah (run_eqBt rfl rfl rfl rfl) rfl ?_; (try simp only [Act.put, lyy])
 refine qaa (qaz (b := true) (v := .bool true) rfl rfl rfl) rfl ?_; (try simp only [Act.put, lyy])
 refine qaa (qaf (v := .bool true) rfl rfl) rfl ?_; (try simp only [Act.put, lyy])
 refine qab ?_
 go_wp2_with fail
 go_ret
 exact ⟨rfl, E.out.bl⟩
end Go.Proofs.YtcgbgmbnagmohaaDoor
namespace Go.Proofs.YtcgbgmbnagmohaaDoor
open Go.RowKit
set_option maxRecDepth 20000
attribute [local irreducible] wpList
structure Hw (w : World) (L : List (Nat × List Value)) (e : TypeId) (z : Nat) (v : Value) (n : Nat) (cs : List Value) (e2 : TypeId) (z2 : Nat) (v2 : Value) (n2 : Nat) (cs2 : List Value) (F H : World → Prop) (u : World) : Prop where
 ev : Ev w L (v.ownBlock.toList ++ v2.ownBlock.toList) F H u
 row : u.ownsRow w.heap.size e z v n cs
 row2 : u.ownsRow w.heap.size e2 z2 v2 n2 cs2
 ap : ∀ p ∈ L, v.ownBlock ≠ some p.1
 ap2 : ∀ p ∈ L, v2.ownBlock ≠ some p.1
 ne : ∀ k, v.ownBlock = some k → v2.ownBlock ≠ some k
section
variable {w u u' : World} {L : List (Nat × List Value)} {e e2 : TypeId} {z z2 n n2 : Nat} {v v2 : Value} {cs cs2 : List Value} {F H F0 H0 : World → Prop}
theorem Hw.start (h : Ev w L [] F H u) (e : TypeId) (z : Nat) (e2 : TypeId) (z2 : Nat) : Hw w L e z (.slice none 0 0) 0 [] e2 z2 (.slice none 0 0) 0 [] F H u :=
 ⟨h, ⟨by simp, .inl ⟨rfl, rfl⟩⟩, ⟨by simp, .inl ⟨rfl, rfl⟩⟩, (fun _ _ h => by cases h), (fun _ _ h => by cases h), (fun _ h => by cases h)⟩
theorem Hw.bl (h : Hw w L e z v n cs e2 z2 v2 n2 cs2 F H u) : Below w.heap.size w u := h.ev.bl
theorem Hw.get (h : Hw w L e z v n cs e2 z2 v2 n2 cs2 F H u) {i g : Nat} {l : List Value} (hi : L[i]? = some (g, l)) : Arr g l u := h.ev.get hi
theorem Hw.below (h : Hw w L e z v n cs e2 z2 v2 n2 cs2 F H u) (hb : Below u.heap.size u u') : Hw w L e z v n cs e2 z2 v2 n2 cs2 F H u' :=
 ⟨h.ev.below hb, qbs h.row fun k hk => hb.block k (qa4 h.row hk).2, qbs h.row2 fun k hk => hb.block k (qa4 h.row2 hk).2, h.ap, h.ap2, h.ne⟩
theorem Hw.call (h : Hw w L e z v n cs e2 z2 v2 n2 cs2 F H u) (hb : Below u.heap.size u u') (h0 : Fro u.heap.size H0 u') : Hw w L e z v n cs e2 z2 v2 n2 cs2 F (fun V => H0 V ∧ H V) u' :=
 ⟨h.ev.call hb h0, qbs h.row fun k hk => hb.block k (qa4 h.row hk).2, qbs h.row2 fun k hk => hb.block k (qa4 h.row2 hk).2, h.ap, h.ap2, h.ne⟩
theorem Hw.know (h : Hw w L e z v n cs e2 z2 v2 n2 cs2 F H u) (hk : ∀ V, H V → H0 V) : Hw w L e z v n cs e2 z2 v2 n2 cs2 F H0 u := ⟨h.ev.knowH hk, h.row, h.row2, h.ap, h.ap2, h.ne⟩
theorem Hw.set (h : Hw w L e z v n cs e2 z2 v2 n2 cs2 F H u) (i : Nat) {g : Nat} {l : List Value} (hi : L[i]? = some (g, l)) {j : Nat} (hj : j < l.length) (x : Value) : Hw w (L.set i (g, l.set j x)) e z v n cs e2 z2 v2 n2 cs2 F H (u.setCell ⟨g, j, none⟩ x) := by
 have hg := h.ap (g, l) (List.mem_of_getElem? hi)
 have hg2 := h.ap2 (g, l) (List.mem_of_getElem? hi)
 refine ⟨h.ev.set i hi hj x, qbs h.row fun k hk => setCell_far (fun e => hg (by rw [hk, e])) j x u, qbs h.row2 fun k hk => setCell_far (fun e => hg2 (by rw [hk, e])) j x u, fun p hp => ?_, fun p hp => ?_, h.ne⟩
 ·rcases List.mem_or_eq_of_mem_set hp with hp | rfl
  ·exact h.ap p hp
  ·exact hg
 ·rcases List.mem_or_eq_of_mem_set hp with hp | rfl
  ·exact h.ap2 p hp
  ·exact hg2
theorem Hw.new (h : Hw w L e z v n cs e2 z2 v2 n2 cs2 F H u) (l : List Value) (t : TypeId) : Hw w ((u.heap.size, l) :: L) e z v n cs e2 z2 v2 n2 cs2 F H (u.alloc (.cells l.toArray t)) := by
 have hb : Below u.heap.size u (u.alloc (.cells l.toArray t)) := (Below.refl _ _).alloc (Nat.le_refl _) _
 refine ⟨h.ev.new l t, qbs h.row fun k hk => hb.block k (qa4 h.row hk).2, qbs h.row2 fun k hk => hb.block k (qa4 h.row2 hk).2, fun p hp he => ?_, fun p hp he => ?_, h.ne⟩
 ·rcases List.mem_cons.1 hp with rfl | hp
  ·have := (qa4 h.row he).2
   simp only at this; omega
  ·exact h.ap p hp he
 ·rcases List.mem_cons.1 hp with rfl | hp
  ·have := (qa4 h.row2 he).2
   simp only at this; omega
  ·exact h.ap2 p hp he
theorem Hw.put (h : Hw w L e z v n cs e2 z2 v2 n2 cs2 F H u) (i : Nat) {g : Nat} {l : List Value} (hi : L[i]? = some (g, l)) {m : List Value} (hm : m.length = l.length) : Hw w (L.set i (g, m)) e z v n cs e2 z2 v2 n2 cs2 F H (u.setCells g 0 m) := by
 have hg := h.ap (g, l) (List.mem_of_getElem? hi)
 have hg2 := h.ap2 (g, l) (List.mem_of_getElem? hi)
 refine ⟨h.ev.put i hi hm, qbs h.row fun k hk => qdn (fun e => hg (by rw [hk, e])) m 0 u, qbs h.row2 fun k hk => qdn (fun e => hg2 (by rw [hk, e])) m 0 u, fun p hp => ?_, fun p hp => ?_, h.ne⟩
 ·rcases List.mem_or_eq_of_mem_set hp with hp | rfl
  ·exact h.ap p hp
  ·exact hg
 ·rcases List.mem_or_eq_of_mem_set hp with hp | rfl
  ·exact h.ap2 p hp
  ·exact hg2
theorem Hw.isSlice (h : Hw w L e z v n cs e2 z2 v2 n2 cs2 F H u) : ∃ a k c, v = .slice a k c := by
 rcases h.row.2 with ⟨rfl, _⟩ | ⟨g, cap, cur, rfl, _⟩
 ·exact ⟨_, _, _, rfl⟩
 ·exact ⟨_, _, _, rfl⟩
theorem Hw.done (h : Hw w L e z v n cs e2 z2 v2 n2 cs2 F H u) : Ev w L [] F (fun V => V.ownsRow w.heap.size e z v n cs ∧ V.ownsRow w.heap.size e2 z2 v2 n2 cs2 ∧ H V) u := by
 refine ⟨h.ev.mv, (fun _ hk => by cases hk), fun V hV => h.ev.fs V (hV.mono (Nat.le_refl _) fun b hb => List.mem_append.2 (.inr (by simpa using hb))), fun V hV => ⟨?_, ?_, h.ev.hs V (hV.mono (Nat.le_refl _) fun b hb => List.mem_append.2 (.inr (by simpa using hb)))⟩⟩
 ·exact qbs h.row fun k hk => hV.block k (qa4 h.row hk).1 (qa4 h.row hk).2 fun hm => by
   obtain ⟨p, hp, he⟩ := List.mem_map.1 (by simpa using hm : k ∈ L.map (·.1))
   exact h.ap p hp (he ▸ hk)
 ·exact qbs h.row2 fun k hk => hV.block k (qa4 h.row2 hk).1 (qa4 h.row2 hk).2 fun hm => by
   obtain ⟨p, hp, he⟩ := List.mem_map.1 (by simpa using hm : k ∈ L.map (·.1))
   exact h.ap2 p hp (he ▸ hk)
theorem Hw.grown (G : Hw w L e z v n cs e2 z2 v2 n2 cs2 F H u) {v' : Value} {n' : Nat} {cs' : List Value} (h3 : u'.ownsRow w.heap.size e z v' n' cs') (h4 : u.grownBy u' v.ownBlock) (hw : v'.ownBlock = v.ownBlock ∨ v'.ownBlock = some u.heap.size) : Hw w L e z v' n' cs' e2 z2 v2 n2 cs2 F H u' := by
 have hbase : w.heap.size ≤ u.heap.size := G.bl.size
 have hb : Below w.heap.size u u' := below_grown h4 (fun k hk => (qa4 G.row hk).1) hbase
 have hap : ∀ p ∈ L, v'.ownBlock ≠ some p.1 := fun p hp he => by
  rcases hw with hw | hw
  ·exact G.ap p hp (hw ▸ he)
  ·rw [hw] at he
   have h6 := (G.ev.mv.all p hp).2.lt
   injection he with he
   omega
 have hne : ∀ k, v'.ownBlock = some k → v2.ownBlock ≠ some k := fun k h1 h2 => by
  rcases hw with hw | hw
  ·exact G.ne k (hw ▸ h1) h2
  ·rw [hw] at h1
   have h6 := (qa4 G.row2 h2).2
   injection h1 with h1
   omega
 have key : ∀ B V, Ext B ((v'.ownBlock.toList ++ v2.ownBlock.toList) ++ L.map (·.1)) u' V → Ext B ((v.ownBlock.toList ++ v2.ownBlock.toList) ++ L.map (·.1)) u V := fun B V hV =>
  ⟨Nat.le_trans h4.size hV.size, fun b k1 k2 k3 => by
   simp only [List.mem_append, not_or] at k3
   have n1 : v.ownBlock ≠ some b := fun he => k3.1.1 (by simp [he])
   have n2 : b ∉ (v'.ownBlock.toList ++ v2.ownBlock.toList) ++ L.map (·.1) := fun hm => by
    simp only [List.mem_append] at hm
    rcases hm with (hm | hm) | hm
    ·have he : v'.ownBlock = some b := by simpa using hm
     rcases hw with hw | hw
     ·exact n1 (hw ▸ he)
     ·rw [hw] at he
      injection he with he
      omega
    ·exact k3.1.2 hm
    ·exact k3.2 hm
   exact (hV.block b k1 (Nat.lt_of_lt_of_le k2 h4.size) n2).trans (h4.block b k2 fun he => n1 he.symm)⟩
 have hmv : Mv w L u' := ⟨G.bl.trans hb, G.ev.mv.nd, fun p hp => ⟨(G.ev.mv.all p hp).1, (G.ev.mv.all p hp).2.same h4.size (h4.block _ (G.ev.mv.all p hp).2.lt fun he => G.ap p hp he.symm)⟩⟩
 have hr2 : u'.ownsRow w.heap.size e2 z2 v2 n2 cs2 := qbs G.row2 fun k hk => h4.block k (qa4 G.row2 hk).2 fun he => G.ne k he.symm hk
 exact ⟨⟨hmv, fun k hk => by
  rcases List.mem_append.1 hk with hk | hk
  ·exact (qa4 h3 (by simpa using hk)).2
  ·exact (qa4 hr2 (by simpa using hk)).2, fun V hV => G.ev.fs V (key 0 V hV), fun V hV => G.ev.hs V (key _ V hV)⟩, h3, hr2, hap, G.ap2, hne⟩
end
theorem wpAnyD_some {ops : Array Oper} {Q : Exit → Act → World → Prop} {S : World → Prop} {a : Act} {u : World} {o : Oper} {fuel : Nat} {listed : Array Bool} {R : Value → World → Prop} (i : Nat) {d : Tmp} (hr : Region.ready .any ops listed = [i]) (hoo : ops[i]? = some o) (hd : o.dst = some d) (hw : Region.wanted o (yielded ops a.tmps) = true) (hl' : (listed.setIfInBounds i true).getD i false = true)
  (hrun : ∃ v' u', (execOp a.eval o).run Tryd.prog u = .ok (.value v') u' ∧ R v' u')
  (h : ∀ v' u', R v' u' → qb5 Tryd.prog ops Q (Till i S) fuel (listed.setIfInBounds i true) (a.put (some d) v') u') : qb5 Tryd.prog ops Q (Till i S) (fuel + 1) listed a u := by
 simp only [← hd] at h
 obtain ⟨v', w', hrun, h1⟩ := hrun
 refine ⟨fun e => (by rw [hr] at e; cases e), fun j hj => ?_⟩
 rw [hr] at hj
 obtain rfl : j = i := by simpa using hj
 simp only [wpOp, hoo, hw, if_true]
 refine .inl ?_
 unfold Oper.wp
 rw [hrun]
 exact ⟨.inl hl', h v' w' h1⟩
end Go.Proofs.YtcgbgmbnagmohaaDoor
namespace Go.Proofs.YtcgbgmbnagmohaaDoor
open Go.RowKit
set_option maxRecDepth 20000
attribute [local irreducible] wpList
theorem Ev.froD {w u : World} {L : List (Nat × List Value)} {K : List Nat} {F H Q : World → Prop} (e : Ev w L K F H u) (h : ∀ V, H V → Q V) : Fro 0 Q u := fun V hV => h V (e.tell V (hV.mono (Nat.zero_le _) fun _ h => h))
set_option maxHeartbeats 16000000 in
theorem listsDevices_any (HP : PubC) (HS : SigC) (HV : VerC) (m : MLs) (X : List Value) (n : MLs) (Y : List Value) (v2 : Value) (c : List (BitVec 8)) (v3 : Value) (d : List (BitVec 8)) (k : Nat) (dv : Int) (w : World) (hm : m.ident.length = 32 ∧ m.sig.length = 64 ∧ ∀ p ∈ m.devs, p.key.length = 32) (hX : Fro 0 (lsAt m X) w) (hmx2 : m.devs.length ≤ 140737488351232) (hn : n.ident.length = 32 ∧ n.sig.length = 64 ∧ ∀ p ∈ n.devs, p.key.length = 32) (hY : Fro 0 (lsAt n Y) w) (hnx2 : n.devs.length ≤ 140737488351232) (hc : Sl v2 c w) (_ : c.length ≤ 140737488351232) (hd : Sl v3 d w) (_ : d.length ≤ 140737488351232) (hk : k < 256) (hW : W9 w) : Calls Tryd.prog 4 #[.agg X.toArray, .agg Y.toArray, v2, v3, .int .u8 (k : Int), .int .i64 dv] w fun e w' => e = .returned (.bool true) ∧ Below w.heap.size w w' := by
 obtain ⟨ao, cc, rfl, -, -⟩ := id hc
 obtain ⟨bo, dc, rfl, -, -⟩ := id hd
 obtain ⟨a0, c0, rfl, -⟩ := id hX.now
 obtain ⟨ar, cr, rfl, -⟩ := id hY.now
 obtain ⟨k1, k2, hkm⟩ := hm
 obtain ⟨k3, k4, hkn⟩ := hn
 have HW := Lib.hid hW
 have HXF := Lib.hid hX
 have HYF := Lib.hid hY
 have CPc : Hid (∀ u, Since w u → Calls Tryd.prog 7 #[.slice ao c.length cc] u fun r w' => ∃ v', r = .returned v' ∧ ((∃ va vc, v' = .agg (lsR (.int .i64 (plM c).acc) (.int .i64 (plM c).ver) ((plM c).ident.map b8) (.slice va (plM c).devs.length vc) ((plM c).sig.map b8)).toArray ∧ Fro u.heap.size (SlR 33 pkAt (plM c).devs va vc) w') ∧ Below u.heap.size u w')) := Lib.hid fun u hu => (plain_any ao c cc u (hc.below hu)).mono fun e w' ⟨v', h1, ⟨va, vc, h2, h3⟩, h4⟩ => ⟨v', h1, ⟨va, vc, h2, fun V hV => (h3 V hV).1⟩, h4⟩
 have CPd : Hid (∀ u, Since w u → Calls Tryd.prog 7 #[.slice bo d.length dc] u fun r w' => ∃ v', r = .returned v' ∧ ((∃ va vc, v' = .agg (lsR (.int .i64 (plM d).acc) (.int .i64 (plM d).ver) ((plM d).ident.map b8) (.slice va (plM d).devs.length vc) ((plM d).sig.map b8)).toArray ∧ Fro u.heap.size (SlR 33 pkAt (plM d).devs va vc) w') ∧ Below u.heap.size u w')) := Lib.hid fun u hu => (plain_any bo d dc u (hd.below hu)).mono fun e w' ⟨v', h1, ⟨va, vc, h2, h3⟩, h4⟩ => ⟨v', h1, ⟨va, vc, h2, fun V hV => (h3 V hV).1⟩, h4⟩
 have hp := plM_ok c
 have hq := plM_ok d
 have j1 := hp.ident
 have j2 := hp.sig
 have j3 := hq.ident
 have j4 := hq.sig
 have hpl : (plM c).devs.length ≤ 7 := by show (plDs c _).length ≤ 7; rw [plDs_len]; omega
 clear hc hd hX hY hW
 generalize plM c = p at *
 generalize plM d = q at *
 generalize c.length = lc at *
 generalize d.length = ld at *
 have E := Lib.hid (Ev.start (w := w) (F := fun _ => True) fun _ _ => trivial)
 by_cases hl : 40 < m.devs.length + n.devs.length
 ·go_enter Tryd.func4, Tryd.ntmps4
  go_upto_region 0 with fail; refine wp_region_lit ?_
  refine qaa (qau (vs := lsR (.int .i64 m.acc) (.int .i64 m.ver) (m.ident.map b8) (.slice a0 m.devs.length c0) (m.sig.map b8)) rfl rfl) rfl ?_; (try simp only [Act.put, lyy])
  replace E := Lib.hid (E.out.new (lsR (.int .i64 m.acc) (.int .i64 m.ver) (m.ident.map b8) (.slice a0 m.devs.length c0) (m.sig.map b8)) 29)
  generalize w.alloc (.cells (lsR (.int .i64 m.acc) (.int .i64 m.ver) (m.ident.map b8) (.slice a0 m.devs.length c0) (m.sig.map b8)).toArray 29) = a1 at *
  generalize w.heap.size = g2 at *
  refine qaa (qau (vs := lsR (.int .i64 n.acc) (.int .i64 n.ver) (n.ident.map b8) (.slice ar n.devs.length cr) (n.sig.map b8)) rfl rfl) rfl ?_; (try simp only [Act.put, lyy])
  replace E := Lib.hid (E.out.new (lsR (.int .i64 n.acc) (.int .i64 n.ver) (n.ident.map b8) (.slice ar n.devs.length cr) (n.sig.map b8)) 29)
  generalize a1.alloc (.cells (lsR (.int .i64 n.acc) (.int .i64 n.ver) (n.ident.map b8) (.slice ar n.devs.length cr) (n.sig.map b8)).toArray 29) = a3 at *
  generalize a1.heap.size = g4 at *
  refine qaa (qaf (v := .bool false) rfl rfl) rfl ?_; (try simp only [Act.put, lyy])
  refine qab ?_
  go_upto_region 1 with fail; refine wp_region_lit ?_
  refine qaa (qan (s := 0) (k := 34) rfl Tryd.underlying29 rfl (by kernel_rfl) rfl rfl) rfl ?_; (try simp only [Act.put, lyy])
  refine qaa (qav rfl Tryd.underlying25 rfl rfl ((E.out.get (i := 1) rfl).c 34 _ (qal (by rw [List.length_map, k1])))) rfl ?_; (try simp only [Act.put, lyy])
  refine qaa (qbe rfl Tryd.underlying25 rfl) rfl ?_; (try simp only [Act.put, lyy])
  refine qaa (qan (s := 0) (k := 34) rfl Tryd.underlying29 rfl (by kernel_rfl) rfl rfl) rfl ?_; (try simp only [Act.put, lyy])
  refine qaa (qav rfl Tryd.underlying25 rfl rfl ((E.out.get (i := 0) rfl).c 34 _ (qal (by rw [List.length_map, k3])))) rfl ?_; (try simp only [Act.put, lyy])
  refine qaa (qbe rfl Tryd.underlying25 rfl) rfl ?_; (try simp only [Act.put, lyy])
  refine qaa (qb1 (a := m.devs.length) (b := n.devs.length) rfl rfl rfl (by omega)) rfl ?_; (try simp only [Act.put, lyy])
  refine qaa (qcu (c := true) rfl rfl rfl (decide_eq_true (by omega))) rfl ?_; (try simp only [Act.put, lyy])
  refine qaa (qae (v := .bool true) rfl rfl) rfl ?_; (try simp only [Act.put, lyy])
  refine qa3 rfl ?_; (try simp only [Act.put, lyy])
  refine qa3 rfl ?_; (try simp only [Act.put, lyy])
  refine qaa (qaz (b := true) (v := .bool true) rfl rfl rfl) rfl ?_; (try simp only [Act.put, lyy])
  refine qab ?_
  go_upto_region 2 with fail; refine wp_region_lit ?_
  refine qam (qdt enters_kn11 rfl rfl) rfl (known11_any HP HS HV _ (HW.out.below E.out.bl)) (fun a5 hb => ?_); (try simp only [Act.put, lyy])
  replace E := Lib.hid (E.out.below hb)
  clear hb
  refine qaa (qaf (v := .bool true) rfl rfl) rfl ?_; (try simp only [Act.put, lyy])
  refine qab ?_
  go_wp2_with fail
  go_ret
  exact ⟨rfl, E.out.bl⟩
 ·have hmo : m.Ok := ⟨k1, k2, hkm, by omega⟩
  have hno : n.Ok := ⟨k3, k4, hkn, by omega⟩
  go_enter Tryd.func4, Tryd.ntmps4
  go_upto_region 0 with fail; refine wp_region_lit ?_
  refine qaa (qau (vs := lsR (.int .i64 m.acc) (.int .i64 m.ver) (m.ident.map b8) (.slice a0 m.devs.length c0) (m.sig.map b8)) rfl rfl) rfl ?_; (try simp only [Act.put, lyy])
  replace E := Lib.hid (E.out.new (lsR (.int .i64 m.acc) (.int .i64 m.ver) (m.ident.map b8) (.slice a0 m.devs.length c0) (m.sig.map b8)) 29)
  generalize w.alloc (.cells (lsR (.int .i64 m.acc) (.int .i64 m.ver) (m.ident.map b8) (.slice a0 m.devs.length c0) (m.sig.map b8)).toArray 29) = a1 at *
  generalize w.heap.size = g2 at *
  refine qaa (qau (vs := lsR (.int .i64 n.acc) (.int .i64 n.ver) (n.ident.map b8) (.slice ar n.devs.length cr) (n.sig.map b8)) rfl rfl) rfl ?_; (try simp only [Act.put, lyy])
  replace E := Lib.hid (E.out.new (lsR (.int .i64 n.acc) (.int .i64 n.ver) (n.ident.map b8) (.slice ar n.devs.length cr) (n.sig.map b8)) 29)
  generalize a1.alloc (.cells (lsR (.int .i64 n.acc) (.int .i64 n.ver) (n.ident.map b8) (.slice ar n.devs.length cr) (n.sig.map b8)).toArray 29) = a3 at *
  generalize a1.heap.size = g4 at *
  refine qaa (qaf (v := .bool false) rfl rfl) rfl ?_; (try simp only [Act.put, lyy])
  refine qab ?_
  go_upto_region 1 with fail; refine wp_region_lit ?_
  refine qaa (qan (s := 0) (k := 34) rfl Tryd.underlying29 rfl (by kernel_rfl) rfl rfl) rfl ?_; (try simp only [Act.put, lyy])
  refine qaa (qav rfl Tryd.underlying25 rfl rfl ((E.out.get (i := 1) rfl).c 34 _ (qal (by rw [List.length_map, k1])))) rfl ?_; (try simp only [Act.put, lyy])
  refine qaa (qbe rfl Tryd.underlying25 rfl) rfl ?_; (try simp only [Act.put, lyy])
  refine qaa (qan (s := 0) (k := 34) rfl Tryd.underlying29 rfl (by kernel_rfl) rfl rfl) rfl ?_; (try simp only [Act.put, lyy])
  refine qaa (qav rfl Tryd.underlying25 rfl rfl ((E.out.get (i := 0) rfl).c 34 _ (qal (by rw [List.length_map, k3])))) rfl ?_; (try simp only [Act.put, lyy])
  refine qaa (qbe rfl Tryd.underlying25 rfl) rfl ?_; (try simp only [Act.put, lyy])
  refine qaa (qb1 (a := m.devs.length) (b := n.devs.length) rfl rfl rfl (by omega)) rfl ?_; (try simp only [Act.put, lyy])
  refine qaa (qcu (c := false) rfl rfl rfl (decide_eq_false (by omega))) rfl ?_; (try simp only [Act.put, lyy])
  refine qaa (qae (v := .bool false) rfl rfl) rfl ?_; (try simp only [Act.put, lyy])
  refine qbp (qdt enters_kn11 rfl rfl) rfl (known11_any HP HS HV _ (HW.out.below E.out.bl)) (fun a5 hb => ?_); (try simp only [Act.put, lyy])
  replace E := Lib.hid (E.out.below hb)
  clear hb
  refine qah (qc7 rfl rfl) rfl ?_; (try simp only [Act.put, lyy])
  refine qaa (qaz (b := false) (v := .bool false) rfl rfl rfl) rfl ?_; (try simp only [Act.put, lyy])
  refine qab ?_
  go_upto_region 3 with fail; refine wp_region_lit ?_
  refine qaa (qae (v := .slice ao lc cc) rfl rfl) rfl ?_; (try simp only [Act.put, lyy])
  refine qbj (qap enters_plain11 rfl rfl rfl) rfl (CPc.out _ E.out.bl) (fun v7 a6 hR => ?_); (try simp only [Act.put, lyy])
  obtain ⟨⟨va1, vc1, rfl, fX⟩, hb7⟩ := hR
  replace E := Lib.hid (E.out.call hb7 fX)
  clear fX hb7
  refine qaa (qat (vs := lsR ((.int .i64 0)) ((.int .i64 0)) (z8 32) ((.slice none 0 0)) (z8 64)) rfl (by kernel_rfl)) rfl ?_; (try simp only [Act.put, lyy])
  replace E := Lib.hid (E.out.new (lsR ((.int .i64 0)) ((.int .i64 0)) (z8 32) ((.slice none 0 0)) (z8 64)) 29)
  generalize a6.alloc (.cells (lsR ((.int .i64 0)) ((.int .i64 0)) (z8 32) ((.slice none 0 0)) (z8 64)).toArray 29) = a8 at *
  generalize a6.heap.size = g9 at *
  refine qag (qar (vs := lsR (.int .i64 p.acc) (.int .i64 p.ver) (p.ident.map b8) (.slice va1 p.devs.length vc1) (p.sig.map b8)) rfl (szR (qas (by rw [List.length_map, j1]) (by rw [List.length_map, j2])) (by kernel_rfl)) rfl rfl (One.all (lsR_one rfl rfl (One.b8 _) rfl (One.b8 _))) ((E.out.get (i := 0) rfl).thereM (by have q1 : (lsR (.int .i64 p.acc) (.int .i64 p.ver) (p.ident.map b8) (.slice va1 p.devs.length vc1) (p.sig.map b8)).length = 99 := (qas (by rw [List.length_map, j1]) (by rw [List.length_map, j2])); have q2 : (lsR ((.int .i64 0)) ((.int .i64 0)) (z8 32) ((.slice none 0 0)) (z8 64)).length = 99 := (qas (qa7 32) (qa7 64)); omega))) rfl rfl ?_
  replace E := Lib.hid (E.out.put 0 rfl (m := lsR (.int .i64 p.acc) (.int .i64 p.ver) (p.ident.map b8) (.slice va1 p.devs.length vc1) (p.sig.map b8)) ((show (lsR (.int .i64 p.acc) (.int .i64 p.ver) (p.ident.map b8) (.slice va1 p.devs.length vc1) (p.sig.map b8)).length = 99 from (qas (by rw [List.length_map, j1]) (by rw [List.length_map, j2]))).trans (show (lsR ((.int .i64 0)) ((.int .i64 0)) (z8 32) ((.slice none 0 0)) (z8 64)).length = 99 from (qas (qa7 32) (qa7 64))).symm))
  generalize a8.setCells g9 0 (lsR (.int .i64 p.acc) (.int .i64 p.ver) (p.ident.map b8) (.slice va1 p.devs.length vc1) (p.sig.map b8)) = a10 at *
  replace E := Lib.hid (show Ev _ [(g9, lsR (.int .i64 p.acc) (.int .i64 p.ver) (p.ident.map b8) (.slice va1 p.devs.length vc1) (p.sig.map b8)), (g4, lsR (.int .i64 n.acc) (.int .i64 n.ver) (n.ident.map b8) (.slice ar n.devs.length cr) (n.sig.map b8)), (g2, lsR (.int .i64 m.acc) (.int .i64 m.ver) (m.ident.map b8) (.slice a0 m.devs.length c0) (m.sig.map b8))] _ _ _ a10 from E.out)
  refine qab ?_
  go_upto_region 4 with fail; refine wp_region_lit ?_
  refine qaa (qae (v := .slice ao lc cc) rfl rfl) rfl ?_; (try simp only [Act.put, lyy])
  refine qbj (qap enters_plain11 rfl rfl rfl) rfl (CPc.out _ E.out.bl) (fun v12 a11 hR => ?_); (try simp only [Act.put, lyy])
  obtain ⟨⟨va2, vc2, rfl, fX⟩, hb7⟩ := hR
  replace E := Lib.hid (E.out.call hb7 fX)
  clear fX hb7
  refine qaa (qat (vs := lsR ((.int .i64 0)) ((.int .i64 0)) (z8 32) ((.slice none 0 0)) (z8 64)) rfl (by kernel_rfl)) rfl ?_; (try simp only [Act.put, lyy])
  replace E := Lib.hid (E.out.new (lsR ((.int .i64 0)) ((.int .i64 0)) (z8 32) ((.slice none 0 0)) (z8 64)) 29)
  generalize a11.alloc (.cells (lsR ((.int .i64 0)) ((.int .i64 0)) (z8 32) ((.slice none 0 0)) (z8 64)).toArray 29) = a13 at *
  generalize a11.heap.size = g14 at *
  refine qag (qar (vs := lsR (.int .i64 p.acc) (.int .i64 p.ver) (p.ident.map b8) (.slice va2 p.devs.length vc2) (p.sig.map b8)) rfl (szR (qas (by rw [List.length_map, j1]) (by rw [List.length_map, j2])) (by kernel_rfl)) rfl rfl (One.all (lsR_one rfl rfl (One.b8 _) rfl (One.b8 _))) ((E.out.get (i := 0) rfl).thereM (by have q1 : (lsR (.int .i64 p.acc) (.int .i64 p.ver) (p.ident.map b8) (.slice va2 p.devs.length vc2) (p.sig.map b8)).length = 99 := (qas (by rw [List.length_map, j1]) (by rw [List.length_map, j2])); have q2 : (lsR ((.int .i64 0)) ((.int .i64 0)) (z8 32) ((.slice none 0 0)) (z8 64)).length = 99 := (qas (qa7 32) (qa7 64)); omega))) rfl rfl ?_
  replace E := Lib.hid (E.out.put 0 rfl (m := lsR (.int .i64 p.acc) (.int .i64 p.ver) (p.ident.map b8) (.slice va2 p.devs.length vc2) (p.sig.map b8)) ((show (lsR (.int .i64 p.acc) (.int .i64 p.ver) (p.ident.map b8) (.slice va2 p.devs.length vc2) (p.sig.map b8)).length = 99 from (qas (by rw [List.length_map, j1]) (by rw [List.length_map, j2]))).trans (show (lsR ((.int .i64 0)) ((.int .i64 0)) (z8 32) ((.slice none 0 0)) (z8 64)).length = 99 from (qas (qa7 32) (qa7 64))).symm))
  generalize a13.setCells g14 0 (lsR (.int .i64 p.acc) (.int .i64 p.ver) (p.ident.map b8) (.slice va2 p.devs.length vc2) (p.sig.map b8)) = a15 at *
  replace E := Lib.hid (show Ev _ [(g14, lsR (.int .i64 p.acc) (.int .i64 p.ver) (p.ident.map b8) (.slice va2 p.devs.length vc2) (p.sig.map b8)), (g9, lsR (.int .i64 p.acc) (.int .i64 p.ver) (p.ident.map b8) (.slice va1 p.devs.length vc1) (p.sig.map b8)), (g4, lsR (.int .i64 n.acc) (.int .i64 n.ver) (n.ident.map b8) (.slice ar n.devs.length cr) (n.sig.map b8)), (g2, lsR (.int .i64 m.acc) (.int .i64 m.ver) (m.ident.map b8) (.slice a0 m.devs.length c0) (m.sig.map b8))] _ _ _ a15 from E.out)
  refine qab ?_
  by_cases h30 : k % 3 = 0
  ·have H3 := Lib.hid h30
   clear h30
   go_upto_region 5 with fail; refine wp_region_lit ?_
   refine qaa (qae (v := .int .u8 (k : Int)) rfl rfl) rfl ?_; (try simp only [Act.put, lyy])
   refine qaa (qb0 (a := k) (b := 3) rfl rfl rfl (by omega) (by omega)) rfl ?_; (try simp only [Act.put, lyy])
   refine qaa (qb4 (a := ((k % 3 : Nat) : Int)) (b := 0) (c := true) rfl rfl rfl (by rw [H3.out]; rfl)) rfl ?_; (try simp only [Act.put, lyy])
   refine qab ?_
   go_upto_region 6 with fail; refine wp_region_lit ?_
   refine qaa (qae (v := .slice bo ld dc) rfl rfl) rfl ?_; (try simp only [Act.put, lyy])
   refine qbj (qap enters_plain11 rfl rfl rfl) rfl (CPd.out _ E.out.bl) (fun v17 a16 hR => ?_); (try simp only [Act.put, lyy])
   obtain ⟨⟨va3, vc3, rfl, fX⟩, hb7⟩ := hR
   replace E := Lib.hid (E.out.call hb7 fX)
   clear fX hb7
   refine qag (qar (vs := lsR (.int .i64 q.acc) (.int .i64 q.ver) (q.ident.map b8) (.slice va3 q.devs.length vc3) (q.sig.map b8)) rfl (szR (qas (by rw [List.length_map, j3]) (by rw [List.length_map, j4])) (by kernel_rfl)) rfl rfl (One.all (lsR_one rfl rfl (One.b8 _) rfl (One.b8 _))) ((E.out.get (i := 0) rfl).thereM (by have q1 : (lsR (.int .i64 q.acc) (.int .i64 q.ver) (q.ident.map b8) (.slice va3 q.devs.length vc3) (q.sig.map b8)).length = 99 := (qas (by rw [List.length_map, j3]) (by rw [List.length_map, j4])); have q2 : (lsR (.int .i64 p.acc) (.int .i64 p.ver) (p.ident.map b8) (.slice va2 p.devs.length vc2) (p.sig.map b8)).length = 99 := (qas (by rw [List.length_map, j1]) (by rw [List.length_map, j2])); omega))) rfl rfl ?_
   replace E := Lib.hid (E.out.put 0 rfl (m := lsR (.int .i64 q.acc) (.int .i64 q.ver) (q.ident.map b8) (.slice va3 q.devs.length vc3) (q.sig.map b8)) ((show (lsR (.int .i64 q.acc) (.int .i64 q.ver) (q.ident.map b8) (.slice va3 q.devs.length vc3) (q.sig.map b8)).length = 99 from (qas (by rw [List.length_map, j3]) (by rw [List.length_map, j4]))).trans (show (lsR (.int .i64 p.acc) (.int .i64 p.ver) (p.ident.map b8) (.slice va2 p.devs.length vc2) (p.sig.map b8)).length = 99 from (qas (by rw [List.length_map, j1]) (by rw [List.length_map, j2]))).symm))
   generalize a16.setCells g14 0 (lsR (.int .i64 q.acc) (.int .i64 q.ver) (q.ident.map b8) (.slice va3 q.devs.length vc3) (q.sig.map b8)) = a18 at *
   replace E := Lib.hid (show Ev _ [(g14, lsR (.int .i64 q.acc) (.int .i64 q.ver) (q.ident.map b8) (.slice va3 q.devs.length vc3) (q.sig.map b8)), (g9, lsR (.int .i64 p.acc) (.int .i64 p.ver) (p.ident.map b8) (.slice va1 p.devs.length vc1) (p.sig.map b8)), (g4, lsR (.int .i64 n.acc) (.int .i64 n.ver) (n.ident.map b8) (.slice ar n.devs.length cr) (n.sig.map b8)), (g2, lsR (.int .i64 m.acc) (.int .i64 m.ver) (m.ident.map b8) (.slice a0 m.devs.length c0) (m.sig.map b8))] _ _ _ a18 from E.out)
   refine qab ?_
   go_upto_region 7 with fail; refine wp_region_lit ?_
   refine qaa (qae (v := .int .u8 (k : Int)) rfl rfl) rfl ?_; (try simp only [Act.put, lyy])
   refine qaa (qb0 (a := k) (b := 3) rfl rfl rfl (by omega) (by omega)) rfl ?_; (try simp only [Act.put, lyy])
   refine qaa (qb4 (a := ((k % 3 : Nat) : Int)) (b := 1) (c := false) rfl rfl rfl (beq_eq_false_iff_ne.2 (by have := H3.out; omega))) rfl ?_; (try simp only [Act.put, lyy])
   refine qaa (qae (v := .bool false) rfl rfl) rfl ?_; (try simp only [Act.put, lyy])
   refine qa3 rfl ?_; (try simp only [Act.put, lyy])
   refine qa3 rfl ?_; (try simp only [Act.put, lyy])
   refine qa3 rfl ?_; (try simp only [Act.put, lyy])
   refine qa3 rfl ?_; (try simp only [Act.put, lyy])
   refine qaa (qaz (b := false) (v := .bool false) rfl rfl rfl) rfl ?_; (try simp only [Act.put, lyy])
   refine qab ?_
   go_upto_region 9 with fail; refine wp_region_lit ?_
   refine qaa (qae (v := .int .u8 (k : Int)) rfl rfl) rfl ?_; (try simp only [Act.put, lyy])
   refine qaa (qb0 (a := k) (b := 3) rfl rfl rfl (by omega) (by omega)) rfl ?_; (try simp only [Act.put, lyy])
   refine qaa (qb4 (a := ((k % 3 : Nat) : Int)) (b := 2) (c := false) rfl rfl rfl (beq_eq_false_iff_ne.2 (by have := H3.out; omega))) rfl ?_; (try simp only [Act.put, lyy])
   refine qaa (qae (v := .bool false) rfl rfl) rfl ?_; (try simp only [Act.put, lyy])
   refine qa3 rfl ?_; (try simp only [Act.put, lyy])
   refine qa3 rfl ?_; (try simp only [Act.put, lyy])
   refine qa3 rfl ?_; (try simp only [Act.put, lyy])
   refine qa3 rfl ?_; (try simp only [Act.put, lyy])
   refine qaa (qaz (b := false) (v := .bool false) rfl rfl rfl) rfl ?_; (try simp only [Act.put, lyy])
   refine qab ?_
   go_upto_region 14 with fail; refine wp_region_lit ?_
   refine qaa (qaj (vs := lsR (.int .i64 m.acc) (.int .i64 m.ver) (m.ident.map b8) (.slice a0 m.devs.length c0) (m.sig.map b8)) rfl Tryd.underlying29 rfl (szR (qas (by rw [List.length_map, k1]) (by rw [List.length_map, k2])) (by kernel_rfl)) rfl (E.out.get (i := 3) rfl).range) rfl ?_; (try simp only [Act.put, lyy])
   refine qaa (qaj (vs := lsR (.int .i64 n.acc) (.int .i64 n.ver) (n.ident.map b8) (.slice ar n.devs.length cr) (n.sig.map b8)) rfl Tryd.underlying29 rfl (szR (qas (by rw [List.length_map, k3]) (by rw [List.length_map, k4])) (by kernel_rfl)) rfl (E.out.get (i := 2) rfl).range) rfl ?_; (try simp only [Act.put, lyy])
   refine qaa (qae (v := .int .i64 dv) rfl rfl) rfl ?_; (try simp only [Act.put, lyy])
   refine qam (qbx qbz rfl rfl rfl rfl rfl) rfl (qck m n _ _ _ _ hmo hno (HXF.out.below E.out.bl) (HYF.out.below E.out.bl)) (fun a19 hb => ?_); (try simp only [Act.put, lyy])
   replace E := Lib.hid (E.out.below hb)
   clear hb
   refine qaa (qae (v := .bool true) rfl rfl) rfl ?_; (try simp only [Act.put, lyy])
   refine qah (qaj (vs := lsR (.int .i64 p.acc) (.int .i64 p.ver) (p.ident.map b8) (.slice va1 p.devs.length vc1) (p.sig.map b8)) rfl Tryd.underlying29 rfl (szR (qas (by rw [List.length_map, j1]) (by rw [List.length_map, j2])) (by kernel_rfl)) rfl (E.out.get (i := 1) rfl).range) rfl ?_; (try simp only [Act.put, lyy])
   refine qah (qaj (vs := lsR (.int .i64 q.acc) (.int .i64 q.ver) (q.ident.map b8) (.slice va3 q.devs.length vc3) (q.sig.map b8)) rfl Tryd.underlying29 rfl (szR (qas (by rw [List.length_map, j3]) (by rw [List.length_map, j4])) (by kernel_rfl)) rfl (E.out.get (i := 0) rfl).range) rfl ?_; (try simp only [Act.put, lyy])
   refine qah (qae (v := .int .u8 (k : Int)) rfl rfl) rfl ?_; (try simp only [Act.put, lyy])
   refine qah (qb0 (a := k) (b := 9) rfl rfl rfl (by omega) (by omega)) rfl ?_; (try simp only [Act.put, lyy])
   refine qah (qdh rfl rfl (by omega) (by omega)) rfl ?_; (try simp only [Act.put, lyy])
   refine qbp (qbx qbz rfl rfl rfl rfl rfl) rfl (qck p q _ _ _ _ hp hq (E.out.froD fun V h => ⟨_, _, rfl, h.2.2.1⟩) (E.out.froD fun V h => ⟨_, _, rfl, h.1⟩)) (fun a20 hb => ?_); (try simp only [Act.put, lyy])
   replace E := Lib.hid (E.out.below hb)
   clear hb
   refine qaa (qaz (b := true) (v := .bool true) rfl rfl rfl) rfl ?_; (try simp only [Act.put, lyy])
   refine qaa (qaf (v := .bool true) rfl rfl) rfl ?_; (try simp only [Act.put, lyy])
   refine qab ?_
   go_upto_region 15 with fail; refine wp_region_lit ?_
   refine qaa (qae (v := .bool true) rfl rfl) rfl ?_; (try simp only [Act.put, lyy])
   refine qaa (qae (v := .bool true) rfl rfl) rfl ?_; (try simp only [Act.put, lyy])
   refine qah (qaj (vs := lsR (.int .i64 q.acc) (.int .i64 q.ver) (q.ident.map b8) (.slice va3 q.devs.length vc3) (q.sig.map b8)) rfl Tryd.underlying29 rfl (szR (qas (by rw [List.length_map, j3]) (by rw [List.length_map, j4])) (by kernel_rfl)) rfl (E.out.get (i := 0) rfl).range) rfl ?_; (try simp only [Act.put, lyy])
   refine qah (qaj (vs := lsR (.int .i64 p.acc) (.int .i64 p.ver) (p.ident.map b8) (.slice va1 p.devs.length vc1) (p.sig.map b8)) rfl Tryd.underlying29 rfl (szR (qas (by rw [List.length_map, j1]) (by rw [List.length_map, j2])) (by kernel_rfl)) rfl (E.out.get (i := 1) rfl).range) rfl ?_; (try simp only [Act.put, lyy])
   refine qah (qae (v := .int .u8 (k : Int)) rfl rfl) rfl ?_; (try simp only [Act.put, lyy])
   refine qah (qb0 (a := k) (b := 9) rfl rfl rfl (by omega) (by omega)) rfl ?_; (try simp only [Act.put, lyy])
   refine qah (qdh rfl rfl (by omega) (by omega)) rfl ?_; (try simp only [Act.put, lyy])
   refine qbp (qbx qbz rfl rfl rfl rfl rfl) rfl (qck q p _ _ _ _ hq hp (E.out.froD fun V h => ⟨_, _, rfl, h.1⟩) (E.out.froD fun V h => ⟨_, _, rfl, h.2.2.1⟩)) (fun a21 hb => ?_); (try simp only [Act.put, lyy])
   replace E := Lib.hid (E.out.below hb)
   clear hb
   refine qaa (qaz (b := true) (v := .bool true) rfl rfl rfl) rfl ?_; (try simp only [Act.put, lyy])
   refine qaa (qaf (v := .bool true) rfl rfl) rfl ?_; (try simp only [Act.put, lyy])
   refine qab ?_
   go_wp2_with fail
   go_ret
   exact ⟨rfl, E.out.bl⟩
  by_cases h31 : k % 3 = 1
  ·have H3 : Hid (k % 3 = 1) := Lib.hid (by omega)
   clear h30 h31
   go_upto_region 5 with fail; refine wp_region_lit ?_
   refine qaa (qae (v := .int .u8 (k : Int)) rfl rfl) rfl ?_; (try simp only [Act.put, lyy])
   refine qaa (qb0 (a := k) (b := 3) rfl rfl rfl (by omega) (by omega)) rfl ?_; (try simp only [Act.put, lyy])
   refine qaa (qb4 (a := ((k % 3 : Nat) : Int)) (b := 0) (c := false) rfl rfl rfl (beq_eq_false_iff_ne.2 (by have := H3.out; omega))) rfl ?_; (try simp only [Act.put, lyy])
   refine qab ?_
   by_cases hz : 0 < p.devs.length
   ·go_upto_region 7 with fail; refine wp_region_lit ?_
    refine qaa (qae (v := .int .u8 (k : Int)) rfl rfl) rfl ?_; (try simp only [Act.put, lyy])
    refine qaa (qb0 (a := k) (b := 3) rfl rfl rfl (by omega) (by omega)) rfl ?_; (try simp only [Act.put, lyy])
    refine qaa (qb4 (a := ((k % 3 : Nat) : Int)) (b := 1) (c := true) rfl rfl rfl (by rw [H3.out]; rfl)) rfl ?_; (try simp only [Act.put, lyy])
    refine qaa (qae (v := .bool true) rfl rfl) rfl ?_; (try simp only [Act.put, lyy])
    refine qah (qan (s := 0) (k := 34) rfl Tryd.underlying29 rfl (by kernel_rfl) rfl rfl) rfl ?_; (try simp only [Act.put, lyy])
    refine qah (qav rfl Tryd.underlying25 rfl rfl ((E.out.get (i := 0) rfl).c 34 _ (qal (by rw [List.length_map, j1])))) rfl ?_; (try simp only [Act.put, lyy])
    refine qah (qbe rfl Tryd.underlying25 rfl) rfl ?_; (try simp only [Act.put, lyy])
    refine qah (qcu (c := true) rfl rfl rfl (decide_eq_true (by omega))) rfl ?_; (try simp only [Act.put, lyy])
    refine qaa (qaz (b := true) (v := .bool true) rfl rfl rfl) rfl ?_; (try simp only [Act.put, lyy])
    refine qab ?_
    go_upto_region 8 with fail; refine wp_region_lit ?_
    refine qaa (qan (s := 0) (k := 34) rfl Tryd.underlying29 rfl (by kernel_rfl) rfl rfl) rfl ?_; (try simp only [Act.put, lyy])
    refine qaa (qav rfl Tryd.underlying25 rfl rfl ((E.out.get (i := 0) rfl).c 34 _ (qal (by rw [List.length_map, j1])))) rfl ?_; (try simp only [Act.put, lyy])
    refine qaa (qan (s := 0) (k := 34) rfl Tryd.underlying29 rfl (by kernel_rfl) rfl rfl) rfl ?_; (try simp only [Act.put, lyy])
    refine qaa (qav rfl Tryd.underlying25 rfl rfl ((E.out.get (i := 0) rfl).c 34 _ (qal (by rw [List.length_map, j1])))) rfl ?_; (try simp only [Act.put, lyy])
    refine qaa (qbe rfl Tryd.underlying25 rfl) rfl ?_; (try simp only [Act.put, lyy])
    refine qaa (run_subN (a := p.devs.length) (b := 1) rfl rfl rfl (by omega) (by omega)) rfl ?_; (try simp only [Act.put, lyy])
    refine qaa (run_sloZ (z := 33) rfl Tryd.underlying25 (by kernel_rfl) rfl rfl (by have := E.out.h.1.cap; omega)) rfl ?_; (try simp only [Act.put, lyy])
    refine qaa (qan (s := 0) (k := 34) rfl Tryd.underlying29 rfl (by kernel_rfl) rfl rfl) rfl ?_; (try simp only [Act.put, lyy])
    refine qag (run_stc (v := .slice va2 (p.devs.length - 1) vc2) rfl (by kernel_rfl) rfl rfl rfl rfl ((E.out.get (i := 0) rfl).c 34 _ (qal (by rw [List.length_map, j1]))) ((E.out.get (i := 0) rfl).f _)) rfl rfl ?_
    replace E := Lib.hid (E.out.set 0 rfl (j := 34) (by have q2 : (lsR (.int .i64 p.acc) (.int .i64 p.ver) (p.ident.map b8) (.slice va2 p.devs.length vc2) (p.sig.map b8)).length = 99 := (qas (by rw [List.length_map, j1]) (by rw [List.length_map, j2])); omega) (.slice va2 (p.devs.length - 1) vc2))
    rw [show (lsR (.int .i64 p.acc) (.int .i64 p.ver) (p.ident.map b8) (.slice va2 p.devs.length vc2) (p.sig.map b8)).set 34 (.slice va2 (p.devs.length - 1) vc2) = lsR (.int .i64 p.acc) (.int .i64 p.ver) (p.ident.map b8) (.slice va2 (p.devs.length - 1) vc2) (p.sig.map b8) from (qdb (by rw [List.length_map, j1]) _)] at E
    generalize a15.setCell ⟨g14, 34, none⟩ (.slice va2 (p.devs.length - 1) vc2) = a16 at *
    replace E := Lib.hid (show Ev _ [(g14, lsR (.int .i64 p.acc) (.int .i64 p.ver) (p.ident.map b8) (.slice va2 (p.devs.length - 1) vc2) (p.sig.map b8)), (g9, lsR (.int .i64 p.acc) (.int .i64 p.ver) (p.ident.map b8) (.slice va1 p.devs.length vc1) (p.sig.map b8)), (g4, lsR (.int .i64 n.acc) (.int .i64 n.ver) (n.ident.map b8) (.slice ar n.devs.length cr) (n.sig.map b8)), (g2, lsR (.int .i64 m.acc) (.int .i64 m.ver) (m.ident.map b8) (.slice a0 m.devs.length c0) (m.sig.map b8))] _ _ _ a16 from E.out)
    refine qab ?_
    go_upto_region 9 with fail; refine wp_region_lit ?_
    refine qaa (qae (v := .int .u8 (k : Int)) rfl rfl) rfl ?_; (try simp only [Act.put, lyy])
    refine qaa (qb0 (a := k) (b := 3) rfl rfl rfl (by omega) (by omega)) rfl ?_; (try simp only [Act.put, lyy])
    refine qaa (qb4 (a := ((k % 3 : Nat) : Int)) (b := 2) (c := false) rfl rfl rfl (beq_eq_false_iff_ne.2 (by have := H3.out; omega))) rfl ?_; (try simp only [Act.put, lyy])
    refine qaa (qae (v := .bool false) rfl rfl) rfl ?_; (try simp only [Act.put, lyy])
    refine qa3 rfl ?_; (try simp only [Act.put, lyy])
    refine qa3 rfl ?_; (try simp only [Act.put, lyy])
    refine qa3 rfl ?_; (try simp only [Act.put, lyy])
    refine qa3 rfl ?_; (try simp only [Act.put, lyy])
    refine qaa (qaz (b := false) (v := .bool false) rfl rfl rfl) rfl ?_; (try simp only [Act.put, lyy])
    refine qab ?_
    obtain ⟨t, ht⟩ : ∃ t, t = p.devs.take (p.devs.length - 1) := ⟨_, rfl⟩
    have hto : (⟨p.acc, p.ver, p.ident, t, p.sig⟩ : MLs).Ok := ⟨hp.ident, hp.sig, fun x hx => hp.devs x (List.mem_of_mem_take (by rw [ht] at hx; exact hx)), by show t.length ≤ 60000; rw [ht, List.length_take]; omega⟩
    have htl : p.devs.length - 1 = t.length := by rw [ht, List.length_take]; omega
    have HSL : Hid (∀ V, SlR 33 pkAt p.devs va2 vc2 V → SlR 33 pkAt t va2 vc2 V) := Lib.hid fun V h => by rw [ht]; exact slR_take h (by omega)
    clear ht
    rw [htl] at E ⊢
    go_upto_region 14 with fail; refine wp_region_lit ?_
    refine qaa (qaj (vs := lsR (.int .i64 m.acc) (.int .i64 m.ver) (m.ident.map b8) (.slice a0 m.devs.length c0) (m.sig.map b8)) rfl Tryd.underlying29 rfl (szR (qas (by rw [List.length_map, k1]) (by rw [List.length_map, k2])) (by kernel_rfl)) rfl (E.out.get (i := 3) rfl).range) rfl ?_; (try simp only [Act.put, lyy])
    refine qaa (qaj (vs := lsR (.int .i64 n.acc) (.int .i64 n.ver) (n.ident.map b8) (.slice ar n.devs.length cr) (n.sig.map b8)) rfl Tryd.underlying29 rfl (szR (qas (by rw [List.length_map, k3]) (by rw [List.length_map, k4])) (by kernel_rfl)) rfl (E.out.get (i := 2) rfl).range) rfl ?_; (try simp only [Act.put, lyy])
    refine qaa (qae (v := .int .i64 dv) rfl rfl) rfl ?_; (try simp only [Act.put, lyy])
    refine qam (qbx qbz rfl rfl rfl rfl rfl) rfl (qck m n _ _ _ _ hmo hno (HXF.out.below E.out.bl) (HYF.out.below E.out.bl)) (fun a17 hb => ?_); (try simp only [Act.put, lyy])
    replace E := Lib.hid (E.out.below hb)
    clear hb
    refine qaa (qae (v := .bool true) rfl rfl) rfl ?_; (try simp only [Act.put, lyy])
    refine qah (qaj (vs := lsR (.int .i64 p.acc) (.int .i64 p.ver) (p.ident.map b8) (.slice va1 p.devs.length vc1) (p.sig.map b8)) rfl Tryd.underlying29 rfl (szR (qas (by rw [List.length_map, j1]) (by rw [List.length_map, j2])) (by kernel_rfl)) rfl (E.out.get (i := 1) rfl).range) rfl ?_; (try simp only [Act.put, lyy])
    refine qah (qaj (vs := lsR (.int .i64 p.acc) (.int .i64 p.ver) (p.ident.map b8) (.slice va2 t.length vc2) (p.sig.map b8)) rfl Tryd.underlying29 rfl (szR (qas (by rw [List.length_map, j1]) (by rw [List.length_map, j2])) (by kernel_rfl)) rfl (E.out.get (i := 0) rfl).range) rfl ?_; (try simp only [Act.put, lyy])
    refine qah (qae (v := .int .u8 (k : Int)) rfl rfl) rfl ?_; (try simp only [Act.put, lyy])
    refine qah (qb0 (a := k) (b := 9) rfl rfl rfl (by omega) (by omega)) rfl ?_; (try simp only [Act.put, lyy])
    refine qah (qdh rfl rfl (by omega) (by omega)) rfl ?_; (try simp only [Act.put, lyy])
    refine qbp (qbx qbz rfl rfl rfl rfl rfl) rfl (qck p ⟨p.acc, p.ver, p.ident, t, p.sig⟩ _ _ _ _ hp hto (E.out.froD fun V h => ⟨_, _, rfl, h.2.1⟩) (E.out.froD fun V h => ⟨_, _, rfl, HSL.out V h.1⟩)) (fun a18 hb => ?_); (try simp only [Act.put, lyy])
    replace E := Lib.hid (E.out.below hb)
    clear hb
    refine qaa (qaz (b := true) (v := .bool true) rfl rfl rfl) rfl ?_; (try simp only [Act.put, lyy])
    refine qaa (qaf (v := .bool true) rfl rfl) rfl ?_; (try simp only [Act.put, lyy])
    refine qab ?_
    go_upto_region 15 with fail; refine wp_region_lit ?_
    refine qaa (qae (v := .bool true) rfl rfl) rfl ?_; (try simp only [Act.put, lyy])
    refine qaa (qae (v := .bool true) rfl rfl) rfl ?_; (try simp only [Act.put, lyy])
    refine qah (qaj (vs := lsR (.int .i64 p.acc) (.int .i64 p.ver) (p.ident.map b8) (.slice va2 t.length vc2) (p.sig.map b8)) rfl Tryd.underlying29 rfl (szR (qas (by rw [List.length_map, j1]) (by rw [List.length_map, j2])) (by kernel_rfl)) rfl (E.out.get (i := 0) rfl).range) rfl ?_; (try simp only [Act.put, lyy])
    refine qah (qaj (vs := lsR (.int .i64 p.acc) (.int .i64 p.ver) (p.ident.map b8) (.slice va1 p.devs.length vc1) (p.sig.map b8)) rfl Tryd.underlying29 rfl (szR (qas (by rw [List.length_map, j1]) (by rw [List.length_map, j2])) (by kernel_rfl)) rfl (E.out.get (i := 1) rfl).range) rfl ?_; (try simp only [Act.put, lyy])
    refine qah (qae (v := .int .u8 (k : Int)) rfl rfl) rfl ?_; (try simp only [Act.put, lyy])
    refine qah (qb0 (a := k) (b := 9) rfl rfl rfl (by omega) (by omega)) rfl ?_; (try simp only [Act.put, lyy])
    refine qah (qdh rfl rfl (by omega) (by omega)) rfl ?_; (try simp only [Act.put, lyy])
    refine qbp (qbx qbz rfl rfl rfl rfl rfl) rfl (qck ⟨p.acc, p.ver, p.ident, t, p.sig⟩ p _ _ _ _ hto hp (E.out.froD fun V h => ⟨_, _, rfl, HSL.out V h.1⟩) (E.out.froD fun V h => ⟨_, _, rfl, h.2.1⟩)) (fun a19 hb => ?_); (try simp only [Act.put, lyy])
    replace E := Lib.hid (E.out.below hb)
    clear hb
    refine qaa (qaz (b := true) (v := .bool true) rfl rfl rfl) rfl ?_; (try simp only [Act.put, lyy])
    refine qaa (qaf (v := .bool true) rfl rfl) rfl ?_; (try simp only [Act.put, lyy])
    refine qab ?_
    go_wp2_with fail
    go_ret
    exact ⟨rfl, E.out.bl⟩
   ·go_upto_region 7 with fail; refine wp_region_lit ?_
    refine qaa (qae (v := .int .u8 (k : Int)) rfl rfl) rfl ?_; (try simp only [Act.put, lyy])
    refine qaa (qb0 (a := k) (b := 3) rfl rfl rfl (by omega) (by omega)) rfl ?_; (try simp only [Act.put, lyy])
    refine qaa (qb4 (a := ((k % 3 : Nat) : Int)) (b := 1) (c := true) rfl rfl rfl (by rw [H3.out]; rfl)) rfl ?_; (try simp only [Act.put, lyy])
    refine qaa (qae (v := .bool true) rfl rfl) rfl ?_; (try simp only [Act.put, lyy])
    refine qah (qan (s := 0) (k := 34) rfl Tryd.underlying29 rfl (by kernel_rfl) rfl rfl) rfl ?_; (try simp only [Act.put, lyy])
    refine qah (qav rfl Tryd.underlying25 rfl rfl ((E.out.get (i := 0) rfl).c 34 _ (qal (by rw [List.length_map, j1])))) rfl ?_; (try simp only [Act.put, lyy])
    refine qah (qbe rfl Tryd.underlying25 rfl) rfl ?_; (try simp only [Act.put, lyy])
    refine qah (qcu (c := false) rfl rfl rfl (decide_eq_false (by omega))) rfl ?_; (try simp only [Act.put, lyy])
    refine qaa (qaz (b := true) (v := .bool false) rfl rfl rfl) rfl ?_; (try simp only [Act.put, lyy])
    refine qab ?_
    go_upto_region 9 with fail; refine wp_region_lit ?_
    refine qaa (qae (v := .int .u8 (k : Int)) rfl rfl) rfl ?_; (try simp only [Act.put, lyy])
    refine qaa (qb0 (a := k) (b := 3) rfl rfl rfl (by omega) (by omega)) rfl ?_; (try simp only [Act.put, lyy])
    refine qaa (qb4 (a := ((k % 3 : Nat) : Int)) (b := 2) (c := false) rfl rfl rfl (beq_eq_false_iff_ne.2 (by have := H3.out; omega))) rfl ?_; (try simp only [Act.put, lyy])
    refine qaa (qae (v := .bool false) rfl rfl) rfl ?_; (try simp only [Act.put, lyy])
    refine qa3 rfl ?_; (try simp only [Act.put, lyy])
    refine qa3 rfl ?_; (try simp only [Act.put, lyy])
    refine qa3 rfl ?_; (try simp only [Act.put, lyy])
    refine qa3 rfl ?_; (try simp only [Act.put, lyy])
    refine qaa (qaz (b := false) (v := .bool false) rfl rfl rfl) rfl ?_; (try simp only [Act.put, lyy])
    refine qab ?_
    go_upto_region 14 with fail; refine wp_region_lit ?_
    refine qaa (qaj (vs := lsR (.int .i64 m.acc) (.int .i64 m.ver) (m.ident.map b8) (.slice a0 m.devs.length c0) (m.sig.map b8)) rfl Tryd.underlying29 rfl (szR (qas (by rw [List.length_map, k1]) (by rw [List.length_map, k2])) (by kernel_rfl)) rfl (E.out.get (i := 3) rfl).range) rfl ?_; (try simp only [Act.put, lyy])
    refine qaa (qaj (vs := lsR (.int .i64 n.acc) (.int .i64 n.ver) (n.ident.map b8) (.slice ar n.devs.length cr) (n.sig.map b8)) rfl Tryd.underlying29 rfl (szR (qas (by rw [List.length_map, k3]) (by rw [List.length_map, k4])) (by kernel_rfl)) rfl (E.out.get (i := 2) rfl).range) rfl ?_; (try simp only [Act.put, lyy])
    refine qaa (qae (v := .int .i64 dv) rfl rfl) rfl ?_; (try simp only [Act.put, lyy])
    refine qam (qbx qbz rfl rfl rfl rfl rfl) rfl (qck m n _ _ _ _ hmo hno (HXF.out.below E.out.bl) (HYF.out.below E.out.bl)) (fun a16 hb => ?_); (try simp only [Act.put, lyy])
    replace E := Lib.hid (E.out.below hb)
    clear hb
    refine qaa (qae (v := .bool true) rfl rfl) rfl ?_; (try simp only [Act.put, lyy])
    refine qah (qaj (vs := lsR (.int .i64 p.acc) (.int .i64 p.ver) (p.ident.map b8) (.slice va1 p.devs.length vc1) (p.sig.map b8)) rfl Tryd.underlying29 rfl (szR (qas (by rw [List.length_map, j1]) (by rw [List.length_map, j2])) (by kernel_rfl)) rfl (E.out.get (i := 1) rfl).range) rfl ?_; (try simp only [Act.put, lyy])
    refine qah (qaj (vs := lsR (.int .i64 p.acc) (.int .i64 p.ver) (p.ident.map b8) (.slice va2 p.devs.length vc2) (p.sig.map b8)) rfl Tryd.underlying29 rfl (szR (qas (by rw [List.length_map, j1]) (by rw [List.length_map, j2])) (by kernel_rfl)) rfl (E.out.get (i := 0) rfl).range) rfl ?_; (try simp only [Act.put, lyy])
    refine qah (qae (v := .int .u8 (k : Int)) rfl rfl) rfl ?_; (try simp only [Act.put, lyy])
    refine qah (qb0 (a := k) (b := 9) rfl rfl rfl (by omega) (by omega)) rfl ?_; (try simp only [Act.put, lyy])
    refine qah (qdh rfl rfl (by omega) (by omega)) rfl ?_; (try simp only [Act.put, lyy])
    refine qbp (qbx qbz rfl rfl rfl rfl rfl) rfl (qck p p _ _ _ _ hp hp (E.out.froD fun V h => ⟨_, _, rfl, h.2.1⟩) (E.out.froD fun V h => ⟨_, _, rfl, h.1⟩)) (fun a17 hb => ?_); (try simp only [Act.put, lyy])
    replace E := Lib.hid (E.out.below hb)
    clear hb
    refine qaa (qaz (b := true) (v := .bool true) rfl rfl rfl) rfl ?_; (try simp only [Act.put, lyy])
    refine qaa (qaf (v := .bool true) rfl rfl) rfl ?_; (try simp only [Act.put, lyy])
    refine qab ?_
    go_upto_region 15 with fail; refine wp_region_lit ?_
    refine qaa (qae (v := .bool true) rfl rfl) rfl ?_; (try simp only [Act.put, lyy])
    refine qaa (qae (v := .bool true) rfl rfl) rfl ?_; (try simp only [Act.put, lyy])
    refine qah (qaj (vs := lsR (.int .i64 p.acc) (.int .i64 p.ver) (p.ident.map b8) (.slice va2 p.devs.length vc2) (p.sig.map b8)) rfl Tryd.underlying29 rfl (szR (qas (by rw [List.length_map, j1]) (by rw [List.length_map, j2])) (by kernel_rfl)) rfl (E.out.get (i := 0) rfl).range) rfl ?_; (try simp only [Act.put, lyy])
    refine qah (qaj (vs := lsR (.int .i64 p.acc) (.int .i64 p.ver) (p.ident.map b8) (.slice va1 p.devs.length vc1) (p.sig.map b8)) rfl Tryd.underlying29 rfl (szR (qas (by rw [List.length_map, j1]) (by rw [List.length_map, j2])) (by kernel_rfl)) rfl (E.out.get (i := 1) rfl).range) rfl ?_; (try simp only [Act.put, lyy])
    refine qah (qae (v := .int .u8 (k : Int)) rfl rfl) rfl ?_; (try simp only [Act.put, lyy])
    refine qah (qb0 (a := k) (b := 9) rfl rfl rfl (by omega) (by omega)) rfl ?_; (try simp only [Act.put, lyy])
    refine qah (qdh rfl rfl (by omega) (by omega)) rfl ?_; (try simp only [Act.put, lyy])
    refine qbp (qbx qbz rfl rfl rfl rfl rfl) rfl (qck p p _ _ _ _ hp hp (E.out.froD fun V h => ⟨_, _, rfl, h.1⟩) (E.out.froD fun V h => ⟨_, _, rfl, h.2.1⟩)) (fun a18 hb => ?_); (try simp only [Act.put, lyy])
    replace E := Lib.hid (E.out.below hb)
    clear hb
    refine qaa (qaz (b := true) (v := .bool true) rfl rfl rfl) rfl ?_; (try simp only [Act.put, lyy])
    refine qaa (qaf (v := .bool true) rfl rfl) rfl ?_; (try simp only [Act.put, lyy])
    refine qab ?_
    go_wp2_with fail
    go_ret
    exact ⟨rfl, E.out.bl⟩
  have H3 : Hid (k % 3 = 2) := Lib.hid (by omega)
  clear h30 h31
  go_upto_region 5 with fail; refine wp_region_lit ?_
  refine qaa (qae (v := .int .u8 (k : Int)) rfl rfl) rfl ?_; (try simp only [Act.put, lyy])
  refine qaa (qb0 (a := k) (b := 3) rfl rfl rfl (by omega) (by omega)) rfl ?_; (try simp only [Act.put, lyy])
  refine qaa (qb4 (a := ((k % 3 : Nat) : Int)) (b := 0) (c := false) rfl rfl rfl (beq_eq_false_iff_ne.2 (by have := H3.out; omega))) rfl ?_; (try simp only [Act.put, lyy])
  refine qab ?_
  go_upto_region 7 with fail; refine wp_region_lit ?_
  refine qaa (qae (v := .int .u8 (k : Int)) rfl rfl) rfl ?_; (try simp only [Act.put, lyy])
  refine qaa (qb0 (a := k) (b := 3) rfl rfl rfl (by omega) (by omega)) rfl ?_; (try simp only [Act.put, lyy])
  refine qaa (qb4 (a := ((k % 3 : Nat) : Int)) (b := 1) (c := false) rfl rfl rfl (beq_eq_false_iff_ne.2 (by have := H3.out; omega))) rfl ?_; (try simp only [Act.put, lyy])
  refine qaa (qae (v := .bool false) rfl rfl) rfl ?_; (try simp only [Act.put, lyy])
  refine qa3 rfl ?_; (try simp only [Act.put, lyy])
  refine qa3 rfl ?_; (try simp only [Act.put, lyy])
  refine qa3 rfl ?_; (try simp only [Act.put, lyy])
  refine qa3 rfl ?_; (try simp only [Act.put, lyy])
  refine qaa (qaz (b := false) (v := .bool false) rfl rfl rfl) rfl ?_; (try simp only [Act.put, lyy])
  refine qab ?_
  by_cases hz : 0 < p.devs.length
  ·go_upto_region 9 with fail; refine wp_region_lit ?_
   refine qaa (qae (v := .int .u8 (k : Int)) rfl rfl) rfl ?_; (try simp only [Act.put, lyy])
   refine qaa (qb0 (a := k) (b := 3) rfl rfl rfl (by omega) (by omega)) rfl ?_; (try simp only [Act.put, lyy])
   refine qaa (qb4 (a := ((k % 3 : Nat) : Int)) (b := 2) (c := true) rfl rfl rfl (by rw [H3.out]; rfl)) rfl ?_; (try simp only [Act.put, lyy])
   refine qaa (qae (v := .bool true) rfl rfl) rfl ?_; (try simp only [Act.put, lyy])
   refine qah (qan (s := 0) (k := 34) rfl Tryd.underlying29 rfl (by kernel_rfl) rfl rfl) rfl ?_; (try simp only [Act.put, lyy])
   refine qah (qav rfl Tryd.underlying25 rfl rfl ((E.out.get (i := 0) rfl).c 34 _ (qal (by rw [List.length_map, j1])))) rfl ?_; (try simp only [Act.put, lyy])
   refine qah (qbe rfl Tryd.underlying25 rfl) rfl ?_; (try simp only [Act.put, lyy])
   refine qah (qcu (c := true) rfl rfl rfl (decide_eq_true (by omega))) rfl ?_; (try simp only [Act.put, lyy])
   refine qaa (qaz (b := true) (v := .bool true) rfl rfl rfl) rfl ?_; (try simp only [Act.put, lyy])
   refine qab ?_
   go_upto_region 10 with fail; refine wp_region_lit ?_
   refine qaa (qaf (v := .slice none 0 0) rfl rfl) rfl ?_; (try simp only [Act.put, lyy])
   refine qab ?_
   obtain ⟨r, hr⟩ : ∃ r, r = k % p.devs.length := ⟨_, rfl⟩
   have hrl : r < p.devs.length := by rw [hr]; exact Nat.mod_lt _ hz
   have HR := Lib.hid hr
   clear hr
   have EA := E
   have HI0 : Hid (E5 a15 (.slice none 0 0) [] a15) := Lib.hid (E5.none a15)
   have htl : (p.devs.take r).length = r := by rw [List.length_take]; omega
   have hdl : (p.devs.drop (r + 1)).length = p.devs.length - (r + 1) := List.length_drop
   go_upto_region 11 with fail
   refine wp_region_noPanic ?_; refine qay (S := Till 10 (fun V => Below a15.heap.size a15 V)) (by kernel_rfl) (.inr (Below.refl _ _).drew) (fun _ => ?_); have hS : Below a15.heap.size a15 a15.drew := (Below.refl _ _).drew
   have E0 := E
   replace E := Lib.hid (E.out.below hS)
   have hS0 := hS
   generalize a15.drew = a16 at *
   refine qak 0 rfl rfl (by kernel_rfl) (by kernel_rfl) (by kernel_rfl) (by kernel_rfl) (by kernel_rfl) (fun _ _ _ h => h) rfl (fun V hV => qae (v := .slice none 0 0) rfl rfl) hS ?_; (try simp only [Act.put, lyy])
   refine qak 1 rfl rfl (by kernel_rfl) (by kernel_rfl) (by kernel_rfl) (by kernel_rfl) (by kernel_rfl) (fun _ _ _ h => h) rfl (fun V hV => qan (s := 0) (k := 34) rfl Tryd.underlying29 rfl (by kernel_rfl) rfl rfl) hS ?_; (try simp only [Act.put, lyy])
   refine qak 2 rfl rfl (by kernel_rfl) (by kernel_rfl) (by kernel_rfl) (by kernel_rfl) (by kernel_rfl) (fun _ _ _ h => h) rfl (fun V hV => qav rfl Tryd.underlying25 rfl rfl (((E0.out.below hV).get (i := 0) rfl).c 34 _ (qal (by rw [List.length_map, j1])))) hS ?_; (try simp only [Act.put, lyy])
   refine qak 3 rfl rfl (by kernel_rfl) (by kernel_rfl) (by kernel_rfl) (by kernel_rfl) (by kernel_rfl) (fun _ _ _ h => h) rfl (fun V hV => qae (v := .int .u8 (k : Int)) rfl rfl) hS ?_; (try simp only [Act.put, lyy])
   refine qak 4 rfl rfl (by kernel_rfl) (by kernel_rfl) (by kernel_rfl) (by kernel_rfl) (by kernel_rfl) (fun _ _ _ h => h) rfl (fun V hV => qdh rfl rfl (by omega) (by omega)) hS ?_; (try simp only [Act.put, lyy])
   refine qak 5 rfl rfl (by kernel_rfl) (by kernel_rfl) (by kernel_rfl) (by kernel_rfl) (by kernel_rfl) (fun _ _ _ h => h) rfl (fun V hV => qan (s := 0) (k := 34) rfl Tryd.underlying29 rfl (by kernel_rfl) rfl rfl) hS ?_; (try simp only [Act.put, lyy])
   refine qak 6 rfl rfl (by kernel_rfl) (by kernel_rfl) (by kernel_rfl) (by kernel_rfl) (by kernel_rfl) (fun _ _ _ h => h) rfl (fun V hV => qav rfl Tryd.underlying25 rfl rfl (((E0.out.below hV).get (i := 0) rfl).c 34 _ (qal (by rw [List.length_map, j1])))) hS ?_; (try simp only [Act.put, lyy])
   refine qak 7 rfl rfl (by kernel_rfl) (by kernel_rfl) (by kernel_rfl) (by kernel_rfl) (by kernel_rfl) (fun _ _ _ h => h) rfl (fun V hV => qbe rfl Tryd.underlying25 rfl) hS ?_; (try simp only [Act.put, lyy])
   refine qak 8 rfl rfl (by kernel_rfl) (by kernel_rfl) (by kernel_rfl) (by kernel_rfl) (by kernel_rfl) (fun _ _ _ h => h) rfl (fun V hV => (HR.out ▸ run_remN (a := k) (b := p.devs.length) rfl rfl rfl hz)) hS ?_; (try simp only [Act.put, lyy])
   refine qak 9 rfl rfl (by kernel_rfl) (by kernel_rfl) (by kernel_rfl) (by kernel_rfl) (by kernel_rfl) (fun _ _ _ h => h) rfl (fun V hV => run_sloZ (z := 33) rfl Tryd.underlying25 (by kernel_rfl) rfl rfl (by have := E0.out.h.1.cap; omega)) hS ?_; (try simp only [Act.put, lyy])
   refine wpAnyD_some 10 (by kernel_rfl) rfl rfl rfl rfl (run_appX (l2 := p.devs.take r) rfl rfl (HI0.out.below hS0) (by rw [htl]; rfl) (slR_take E.out.h.1 (by omega)) (fun p hp2 => hp.devs _ (List.mem_of_mem_take hp2)) (by rw [htl]; show 0 + r ≤ _; omega)) (fun v7 b1 hE => ?_); (try simp only [Act.put, lyy])
   have HI0n := Lib.hid hE
   replace E := Lib.hid (EA.out.below hE.bl)
   clear hE HI0 E0 hS hS0
   refine qcj 11 (by kernel_rfl) rfl rfl rfl (qaf (v := v7) rfl rfl) (.inl rfl) ?_; (try simp only [Act.put, lyy])
   refine qa2 (by kernel_rfl) ?_ _; refine NoPanic.normal ?_
   go_upto_region 12 with fail
   refine wp_region_noPanic ?_; refine qay (S := Till 11 (fun V => Below b1.heap.size b1 V)) (by kernel_rfl) (.inr (Below.refl _ _).drew) (fun _ => ?_); have hS : Below b1.heap.size b1 b1.drew := (Below.refl _ _).drew
   have E0 := E
   replace E := Lib.hid (E.out.below hS)
   have hS0 := hS
   generalize b1.drew = a17 at *
   refine qak 0 rfl rfl (by kernel_rfl) (by kernel_rfl) (by kernel_rfl) (by kernel_rfl) (by kernel_rfl) (fun _ _ _ h => h) rfl (fun V hV => qae (v := v7) rfl rfl) hS ?_; (try simp only [Act.put, lyy])
   refine qak 1 rfl rfl (by kernel_rfl) (by kernel_rfl) (by kernel_rfl) (by kernel_rfl) (by kernel_rfl) (fun _ _ _ h => h) rfl (fun V hV => qan (s := 0) (k := 34) rfl Tryd.underlying29 rfl (by kernel_rfl) rfl rfl) hS ?_; (try simp only [Act.put, lyy])
   refine qak 2 rfl rfl (by kernel_rfl) (by kernel_rfl) (by kernel_rfl) (by kernel_rfl) (by kernel_rfl) (fun _ _ _ h => h) rfl (fun V hV => qav rfl Tryd.underlying25 rfl rfl (((E0.out.below hV).get (i := 0) rfl).c 34 _ (qal (by rw [List.length_map, j1])))) hS ?_; (try simp only [Act.put, lyy])
   refine qak 3 rfl rfl (by kernel_rfl) (by kernel_rfl) (by kernel_rfl) (by kernel_rfl) (by kernel_rfl) (fun _ _ _ h => h) rfl (fun V hV => qae (v := .int .u8 (k : Int)) rfl rfl) hS ?_; (try simp only [Act.put, lyy])
   refine qak 4 rfl rfl (by kernel_rfl) (by kernel_rfl) (by kernel_rfl) (by kernel_rfl) (by kernel_rfl) (fun _ _ _ h => h) rfl (fun V hV => qdh rfl rfl (by omega) (by omega)) hS ?_; (try simp only [Act.put, lyy])
   refine qak 5 rfl rfl (by kernel_rfl) (by kernel_rfl) (by kernel_rfl) (by kernel_rfl) (by kernel_rfl) (fun _ _ _ h => h) rfl (fun V hV => qan (s := 0) (k := 34) rfl Tryd.underlying29 rfl (by kernel_rfl) rfl rfl) hS ?_; (try simp only [Act.put, lyy])
   refine qak 6 rfl rfl (by kernel_rfl) (by kernel_rfl) (by kernel_rfl) (by kernel_rfl) (by kernel_rfl) (fun _ _ _ h => h) rfl (fun V hV => qav rfl Tryd.underlying25 rfl rfl (((E0.out.below hV).get (i := 0) rfl).c 34 _ (qal (by rw [List.length_map, j1])))) hS ?_; (try simp only [Act.put, lyy])
   refine qak 7 rfl rfl (by kernel_rfl) (by kernel_rfl) (by kernel_rfl) (by kernel_rfl) (by kernel_rfl) (fun _ _ _ h => h) rfl (fun V hV => qbe rfl Tryd.underlying25 rfl) hS ?_; (try simp only [Act.put, lyy])
   refine qak 8 rfl rfl (by kernel_rfl) (by kernel_rfl) (by kernel_rfl) (by kernel_rfl) (by kernel_rfl) (fun _ _ _ h => h) rfl (fun V hV => (HR.out ▸ run_remN (a := k) (b := p.devs.length) rfl rfl rfl hz)) hS ?_; (try simp only [Act.put, lyy])
   refine qak 9 rfl rfl (by kernel_rfl) (by kernel_rfl) (by kernel_rfl) (by kernel_rfl) (by kernel_rfl) (fun _ _ _ h => h) rfl (fun V hV => qb1 (a := r) (b := 1) rfl rfl rfl (by omega)) hS ?_; (try simp only [Act.put, lyy])
   refine qak 10 rfl rfl (by kernel_rfl) (by kernel_rfl) (by kernel_rfl) (by kernel_rfl) (by kernel_rfl) (fun _ _ _ h => h) rfl (fun V hV => run_sllZ (z := 33) rfl Tryd.underlying25 (by kernel_rfl) rfl rfl hrl) hS ?_; (try simp only [Act.put, lyy])
   refine wpAnyD_some 11 (by kernel_rfl) rfl rfl rfl rfl (run_appX (l2 := p.devs.drop (r + 1)) rfl rfl (HI0n.out.below hS0) (by rw [hdl]; rfl) (slR_drop E.out.h.1 (by omega)) (fun p hp2 => hp.devs _ (List.mem_of_mem_drop hp2)) (by rw [List.nil_append, htl, hdl]; omega)) (fun v8 b2 hE => ?_); (try simp only [Act.put, lyy])
   have HI0nn := Lib.hid hE
   replace E := Lib.hid (EA.out.below hE.bl)
   clear hE HI0n E0 hS hS0
   refine qcj 12 (by kernel_rfl) rfl rfl rfl (qaf (v := v8) rfl rfl) (.inl rfl) ?_; (try simp only [Act.put, lyy])
   refine qa2 (by kernel_rfl) ?_ _; refine NoPanic.normal ?_
   obtain ⟨t, ht⟩ : ∃ t, t = [] ++ p.devs.take r ++ p.devs.drop (r + 1) := ⟨_, rfl⟩
   have HI1 := HI0nn
   clear HI0nn
   rw [← ht] at HI1
   have htk : ∀ x ∈ t, x.key.length = 32 := fun x hx => by
    rw [ht] at hx
    rcases List.mem_append.1 hx with hx | hx
    ·exact hp.devs x (List.mem_of_mem_take (by simpa using hx))
    ·exact hp.devs x (List.mem_of_mem_drop hx)
   have hto : (⟨p.acc, p.ver, p.ident, t, p.sig⟩ : MLs).Ok := ⟨hp.ident, hp.sig, htk, by show t.length ≤ 60000; rw [ht, List.length_append, List.length_append, htl, hdl]; show 0 + r + _ ≤ _; omega⟩
   obtain ⟨la, lc2, rfl, hf⟩ := HI1.out.fro htk
   replace E := Lib.hid (EA.out.call HI1.out.bl hf)
   clear hf HI1 htl hdl EA htk ht HR
   go_upto_region 13 with fail; refine wp_region_lit ?_
   refine qaa (qae (v := .slice la t.length lc2) rfl rfl) rfl ?_; (try simp only [Act.put, lyy])
   refine qaa (qan (s := 0) (k := 34) rfl Tryd.underlying29 rfl (by kernel_rfl) rfl rfl) rfl ?_; (try simp only [Act.put, lyy])
   refine qag (run_stc (v := .slice la t.length lc2) rfl (by kernel_rfl) rfl rfl rfl rfl ((E.out.get (i := 0) rfl).c 34 _ (qal (by rw [List.length_map, j1]))) ((E.out.get (i := 0) rfl).f _)) rfl rfl ?_
   replace E := Lib.hid (E.out.set 0 rfl (j := 34) (by have q2 : (lsR (.int .i64 p.acc) (.int .i64 p.ver) (p.ident.map b8) (.slice va2 p.devs.length vc2) (p.sig.map b8)).length = 99 := (qas (by rw [List.length_map, j1]) (by rw [List.length_map, j2])); omega) (.slice la t.length lc2))
   rw [show (lsR (.int .i64 p.acc) (.int .i64 p.ver) (p.ident.map b8) (.slice va2 p.devs.length vc2) (p.sig.map b8)).set 34 (.slice la t.length lc2) = lsR (.int .i64 p.acc) (.int .i64 p.ver) (p.ident.map b8) (.slice la t.length lc2) (p.sig.map b8) from (qdb (by rw [List.length_map, j1]) _)] at E
   generalize b2.setCell ⟨g14, 34, none⟩ (.slice la t.length lc2) = a18 at *
   replace E := Lib.hid (show Ev _ [(g14, lsR (.int .i64 p.acc) (.int .i64 p.ver) (p.ident.map b8) (.slice la t.length lc2) (p.sig.map b8)), (g9, lsR (.int .i64 p.acc) (.int .i64 p.ver) (p.ident.map b8) (.slice va1 p.devs.length vc1) (p.sig.map b8)), (g4, lsR (.int .i64 n.acc) (.int .i64 n.ver) (n.ident.map b8) (.slice ar n.devs.length cr) (n.sig.map b8)), (g2, lsR (.int .i64 m.acc) (.int .i64 m.ver) (m.ident.map b8) (.slice a0 m.devs.length c0) (m.sig.map b8))] _ _ _ a18 from E.out)
   refine qab ?_
   go_upto_region 14 with fail; refine wp_region_lit ?_
   refine qaa (qaj (vs := lsR (.int .i64 m.acc) (.int .i64 m.ver) (m.ident.map b8) (.slice a0 m.devs.length c0) (m.sig.map b8)) rfl Tryd.underlying29 rfl (szR (qas (by rw [List.length_map, k1]) (by rw [List.length_map, k2])) (by kernel_rfl)) rfl (E.out.get (i := 3) rfl).range) rfl ?_; (try simp only [Act.put, lyy])
   refine qaa (qaj (vs := lsR (.int .i64 n.acc) (.int .i64 n.ver) (n.ident.map b8) (.slice ar n.devs.length cr) (n.sig.map b8)) rfl Tryd.underlying29 rfl (szR (qas (by rw [List.length_map, k3]) (by rw [List.length_map, k4])) (by kernel_rfl)) rfl (E.out.get (i := 2) rfl).range) rfl ?_; (try simp only [Act.put, lyy])
   refine qaa (qae (v := .int .i64 dv) rfl rfl) rfl ?_; (try simp only [Act.put, lyy])
   refine qam (qbx qbz rfl rfl rfl rfl rfl) rfl (qck m n _ _ _ _ hmo hno (HXF.out.below E.out.bl) (HYF.out.below E.out.bl)) (fun a19 hb => ?_); (try simp only [Act.put, lyy])
   replace E := Lib.hid (E.out.below hb)
   clear hb
   refine qaa (qae (v := .bool true) rfl rfl) rfl ?_; (try simp only [Act.put, lyy])
   refine qah (qaj (vs := lsR (.int .i64 p.acc) (.int .i64 p.ver) (p.ident.map b8) (.slice va1 p.devs.length vc1) (p.sig.map b8)) rfl Tryd.underlying29 rfl (szR (qas (by rw [List.length_map, j1]) (by rw [List.length_map, j2])) (by kernel_rfl)) rfl (E.out.get (i := 1) rfl).range) rfl ?_; (try simp only [Act.put, lyy])
   refine qah (qaj (vs := lsR (.int .i64 p.acc) (.int .i64 p.ver) (p.ident.map b8) (.slice la t.length lc2) (p.sig.map b8)) rfl Tryd.underlying29 rfl (szR (qas (by rw [List.length_map, j1]) (by rw [List.length_map, j2])) (by kernel_rfl)) rfl (E.out.get (i := 0) rfl).range) rfl ?_; (try simp only [Act.put, lyy])
   refine qah (qae (v := .int .u8 (k : Int)) rfl rfl) rfl ?_; (try simp only [Act.put, lyy])
   refine qah (qb0 (a := k) (b := 9) rfl rfl rfl (by omega) (by omega)) rfl ?_; (try simp only [Act.put, lyy])
   refine qah (qdh rfl rfl (by omega) (by omega)) rfl ?_; (try simp only [Act.put, lyy])
   refine qbp (qbx qbz rfl rfl rfl rfl rfl) rfl (qck p ⟨p.acc, p.ver, p.ident, t, p.sig⟩ _ _ _ _ hp hto (E.out.froD fun V h => ⟨_, _, rfl, h.2.2.1⟩) (E.out.froD fun V h => ⟨_, _, rfl, h.1⟩)) (fun a20 hb => ?_); (try simp only [Act.put, lyy])
   replace E := Lib.hid (E.out.below hb)
   clear hb
   refine qaa (qaz (b := true) (v := .bool true) rfl rfl rfl) rfl ?_; (try simp only [Act.put, lyy])
   refine qaa (qaf (v := .bool true) rfl rfl) rfl ?_; (try simp only [Act.put, lyy])
   refine qab ?_
   go_upto_region 15 with fail; refine wp_region_lit ?_
   refine qaa (qae (v := .bool true) rfl rfl) rfl ?_; (try simp only [Act.put, lyy])
   refine qaa (qae (v := .bool true) rfl rfl) rfl ?_; (try simp only [Act.put, lyy])
   refine qah (qaj (vs := lsR (.int .i64 p.acc) (.int .i64 p.ver) (p.ident.map b8) (.slice la t.length lc2) (p.sig.map b8)) rfl Tryd.underlying29 rfl (szR (qas (by rw [List.length_map, j1]) (by rw [List.length_map, j2])) (by kernel_rfl)) rfl (E.out.get (i := 0) rfl).range) rfl ?_; (try simp only [Act.put, lyy])
   refine qah (qaj (vs := lsR (.int .i64 p.acc) (.int .i64 p.ver) (p.ident.map b8) (.slice va1 p.devs.length vc1) (p.sig.map b8)) rfl Tryd.underlying29 rfl (szR (qas (by rw [List.length_map, j1]) (by rw [List.length_map, j2])) (by kernel_rfl)) rfl (E.out.get (i := 1) rfl).range) rfl ?_; (try simp only [Act.put, lyy])
   refine qah (qae (v := .int .u8 (k : Int)) rfl rfl) rfl ?_; (try simp only [Act.put, lyy])
   refine qah (qb0 (a := k) (b := 9) rfl rfl rfl (by omega) (by omega)) rfl ?_; (try simp only [Act.put, lyy])
   refine qah (qdh rfl rfl (by omega) (by omega)) rfl ?_; (try simp only [Act.put, lyy])
   refine qbp (qbx qbz rfl rfl rfl rfl rfl) rfl (qck ⟨p.acc, p.ver, p.ident, t, p.sig⟩ p _ _ _ _ hto hp (E.out.froD fun V h => ⟨_, _, rfl, h.1⟩) (E.out.froD fun V h => ⟨_, _, rfl, h.2.2.1⟩)) (fun a21 hb => ?_); (try simp only [Act.put, lyy])
   replace E := Lib.hid (E.out.below hb)
   clear hb
   refine qaa (qaz (b := true) (v := .bool true) rfl rfl rfl) rfl ?_; (try simp only [Act.put, lyy])
   refine qaa (qaf (v := .bool true) rfl rfl) rfl ?_; (try simp only [Act.put, lyy])
   refine qab ?_
   go_wp2_with fail
   go_ret
   exact ⟨rfl, E.out.bl⟩
  ·go_upto_region 9 with fail; refine wp_region_lit ?_
   refine qaa (qae (v := .int .u8 (k : Int)) rfl rfl) rfl ?_; (try simp only [Act.put, lyy])
   refine qaa (qb0 (a := k) (b := 3) rfl rfl rfl (by omega) (by omega)) rfl ?_; (try simp only [Act.put, lyy])
   refine qaa (qb4 (a := ((k % 3 : Nat) : Int)) (b := 2) (c := true) rfl rfl rfl (by rw [H3.out]; rfl)) rfl ?_; (try simp only [Act.put, lyy])
   refine qaa (qae (v := .bool true) rfl rfl) rfl ?_; (try simp only [Act.put, lyy])
   refine qah (qan (s := 0) (k := 34) rfl Tryd.underlying29 rfl (by kernel_rfl) rfl rfl) rfl ?_; (try simp only [Act.put, lyy])
   refine qah (qav rfl Tryd.underlying25 rfl rfl ((E.out.get (i := 0) rfl).c 34 _ (qal (by rw [List.length_map, j1])))) rfl ?_; (try simp only [Act.put, lyy])
   refine qah (qbe rfl Tryd.underlying25 rfl) rfl ?_; (try simp only [Act.put, lyy])
   refine qah (qcu (c := false) rfl rfl rfl (decide_eq_false (by omega))) rfl ?_; (try simp only [Act.put, lyy])
   refine qaa (qaz (b := true) (v := .bool false) rfl rfl rfl) rfl ?_; (try simp only [Act.put, lyy])
   refine qab ?_
   go_upto_region 14 with fail; refine wp_region_lit ?_
   refine qaa (qaj (vs := lsR (.int .i64 m.acc) (.int .i64 m.ver) (m.ident.map b8) (.slice a0 m.devs.length c0) (m.sig.map b8)) rfl Tryd.underlying29 rfl (szR (qas (by rw [List.length_map, k1]) (by rw [List.length_map, k2])) (by kernel_rfl)) rfl (E.out.get (i := 3) rfl).range) rfl ?_; (try simp only [Act.put, lyy])
   refine qaa (qaj (vs := lsR (.int .i64 n.acc) (.int .i64 n.ver) (n.ident.map b8) (.slice ar n.devs.length cr) (n.sig.map b8)) rfl Tryd.underlying29 rfl (szR (qas (by rw [List.length_map, k3]) (by rw [List.length_map, k4])) (by kernel_rfl)) rfl (E.out.get (i := 2) rfl).range) rfl ?_; (try simp only [Act.put, lyy])
   refine qaa (qae (v := .int .i64 dv) rfl rfl) rfl ?_; (try simp only [Act.put, lyy])
   refine qam (qbx qbz rfl rfl rfl rfl rfl) rfl (qck m n _ _ _ _ hmo hno (HXF.out.below E.out.bl) (HYF.out.below E.out.bl)) (fun a16 hb => ?_); (try simp only [Act.put, lyy])
   replace E := Lib.hid (E.out.below hb)
   clear hb
   refine qaa (qae (v := .bool true) rfl rfl) rfl ?_; (try simp only [Act.put, lyy])
   refine qah (qaj (vs := lsR (.int .i64 p.acc) (.int .i64 p.ver) (p.ident.map b8) (.slice va1 p.devs.length vc1) (p.sig.map b8)) rfl Tryd.underlying29 rfl (szR (qas (by rw [List.length_map, j1]) (by rw [List.length_map, j2])) (by kernel_rfl)) rfl (E.out.get (i := 1) rfl).range) rfl ?_; (try simp only [Act.put, lyy])
   refine qah (qaj (vs := lsR (.int .i64 p.acc) (.int .i64 p.ver) (p.ident.map b8) (.slice va2 p.devs.length vc2) (p.sig.map b8)) rfl Tryd.underlying29 rfl (szR (qas (by rw [List.length_map, j1]) (by rw [List.length_map, j2])) (by kernel_rfl)) rfl (E.out.get (i := 0) rfl).range) rfl ?_; (try simp only [Act.put, lyy])
   refine qah (qae (v := .int .u8 (k : Int)) rfl rfl) rfl ?_; (try simp only [Act.put, lyy])
   refine qah (qb0 (a := k) (b := 9) rfl rfl rfl (by omega) (by omega)) rfl ?_; (try simp only [Act.put, lyy])
   refine qah (qdh rfl rfl (by omega) (by omega)) rfl ?_; (try simp only [Act.put, lyy])
   refine qbp (qbx qbz rfl rfl rfl rfl rfl) rfl (qck p p _ _ _ _ hp hp (E.out.froD fun V h => ⟨_, _, rfl, h.2.1⟩) (E.out.froD fun V h => ⟨_, _, rfl, h.1⟩)) (fun a17 hb => ?_); (try simp only [Act.put, lyy])
   replace E := Lib.hid (E.out.below hb)
   clear hb
   refine qaa (qaz (b := true) (v := .bool true) rfl rfl rfl) rfl ?_; (try simp only [Act.put, lyy])
   refine qaa (qaf (v := .bool true) rfl rfl) rfl ?_; (try simp only [Act.put, lyy])
   refine qab ?_
   go_upto_region 15 with fail; refine wp_region_lit ?_
   refine qaa (qae (v := .bool true) rfl rfl) rfl ?_; (try simp only [Act.put, lyy])
   refine qaa (qae (v := .bool true) rfl rfl) rfl ?_; (try simp only [Act.put, lyy])
   refine qah (qaj (vs := lsR (.int .i64 p.acc) (.int .i64 p.ver) (p.ident.map b8) (.slice va2 p.devs.length vc2) (p.sig.map b8)) rfl Tryd.underlying29 rfl (szR (qas (by rw [List.length_map, j1]) (by rw [List.length_map, j2])) (by kernel_rfl)) rfl (E.out.get (i := 0) rfl).range) rfl ?_; (try simp only [Act.put, lyy])
   refine qah (qaj (vs := lsR (.int .i64 p.acc) (.int .i64 p.ver) (p.ident.map b8) (.slice va1 p.devs.length vc1) (p.sig.map b8)) rfl Tryd.underlying29 rfl (szR (qas (by rw [List.length_map, j1]) (by rw [List.length_map, j2])) (by kernel_rfl)) rfl (E.out.get (i := 1) rfl).range) rfl ?_; (try simp only [Act.put, lyy])
   refine qah (qae (v := .int .u8 (k : Int)) rfl rfl) rfl ?_; (try simp only [Act.put, lyy])
   refine qah (qb0 (a := k) (b := 9) rfl rfl rfl (by omega) (by omega)) rfl ?_; (try simp only [Act.put, lyy])
   refine qah (qdh rfl rfl (by omega) (by omega)) rfl ?_; (try simp only [Act.put, lyy])
   refine qbp (qbx qbz rfl rfl rfl rfl rfl) rfl (qck p p _ _ _ _ hp hp (E.out.froD fun V h => ⟨_, _, rfl, h.1⟩) (E.out.froD fun V h => ⟨_, _, rfl, h.2.1⟩)) (fun a18 hb => ?_); (try simp only [Act.put, lyy])
   replace E := Lib.hid (E.out.below hb)
   clear hb
   refine qaa (qaz (b := true) (v := .bool true) rfl rfl rfl) rfl ?_; (try simp only [Act.put, lyy])
   refine qaa (qaf (v := .bool true) rfl rfl) rfl ?_; (try simp only [Act.put, lyy])
   refine qab ?_
   go_wp2_with fail
   go_ret
   exact ⟨rfl, E.out.bl⟩
end Go.Proofs.YtcgbgmbnagmohaaDoor
