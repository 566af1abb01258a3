import Derived.Test.YtfdjmdfaidiliaaGreatDoorLy
import Derived.Test.YtfdjmdfaidiliaaGreatDoorGenA
import Derived.Test.YtfdjmdfaidiliaaGreatDoorScMath
import Derived.Test.YtfdjmdfaidiliaaGreatDoorMixB
import Derived.Test.YtfdjmdfaidiliaaGreatDoorS5
import Derived.Test.YtfdjmdfaidiliaaGreatDoorLimbs6
import Derived.Test.YtfdjmdfaidiliaaGreatDoorRefEd1
import Derived.Test.YtfdjmdfaidiliaaGreatDoorEdBack
import Derived.Test.YtfdjmdfaidiliaaGreatDoorEdMul2
import Derived.Test.YtfdjmdfaidiliaaGreatDoorSgDef
import Derived.Test.YtfdjmdfaidiliaaGreatDoorRef564
import Derived.Test.YtfdjmdfaidiliaaGreatDoorLateG
import Derived.Test.YtfdjmdfaidiliaaGreatDoorScOps
import Derived.Test.YtfdjmdfaidiliaaGreatDoorMixB
import Derived.Test.YtfdjmdfaidiliaaGreatDoorSgCon
namespace Go.Proofs.YtfdjmdfaidiliaaGreatDoor
open Go.RowKit
set_option maxRecDepth 20000
def iN (n : Nat) : Value := .int .i64 (n : Int)
def Rd (v : Value) (l : List Nat) (u : World) : Prop := ∃ g f c, v = .slice (some ⟨g, f, none⟩) l.length c ∧ g < u.heap.size ∧ u.rangeAt g f (l.map iN)
theorem Rd.below {v : Value} {l : List Nat} {u u' : World} (h : Rd v l u) (hb : Below u.heap.size u u') : Rd v l u' := by
  obtain ⟨g, f, c, h1, h2, h3⟩ := h
  exact ⟨g, f, c, h1, Nat.lt_of_lt_of_le h2 hb.size, qa8 h3 h2 hb⟩
theorem rd_cell {g f : Nat} {l : List Nat} {u : World} (h : u.rangeAt g f (l.map iN)) {i : Nat} (hi : i < l.length) : u.cell? ⟨g, f + i, none⟩ = some (iN (l.getD i 0)) := h i _ (qa5 iN 0 hi)
structure Io (r : World) (v : Value) (l : List Nat) (u : World) : Prop where
  bl : Below r.heap.size r u
  O : u.ownsRow r.heap.size 3 1 v l.length (l.map iN)
theorem Io.below {r u u' : World} {v : Value} {l : List Nat} (i : Io r v l u) (hb : Below u.heap.size u u') : Io r v l u' := ⟨i.bl.trans (hb.mono i.bl.size), qct i.O hb⟩
theorem Io.none (r : World) : Io r (.slice none 0 0) [] r := ⟨Below.refl _ _, ⟨rfl, .inl ⟨rfl, rfl⟩⟩⟩
theorem Io.mono {r r' u : World} {v : Value} {l : List Nat} (i : Io r' v l u) (hb : Below r.heap.size r r') : Io r v l u := ⟨hb.trans (i.bl.mono hb.size), own_mono i.O hb.size⟩
structure Is (r : World) (v : Value) (l : List Nat) (u : World) : Prop where
  bl : Below r.heap.size r u
  ex : ∃ g c rest, v = .slice (some ⟨g, 0, none⟩) l.length c ∧ r.heap.size ≤ g ∧ Arr g (l.map iN ++ rest) u
theorem Io.is {r u : World} {v : Value} {l : List Nat} (i : Io r v l u) (hl : l ≠ []) : Is r v l u := by
  refine ⟨i.bl, ?_⟩
  rcases i.O.2 with ⟨_, hn⟩ | ⟨g, cap, cur, rfl, hb, hg, h1, h2, h3, h4⟩
  · exact absurd (List.eq_nil_of_length_eq_zero hn) hl
  · refine ⟨g, cap, (cur.toList.drop (l.map iN).length), rfl, hb, (Array.getElem?_eq_some_iff.1 hg).1, fun j v hv => ?_, fun j => by simp [World.frozen?, hg]⟩
    have e : l.map iN ++ cur.toList.drop (l.map iN).length = cur.toList := by
      rw [← h4]
      rw [show (cur.toList.take (l.length * 1)).length = l.length * 1 by rw [List.length_take]; simp; omega, List.take_append_drop]
    rw [e] at hv
    simp only [World.cell?, hg]
    simpa using hv
theorem Is.below {r u u' : World} {v : Value} {l : List Nat} (i : Is r v l u) (hb : Below u.heap.size u u') : Is r v l u' := by
  obtain ⟨g, c, rest, h1, h2, h3⟩ := i.ex
  exact ⟨i.bl.trans (hb.mono i.bl.size), g, c, rest, h1, h2, h3.below hb⟩
theorem Is.mono {r r' u : World} {v : Value} {l : List Nat} (i : Is r' v l u) (hb : Below r.heap.size r r') : Is r v l u := by
  obtain ⟨g, c, rest, h1, h2, h3⟩ := i.ex
  exact ⟨hb.trans (i.bl.mono hb.size), g, c, rest, h1, Nat.le_trans hb.size h2, h3⟩
theorem Is.rd {r u : World} {v : Value} {l : List Nat} (i : Is r v l u) : Rd v l u := by
  obtain ⟨g, c, rest, h1, h2, h3⟩ := i.ex
  refine ⟨g, 0, c, h1, h3.lt, fun j x hx => h3.range j x ?_⟩
  rw [List.getElem?_append_left (by
    rcases Nat.lt_or_ge j (l.map iN).length with h | h
    · exact h
    · rw [List.getElem?_eq_none h] at hx; cases hx)]
  exact hx
theorem Io.rd {r u : World} {v : Value} {l : List Nat} (i : Io r v l u) (hl : l ≠ []) : Rd v l u := (i.is hl).rd
theorem ob_low : ∀ i, i < 16 → (obL.take 16).getD i 0 = obL.getD i 0 := by decide
theorem ob_zero {i : Nat} (h1 : ¬ i < 16) (h2 : i ≠ 31) : obL.getD i 0 = 0 := by
  by_cases h : i < 33
  · have : ∀ i, i < 33 → ¬ i < 16 → i ≠ 31 → obL.getD i 0 = 0 := by decide
    exact this i h h1 h2
  · rw [List.getD_eq_getElem?_getD, List.getElem?_eq_none (by rw [obL_len]; omega)]; rfl
set_option maxHeartbeats 4000000 in
theorem order_any (i : Nat) (w : World) : Calls Tryz.prog 101 #[.int .i64 (i : Int)] w fun e w' => e = .returned (.int .i64 ((obL.getD i 0 : Nat) : Int)) ∧ Below w.heap.size w w' := by
  have H1 : Hid (i < 16 → (obL.take 16).getD i 0 = obL.getD i 0) := Lib.hid (ob_low i)
  have H2 : Hid (¬ i < 16 → i ≠ 31 → obL.getD i 0 = 0) := Lib.hid ob_zero
  have H3 : Hid (i = 31 → obL.getD i 0 = 16) := Lib.hid (by rintro rfl; rfl)
  generalize obL.getD i 0 = ob at *
  obtain ⟨L, hL⟩ : ∃ L, L = obL.take 16 := ⟨_, rfl⟩
  have hLl : L.length = 16 := by rw [hL]; rfl
  have HF : Hid (∀ ρ : Operand → Value, (∀ c, ρ (.const c) = c) → Instr.fill (fun i => some (i * 1, 1)) ((Array.range (16 * 1)).map ((Value.int .i64 0).cells[· % (Value.int .i64 0).cells.size]!)) ((#[(0, .const (.int .i64 237)), (1, .const (.int .i64 211)), (2, .const (.int .i64 245)), (3, .const (.int .i64 92)), (4, .const (.int .i64 26)), (5, .const (.int .i64 99)), (6, .const (.int .i64 18)), (7, .const (.int .i64 88)), (8, .const (.int .i64 214)), (9, .const (.int .i64 156)), (10, .const (.int .i64 247)), (11, .const (.int .i64 162)), (12, .const (.int .i64 222)), (13, .const (.int .i64 249)), (14, .const (.int .i64 222)), (15, .const (.int .i64 20))] : Array (Nat × Operand)).map fun (i, x) => (i, ρ x)).toList = some (L.map iN).toArray) := Lib.hid fun ρ hρ => by
    rw [hL]
    simp only [List.map_toArray, List.map_cons, List.map_nil, hρ]
    kernel_rfl
  rw [← hL] at H1
  clear hL
  go_enter Tryz.func101, Tryz.ntmps101
  go_upto_region 0 with fail; refine wp_region_lit ?_
  refine qaa (qag (v := .int _ _) rfl rfl) rfl ?_; (try simp only [Act.put, lyy])
  refine qac ?_
  go_upto_region 1 with fail; refine wp_region_lit ?_
  refine qaa (qbu (cells := (L.map iN).toArray) (z := .int .i64 0) rfl Tryz.underlying72 (by kernel_rfl) (by omega) (by omega) (HF.out _ (fun _ => rfl))) rfl ?_; (try simp only [Act.put, lyy])
  have HA := Lib.hid (Arr.new w (L.map iN) 3)
  have bl : Below w.heap.size w (w.alloc (.cells (L.map iN).toArray 3)) := (Below.refl _ _).alloc (Nat.le_refl _) _
  generalize w.alloc (.cells (L.map iN).toArray 3) = u0 at *
  clear HF
  refine qaa (qag (v := .slice (some _) _ _) rfl rfl) rfl ?_; (try simp only [Act.put, lyy])
  refine qac ?_
  by_cases h16 : i < 16
  · have hk : (i : Int) < 16 := by omega
    have e := H1.out h16
    go_upto_region 3 with fail; refine wp_region_lit ?_
    refine qaa (qaf (v := .slice (some _) _ _) rfl rfl) rfl ?_; (try simp only [Act.put, lyy]); refine qaa (qaf (v := .int _ _) rfl rfl) rfl ?_; (try simp only [Act.put, lyy])
    refine qaa (qa7 (i := i) rfl Tryz.underlying72 (by kernel_rfl) rfl rfl h16) rfl ?_; (try simp only [Act.put, lyy])
    refine qaa (run_ldi rfl rfl (rd_cell HA.out.range (by omega))) rfl ?_; (try simp only [Act.put, lyy])
    rw [e]
    refine qaa (qag (v := .int .i64 (ob : Int)) rfl rfl) rfl ?_; (try simp only [Act.put, lyy])
    refine qac ?_
    go_wp2_with fail
    go_ret
    exact ⟨rfl, bl⟩
  · have hk : ¬ (i : Int) < 16 := by omega
    by_cases h31 : i = 31
    · have hk2 : (i : Int) = 31 := by omega
      have e := H3.out h31
      subst e
      go_upto_region 5 with fail; refine wp_region_lit ?_
      refine qaa (qag (v := .int _ _) rfl rfl) rfl ?_; (try simp only [Act.put, lyy])
      refine qac ?_
      go_wp2_with fail
      go_ret
      exact ⟨rfl, bl⟩
    · have hk2 : ¬ (i : Int) = 31 := by omega
      have e := H2.out h16 h31
      subst e
      go_upto_region 6 with fail; refine wp_region_lit ?_
      refine qaa (qag (v := .int _ _) rfl rfl) rfl ?_; (try simp only [Act.put, lyy])
      refine qac ?_
      go_wp2_with fail
      go_ret
      exact ⟨rfl, bl⟩
theorem enters_order : Enters 101 := qao Tryz.func101 (by kernel_rfl) rfl
end Go.Proofs.YtfdjmdfaidiliaaGreatDoor
namespace Go.Proofs.YtfdjmdfaidiliaaGreatDoor
open Go.RowKit
set_option maxRecDepth 20000
set_option maxHeartbeats 4000000 in
theorem rbelow_any (v : Value) (l : List Nat) (w : World) (hv : Rd v l w) (hl : l.length = 33) (hd : Dg l) : Calls Tryz.prog 73 #[v] w fun e w' => e = .returned (.bool (decide (dv l < ell))) ∧ Below w.heap.size w w' := by
  obtain ⟨g, f, c, rfl, hg, hr⟩ := hv
  have HC : Hid (∀ V, Below w.heap.size w V → ∀ i, i < 33 → V.cell? ⟨g, f + i, none⟩ = some (iN (l.getD i 0))) := Lib.hid fun V hV i hi => rd_cell (qa8 hr hg hV) (by omega)
  clear hr
  have HA : Hid (∀ i, i < 33 → l.drop (i + 1) = obL.drop (i + 1) → l.getD i 0 ≠ obL.getD i 0 → decide (dv l < ell) = decide (l.getD i 0 < obL.getD i 0)) := Lib.hid fun i hi h hne => below_at hl hd hi h hne
  have HS : Hid (l = obL → decide (dv l < ell) = false) := Lib.hid below_same
  have HE : Hid (∀ i, i < 33 → l.drop (i + 1) = obL.drop (i + 1) → l.getD i 0 = obL.getD i 0 → l.drop i = obL.drop i) := Lib.hid fun i hi h he => drop_cons_eq hl hi h he
  have H33 : Hid (l.drop 33 = obL.drop 33) := Lib.hid (by rw [List.drop_of_length_le (by omega)]; rfl)
  have O32 : Hid (obL.getD 32 0 = 0) := Lib.hid rfl
  obtain ⟨o, ho⟩ : ∃ o : Nat → Nat, o = fun i => obL.getD i 0 := ⟨_, rfl⟩
  have HO : Hid (∀ i, obL.getD i 0 = o i) := Lib.hid (by rw [ho]; exact fun _ => rfl)
  have CO : Hid (∀ (i : Nat) (u : World), Calls Tryz.prog 101 #[.int .i64 (i : Int)] u fun e w' => e = .returned (.int .i64 ((o i : Nat) : Int)) ∧ Below u.heap.size u w') := Lib.hid (by rw [ho]; exact order_any)
  clear ho
  have bl : Below w.heap.size w w := Below.refl _ _
  have hl' : l.length = 33 := hl
  rw [hl]
  generalize hrs : decide (dv l < ell) = res at *
  clear hrs
  go_enter Tryz.func73, Tryz.ntmps73
  go_upto_region 0 with fail; refine wp_region_lit ?_
  refine qaa (qag (v := .bool _) rfl rfl) rfl ?_; (try simp only [Act.put, lyy])
  refine qac ?_
  go_upto_region 1 with fail; refine wp_region_lit ?_
  refine qaa (qaf (v := .slice (some _) _ _) rfl rfl) rfl ?_; (try simp only [Act.put, lyy])
  refine qaa (qa7 (i := 32) rfl Tryz.underlying72 (by kernel_rfl) rfl rfl (by omega)) rfl ?_; (try simp only [Act.put, lyy])
  refine qaa (run_ldi rfl rfl (HC.out _ bl 32 (by omega))) rfl ?_; (try simp only [Act.put, lyy])
  by_cases h32 : l.getD 32 0 = 0
  · rw [h32]
    refine qaa (run_gtrb (k := .i64) (c := false) rfl rfl rfl rfl) rfl ?_; (try simp only [Act.put, lyy])
    refine qac ?_
    have hJ0 : Hid (l.drop 32 = obL.drop 32) := Lib.hid (HE.out 32 (by omega) H33.out (by rw [h32, O32.out]))
    go_upto_region 3 with fail; refine wp_region_lit ?_
    refine qaa (qag (v := .int _ _) rfl rfl) rfl ?_; (try simp only [Act.put, lyy])
    refine qac ?_
    go_wp2_with fail
    go_loopw [3] (fun s u => ∃ j : Nat, j ≤ 32 ∧ s = .int .i64 ((j : Int) - 1) ∧ l.drop j = obL.drop j ∧ Below w.heap.size w u) (fun s _ => (intOf s + 1).toNat)
    case atStart => exact ⟨32, by omega, rfl, hJ0.out, bl⟩
    case round =>
      obtain ⟨j, hj, rfl, he, hb⟩ := hrel
      have HJ := Lib.hid he
      clear he bl
      rcases Nat.eq_zero_or_pos j with rfl | hpos
      · have hk1 : ¬ ((0 : Int) ≤ ((0 : Nat) : Int) - 1) := by omega
        have hres := HS.out (by have := HJ.out; simpa using this)
        subst hres
        go_upto_region 8 with fail; refine wp_region_lit ?_
        refine qaa (qag (v := .bool _) rfl rfl) rfl ?_; (try simp only [Act.put, lyy])
        refine qac ?_
        go_wp2_with fail
        go_ret
        exact ⟨rfl, hb⟩
      · obtain ⟨i, rfl⟩ : ∃ i, j = i + 1 := ⟨j - 1, by omega⟩
        have hk1 : (0 : Int) ≤ ((i + 1 : Nat) : Int) - 1 := by omega
        have ei : ((i + 1 : Nat) : Int) - 1 = (i : Int) := by omega
        rw [ei] at hk1 ⊢
        have hd1 := HC.out
        have HA1 := Lib.hid (HA.out i (by omega) HJ.out)
        have HE1 := Lib.hid (HE.out i (by omega) HJ.out)
        rw [HO.out] at HA1 HE1
        clear hd1
        go_upto_region 6 with fail; refine qau 7 (by kernel_rfl) (by kernel_rfl) ?_
        refine qab _ (fun V hV => qad (qaf (v := .slice (some _) _ _) rfl rfl)) ?_; (try simp only [Act.put, lyy]); refine qab _ (fun V hV => qad (qaf (v := .int _ _) rfl rfl)) ?_; (try simp only [Act.put, lyy])
        refine qab _ (fun V hV => qad (qa7 (i := i) rfl Tryz.underlying72 (by kernel_rfl) rfl rfl (by omega))) ?_; (try simp only [Act.put, lyy])
        refine qab _ (fun V hV => qad (run_ldi rfl rfl (HC.out _ (hb.trans (hV.mono hb.size)) i (by omega)))) ?_; (try simp only [Act.put, lyy])
        refine qab _ (fun V hV => qad (qaf (v := .int _ _) rfl rfl)) ?_; (try simp only [Act.put, lyy])
        refine qab _ (fun V hV => qak (qaj enters_order rfl rfl rfl) (CO.out i V)) ?_; (try simp only [Act.put, lyy])
        generalize hx : l.getD i 0 = x at *
        generalize hoi : o i = oi at *
        have HC2 : Hid (∀ V, Below w.heap.size w V → V.cell? ⟨g, f + i, none⟩ = some (iN x)) := Lib.hid fun V hV => by rw [← hx]; exact HC.out V hV i (by omega)
        have CO2 : Hid (∀ (u : World), Calls Tryz.prog 101 #[.int .i64 (i : Int)] u fun e w' => e = .returned (.int .i64 ((oi : Nat) : Int)) ∧ Below u.heap.size u w') := Lib.hid (by rw [← hoi]; exact CO.out i)
        clear hx hoi
        by_cases hne : x = oi
        · refine qab _ (fun V hV => qad (run_neqb (k := .i64) (a := (x : Int)) (b := (oi : Int)) (c := false) rfl rfl rfl (by simp [hne]))) ?_; (try simp only [Act.put, lyy])
          refine qav ?_; intro a3 hb3; simp only [List.drop_succ_cons, List.drop_zero]
          refine qac ?_
          have hJ1 := Lib.hid (HE1.out hne)
          replace hb := hb.trans (hb3.mono hb.size)
          go_wp2_with fail
          exact ⟨⟨i, by omega, by go_num, hJ1.out, hb⟩, by simp [intOf]⟩
        · refine qab _ (fun V hV => qad (run_neqb (k := .i64) (a := (x : Int)) (b := (oi : Int)) (c := true) rfl rfl rfl (by simp; omega))) ?_; (try simp only [Act.put, lyy])
          refine qav ?_; intro a3 hb3; simp only [List.drop_succ_cons, List.drop_zero]
          refine qac ?_
          have hres := HA1.out hne
          replace hb := hb.trans (hb3.mono hb.size)
          clear hb3
          go_upto_region 7 with fail; refine qau 7 (by kernel_rfl) (by kernel_rfl) ?_
          refine qab _ (fun V hV => qad (qaf (v := .slice (some _) _ _) rfl rfl)) ?_; (try simp only [Act.put, lyy]); refine qab _ (fun V hV => qad (qaf (v := .int _ _) rfl rfl)) ?_; (try simp only [Act.put, lyy])
          refine qab _ (fun V hV => qad (qa7 (i := i) rfl Tryz.underlying72 (by kernel_rfl) rfl rfl (by omega))) ?_; (try simp only [Act.put, lyy])
          refine qab _ (fun V hV => qad (run_ldi rfl rfl (HC2.out _ (hb.trans (hV.mono hb.size))))) ?_; (try simp only [Act.put, lyy])
          refine qab _ (fun V hV => qad (qaf (v := .int _ _) rfl rfl)) ?_; (try simp only [Act.put, lyy])
          refine qab _ (fun V hV => qak (qaj enters_order rfl rfl rfl) (CO2.out V)) ?_; (try simp only [Act.put, lyy])
          refine qab _ (fun V hV => qad (run_lssb (k := .i64) (a := (x : Int)) (b := (oi : Int)) (c := res) rfl rfl rfl (by rw [hres]; simp))) ?_; (try simp only [Act.put, lyy])
          refine qav ?_; intro a4 hb4; simp only [List.drop_succ_cons, List.drop_zero]
          replace hb := hb.trans (hb4.mono hb.size)
          clear hb4
          refine qaa (qag (v := .bool _) rfl rfl) rfl ?_; (try simp only [Act.put, lyy])
          refine qac ?_
          go_wp2_with fail
          go_ret
          exact ⟨rfl, hb⟩
  · have hres := HA.out 32 (by omega) H33.out (by rw [O32.out]; exact h32)
    rw [O32.out] at hres
    simp only [Nat.not_lt_zero, decide_false] at hres
    subst hres
    generalize l.getD 32 0 = x at *
    refine qaa (run_gtrb (k := .i64) (a := (x : Int)) (c := true) rfl rfl rfl (by simp; omega)) rfl ?_; (try simp only [Act.put, lyy])
    refine qac ?_
    go_upto_region 2 with fail; refine wp_region_lit ?_
    refine qaa (qag (v := .bool _) rfl rfl) rfl ?_; (try simp only [Act.put, lyy])
    refine qac ?_
    go_wp2_with fail
    go_ret
    exact ⟨rfl, bl⟩
theorem enters_rbelow : Enters 73 := qao Tryz.func73 (by kernel_rfl) rfl
end Go.Proofs.YtfdjmdfaidiliaaGreatDoor
namespace Go.Proofs.YtfdjmdfaidiliaaGreatDoor
open Go.RowKit
set_option maxRecDepth 20000
structure LsI (l : List Nat) (n b : Nat) (m : List Nat) : Prop where
  len : m.length = n
  dg : Dg m
  bit : b ≤ 1
  eq : dv (l.take n) + 256 ^ n * b = dv (obL.take n) + dv m
theorem LsI.step {l : List Nat} (hl : l.length = 33) {n b : Nat} {m : List Nat} (h : LsI l n b m) (hn : n < 33) {x b' : Nat} (hx : x < 256) (hb' : b' ≤ 1) (he : x + obL.getD n 0 + b = l.getD n 0 + 256 * b') : LsI l (n + 1) b' (m ++ [x]) := by
  refine ⟨by rw [List.length_append, h.len]; rfl, fun a ha => ?_, hb', ?_⟩
  · rcases List.mem_append.1 ha with h1 | h1
    · exact h.dg a h1
    · rw [List.mem_singleton] at h1; rw [h1]; exact hx
  · rw [dv_take l n (by omega), dv_take obL n (by rw [obL_len]; omega), dv_append, h.len, Nat.pow_succ]
    have := less_step (p := 256 ^ n) he (dv (l.take n)) h.eq
    simp only [dv, Nat.mul_zero, Nat.add_zero]
    rw [Nat.mul_add] at this
    omega
theorem LsI.done {l : List Nat} (hl : l.length = 33) {b : Nat} {m : List Nat} (h : LsI l 33 b m) (hd : Dg l) (hge : ¬ dv l < ell) : dv m = dv l - ell := by
  have e := h.eq
  rw [List.take_of_length_le (by omega), List.take_of_length_le (by rw [obL_len]; omega), obL_dv] at e
  have h1 := dv_lt m h.dg
  rw [h.len] at h1
  have h2 := dv_lt l hd
  rw [hl] at h2
  have hb := h.bit
  generalize 256 ^ 33 = p at *
  rcases (show b = 0 ∨ b = 1 by omega) with rfl | rfl <;> omega
set_option maxHeartbeats 8000000 in
theorem rless_any (v : Value) (l : List Nat) (w : World) (hv : Rd v l w) (hl : l.length = 33) (hd : Dg l) : Calls Tryz.prog 74 #[v] w fun e w' => ∃ v', e = .returned v' ∧ (∃ m, (∃ b, LsI l 33 b m) ∧ Io w v' m w') := by
  obtain ⟨g, f, c, rfl, hg, hr⟩ := hv
  have HC : Hid (∀ V, Below w.heap.size w V → ∀ i, i < 33 → V.cell? ⟨g, f + i, none⟩ = some (iN (l.getD i 0))) := Lib.hid fun V hV i hi => rd_cell (qa8 hr hg hV) (by omega)
  have HD : Hid (∀ i, l.getD i 0 < 256) := Lib.hid hd.get
  have HO : Hid (∀ i, obL.getD i 0 < 256) := Lib.hid obL_dg.get
  have O32 : Hid (obL.getD 32 0 = 0) := Lib.hid rfl
  have ST : Hid (∀ (n b : Nat) (m : List Nat), LsI l n b m → n < 33 → ∀ (x b' : Nat), x < 256 → b' ≤ 1 → x + obL.getD n 0 + b = l.getD n 0 + 256 * b' → LsI l (n + 1) b' (m ++ [x])) := Lib.hid fun n b m h h1 x b' h2 h3 h4 => h.step hl h1 h2 h3 h4
  have S0 : Hid (LsI l 0 0 []) := Lib.hid ⟨rfl, fun a ha => absurd ha (by simp), by omega, by simp [dv]⟩
  obtain ⟨o, ho⟩ : ∃ o : Nat → Nat, o = fun i => obL.getD i 0 := ⟨_, rfl⟩
  have HOE : Hid (∀ i, obL.getD i 0 = o i) := Lib.hid (by rw [ho]; exact fun _ => rfl)
  have CO : Hid (∀ (i : Nat) (u : World), Calls Tryz.prog 101 #[.int .i64 (i : Int)] u fun e w' => e = .returned (.int .i64 ((o i : Nat) : Int)) ∧ Below u.heap.size u w') := Lib.hid (by rw [ho]; exact order_any)
  clear ho hr
  have hI := Lib.hid (Io.none w)
  rw [hl]
  go_enter Tryz.func74, Tryz.ntmps74
  go_upto_region 0 with fail; refine wp_region_lit ?_
  refine qaa (qag (v := .slice _ _ _) rfl rfl) rfl ?_; (try simp only [Act.put, lyy])
  refine qac ?_
  go_upto_region 1 with fail; refine wp_region_lit ?_
  refine qaa (qag (v := .slice _ _ _) rfl rfl) rfl ?_; (try simp only [Act.put, lyy])
  refine qac ?_
  go_upto_region 2 with fail; refine wp_region_lit ?_
  refine qaa (qag (v := .int _ _) rfl rfl) rfl ?_; (try simp only [Act.put, lyy])
  refine qac ?_
  go_upto_region 3 with fail; refine wp_region_lit ?_
  refine qaa (qag (v := .int _ _) rfl rfl) rfl ?_; (try simp only [Act.put, lyy])
  refine qac ?_
  go_wp2_with fail
  go_loopw [3, 4, 5] (fun s3 s4 s5 u => ∃ (n b : Nat) (m : List Nat), n ≤ 33 ∧ s5 = .int .i64 (n : Int) ∧ s4 = .int .i64 (b : Int) ∧ LsI l n b m ∧ Io w s3 m u) (fun _ _ s5 _ => (33 - intOf s5).toNat)
  case atStart => exact ⟨0, 0, [], by omega, rfl, rfl, S0.out, hI.out⟩
  case round =>
    obtain ⟨n, b, m, hn, rfl, rfl, hS, hJ⟩ := hrel
    replace hI := Lib.hid hJ
    have HS := Lib.hid hS
    have hml := hS.len
    have hbit := hS.bit
    clear hJ hS
    by_cases hlt : n = 33
    · subst hlt
      have hk1 : ¬ (((33 : Nat) : Int) < 33) := by omega
      go_upto_region 14 with fail; refine wp_region_lit ?_
      refine qaa (qaf (v := u3) rfl rfl) rfl ?_; (try simp only [Act.put, lyy])
      refine qaa (qag (v := u3) rfl rfl) rfl ?_; (try simp only [Act.put, lyy])
      refine qac ?_
      go_wp2_with fail
      exact bodyPost_ret (results_tmp Tryz.results74 _ _ _) rfl ⟨_, rfl, m, ⟨b, HS.out⟩, hI.out⟩
    · have hk1 : (n : Int) < 33 := by omega
      have HN : Hid (∀ (x b' : Nat), x < 256 → b' ≤ 1 → x + o n + b = l.getD n 0 + 256 * b' → LsI l (n + 1) b' (m ++ [x])) := Lib.hid fun x b' h1 h2 h3 => ST.out n b m HS.out (by omega) x b' h1 h2 (by rw [HOE.out]; exact h3)
      have HX : Hid (n = 32 → o n = 0) := Lib.hid fun h => by rw [← HOE.out, h]; exact O32.out
      have ho := HO.out n
      rw [HOE.out] at ho
      have hx := HD.out n
      have HC2 : Hid (∀ V, Below w.heap.size w V → V.cell? ⟨g, f + n, none⟩ = some (iN (l.getD n 0))) := Lib.hid fun V hV => HC.out V hV n (by omega)
      have CO2 := Lib.hid (CO.out n)
      generalize l.getD n 0 = a at *
      generalize o n = on at *
      go_upto_region 6 with fail; refine wp_region_lit ?_
      refine qaa (qaf (v := .slice (some _) _ _) rfl rfl) rfl ?_; (try simp only [Act.put, lyy]); refine qaa (qaf (v := .int _ _) rfl rfl) rfl ?_; (try simp only [Act.put, lyy])
      refine qaa (qa7 (i := n) rfl Tryz.underlying72 (by kernel_rfl) rfl rfl (by omega)) rfl ?_; (try simp only [Act.put, lyy])
      refine qaa (run_ldi rfl rfl (HC2.out _ hI.out.bl)) rfl ?_; (try simp only [Act.put, lyy])
      refine qaa (qaf (v := .int _ _) rfl rfl) rfl ?_; (try simp only [Act.put, lyy])
      refine qaa (qb6 (a := (a : Int)) (b := (b : Int)) rfl rfl rfl (by omega) (by omega)) rfl ?_; (try simp only [Act.put, lyy])
      refine qaa (qag (v := .int _ _) rfl rfl) rfl ?_; (try simp only [Act.put, lyy])
      refine qac ?_
      by_cases h32 : n = 32
      · have hk2 : ¬ ((n : Int) < 32) := by omega
        have h0 := HX.out h32
        subst h0
        by_cases hneg : a < b
        · have hk3 : (a : Int) - (b : Int) < 0 := by omega
          go_upto_region 11 with fail; refine wp_region_lit ?_
          refine qaa (qaf (v := .int _ _) rfl rfl) rfl ?_; (try simp only [Act.put, lyy])
          refine qaa (run_add (b := 256) rfl rfl rfl (by omega) (by omega)) rfl ?_; (try simp only [Act.put, lyy])
          refine qaa (qag (v := .int _ _) rfl rfl) rfl ?_; (try simp only [Act.put, lyy])
          refine qac ?_
          go_upto_region 12 with fail; refine wp_region_lit ?_
          refine qaa (qag (v := .int _ _) rfl rfl) rfl ?_; (try simp only [Act.put, lyy])
          refine qac ?_
          have HL := Lib.hid (HN.out (a + 256 - b) 1 (by omega) (by omega) (by omega))
          rw [show (a : Int) - (b : Int) + 256 = ((a + 256 - b : Nat) : Int) by omega]
          generalize a + 256 - b = x at *
          go_upto_region 13 with fail; refine wp_region_lit ?_
          refine qaa (qaf (v := u3) rfl rfl) rfl ?_; (try simp only [Act.put, lyy])
          refine qaa (qaf (v := .int _ _) rfl rfl) rfl ?_; (try simp only [Act.put, lyy])
          refine qaa (qbu (cells := #[iN (x)]) (z := .int .i64 0) rfl Tryz.underlying72 (by kernel_rfl) (by omega) (by omega) (by kernel_rfl)) rfl ?_; (try simp only [Act.put, lyy]); have hb2 : Below wr.heap.size wr (wr.alloc (.cells #[iN (x)] 3)) := (Below.refl _ _).alloc (Nat.le_refl _) _; have A2 : Hid (Arr wr.heap.size ([x].map iN) (wr.alloc (.cells #[iN (x)] 3))) := Lib.hid (Arr.new wr _ _); replace hI := Lib.hid (hI.out.below hb2); clear hb2; generalize wr.alloc (.cells #[iN (x)] 3) = ua at *; refine qb0 (f := iN) (fun _ => rfl) (l := m) (m := [x]) (bw := 8) (z := .int .i64 0) rfl rfl Tryz.underlying72 (by kernel_rfl) rfl (by omega) rfl hI.out.O rfl A2.out.range (by show m.length + 1 ≤ _; omega) hI.out.bl.size (fun q1 q2 h3 hb3 => ?_); (try simp only [Act.put, lyy]); replace hI : Hid (Io _ q1 (m ++ [x]) q2) := Lib.hid ⟨hI.out.bl.trans hb3, by rw [List.length_append]; exact h3⟩; clear h3 hb3 A2; clear ua; refine qaa (qag (v := q1) rfl rfl) rfl ?_; (try simp only [Act.put, lyy]); refine qac ?_
          go_wp2_with fail
          exact ⟨⟨n + 1, 1, m ++ [x], by omega, by go_num, rfl, HL.out, hI.out⟩, by simp [intOf]; omega⟩
        · have hk3 : ¬ ((a : Int) - (b : Int) < 0) := by omega
          have HL := Lib.hid (HN.out (a - b) 0 (by omega) (by omega) (by omega))
          rw [show (a : Int) - (b : Int) = ((a - b : Nat) : Int) by omega] at hk3 ⊢
          generalize a - b = x at *
          go_upto_region 13 with fail; refine wp_region_lit ?_
          refine qaa (qaf (v := u3) rfl rfl) rfl ?_; (try simp only [Act.put, lyy])
          refine qaa (qaf (v := .int _ _) rfl rfl) rfl ?_; (try simp only [Act.put, lyy])
          refine qaa (qbu (cells := #[iN (x)]) (z := .int .i64 0) rfl Tryz.underlying72 (by kernel_rfl) (by omega) (by omega) (by kernel_rfl)) rfl ?_; (try simp only [Act.put, lyy]); have hb2 : Below wr.heap.size wr (wr.alloc (.cells #[iN (x)] 3)) := (Below.refl _ _).alloc (Nat.le_refl _) _; have A2 : Hid (Arr wr.heap.size ([x].map iN) (wr.alloc (.cells #[iN (x)] 3))) := Lib.hid (Arr.new wr _ _); replace hI := Lib.hid (hI.out.below hb2); clear hb2; generalize wr.alloc (.cells #[iN (x)] 3) = ua at *; refine qb0 (f := iN) (fun _ => rfl) (l := m) (m := [x]) (bw := 8) (z := .int .i64 0) rfl rfl Tryz.underlying72 (by kernel_rfl) rfl (by omega) rfl hI.out.O rfl A2.out.range (by show m.length + 1 ≤ _; omega) hI.out.bl.size (fun q1 q2 h3 hb3 => ?_); (try simp only [Act.put, lyy]); replace hI : Hid (Io _ q1 (m ++ [x]) q2) := Lib.hid ⟨hI.out.bl.trans hb3, by rw [List.length_append]; exact h3⟩; clear h3 hb3 A2; clear ua; refine qaa (qag (v := q1) rfl rfl) rfl ?_; (try simp only [Act.put, lyy]); refine qac ?_
          go_wp2_with fail
          exact ⟨⟨n + 1, 0, m ++ [x], by omega, by go_num, rfl, HL.out, hI.out⟩, by simp [intOf]; omega⟩
      · have hk2 : (n : Int) < 32 := by omega
        go_upto_region 8 with fail; refine wp_region_lit ?_
        refine qaa (qaf (v := .int _ _) rfl rfl) rfl ?_; (try simp only [Act.put, lyy]); refine qaa (qaf (v := .int _ _) rfl rfl) rfl ?_; (try simp only [Act.put, lyy])
        refine qai (qaj enters_order rfl rfl rfl) rfl (CO2.out _) (fun a2 hb => ?_); (try simp only [Act.put, lyy])
        replace hI := Lib.hid (hI.out.below hb)
        clear hb
        refine qaa (qb6 (a := (a : Int) - (b : Int)) (b := (on : Int)) rfl rfl rfl (by omega) (by omega)) rfl ?_; (try simp only [Act.put, lyy])
        refine qaa (qag (v := .int _ _) rfl rfl) rfl ?_; (try simp only [Act.put, lyy])
        refine qac ?_
        by_cases hneg : a < b + on
        · have hk3 : (a : Int) - (b : Int) - (on : Int) < 0 := by omega
          go_upto_region 11 with fail; refine wp_region_lit ?_
          refine qaa (qaf (v := .int _ _) rfl rfl) rfl ?_; (try simp only [Act.put, lyy])
          refine qaa (run_add (b := 256) rfl rfl rfl (by omega) (by omega)) rfl ?_; (try simp only [Act.put, lyy])
          refine qaa (qag (v := .int _ _) rfl rfl) rfl ?_; (try simp only [Act.put, lyy])
          refine qac ?_
          go_upto_region 12 with fail; refine wp_region_lit ?_
          refine qaa (qag (v := .int _ _) rfl rfl) rfl ?_; (try simp only [Act.put, lyy])
          refine qac ?_
          have HL := Lib.hid (HN.out (a + 256 - b - on) 1 (by omega) (by omega) (by omega))
          rw [show (a : Int) - (b : Int) - (on : Int) + 256 = ((a + 256 - b - on : Nat) : Int) by omega]
          generalize a + 256 - b - on = x at *
          go_upto_region 13 with fail; refine wp_region_lit ?_
          refine qaa (qaf (v := u3) rfl rfl) rfl ?_; (try simp only [Act.put, lyy])
          refine qaa (qaf (v := .int _ _) rfl rfl) rfl ?_; (try simp only [Act.put, lyy])
          refine qaa (qbu (cells := #[iN (x)]) (z := .int .i64 0) rfl Tryz.underlying72 (by kernel_rfl) (by omega) (by omega) (by kernel_rfl)) rfl ?_; (try simp only [Act.put, lyy]); have hb2 : Below a2.heap.size a2 (a2.alloc (.cells #[iN (x)] 3)) := (Below.refl _ _).alloc (Nat.le_refl _) _; have A2 : Hid (Arr a2.heap.size ([x].map iN) (a2.alloc (.cells #[iN (x)] 3))) := Lib.hid (Arr.new a2 _ _); replace hI := Lib.hid (hI.out.below hb2); clear hb2; generalize a2.alloc (.cells #[iN (x)] 3) = ua at *; refine qb0 (f := iN) (fun _ => rfl) (l := m) (m := [x]) (bw := 8) (z := .int .i64 0) rfl rfl Tryz.underlying72 (by kernel_rfl) rfl (by omega) rfl hI.out.O rfl A2.out.range (by show m.length + 1 ≤ _; omega) hI.out.bl.size (fun q1 q2 h3 hb3 => ?_); (try simp only [Act.put, lyy]); replace hI : Hid (Io _ q1 (m ++ [x]) q2) := Lib.hid ⟨hI.out.bl.trans hb3, by rw [List.length_append]; exact h3⟩; clear h3 hb3 A2; clear ua; refine qaa (qag (v := q1) rfl rfl) rfl ?_; (try simp only [Act.put, lyy]); refine qac ?_
          go_wp2_with fail
          exact ⟨⟨n + 1, 1, m ++ [x], by omega, by go_num, rfl, HL.out, hI.out⟩, by simp [intOf]; omega⟩
        · have hk3 : ¬ ((a : Int) - (b : Int) - (on : Int) < 0) := by omega
          have HL := Lib.hid (HN.out (a - b - on) 0 (by omega) (by omega) (by omega))
          rw [show (a : Int) - (b : Int) - (on : Int) = ((a - b - on : Nat) : Int) by omega] at hk3 ⊢
          generalize a - b - on = x at *
          go_upto_region 13 with fail; refine wp_region_lit ?_
          refine qaa (qaf (v := u3) rfl rfl) rfl ?_; (try simp only [Act.put, lyy])
          refine qaa (qaf (v := .int _ _) rfl rfl) rfl ?_; (try simp only [Act.put, lyy])
          refine qaa (qbu (cells := #[iN (x)]) (z := .int .i64 0) rfl Tryz.underlying72 (by kernel_rfl) (by omega) (by omega) (by kernel_rfl)) rfl ?_; (try simp only [Act.put, lyy]); have hb2 : Below a2.heap.size a2 (a2.alloc (.cells #[iN (x)] 3)) := (Below.refl _ _).alloc (Nat.le_refl _) _; have A2 : Hid (Arr a2.heap.size ([x].map iN) (a2.alloc (.cells #[iN (x)] 3))) := Lib.hid (Arr.new a2 _ _); replace hI := Lib.hid (hI.out.below hb2); clear hb2; generalize a2.alloc (.cells #[iN (x)] 3) = ua at *; refine qb0 (f := iN) (fun _ => rfl) (l := m) (m := [x]) (bw := 8) (z := .int .i64 0) rfl rfl Tryz.underlying72 (by kernel_rfl) rfl (by omega) rfl hI.out.O rfl A2.out.range (by show m.length + 1 ≤ _; omega) hI.out.bl.size (fun q1 q2 h3 hb3 => ?_); (try simp only [Act.put, lyy]); replace hI : Hid (Io _ q1 (m ++ [x]) q2) := Lib.hid ⟨hI.out.bl.trans hb3, by rw [List.length_append]; exact h3⟩; clear h3 hb3 A2; clear ua; refine qaa (qag (v := q1) rfl rfl) rfl ?_; (try simp only [Act.put, lyy]); refine qac ?_
          go_wp2_with fail
          exact ⟨⟨n + 1, 0, m ++ [x], by omega, by go_num, rfl, HL.out, hI.out⟩, by simp [intOf]; omega⟩
theorem enters_rless : Enters 74 := qao Tryz.func74 (by kernel_rfl) rfl
end Go.Proofs.YtfdjmdfaidiliaaGreatDoor
namespace Go.Proofs.YtfdjmdfaidiliaaGreatDoor
open Go.RowKit
set_option maxRecDepth 20000
section
variable {w : World} {ρ : Operand → Value} {o : Oper} {x y : Operand}
theorem run_stI {g i : Nat} {v : Value} {n : Nat} (ho : o.op = .store 3 x y) (hx : ρ x = .pointer (some ⟨g, i, none⟩)) (hy : ρ y = .int .i64 (n : Int)) (hc : w.cell? ⟨g, i, none⟩ = some v) (hf : w.frozen? ⟨g, i, none⟩ = false) : (execOp ρ o).run Tryz.prog w = .ok .skip (w.setCell ⟨g, i, none⟩ (iN n)) := by
  obtain ⟨dst, op, type, pos, after, guard⟩ := o
  subst ho
  unfold iN
  go_simp
theorem made_zeroI (n : Nat) : madeCells (Value.int .i64 0).cells n = ((List.replicate n 0).map iN).toArray := by
  apply Array.ext_getElem?
  intro i
  unfold madeCells
  by_cases h : i < n
  · simp [h, Value.cells, iN, Nat.mod_one]
  · simp [h]
theorem run_mkI {n : Nat} (ho : o.op = .makeSlice 72 x y) (hx : ρ x = .int .i64 (n : Int)) (hy : ρ y = .int .i64 (n : Int)) (hn : n ≤ 16777216) : (execOp ρ o).run Tryz.prog w = .ok (.value (.slice (some ⟨w.heap.size, 0, none⟩) n n)) (w.alloc (.cells ((List.replicate n 0).map iN).toArray 3)) := by
  have hs : (Tryz.prog.info? 3).map (fun i => (i.size, i.bytes, i.zero)) = some (1, 8, some (.int .i64 0)) := by kernel_rfl
  obtain ⟨inf, hi, h2⟩ := Option.map_eq_some_iff.1 hs
  obtain ⟨e1, e2, e3⟩ : inf.size = 1 ∧ inf.bytes = 8 ∧ inf.zero = some (.int .i64 0) := by simpa using h2
  have h := run_makeSlice (P := Tryz.prog) w 72 3 inf (.int .i64 0) Tryz.underlying72 hi e3 .i64 .i64 (n : Int) (n : Int) (by omega) (by omega) (by rw [e1]; omega) (by rw [e2]; omega) (by omega)
  rw [e1, Int.toNat_natCast, Nat.mul_one, made_zeroI] at h
  unfold execOp
  simp only [ho, hx, hy, Sem.run_bind, h]
  simp [go_sem]
end
theorem arr_set {g : Nat} {l : List Nat} {rest : List Value} {u : World} (h : Arr g (l.map iN ++ rest) u) {k : Nat} (hk : k < l.length) (x : Nat) : Arr g ((l.set k x).map iN ++ rest) (u.setCell ⟨g, k, none⟩ (iN x)) := by
  have := h.set (i := k) (by rw [List.length_append, List.length_map]; omega) (iN x)
  rwa [List.set_append_left _ _ (by rw [List.length_map]; exact hk), qbw] at this
theorem arr_get {g : Nat} {l : List Nat} {rest : List Value} {u : World} (h : Arr g (l.map iN ++ rest) u) {k : Nat} (hk : k < l.length) : u.cell? ⟨g, k, none⟩ = some (iN (l.getD k 0)) := h.c k _ (by rw [List.getElem?_append_left (by rw [List.length_map]; exact hk)]; exact qa5 iN 0 hk)
theorem rdA {g c : Nat} {l : List Nat} {rest : List Value} {u : World} (h : Arr g (l.map iN ++ rest) u) : Rd (.slice (some ⟨g, 0, none⟩) l.length c) l u :=
  ⟨g, 0, c, rfl, h.lt, fun j x hx => h.range j x (by
    rw [List.getElem?_append_left (by
      rcases Nat.lt_or_ge j (l.map iN).length with h | h
      · exact h
      · rw [List.getElem?_eq_none h] at hx; cases hx)]
    exact hx)⟩
theorem left_math {nl l : List Nat} {i : Nat} (hd : Dg nl) (hl : dv l = dv nl / 2 ^ (i + 1) % ell) {l' : List Nat} (h : dv l' = 2 * dv l + nl.getD (i / 8) 0 / 2 ^ (i % 8) % 2) : (if dv l' < ell then dv l' else dv l' - ell) = dv nl / 2 ^ i % ell :=
  left_step (dv nl) i hl (by rw [h, dv_bit nl hd])
def LeftQ (nl l' : List Nat) (i : Nat) : Prop := ∀ m : List Nat, dv m = dv l' - ell → dv m = dv nl / 2 ^ i % ell
set_option maxHeartbeats 16000000 in
theorem rleft_any (vn : Value) (nl : List Nat) (w : World) (hv : Rd vn nl w) (hn : nl.length ≤ 65) (hd : Dg nl) : Calls Tryz.prog 46 #[vn] w fun e w' => ∃ v', e = .returned v' ∧ (∃ m : List Nat, (m.length = 33 ∧ Dg m ∧ dv m = dv nl % ell) ∧ Is w v' m w') := by
  obtain ⟨g, f, c, rfl, hg, hr⟩ := hv
  have HC : Hid (∀ V, Below w.heap.size w V → ∀ i, i < nl.length → V.cell? ⟨g, f + i, none⟩ = some (iN (nl.getD i 0))) := Lib.hid fun V hV i hi => rd_cell (qa8 hr hg hV) hi
  have HT : Hid (dv nl / 2 ^ (8 * nl.length) = 0) := Lib.hid (by
    have := dv_lt nl hd
    rw [show (256 : Nat) = 2 ^ 8 by rfl, ← Nat.pow_mul] at this
    exact Nat.div_eq_of_lt this)
  have HL : Hid (∀ (i : Nat) (l l' : List Nat), dv l = dv nl / 2 ^ (i + 1) % ell → dv l' = 2 * dv l + nl.getD (i / 8) 0 / 2 ^ (i % 8) % 2 → (if dv l' < ell then dv l' else dv l' - ell) = dv nl / 2 ^ i % ell) := Lib.hid fun i l l' h1 h2 => left_math hd h1 h2
  clear hr
  generalize hN : nl.length = N at *
  go_enter Tryz.func46, Tryz.ntmps46
  go_upto_region 0 with fail; refine wp_region_lit ?_
  refine qaa (qag (v := .slice _ _ _) rfl rfl) rfl ?_; (try simp only [Act.put, lyy])
  refine qac ?_
  go_upto_region 1 with fail; refine wp_region_lit ?_
  refine qaa (run_mkI (n := 33) rfl rfl rfl (by omega)) rfl ?_; (try simp only [Act.put, lyy])
  have HA0 := Arr.new w ((List.replicate 33 0).map iN) 3
  have bl0 : Below w.heap.size w (w.alloc (.cells ((List.replicate 33 0).map iN).toArray 3)) := (Below.refl _ _).alloc (Nat.le_refl _) _
  have hI : Hid (Is w (.slice (some ⟨w.heap.size, 0, none⟩) 33 33) (List.replicate 33 0) (w.alloc (.cells ((List.replicate 33 0).map iN).toArray 3))) := Lib.hid ⟨bl0, w.heap.size, 33, [], rfl, Nat.le_refl _, by rw [List.append_nil]; exact HA0⟩
  clear HA0 bl0
  generalize w.alloc (.cells ((List.replicate 33 0).map iN).toArray 3) = u0 at *
  refine qaa (qag (v := .slice (some ⟨w.heap.size, 0, none⟩) 33 33) rfl rfl) rfl ?_; (try simp only [Act.put, lyy])
  refine qac ?_
  go_upto_region 2 with fail; refine wp_region_lit ?_
  refine qaa (qaf (v := .slice (some _) _ _) rfl rfl) rfl ?_; (try simp only [Act.put, lyy])
  refine qaa (qch rfl Tryz.underlying72 rfl) rfl ?_; (try simp only [Act.put, lyy])
  refine qaa (run_mulN (a := 8) (b := N) rfl rfl rfl (by omega)) rfl ?_; (try simp only [Act.put, lyy])
  refine qaa (qb6 (a := ((8 * N : Nat) : Int)) (b := 1) rfl rfl rfl (by omega) (by omega)) rfl ?_; (try simp only [Act.put, lyy])
  refine qaa (qag (v := .int _ _) rfl rfl) rfl ?_; (try simp only [Act.put, lyy])
  refine qac ?_
  go_wp2_with fail
  go_loopw [3, 4] (fun s3 s4 u => ∃ (j : Nat) (l : List Nat), j ≤ 8 * N ∧ s4 = .int .i64 ((j : Int) - 1) ∧ l.length = 33 ∧ Dg l ∧ dv l = dv nl / 2 ^ j % ell ∧ Is w s3 l u) (fun _ s4 _ => (intOf s4 + 1).toNat)
  case atStart => exact ⟨8 * N, List.replicate 33 0, by omega, rfl, List.length_replicate, fun a ha => by rw [List.eq_of_mem_replicate ha]; decide, by rw [HT.out, dv_zeros]; rfl, hI.out⟩
  case round =>
    obtain ⟨j, l, hj, rfl, hll, hld, hlv, hJ⟩ := hrel
    replace hI := Lib.hid hJ
    have HV := Lib.hid hlv
    have HD := Lib.hid hld
    clear hJ hlv hld
    rcases Nat.eq_zero_or_pos j with rfl | hpos
    · have hk1 : ¬ ((0 : Int) ≤ ((0 : Nat) : Int) - 1) := by omega
      go_upto_region 14 with fail; refine wp_region_lit ?_
      refine qaa (qaf (v := u3) rfl rfl) rfl ?_; (try simp only [Act.put, lyy])
      refine qaa (qag (v := u3) rfl rfl) rfl ?_; (try simp only [Act.put, lyy])
      refine qac ?_
      go_wp2_with fail
      exact bodyPost_ret (results_tmp Tryz.results46 _ _ _) rfl ⟨_, rfl, l, ⟨hll, HD.out, by rw [HV.out, Nat.pow_zero, Nat.div_one]⟩, hI.out⟩
    · obtain ⟨i, rfl⟩ : ∃ i, j = i + 1 := ⟨j - 1, by omega⟩
      have hk1 : (0 : Int) ≤ ((i + 1 : Nat) : Int) - 1 := by omega
      have ei : ((i + 1 : Nat) : Int) - 1 = (i : Int) := by omega
      rw [ei] at hk1 ⊢
      obtain ⟨g2, c2, rest, hu3, hg2, hA2⟩ := hI.out.ex
      have hb2 := hI.out.bl
      have HA := Lib.hid hA2
      clear hA2 hI
      rw [hll] at hu3
      subst hu3
      have HC2 : Hid (∀ V, Below w.heap.size w V → V.cell? ⟨g, f + i / 8, none⟩ = some (iN (nl.getD (i / 8) 0))) := Lib.hid fun V hV => HC.out V hV (i / 8) (by omega)
      have HL2 := Lib.hid (HL.out i l · HV.out)
      generalize nl.getD (i / 8) 0 = y at *
      go_upto_region 5 with fail; refine wp_region_lit ?_
      refine qaa (qaf (v := .slice (some _) _ _) rfl rfl) rfl ?_; (try simp only [Act.put, lyy]); refine qaa (qaf (v := .int _ _) rfl rfl) rfl ?_; (try simp only [Act.put, lyy])
      refine qaa (run_quoN (a := i) (b := 8) rfl rfl rfl (by omega) (by omega)) rfl ?_; (try simp only [Act.put, lyy])
      refine qaa (qa7 (i := i / 8) rfl Tryz.underlying72 (by kernel_rfl) rfl rfl (by omega)) rfl ?_; (try simp only [Act.put, lyy])
      refine qaa (run_ldi rfl rfl (HC2.out _ hb2)) rfl ?_; (try simp only [Act.put, lyy])
      refine qaa (qaf (v := .int _ _) rfl rfl) rfl ?_; (try simp only [Act.put, lyy])
      refine qaa (qdf (a := i) (b := 8) rfl rfl rfl (by omega)) rfl ?_; (try simp only [Act.put, lyy])
      refine qaa (run_cviuN (n := i % 8) rfl rfl (by omega)) rfl ?_; (try simp only [Act.put, lyy])
      refine qaa (run_shri (n := y) (k := i % 8) rfl rfl rfl (by omega)) rfl ?_; (try simp only [Act.put, lyy])
      refine qaa (qdf (a := y / 2 ^ (i % 8)) (b := 2) rfl rfl rfl (by omega)) rfl ?_; (try simp only [Act.put, lyy])
      have hbit : y / 2 ^ (i % 8) % 2 ≤ 1 := by have := Nat.mod_lt (y / 2 ^ (i % 8)) (show 0 < 2 by omega); omega
      generalize y / 2 ^ (i % 8) % 2 = bit at *
      refine qaa (qag (v := .int _ _) rfl rfl) rfl ?_; (try simp only [Act.put, lyy])
      refine qac ?_
      go_upto_region 6 with fail; refine wp_region_lit ?_
      refine qaa (qag (v := .int _ _) rfl rfl) rfl ?_; (try simp only [Act.put, lyy])
      refine qac ?_
      have D0 := Lib.hid (DbI.start hll HD.out hbit)
      have DS : Hid (∀ (k c : Nat) (l' : List Nat), DbI l bit k c l' → k < 33 → DbI l bit (k + 1) ((c + 2 * l'.getD k 0) / 256) (l'.set k ((c + 2 * l'.getD k 0) % 256))) := Lib.hid fun k c l' h hk => h.step hll hk
      have hvl : dv l < ell := by rw [HV.out]; exact Nat.mod_lt _ ell_pos
      have DE : Hid (∀ (c : Nat) (l' : List Nat), DbI l bit 33 c l' → dv l' = 2 * dv l + bit) := Lib.hid fun c l' h => h.done hll hbit hvl
      clear hvl
      go_wp2_with fail
      go_loopw [5, 6] (fun s5 s6 u => ∃ (k cc : Nat) (l' : List Nat), k ≤ 33 ∧ s6 = .int .i64 (k : Int) ∧ s5 = .int .i64 (cc : Int) ∧ DbI l bit k cc l' ∧ Below w.heap.size w u ∧ Arr g2 (l'.map iN ++ rest) u) (fun _ s6 _ => (33 - intOf s6).toNat)
      case atStart => exact ⟨0, bit, l, by omega, rfl, rfl, D0.out, hb2, HA.out⟩
      case round =>
        obtain ⟨k, cc, l', hk, rfl, rfl, hDb, hb3, hA3⟩ := hrel
        have HDb := Lib.hid hDb
        replace HA := Lib.hid hA3
        have hlen' := hDb.len
        have hcc := hDb.c1
        have hdg' := Lib.hid hDb.dg
        clear hDb hA3 hb2
        by_cases hk33 : k = 33
        · subst hk33
          have hk2 : ¬ (((33 : Nat) : Int) < 33) := by omega
          have hdv := DE.out cc l' HDb.out
          have hR := Lib.hid (HL2.out l' hdv)
          have HRd : Hid (Rd (.slice (some ⟨g2, 0, none⟩) 33 c2) l' wr) := Lib.hid (by have := rdA (c := c2) HA.out; rwa [hlen'] at this)
          go_upto_region 12 with fail; refine wp_region_lit ?_
          refine qaa (qaf (v := .slice (some _) _ _) rfl rfl) rfl ?_; (try simp only [Act.put, lyy])
          refine qai (qaj enters_rbelow rfl rfl rfl) rfl (rbelow_any _ l' _ HRd.out hlen' hdg'.out) (fun b4 hb4 => ?_); (try simp only [Act.put, lyy])
          by_cases hlt : dv l' < ell
          · rw [if_pos hlt] at hR
            rw [decide_eq_true hlt]
            refine qaa (qcd rfl rfl) rfl ?_; (try simp only [Act.put, lyy])
            refine qac ?_
            have hI2 : Hid (Is w (.slice (some ⟨g2, 0, none⟩) 33 c2) l' b4) := Lib.hid (by
              have : Is w (.slice (some ⟨g2, 0, none⟩) l'.length c2) l' wr := ⟨hb3, g2, c2, rest, rfl, hg2, HA.out⟩
              rw [hlen'] at this
              exact this.below hb4)
            go_wp2_with fail
            exact ⟨⟨i, l', by omega, by go_num, hlen', hdg'.out, hR.out, hI2.out⟩, by simp [intOf]⟩
          · rw [if_neg hlt] at hR
            have HQ : Hid (LeftQ nl l' i) := Lib.hid fun m hm => hm.trans hR.out
            clear hR
            rw [decide_eq_false hlt]
            have HLt := Lib.hid hlt
            clear hlt hdv
            refine qaa (qcd rfl rfl) rfl ?_; (try simp only [Act.put, lyy])
            refine qac ?_
            go_upto_region 13 with fail; refine wp_region_lit ?_
            refine qaa (qaf (v := .slice (some _) _ _) rfl rfl) rfl ?_; (try simp only [Act.put, lyy])
            refine qbi (qaj enters_rless rfl rfl rfl) rfl (rless_any _ l' _ (HRd.out.below hb4) hlen' hdg'.out) (fun q1 q2 hR2 => ?_); (try simp only [Act.put, lyy])
            obtain ⟨m, ⟨b5, hLs⟩, hIo⟩ := hR2
            have hmv := hLs.done hlen' hdg'.out HLt.out
            have hml := hLs.len
            have hmd := hLs.dg
            have hI2 : Hid (Is w q1 m q2) := Lib.hid ((hIo.is (by intro e; rw [e] at hml; cases hml)).mono (hb3.trans (hb4.mono hb3.size)))
            clear hIo hLs
            refine qaa (qag (v := q1) rfl rfl) rfl ?_; (try simp only [Act.put, lyy])
            refine qac ?_
            have hmv2 := Lib.hid (HQ.out m hmv)
            have hmd2 := Lib.hid hmd
            clear hmv hmd
            go_wp2_with fail
            exact ⟨⟨i, m, by omega, by go_num, hml, hmd2.out, hmv2.out, hI2.out⟩, by simp [intOf]⟩
        · have hk2 : (k : Int) < 33 := by omega
          have hx := hdg'.out.get k
          have HDn := Lib.hid (DS.out k cc l' HDb.out (by omega))
          have HG := Lib.hid (arr_get HA.out (k := k) (by omega))
          have HSet := Lib.hid (fun x => arr_set HA.out (k := k) (by omega) x)
          have HF := Lib.hid (HA.out.f k)
          generalize l'.getD k 0 = x at *
          go_upto_region 9 with fail; refine wp_region_lit ?_
          refine qaa (qaf (v := .int _ _) rfl rfl) rfl ?_; (try simp only [Act.put, lyy]); refine qaa (qaf (v := .slice (some _) _ _) rfl rfl) rfl ?_; (try simp only [Act.put, lyy]); refine qaa (qaf (v := .int _ _) rfl rfl) rfl ?_; (try simp only [Act.put, lyy])
          refine qaa (qa7 (i := k) rfl Tryz.underlying72 (by kernel_rfl) rfl rfl (by omega)) rfl ?_; (try simp only [Act.put, lyy])
          rw [Nat.zero_add]
          refine qaa (run_ldi rfl rfl HG.out) rfl ?_; (try simp only [Act.put, lyy])
          refine qaa (run_mulN (a := 2) (b := x) rfl rfl rfl (by omega)) rfl ?_; (try simp only [Act.put, lyy])
          refine qaa (run_addN (a := cc) (b := 2 * x) rfl rfl rfl (by omega)) rfl ?_; (try simp only [Act.put, lyy])
          generalize hz : cc + 2 * x = z at *
          refine qaa (qag (v := .int _ _) rfl rfl) rfl ?_; (try simp only [Act.put, lyy])
          refine qac ?_
          go_upto_region 10 with fail; refine wp_region_lit ?_
          refine qaa (qaf (v := .slice (some _) _ _) rfl rfl) rfl ?_; (try simp only [Act.put, lyy]); refine qaa (qaf (v := .int _ _) rfl rfl) rfl ?_; (try simp only [Act.put, lyy]); refine qaa (qaf (v := .int _ _) rfl rfl) rfl ?_; (try simp only [Act.put, lyy])
          refine qaa (qdf (a := z) (b := 256) rfl rfl rfl (by omega)) rfl ?_; (try simp only [Act.put, lyy])
          refine qaa (qa7 (i := k) rfl Tryz.underlying72 (by kernel_rfl) rfl rfl (by omega)) rfl ?_; (try simp only [Act.put, lyy])
          rw [Nat.zero_add]
          refine qae (run_stI (n := z % 256) rfl rfl rfl HG.out HF.out) rfl rfl ?_
          refine qac ?_
          have HA4 := Lib.hid (HSet.out (z % 256))
          have hb4 := hb3.setCell (p := ⟨g2, k, none⟩) hg2 (iN (z % 256))
          generalize wr.setCell ⟨g2, k, none⟩ (iN (z % 256)) = b5 at *
          go_upto_region 11 with fail; refine wp_region_lit ?_
          refine qaa (qaf (v := .int _ _) rfl rfl) rfl ?_; (try simp only [Act.put, lyy])
          refine qaa (run_quoN (a := z) (b := 256) rfl rfl rfl (by omega) (by omega)) rfl ?_; (try simp only [Act.put, lyy])
          refine qaa (qag (v := .int _ _) rfl rfl) rfl ?_; (try simp only [Act.put, lyy])
          refine qac ?_
          clear HG HF HSet HA
          go_wp2_with fail
          exact ⟨⟨k + 1, z / 256, l'.set k (z % 256), by omega, by go_num, rfl, HDn.out, hb4, HA4.out⟩, by simp [intOf]; omega⟩
theorem enters_rleft : Enters 46 := qao Tryz.func46 (by kernel_rfl) rfl
end Go.Proofs.YtfdjmdfaidiliaaGreatDoor
namespace Go.Proofs.YtfdjmdfaidiliaaGreatDoor
open Go.RowKit
set_option maxRecDepth 20000
set_option maxHeartbeats 8000000 in
theorem rkey8_any (v : Value) (l : List Nat) (w : World) (hv : Rd v l w) (hl : l.length = 33) : Calls Tryz.prog 45 #[v] w fun e w' => e = .returned (.agg (((l.take 32).map (BitVec.ofNat 8)).map b8).toArray) ∧ Below w.heap.size w w' := by
  obtain ⟨g, f, c, rfl, hg, hr⟩ := hv
  have HC : Hid (∀ V, Below w.heap.size w V → ∀ i, i < 33 → V.cell? ⟨g, f + i, none⟩ = some (iN (l.getD i 0))) := Lib.hid fun V hV i hi => rd_cell (qa8 hr hg hV) (by omega)
  obtain ⟨kb, hkb⟩ : ∃ kb, kb = (l.take 32).map (BitVec.ofNat 8) := ⟨_, rfl⟩
  have hkl : kb.length = 32 := by rw [hkb, List.length_map, List.length_take, hl]; rfl
  have HK : Hid (∀ i, i < 32 → BitVec.ofNat 8 (l.getD i 0) = kb.getD i 0) := Lib.hid fun i hi => by
    rw [hkb, List.getD_eq_getElem?_getD, List.getD_eq_getElem?_getD, List.getElem?_map, List.getElem?_take_of_lt hi, List.getElem?_eq_getElem (by omega)]
    rfl
  rw [← hkb]
  clear hkb hr
  have hM := Lib.hid (Mv.nil w)
  rw [hl]
  go_enter Tryz.func45, Tryz.ntmps45
  go_upto_region 0 with fail; refine wp_region_lit ?_
  refine qaa (qar (vs := z8 32) rfl (by kernel_rfl)) rfl ?_; (try simp only [Act.put, lyy])
  replace hM := Lib.hid (hM.out.new (z8 32) 23)
  generalize w.alloc (.cells (z8 32).toArray 23) = a1 at *
  generalize hg1 : w.heap.size = g1 at *
  rw [← hg1] at HC
  have EW := Lib.hid hg1
  clear hg1
  refine qac ?_
  go_upto_region 1 with fail; refine wp_region_lit ?_
  refine qaa (run_bld (cells := (z8 32).toArray) rfl (by kernel_rfl)) rfl ?_; (try simp only [Act.put, lyy])
  refine qaa (qar (vs := z8 32) rfl (by kernel_rfl)) rfl ?_; (try simp only [Act.put, lyy])
  replace hM := Lib.hid (hM.out.new (z8 32) 23)
  generalize a1.alloc (.cells (z8 32).toArray 23) = a2 at *
  generalize a1.heap.size = g2 at *
  refine qae (qaq (vs := z8 32) rfl szZ rfl rfl (one8s (List.replicate 32 0)) ((hM.out.get (i := 0) rfl).there)) rfl rfl ?_
  replace hM := Lib.hid (hM.out.put 0 rfl (m := z8 32) rfl)
  generalize a2.setCells g2 0 (z8 32) = a3 at *
  refine qac ?_
  go_upto_region 2 with fail; refine wp_region_lit ?_
  refine qaa (qag (v := .int _ _) rfl rfl) rfl ?_; (try simp only [Act.put, lyy])
  refine qac ?_
  go_wp2_with fail
  go_loopw [4] (fun s u => ∃ n : Nat, n ≤ 32 ∧ s = .int .i64 (n : Int) ∧ Mv w [(g2, (flB kb n).map b8), (g1, z8 32)] u) (fun s _ => (32 - intOf s).toNat)
  case atStart => exact ⟨0, by omega, rfl, by rw [flB_zero]; exact hM.out⟩
  case round =>
    obtain ⟨n, hn, rfl, hJ⟩ := hrel
    replace hM := Lib.hid hJ
    clear hJ
    by_cases hlt : n = 32
    · subst hlt
      have hk1 : ¬ (((32 : Nat) : Int) < 32) := by omega
      rw [flB_all hkl] at hM
      have SZ := Lib.hid (szKy hkl)
      have L1 : Hid ((kb.map b8).length = (z8 32).length) := Lib.hid (by rw [z8_32, List.length_map, hkl])
      go_upto_region 6 with fail; refine wp_region_lit ?_
      refine qaa (qah (vs := kb.map b8) rfl Tryz.underlying23 rfl SZ.out rfl (hM.out.get (i := 0) rfl).range) rfl ?_; (try simp only [Act.put, lyy])
      refine qae (qaq (vs := kb.map b8) rfl SZ.out rfl rfl (one8s _) (by rw [L1.out]; exact (hM.out.get (i := 1) rfl).there)) rfl rfl ?_
      replace hM := Lib.hid (hM.out.put 1 rfl (m := kb.map b8) L1.out)
      refine qac ?_
      go_wp2_with fail
      exact bodyPost_ret (v := .agg (kb.map b8).toArray) (qat Tryz.results45 rfl Tryz.underlying23 rfl SZ.out (hM.out.get (i := 1) rfl).range) rfl ⟨rfl, hM.out.bl⟩
    · have hk1 : (n : Int) < 32 := by omega
      have HC2 : Hid (∀ V, Below w.heap.size w V → V.cell? ⟨g, f + n, none⟩ = some (iN (l.getD n 0))) := Lib.hid fun V hV => HC.out V hV n (by omega)
      have E1 := Lib.hid (HK.out n (by omega))
      have FS := Lib.hid (flB_set hkl (n := n) (by omega))
      have FL : Hid (n < ((flB kb n).map b8).length) := Lib.hid (by rw [List.length_map, flB_len hkl hn]; omega)
      have HG := Lib.hid (qa5 b8 0 (l := flB kb n) (i := n) (by rw [flB_len hkl hn]; omega))
      go_upto_region 5 with fail; refine wp_region_lit ?_
      refine qaa (qaf (v := .int _ _) rfl rfl) rfl ?_; (try simp only [Act.put, lyy]); refine qaa (qaf (v := .slice (some _) _ _) rfl rfl) rfl ?_; (try simp only [Act.put, lyy]); refine qaa (qaf (v := .int _ _) rfl rfl) rfl ?_; (try simp only [Act.put, lyy])
      refine qaa (qa7 (i := n) rfl Tryz.underlying72 (by kernel_rfl) rfl rfl (by omega)) rfl ?_; (try simp only [Act.put, lyy])
      refine qaa (run_ldi rfl rfl (HC2.out _ hM.out.bl)) rfl ?_; (try simp only [Act.put, lyy])
      refine qaa (run_cvi_8 (n := l.getD n 0) rfl rfl) rfl ?_; (try simp only [Act.put, lyy])
      rw [E1.out]
      refine qaa (qay (i := n) rfl Tryz.underlying23 (by kernel_rfl) rfl rfl (by omega)) rfl ?_; (try simp only [Act.put, lyy])
      refine qae (qcl rfl rfl rfl ((hM.out.get (i := 0) rfl).c n _ HG.out) ((hM.out.get (i := 0) rfl).f n)) rfl rfl ?_
      refine qac ?_
      have hM2 : Hid (Mv w [(g2, (flB kb (n + 1)).map b8), (g1, z8 32)] (wr.setCell ⟨g2, n, none⟩ (b8 (kb.getD n 0)))) := Lib.hid (by
        have h := hM.out.set 0 rfl FL.out (b8 (kb.getD n 0))
        rw [FS.out] at h
        exact h)
      generalize wr.setCell ⟨g2, n, none⟩ (b8 (kb.getD n 0)) = a8 at *
      clear hM HG FL FS HC2
      go_wp2_with fail
      exact ⟨⟨n + 1, by omega, by go_num, hM2.out⟩, by simp [intOf]; omega⟩
theorem enters_rkey8 : Enters 45 := qao Tryz.func45 (by kernel_rfl) rfl
theorem sk_left {m : List Nat} (hl : m.length = 33) (hd : Dg m) {x : Nat} (h : dv m = x % ell) : (m.take 32).map (BitVec.ofNat 8) = sk (x % ell) := by
  rw [take32 hl hd (by rw [h]; exact Nat.mod_lt _ ell_pos), h]; rfl
theorem take_map_snoc (s : List (BitVec 8)) (k : Nat) (h : k < s.length) : (s.take (k + 1)).map (·.toNat) = (s.take k).map (·.toNat) ++ [(s.getD k 0).toNat] := by
  rw [List.take_succ_eq_append_getElem h, List.map_append]
  simp [h]
set_option maxHeartbeats 8000000 in
theorem rreduce_any (s : List (BitVec 8)) (w : World) (hs : s.length = 64) : Calls Tryz.prog 44 #[.agg (s.map b8).toArray] w fun e w' => e = .returned (.agg ((sk (leB s % ell)).map b8).toArray) ∧ Below w.heap.size w w' := by
  have HR : Hid (∀ m : List Nat, m.length = 33 → Dg m → dv m = leB s % ell → (m.take 32).map (BitVec.ofNat 8) = sk (leB s % ell)) := Lib.hid fun m h1 h2 h3 => sk_left h1 h2 h3
  have HD : Hid (dv ((s.take 64).map (·.toNat)) = leB s) := Lib.hid (by rw [List.take_of_length_le (by omega), leB_dv])
  have hkl := qcz (leB s % ell)
  generalize sk (leB s % ell) = kb at *
  have SZ := Lib.hid (szKy hkl)
  have L1 : Hid ((kb.map b8).length = (z8 32).length) := Lib.hid (by rw [z8_32, List.length_map, hkl])
  have hM := Lib.hid (Mv.nil w)
  go_enter Tryz.func44, Tryz.ntmps44
  go_upto_region 0 with fail; refine wp_region_lit ?_
  refine qaa (qa9 (vs := s.map b8) rfl rfl) rfl ?_; (try simp only [Act.put, lyy])
  replace hM := Lib.hid (hM.out.new (s.map b8) 28)
  generalize w.alloc (.cells (s.map b8).toArray 28) = a1 at *
  generalize w.heap.size = g1 at *
  refine qaa (qar (vs := z8 32) rfl (by kernel_rfl)) rfl ?_; (try simp only [Act.put, lyy])
  replace hM := Lib.hid (hM.out.new (z8 32) 23)
  generalize a1.alloc (.cells (z8 32).toArray 23) = a2 at *
  generalize a1.heap.size = g2 at *
  refine qac ?_
  have hI := Lib.hid (Io.none a2)
  go_upto_region 1 with fail; refine wp_region_lit ?_
  refine qaa (qag (v := .slice _ _ _) rfl rfl) rfl ?_; (try simp only [Act.put, lyy])
  refine qac ?_
  go_upto_region 2 with fail; refine wp_region_lit ?_
  refine qaa (qag (v := .int _ _) rfl rfl) rfl ?_; (try simp only [Act.put, lyy])
  refine qac ?_
  go_wp2_with fail
  go_loopw [3, 4] (fun s3 s4 u => ∃ n : Nat, n ≤ 64 ∧ s4 = .int .i64 (n : Int) ∧ Io a2 s3 ((s.take n).map (·.toNat)) u) (fun _ s4 _ => (64 - intOf s4).toNat)
  case atStart => exact ⟨0, by omega, rfl, hI.out⟩
  case round =>
    obtain ⟨n, hn, rfl, hJ⟩ := hrel
    replace hI := Lib.hid hJ
    clear hJ
    have hml : ((s.take n).map (·.toNat)).length = n := by rw [List.length_map, List.length_take]; omega
    by_cases hlt : n = 64
    · subst hlt
      have hk1 : ¬ (((64 : Nat) : Int) < 64) := by omega
      have DG := Lib.hid (dg_bytes (s.take 64))
      generalize (s.take 64).map (·.toNat) = m at *
      replace hM := Lib.hid (hM.out.below hI.out.bl)
      have HRd := Lib.hid (hI.out.rd (by intro e; rw [e] at hml; cases hml))
      go_upto_region 6 with fail; refine wp_region_lit ?_
      refine qaa (qaf (v := u3) rfl rfl) rfl ?_; (try simp only [Act.put, lyy])
      refine qbi (qaj enters_rleft rfl rfl rfl) rfl (rleft_any _ m _ HRd.out (by omega) DG.out) (fun q1 q2 hR2 => ?_); (try simp only [Act.put, lyy])
      obtain ⟨m2, ⟨k1, k2, k3⟩, hIs⟩ := hR2
      have hE := HR.out m2 k1 k2 (by rw [k3, HD.out])
      have HRd2 := Lib.hid hIs.rd
      replace hM := Lib.hid (hM.out.below hIs.bl)
      clear hIs k2 k3
      refine qai (qaj enters_rkey8 rfl rfl rfl) rfl (rkey8_any _ m2 _ HRd2.out k1) (fun q3 hb => ?_); (try simp only [Act.put, lyy]); replace hM := Lib.hid (hM.out.below hb); clear hb
      rw [hE]
      refine qae (qaq (vs := kb.map b8) rfl SZ.out rfl rfl (one8s _) (by rw [L1.out]; exact (hM.out.get (i := 0) rfl).there)) rfl rfl ?_
      replace hM := Lib.hid (hM.out.put 0 rfl (m := kb.map b8) L1.out)
      refine qac ?_
      go_wp2_with fail
      exact bodyPost_ret (v := .agg (kb.map b8).toArray) (qat Tryz.results44 rfl Tryz.underlying23 rfl SZ.out (hM.out.get (i := 0) rfl).range) rfl ⟨rfl, hM.out.bl⟩
    · have hk1 : (n : Int) < 64 := by omega
      have HS := Lib.hid (take_map_snoc s n (by omega))
      have HC := Lib.hid (((hM.out.below hI.out.bl).get (i := 1) rfl).c n _ (qa5 b8 0 (l := s) (i := n) (by omega)))
      generalize (s.take n).map (·.toNat) = m at *
      generalize s.getD n 0 = x at *
      go_upto_region 5 with fail; refine wp_region_lit ?_
      refine qaa (qaf (v := u3) rfl rfl) rfl ?_; (try simp only [Act.put, lyy])
      refine qaa (qaf (v := .int _ _) rfl rfl) rfl ?_; (try simp only [Act.put, lyy])
      refine qaa (qay (i := n) rfl Tryz.underlying28 (by kernel_rfl) rfl rfl (by omega)) rfl ?_; (try simp only [Act.put, lyy])
      refine qaa (qby rfl rfl HC.out) rfl ?_; (try simp only [Act.put, lyy])
      refine qaa (run_cv8i rfl rfl) rfl ?_; (try simp only [Act.put, lyy])
      refine qaa (qbu (cells := #[iN (x.toNat)]) (z := .int .i64 0) rfl Tryz.underlying72 (by kernel_rfl) (by omega) (by omega) (by kernel_rfl)) rfl ?_; (try simp only [Act.put, lyy]); have hb2 : Below wr.heap.size wr (wr.alloc (.cells #[iN (x.toNat)] 3)) := (Below.refl _ _).alloc (Nat.le_refl _) _; have A2 : Hid (Arr wr.heap.size ([x.toNat].map iN) (wr.alloc (.cells #[iN (x.toNat)] 3))) := Lib.hid (Arr.new wr _ _); replace hI := Lib.hid (hI.out.below hb2); clear hb2; generalize wr.alloc (.cells #[iN (x.toNat)] 3) = ua at *; refine qb0 (f := iN) (fun _ => rfl) (l := m) (m := [x.toNat]) (bw := 8) (z := .int .i64 0) rfl rfl Tryz.underlying72 (by kernel_rfl) rfl (by omega) rfl hI.out.O rfl A2.out.range (by show m.length + 1 ≤ _; omega) hI.out.bl.size (fun q1 q2 h3 hb3 => ?_); (try simp only [Act.put, lyy]); replace hI : Hid (Io _ q1 (m ++ [x.toNat]) q2) := Lib.hid ⟨hI.out.bl.trans hb3, by rw [List.length_append]; exact h3⟩; clear h3 hb3 A2; clear ua; refine qaa (qag (v := q1) rfl rfl) rfl ?_; (try simp only [Act.put, lyy]); refine qac ?_
      rw [← HS.out] at hI
      go_wp2_with fail
      exact ⟨⟨n + 1, by omega, by go_num, hI.out⟩, by simp [intOf]; omega⟩
theorem enters_rreduce : Enters 44 := qao Tryz.func44 (by kernel_rfl) rfl
end Go.Proofs.YtfdjmdfaidiliaaGreatDoor
namespace Go.Proofs.YtfdjmdfaidiliaaGreatDoor
open Go.RowKit
set_option maxRecDepth 20000
theorem getD_le {n : List Nat} {B : Nat} (h : ∀ x ∈ n, x ≤ B) (i : Nat) : n.getD i 0 ≤ B := by
  by_cases hi : i < n.length
  · rw [List.getD_eq_getElem?_getD, List.getElem?_eq_getElem hi]; exact h _ (List.getElem_mem hi)
  · rw [List.getD_eq_getElem?_getD, List.getElem?_eq_none (by omega)]; exact Nat.zero_le _
theorem set_le {n : List Nat} {B B' : Nat} (h : ∀ x ∈ n, x ≤ B) (hB : B ≤ B') {i v : Nat} (hv : v ≤ B') : ∀ x ∈ n.set i v, x ≤ B' := fun x hx => by
  rcases List.mem_or_eq_of_mem_set hx with h1 | h1
  · exact Nat.le_trans (h x h1) hB
  · rw [h1]; exact hv
theorem dv_more {n : List Nat} {i : Nat} (hi : i < n.length) (y : Nat) : dv (n.set i (n.getD i 0 + y)) = dv n + 256 ^ i * y := by
  have := dv_set n i (n.getD i 0 + y) hi
  rw [Nat.mul_add] at this
  omega
structure MdI (a b c : List Nat) (i j k : Nat) (n : List Nat) : Prop where
  len : n.length = 65
  le : ∀ x ∈ n, x ≤ i * 4194304 + 255 + k * 65025
  eq : dv n = dv (c.take j) + dv (a.take i) * dv b + 256 ^ i * a.getD i 0 * dv (b.take k)
section
variable {a b c : List Nat} (ha : a.length = 32) (hb : b.length = 32) (hc : c.length = 32) (da : Dg a) (db : Dg b) (dc : Dg c)
include hc dc
theorem MdI.first {i : Nat} {n : List Nat} (h : MdI a b c i i 0 n) (hle : ∀ x ∈ n, x ≤ i * 4194304) (hi : i < 32) : MdI a b c i (i + 1) 0 (n.set i (n.getD i 0 + c.getD i 0)) := by
  have h1 := getD_le hle i
  have h2 := dc.get i
  have hlen := h.len
  refine ⟨by rw [List.length_set, h.len], set_le h.le (Nat.le_refl _) (by omega), ?_⟩
  rw [dv_more (by omega), h.eq, dv_take c i (by omega)]
  simp only [List.take_zero, dv, Nat.mul_zero]
  omega
omit hc dc
include hb da db
theorem MdI.inner {i j k : Nat} {n : List Nat} (h : MdI a b c i j k n) (hi : i < 32) (hk : k < 32) : MdI a b c i j (k + 1) (n.set (i + k) (n.getD (i + k) 0 + a.getD i 0 * b.getD k 0)) := by
  have h1 := getD_le h.le (i + k)
  have h2 := da.get i
  have h3 := db.get k
  have h4 : a.getD i 0 * b.getD k 0 ≤ 255 * 255 := Nat.mul_le_mul (by omega) (by omega)
  have hlen := h.len
  refine ⟨by rw [List.length_set, h.len], set_le h.le (by omega) (by omega), ?_⟩
  rw [dv_more (by omega), h.eq, dv_take b k (by omega), Nat.mul_add, Nat.pow_add]
  have e : 256 ^ i * 256 ^ k * (a.getD i 0 * b.getD k 0) = 256 ^ i * a.getD i 0 * (256 ^ k * b.getD k 0) := by
    rw [Nat.mul_assoc, Nat.mul_assoc, Nat.mul_left_comm (256 ^ k)]
  rw [e]
  omega
include ha
omit da db
theorem MdI.next {i : Nat} {n : List Nat} (h : MdI a b c i (i + 1) 32 n) (hi : i < 32) : MdI a b c (i + 1) (i + 1) 0 n ∧ ∀ x ∈ n, x ≤ (i + 1) * 4194304 := by
  refine ⟨⟨h.len, fun x hx => by have := h.le x hx; omega, ?_⟩, fun x hx => by have := h.le x hx; omega⟩
  rw [h.eq, dv_take a i (by omega), Nat.add_mul, show b.take 32 = b from List.take_of_length_le (by omega)]
  simp only [List.take_zero, dv, Nat.mul_zero]
  omega
end
structure CrI (V i c : Nat) (n : List Nat) : Prop where
  len : n.length = 65
  le : ∀ x ∈ n, x ≤ 268435456
  cl : c ≤ 268435456
  dg : ∀ j, j < i → n.getD j 0 < 256
  eq : dv n + 256 ^ i * c = V
theorem CrI.step {V i c : Nat} {n : List Nat} (h : CrI V i c n) (hi : i < 65) : CrI V (i + 1) ((c + n.getD i 0) / 256) (n.set i ((c + n.getD i 0) % 256)) := by
  have h1 := getD_le h.le i
  have h2 := h.cl
  have hlen := h.len
  refine ⟨by rw [List.length_set, h.len], set_le h.le (Nat.le_refl _) (by omega), by omega, fun j hj => ?_, ?_⟩
  · rw [List.getD_eq_getElem?_getD, List.getElem?_set]
    by_cases e : i = j
    · subst e; rw [if_pos rfl, if_pos (by omega)]; exact Nat.mod_lt _ (by omega)
    · rw [if_neg e, ← List.getD_eq_getElem?_getD]; exact h.dg j (by omega)
  · have e := dv_set n i ((c + n.getD i 0) % 256) (by omega)
    have e2 := h.eq
    rw [Nat.pow_succ, Nat.mul_assoc]
    generalize n.getD i 0 = x at *
    generalize dv (n.set i ((c + x) % 256)) = D at *
    generalize 256 ^ i = p at *
    have e3 : p * (256 * ((c + x) / 256) + (c + x) % 256) = p * (c + x) := by rw [Nat.div_add_mod]
    rw [Nat.mul_add, Nat.mul_add] at e3
    omega
theorem CrI.done {V c : Nat} {n : List Nat} (h : CrI V 65 c n) (hV : V < 256 ^ 65) : Dg n ∧ dv n = V := by
  refine ⟨fun a ha => ?_, ?_⟩
  · obtain ⟨j, hj, rfl⟩ := List.getElem_of_mem ha
    have := h.dg j (by have := h.len; omega)
    rw [List.getD_eq_getElem?_getD, List.getElem?_eq_getElem hj] at this
    exact this
  · have e := h.eq
    rcases Nat.eq_zero_or_pos c with rfl | hc
    · simpa using e
    · have : 256 ^ 65 * 1 ≤ 256 ^ 65 * c := Nat.mul_le_mul_left _ hc
      omega
theorem mad_lt (a b c : List (BitVec 8)) (ha : a.length = 32) (hb : b.length = 32) (hc : c.length = 32) : leB a * leB b + leB c < 256 ^ 65 := by
  have h1 := leB_lt a
  have h2 := leB_lt b
  have h3 := leB_lt c
  rw [ha] at h1
  rw [hb] at h2
  rw [hc] at h3
  have h4 : leB a * leB b ≤ 256 ^ 32 * 256 ^ 32 := Nat.mul_le_mul (by omega) (by omega)
  rw [← Nat.pow_add] at h4
  have h5 : (256 : Nat) ^ (32 + 32) + 256 ^ 32 < 256 ^ 65 := by decide +kernel
  omega
set_option maxHeartbeats 16000000 in
theorem rmad_any (a b c : List (BitVec 8)) (w : World) (ha : a.length = 32) (hb : b.length = 32) (hc : c.length = 32) : Calls Tryz.prog 23 #[.agg (a.map b8).toArray, .agg (b.map b8).toArray, .agg (c.map b8).toArray] w fun e w' => e = .returned (.agg ((sk ((leB a * leB b + leB c) % ell)).map b8).toArray) ∧ Below w.heap.size w w' := by
  have hV := mad_lt a b c ha hb hc
  obtain ⟨V, hVe⟩ : ∃ V, V = leB a * leB b + leB c := ⟨_, rfl⟩
  rw [← hVe] at hV ⊢
  obtain ⟨A, hA⟩ : ∃ A, A = a.map (·.toNat) := ⟨_, rfl⟩
  obtain ⟨B, hB⟩ : ∃ B, B = b.map (·.toNat) := ⟨_, rfl⟩
  obtain ⟨C, hC⟩ : ∃ C, C = c.map (·.toNat) := ⟨_, rfl⟩
  have lA : A.length = 32 := by rw [hA, List.length_map, ha]
  have lB : B.length = 32 := by rw [hB, List.length_map, hb]
  have lC : C.length = 32 := by rw [hC, List.length_map, hc]
  have dA : Dg A := by rw [hA]; exact dg_bytes a
  have dB : Dg B := by rw [hB]; exact dg_bytes b
  have dC : Dg C := by rw [hC]; exact dg_bytes c
  have gA : Hid (∀ i, i < 32 → (a.getD i 0).toNat = A.getD i 0) := Lib.hid fun i hi => by
    rw [hA, List.getD_eq_getElem?_getD, List.getD_eq_getElem?_getD, List.getElem?_map, List.getElem?_eq_getElem (by omega)]; rfl
  have gB : Hid (∀ i, i < 32 → (b.getD i 0).toNat = B.getD i 0) := Lib.hid fun i hi => by
    rw [hB, List.getD_eq_getElem?_getD, List.getD_eq_getElem?_getD, List.getElem?_map, List.getElem?_eq_getElem (by omega)]; rfl
  have gC : Hid (∀ i, i < 32 → (c.getD i 0).toNat = C.getD i 0) := Lib.hid fun i hi => by
    rw [hC, List.getD_eq_getElem?_getD, List.getD_eq_getElem?_getD, List.getElem?_map, List.getElem?_eq_getElem (by omega)]; rfl
  have S0 : Hid (MdI A B C 0 0 0 (List.replicate 65 0)) := Lib.hid ⟨List.length_replicate, fun x hx => by rw [List.eq_of_mem_replicate hx]; omega, by simp [dv]⟩
  have S00 : Hid (∀ x ∈ List.replicate 65 0, x ≤ 0 * 4194304) := Lib.hid fun x hx => by rw [List.eq_of_mem_replicate hx]; omega
  have S1 : Hid (∀ (i : Nat) (n : List Nat), MdI A B C i i 0 n → (∀ x ∈ n, x ≤ i * 4194304) → i < 32 → MdI A B C i (i + 1) 0 (n.set i (n.getD i 0 + C.getD i 0))) := Lib.hid fun i n h h1 h2 => h.first lC dC h1 h2
  have S2 : Hid (∀ (i j k : Nat) (n : List Nat), MdI A B C i j k n → i < 32 → k < 32 → MdI A B C i j (k + 1) (n.set (i + k) (n.getD (i + k) 0 + A.getD i 0 * B.getD k 0))) := Lib.hid fun i j k n h h1 h2 => h.inner lB dA dB h1 h2
  have S3 : Hid (∀ (i : Nat) (n : List Nat), MdI A B C i (i + 1) 32 n → i < 32 → MdI A B C (i + 1) (i + 1) 0 n ∧ ∀ x ∈ n, x ≤ (i + 1) * 4194304) := Lib.hid fun i n h h1 => h.next lA lB h1
  have S4 : Hid (∀ n : List Nat, MdI A B C 32 32 0 n → (∀ x ∈ n, x ≤ 32 * 4194304) → CrI V 0 0 n) := Lib.hid fun n h h1 => ⟨h.len, fun x hx => by have := h1 x hx; omega, by omega, fun j hj => absurd hj (by omega), by
    rw [h.eq, List.take_of_length_le (by omega), List.take_of_length_le (by omega), hVe, leB_dv, leB_dv, leB_dv, ← hA, ← hB, ← hC]
    simp [dv, Nat.add_comm]⟩
  have S5' : Hid (∀ (i cy : Nat) (n : List Nat), CrI V i cy n → i < 65 → CrI V (i + 1) ((cy + n.getD i 0) / 256) (n.set i ((cy + n.getD i 0) % 256))) := Lib.hid fun i cy n h h1 => h.step h1
  have S6 : Hid (∀ (cy : Nat) (n : List Nat), CrI V 65 cy n → Dg n ∧ dv n = V) := Lib.hid fun cy n h => h.done hV
  have HR : Hid (∀ m : List Nat, m.length = 33 → Dg m → dv m = V % ell → (m.take 32).map (BitVec.ofNat 8) = sk (V % ell)) := Lib.hid fun m h1 h2 h3 => sk_left h1 h2 h3
  have GA : Hid (∀ i, A.getD i 0 < 256) := Lib.hid dA.get
  have GB : Hid (∀ i, B.getD i 0 < 256) := Lib.hid dB.get
  have GC : Hid (∀ i, C.getD i 0 < 256) := Lib.hid dC.get
  clear hA hB hC lA lB lC dA dB dC hVe hV
  have hkl := qcz (V % ell)
  generalize sk (V % ell) = kb at *
  have SZ := Lib.hid (szKy hkl)
  have L1 : Hid ((kb.map b8).length = (z8 32).length) := Lib.hid (by rw [z8_32, List.length_map, hkl])
  have hM := Lib.hid (Mv.nil w)
  go_enter Tryz.func23, Tryz.ntmps23
  go_upto_region 0 with fail; refine wp_region_lit ?_
  refine qaa (qa9 (vs := a.map b8) rfl rfl) rfl ?_; (try simp only [Act.put, lyy]); replace hM := Lib.hid (hM.out.new (a.map b8) 23); generalize w.alloc (.cells (a.map b8).toArray 23) = a1 at *; generalize w.heap.size = g1 at *
  refine qaa (qa9 (vs := b.map b8) rfl rfl) rfl ?_; (try simp only [Act.put, lyy]); replace hM := Lib.hid (hM.out.new (b.map b8) 23); generalize a1.alloc (.cells (b.map b8).toArray 23) = a2 at *; generalize a1.heap.size = g2 at *
  refine qaa (qa9 (vs := c.map b8) rfl rfl) rfl ?_; (try simp only [Act.put, lyy]); replace hM := Lib.hid (hM.out.new (c.map b8) 23); generalize a2.alloc (.cells (c.map b8).toArray 23) = a3 at *; generalize a2.heap.size = g3 at *
  refine qaa (qar (vs := z8 32) rfl (by kernel_rfl)) rfl ?_; (try simp only [Act.put, lyy])
  replace hM := Lib.hid (hM.out.new (z8 32) 23)
  generalize a3.alloc (.cells (z8 32).toArray 23) = a4 at *
  generalize a3.heap.size = g4 at *
  refine qac ?_
  go_upto_region 1 with fail; refine wp_region_lit ?_
  refine qaa (run_mkI (n := 65) rfl rfl rfl (by omega)) rfl ?_; (try simp only [Act.put, lyy])
  replace hM := Lib.hid (hM.out.new ((List.replicate 65 0).map iN) 3)
  generalize a4.alloc (.cells ((List.replicate 65 0).map iN).toArray 3) = a5 at *
  generalize a4.heap.size = g5 at *
  refine qaa (qag (v := .slice (some ⟨g5, 0, none⟩) 65 65) rfl rfl) rfl ?_; (try simp only [Act.put, lyy])
  refine qac ?_
  go_upto_region 2 with fail; refine wp_region_lit ?_
  refine qaa (qag (v := .int _ _) rfl rfl) rfl ?_; (try simp only [Act.put, lyy])
  refine qac ?_
  go_wp2_with fail
  go_loopw [8] (fun s u => ∃ (i : Nat) (n : List Nat), i ≤ 32 ∧ s = .int .i64 (i : Int) ∧ MdI A B C i i 0 n ∧ (∀ x ∈ n, x ≤ i * 4194304) ∧ Mv w [(g5, n.map iN), (g4, z8 32), (g3, c.map b8), (g2, b.map b8), (g1, a.map b8)] u) (fun s _ => (32 - intOf s).toNat)
  case atStart => exact ⟨0, List.replicate 65 0, by omega, rfl, S0.out, S00.out, hM.out⟩
  case round =>
    obtain ⟨i, n, hi, rfl, hMd, hle, hJ⟩ := hrel
    replace hM := Lib.hid hJ
    have HMd := Lib.hid hMd
    have HLe := Lib.hid hle
    have hnl := hMd.len
    clear hJ hMd hle
    by_cases hlt : i = 32
    · subst hlt
      have hk1 : ¬ (((32 : Nat) : Int) < 32) := by omega
      have C0 := Lib.hid (S4.out n HMd.out HLe.out)
      go_upto_region 10 with fail; refine wp_region_lit ?_
      refine qaa (qag (v := .int _ _) rfl rfl) rfl ?_; (try simp only [Act.put, lyy])
      refine qac ?_
      go_upto_region 11 with fail; refine wp_region_lit ?_
      refine qaa (qag (v := .int _ _) rfl rfl) rfl ?_; (try simp only [Act.put, lyy])
      refine qac ?_
      go_wp2_with fail
      go_loopw [10, 11] (fun s10 s11 u => ∃ (j cy : Nat) (m : List Nat), j ≤ 65 ∧ s11 = .int .i64 (j : Int) ∧ s10 = .int .i64 (cy : Int) ∧ CrI V j cy m ∧ Mv w [(g5, m.map iN), (g4, z8 32), (g3, c.map b8), (g2, b.map b8), (g1, a.map b8)] u) (fun _ s11 _ => (65 - intOf s11).toNat)
      case atStart => exact ⟨0, 0, n, by omega, rfl, rfl, C0.out, hM.out⟩
      case round =>
        obtain ⟨j, cy, m, hj, rfl, rfl, hCr, hJ⟩ := hrel
        replace hM := Lib.hid hJ
        have HCr := Lib.hid hCr
        have hml := hCr.len
        have hcy := hCr.cl
        clear hJ hCr
        by_cases hj65 : j = 65
        · subst hj65
          have hk2 : ¬ (((65 : Nat) : Int) < 65) := by omega
          obtain ⟨hdg, hdv⟩ := S6.out cy m HCr.out
          have DG := Lib.hid hdg
          have DV := Lib.hid hdv
          clear hdg hdv
          have HRd : Hid (Rd (.slice (some ⟨g5, 0, none⟩) 65 65) m wr) := Lib.hid (by
            have hA := hM.out.get (i := 0) rfl
            exact ⟨g5, 0, 65, by rw [hml], hA.lt, hA.range⟩)
          go_upto_region 17 with fail; refine wp_region_lit ?_
          refine qaa (qaf (v := .slice (some _) _ _) rfl rfl) rfl ?_; (try simp only [Act.put, lyy])
          refine qbi (qaj enters_rleft rfl rfl rfl) rfl (rleft_any _ m _ HRd.out (by omega) DG.out) (fun q1 q2 hR2 => ?_); (try simp only [Act.put, lyy])
          obtain ⟨m2, ⟨k1, k2, k3⟩, hIs⟩ := hR2
          have hE := HR.out m2 k1 k2 (by rw [k3, DV.out])
          have HRd2 := Lib.hid hIs.rd
          replace hM := Lib.hid (hM.out.below hIs.bl)
          clear hIs k2 k3
          refine qai (qaj enters_rkey8 rfl rfl rfl) rfl (rkey8_any _ m2 _ HRd2.out k1) (fun q3 hb => ?_); (try simp only [Act.put, lyy]); replace hM := Lib.hid (hM.out.below hb); clear hb
          rw [hE]
          refine qae (qaq (vs := kb.map b8) rfl SZ.out rfl rfl (one8s _) (by rw [L1.out]; exact (hM.out.get (i := 1) rfl).there)) rfl rfl ?_
          replace hM := Lib.hid (hM.out.put 1 rfl (m := kb.map b8) L1.out)
          refine qac ?_
          go_wp2_with fail
          exact bodyPost_ret (v := .agg (kb.map b8).toArray) (qat Tryz.results23 rfl Tryz.underlying23 rfl SZ.out (hM.out.get (i := 1) rfl).range) rfl ⟨rfl, hM.out.bl⟩
        · have hk2 : (j : Int) < 65 := by omega
          have HN := Lib.hid (S5'.out j cy m HCr.out (by omega))
          have hx := getD_le HCr.out.le j
          have HG := Lib.hid ((hM.out.get (i := 0) rfl).c j _ (qa5 iN 0 (by omega)))
          have HF := Lib.hid ((hM.out.get (i := 0) rfl).f j)
          have HSet : Hid (∀ y : Nat, Mv w [(g5, (m.set j y).map iN), (g4, z8 32), (g3, c.map b8), (g2, b.map b8), (g1, a.map b8)] (wr.setCell ⟨g5, j, none⟩ (iN y))) := Lib.hid fun y => by
            have h := hM.out.set 0 rfl (j := j) (by rw [List.length_map]; omega) (iN y)
            rw [qbw] at h
            exact h
          generalize m.getD j 0 = x at *
          go_upto_region 14 with fail; refine wp_region_lit ?_
          refine qaa (qaf (v := .int _ _) rfl rfl) rfl ?_; (try simp only [Act.put, lyy]); refine qaa (qaf (v := .slice (some _) _ _) rfl rfl) rfl ?_; (try simp only [Act.put, lyy]); refine qaa (qaf (v := .int _ _) rfl rfl) rfl ?_; (try simp only [Act.put, lyy])
          refine qaa (qa7 (i := j) rfl Tryz.underlying72 (by kernel_rfl) rfl rfl (by omega)) rfl ?_; (try simp only [Act.put, lyy])
          rw [Nat.zero_add]
          refine qaa (run_ldi rfl rfl HG.out) rfl ?_; (try simp only [Act.put, lyy])
          refine qaa (run_addN (a := cy) (b := x) rfl rfl rfl (by omega)) rfl ?_; (try simp only [Act.put, lyy])
          generalize hz : cy + x = z at *
          refine qaa (qag (v := .int _ _) rfl rfl) rfl ?_; (try simp only [Act.put, lyy])
          refine qac ?_
          go_upto_region 15 with fail; refine wp_region_lit ?_
          refine qaa (qaf (v := .slice (some _) _ _) rfl rfl) rfl ?_; (try simp only [Act.put, lyy]); refine qaa (qaf (v := .int _ _) rfl rfl) rfl ?_; (try simp only [Act.put, lyy]); refine qaa (qaf (v := .int _ _) rfl rfl) rfl ?_; (try simp only [Act.put, lyy])
          refine qaa (qdf (a := z) (b := 256) rfl rfl rfl (by omega)) rfl ?_; (try simp only [Act.put, lyy])
          refine qaa (qa7 (i := j) rfl Tryz.underlying72 (by kernel_rfl) rfl rfl (by omega)) rfl ?_; (try simp only [Act.put, lyy])
          rw [Nat.zero_add]
          refine qae (run_stI (n := z % 256) rfl rfl rfl HG.out HF.out) rfl rfl ?_
          refine qac ?_
          have hM2 := Lib.hid (HSet.out (z % 256))
          generalize wr.setCell ⟨g5, j, none⟩ (iN (z % 256)) = b5 at *
          go_upto_region 16 with fail; refine wp_region_lit ?_
          refine qaa (qaf (v := .int _ _) rfl rfl) rfl ?_; (try simp only [Act.put, lyy])
          refine qaa (run_quoN (a := z) (b := 256) rfl rfl rfl (by omega) (by omega)) rfl ?_; (try simp only [Act.put, lyy])
          refine qaa (qag (v := .int _ _) rfl rfl) rfl ?_; (try simp only [Act.put, lyy])
          refine qac ?_
          clear HG HF HSet hM
          go_wp2_with fail
          exact ⟨⟨j + 1, z / 256, m.set j (z % 256), by omega, by go_num, rfl, HN.out, hM2.out⟩, by simp [intOf]; omega⟩
    · have hk1 : (i : Int) < 32 := by omega
      have HN := Lib.hid (S1.out i n HMd.out HLe.out (by omega))
      have hx := getD_le HLe.out i
      have hci := GC.out i
      have EC := Lib.hid (gC.out i (by omega))
      have HG : Hid (∀ V', Arr g5 (n.map iN) V' → V'.cell? ⟨g5, i, none⟩ = some (iN (n.getD i 0))) := Lib.hid fun V' h => h.c i _ (qa5 iN 0 (by omega))
      have HGC : Hid (∀ V', Arr g3 (c.map b8) V' → V'.cell? ⟨g3, i, none⟩ = some (b8 (c.getD i 0))) := Lib.hid fun V' h => h.c i _ (qa5 b8 0 (by omega))
      generalize n.getD i 0 = x at *
      generalize c.getD i 0 = ci at *
      generalize C.getD i 0 = cn at *
      go_upto_region 5 with fail; refine qau 10 (by kernel_rfl) (by kernel_rfl) ?_
      refine qab _ (fun V hV => qad (qaf (v := .slice (some _) _ _) rfl rfl)) ?_; (try simp only [Act.put, lyy]); refine qab _ (fun V hV => qad (qaf (v := .int _ _) rfl rfl)) ?_; (try simp only [Act.put, lyy])
      refine qab _ (fun V hV => qad (qa7 (i := i) rfl Tryz.underlying72 (by kernel_rfl) rfl rfl (by omega))) ?_; (try simp only [Act.put, lyy])
      refine qab _ (fun V hV => qad (run_ldi rfl rfl (by rw [Nat.zero_add]; exact HG.out V ((hM.out.below hV).get (i := 0) rfl)))) ?_; (try simp only [Act.put, lyy])
      refine qab _ (fun V hV => qad (qaf (v := .int _ _) rfl rfl)) ?_; (try simp only [Act.put, lyy])
      refine qab _ (fun V hV => qad (qay (i := i) rfl Tryz.underlying23 (by kernel_rfl) rfl rfl (by omega))) ?_; (try simp only [Act.put, lyy])
      refine qab _ (fun V hV => qad (qby rfl rfl (HGC.out V ((hM.out.below hV).get (i := 2) rfl)))) ?_; (try simp only [Act.put, lyy])
      refine qab _ (fun V hV => qad (run_cv8i rfl rfl)) ?_; (try simp only [Act.put, lyy])
      refine qab _ (fun V hV => qad (run_addN (a := x) (b := ci.toNat) rfl rfl rfl (by rw [EC.out]; omega))) ?_; (try simp only [Act.put, lyy])
      refine qab _ (fun V hV => qad (qa7 (i := i) rfl Tryz.underlying72 (by kernel_rfl) rfl rfl (by omega))) ?_; (try simp only [Act.put, lyy])
      refine qav ?_; intro a6 hb6; simp only [List.drop_succ_cons, List.drop_zero]
      replace hM := Lib.hid (hM.out.below hb6)
      clear hb6
      rw [EC.out, Nat.zero_add]
      refine qae (run_stI (n := x + cn) rfl rfl rfl (HG.out _ (hM.out.get (i := 0) rfl)) ((hM.out.get (i := 0) rfl).f i)) rfl rfl ?_
      refine qac ?_
      replace hM : Hid (Mv w [(g5, (n.set i (x + cn)).map iN), (g4, z8 32), (g3, c.map b8), (g2, b.map b8), (g1, a.map b8)] (a6.setCell ⟨g5, i, none⟩ (iN (x + cn)))) := Lib.hid (by
        have h := hM.out.set 0 rfl (j := i) (by rw [List.length_map]; omega) (iN (x + cn))
        rw [qbw] at h
        exact h)
      generalize a6.setCell ⟨g5, i, none⟩ (iN (x + cn)) = a7 at *
      generalize n.set i (x + cn) = n1 at *
      clear HG HGC HMd HLe hx hci EC
      go_upto_region 6 with fail; refine wp_region_lit ?_
      refine qaa (qag (v := .int _ _) rfl rfl) rfl ?_; (try simp only [Act.put, lyy])
      refine qac ?_
      go_wp2_with fail
      go_loopw [9] (fun s u => ∃ (k : Nat) (m : List Nat), k ≤ 32 ∧ s = .int .i64 (k : Int) ∧ MdI A B C i (i + 1) k m ∧ Mv w [(g5, m.map iN), (g4, z8 32), (g3, c.map b8), (g2, b.map b8), (g1, a.map b8)] u) (fun s _ => (32 - intOf s).toNat)
      case atStart => exact ⟨0, n1, by omega, rfl, HN.out, hM.out⟩
      case round =>
        obtain ⟨k, m, hk, rfl, hMd, hJ⟩ := hrel
        replace hM := Lib.hid hJ
        have HMd := Lib.hid hMd
        have hml := hMd.len
        have hle := hMd.le
        clear hJ hMd
        by_cases hlk : k = 32
        · subst hlk
          have hk2 : ¬ (((32 : Nat) : Int) < 32) := by omega
          obtain ⟨h1, h2⟩ := S3.out i m HMd.out (by omega)
          have H1 := Lib.hid h1
          have H2 := Lib.hid h2
          clear h1 h2 hle
          go_wp2_with fail
          exact ⟨⟨i + 1, m, by omega, by go_num, H1.out, H2.out, hM.out⟩, by simp [intOf]; omega⟩
        · have hk2 : (k : Int) < 32 := by omega
          have HN2 := Lib.hid (S2.out i (i + 1) k m HMd.out (by omega) (by omega))
          have hx := getD_le hle (i + k)
          clear hle
          have EA := Lib.hid (gA.out i (by omega))
          have EB := Lib.hid (gB.out k (by omega))
          have hai := GA.out i
          have hbk := GB.out k
          have HG : Hid (∀ V', Arr g5 (m.map iN) V' → V'.cell? ⟨g5, i + k, none⟩ = some (iN (m.getD (i + k) 0))) := Lib.hid fun V' h => h.c (i + k) _ (qa5 iN 0 (by omega))
          have HGA : Hid (∀ V', Arr g1 (a.map b8) V' → V'.cell? ⟨g1, i, none⟩ = some (b8 (a.getD i 0))) := Lib.hid fun V' h => h.c i _ (qa5 b8 0 (by omega))
          have HGB : Hid (∀ V', Arr g2 (b.map b8) V' → V'.cell? ⟨g2, k, none⟩ = some (b8 (b.getD k 0))) := Lib.hid fun V' h => h.c k _ (qa5 b8 0 (by omega))
          generalize m.getD (i + k) 0 = x at *
          generalize a.getD i 0 = ai at *
          generalize b.getD k 0 = bk at *
          generalize A.getD i 0 = an at *
          generalize B.getD k 0 = bn' at *
          have hp : an * bn' ≤ 255 * 255 := Nat.mul_le_mul (by omega) (by omega)
          go_upto_region 9 with fail; refine qau 17 (by kernel_rfl) (by kernel_rfl) ?_
          refine qab _ (fun V hV => qad (qaf (v := .slice (some _) _ _) rfl rfl)) ?_; (try simp only [Act.put, lyy]); refine qab _ (fun V hV => qad (qaf (v := .int _ _) rfl rfl)) ?_; (try simp only [Act.put, lyy]); refine qab _ (fun V hV => qad (qaf (v := .int _ _) rfl rfl)) ?_; (try simp only [Act.put, lyy])
          refine qab _ (fun V hV => qad (run_addN (a := i) (b := k) rfl rfl rfl (by omega))) ?_; (try simp only [Act.put, lyy])
          refine qab _ (fun V hV => qad (qa7 (i := i + k) rfl Tryz.underlying72 (by kernel_rfl) rfl rfl (by omega))) ?_; (try simp only [Act.put, lyy])
          refine qab _ (fun V hV => qad (run_ldi rfl rfl (by rw [Nat.zero_add]; exact HG.out V ((hM.out.below hV).get (i := 0) rfl)))) ?_; (try simp only [Act.put, lyy])
          refine qab _ (fun V hV => qad (qaf (v := .int _ _) rfl rfl)) ?_; (try simp only [Act.put, lyy])
          refine qab _ (fun V hV => qad (qay (i := i) rfl Tryz.underlying23 (by kernel_rfl) rfl rfl (by omega))) ?_; (try simp only [Act.put, lyy])
          refine qab _ (fun V hV => qad (qby rfl rfl (HGA.out V ((hM.out.below hV).get (i := 4) rfl)))) ?_; (try simp only [Act.put, lyy])
          refine qab _ (fun V hV => qad (run_cv8i rfl rfl)) ?_; (try simp only [Act.put, lyy])
          refine qab _ (fun V hV => qad (qaf (v := .int _ _) rfl rfl)) ?_; (try simp only [Act.put, lyy])
          refine qab _ (fun V hV => qad (qay (i := k) rfl Tryz.underlying23 (by kernel_rfl) rfl rfl (by omega))) ?_; (try simp only [Act.put, lyy])
          refine qab _ (fun V hV => qad (qby rfl rfl (HGB.out V ((hM.out.below hV).get (i := 3) rfl)))) ?_; (try simp only [Act.put, lyy])
          refine qab _ (fun V hV => qad (run_cv8i rfl rfl)) ?_; (try simp only [Act.put, lyy])
          refine qab _ (fun V hV => qad (run_mulN (a := ai.toNat) (b := bk.toNat) rfl rfl rfl (by rw [EA.out, EB.out]; omega))) ?_; (try simp only [Act.put, lyy])
          refine qab _ (fun V hV => qad (run_addN (a := x) (b := ai.toNat * bk.toNat) rfl rfl rfl (by rw [EA.out, EB.out]; omega))) ?_; (try simp only [Act.put, lyy])
          refine qab _ (fun V hV => qad (qa7 (i := i + k) rfl Tryz.underlying72 (by kernel_rfl) rfl rfl (by omega))) ?_; (try simp only [Act.put, lyy])
          refine qav ?_; intro b6 hb6; simp only [List.drop_succ_cons, List.drop_zero]
          replace hM := Lib.hid (hM.out.below hb6)
          clear hb6
          rw [EA.out, EB.out, Nat.zero_add]
          refine qae (run_stI (n := x + an * bn') rfl rfl rfl (HG.out _ (hM.out.get (i := 0) rfl)) ((hM.out.get (i := 0) rfl).f (i + k))) rfl rfl ?_
          refine qac ?_
          replace hM : Hid (Mv w [(g5, (m.set (i + k) (x + an * bn')).map iN), (g4, z8 32), (g3, c.map b8), (g2, b.map b8), (g1, a.map b8)] (b6.setCell ⟨g5, i + k, none⟩ (iN (x + an * bn')))) := Lib.hid (by
            have h := hM.out.set 0 rfl (j := i + k) (by rw [List.length_map]; omega) (iN (x + an * bn'))
            rw [qbw] at h
            exact h)
          generalize b6.setCell ⟨g5, i + k, none⟩ (iN (x + an * bn')) = b7 at *
          generalize m.set (i + k) (x + an * bn') = m1 at *
          clear HG HGA HGB HMd hx hai hbk EA EB hp
          go_wp2_with fail
          exact ⟨⟨k + 1, m1, by omega, by go_num, HN2.out, hM.out⟩, by simp [intOf]; omega⟩
theorem enters_rmad : Enters 23 := qao Tryz.func23 (by kernel_rfl) rfl
end Go.Proofs.YtfdjmdfaidiliaaGreatDoor
namespace Go.Proofs.YtfdjmdfaidiliaaGreatDoor
open Go.RowKit
set_option maxRecDepth 20000
section
variable {P : Program} {w : World}
theorem append_where (base : Nat) (t ty e : TypeId) (i : TypeInfo) (z : Value) (size bytes : Nat) (ht : P.underlying t = some (.slice e)) (hi : P.info? e = some i) (hz : i.zero = some z)
    (hsize : i.size = size) (hby : i.bytes = bytes) (hzs : z.cells.size = size) (hsz : 0 < size)
    (v : Value) (n : Nat) (xs : List Value) (hown : w.ownsRow base e size v n xs)
    (a : Addr) (m c : Nat) (news : List Value) (hl : news.length = m * size) (hnews : ∀ j u, news[j]? = some u → w.cell? (a.add j) = some u) (h1 : ∀ u ∈ news, u.oneCell' = true)
    (h63 : n + m ≤ maxLen) (hbytes : (n + m) * bytes ≤ 140737488355328) (hm : 0 < m) {v' : Value} {w' : World}
    (hr : (Builtin.append_ #[t, t] ty #[v, .slice (some a) m c]).run P w = .ok v' w') : v'.ownBlock = v.ownBlock ∨ v'.ownBlock = some w.heap.size := by
  subst hsize
  subst hby
  have hsmall : n + m ≤ 9223372036854775807 := by simp only [maxLen] at h63; omega
  rcases hown.2 with ⟨rfl, rfl⟩ | ⟨g, cap, cur, rfl, hbg, hg, hnc, hcm, hcs, htake⟩
  · have hr' := run_append_nil (P := P) w t ty e i z ht hi hz a m c news hl hnews (by omega) (by omega) (by have hb := hbytes; simp only [Nat.zero_add] at hb; omega)
    rw [hr'] at hr
    injection hr with e1 _
    exact .inr (by rw [← e1]; rfl)
  · by_cases hroom : n + m ≤ cap
    · have hfit : n * i.size + news.length ≤ cur.size := by rw [hl, hcs, ← Nat.add_mul]; exact Nat.mul_le_mul_right _ hroom
      have hr' := run_append_room (P := P) w t ty e i ht hi g n cap cur hg a m c news hl hnews h1 hroom hfit
      rw [hr'] at hr
      injection hr with e1 _
      exact .inl (by rw [← e1]; rfl)
    · have holds : ∀ j u, xs[j]? = some u → w.cell? ((⟨g, 0, none⟩ : Addr).add j) = some u := hown.cells (g := g) rfl
      have hr' := run_append_grow (P := P) w t ty e i z ht hi hz ⟨g, 0, none⟩ n cap xs hown.1 holds a m c news hl hnews (by omega) (by omega) (growslice_fits (by omega) hbytes)
      rw [hr'] at hr
      injection hr with e1 _
      exact .inr (by rw [← e1]; rfl)
end
section
variable {w : World} {ops : Array Oper} {Q : Exit → Act → World → Prop} {o : Oper} {a : Act} {S : World → Prop}
end
end Go.Proofs.YtfdjmdfaidiliaaGreatDoor
namespace Go.Proofs.YtfdjmdfaidiliaaGreatDoor
open Go.RowKit
set_option maxRecDepth 20000
def Apart (v v2 : Value) : Prop := ∀ k, v.ownBlock = some k → v2.ownBlock ≠ some k
theorem Apart.symm {v v2 : Value} (h : Apart v v2) : Apart v2 v := fun k h1 h2 => h k h2 h1
theorem Apart.nil (v : Value) : Apart (.slice none 0 0) v := fun k h => by cases h
section
variable {w : World} {ops : Array Oper} {Q : Exit → Act → World → Prop} {rest : List Oper} {o : Oper} {a : Act}
theorem wpList_app2 {s x : Operand} (hg : o.guard = none) (ho : o.op = .call { callee := .builtin .append, args := #[s, x], argTypes := #[24, 24] })
    {base base2 n n2 c : Nat} {v v2 : Value} {l m l2 : List (BitVec 8)} {g : Nat} {off : Nat} (hs : a.eval s = v) (hown : w.ownsRow base 5 1 v n (l.map b8)) (hown2 : w.ownsRow base2 5 1 v2 n2 (l2.map b8)) (hap : Apart v v2) (hx : a.eval x = .slice (some ⟨g, off, none⟩) m.length c)
    (hA : w.rangeAt g off (m.map b8)) (hn : n + m.length ≤ 16777216) (hm : 0 < m.length) (hbase : base ≤ w.heap.size)
    (h : ∀ v' w', w'.ownsRow base 5 1 v' (n + m.length) ((l ++ m).map b8) → w'.ownsRow base2 5 1 v2 n2 (l2.map b8) → Apart v' v2 → Below base w w' → wpList Tryz.prog ops Q rest (a.put o.dst v') w') : wpList Tryz.prog ops Q (o :: rest) a w := by
  have hi : (Tryz.prog.info? 5).map (fun i => (i.size, i.bytes, i.zero)) = some (1, 1, some (.int .u8 0)) := by kernel_rfl
  obtain ⟨inf, h1, h2⟩ := Option.map_eq_some_iff.1 hi
  obtain ⟨e1, e2, e3⟩ : inf.size = 1 ∧ inf.bytes = 1 ∧ inf.zero = some (.int .u8 0) := by simpa using h2
  have hc : ∀ j u, (m.map b8)[j]? = some u → w.cell? ((⟨g, off, none⟩ : Addr).add j) = some u := fun j u hu => by rw [Addr.add_mid]; exact hA j u hu
  have h8 : ∀ u ∈ m.map b8, u.oneCell' = true := fun u hu => by rw [List.mem_map] at hu; obtain ⟨x, _, rfl⟩ := hu; rfl
  obtain ⟨v', w', hr, h3, h4, _⟩ := run_append_own (P := Tryz.prog) w base 24 o.type 5 inf (.int .u8 0) 1 1 Tryz.underlying24 h1 e3 e1 e2 rfl (by omega) v n (l.map b8) hown ⟨g, off, none⟩ m.length c (m.map b8) (by simp) hc h8
    (by unfold maxLen; omega) (by omega) hbase
  have hw := append_where (P := Tryz.prog) base 24 o.type 5 inf (.int .u8 0) 1 1 Tryz.underlying24 h1 e3 e1 e2 rfl (by omega) v n (l.map b8) hown ⟨g, off, none⟩ m.length c (m.map b8) (by simp) hc h8 (by unfold maxLen; omega) (by omega) hm hr
  refine qaa (v := v') (w' := w') ?_ hg (h v' w' (by rw [List.map_append]; exact h3) ?_ ?_ (below_grown h4 (own_lt hown) hbase))
  · unfold execOp
    simp [ho, resolve, invoke, builtin, hs, hx, hr, Result.andThen]
  · refine hown2.kept h4 ?_
    cases hv : v2.ownBlock with
    | none => exact .inl rfl
    | some k => exact .inr fun he => hap k he.symm hv
  · intro k hk
    rcases hw with hw | hw
    · rw [hw] at hk; exact hap k hk
    · rw [hw] at hk
      injection hk with hk
      intro hk2
      have := (hown2.lt k hk2).2
      omega
end
end Go.Proofs.YtfdjmdfaidiliaaGreatDoor
namespace Go.Proofs.YtfdjmdfaidiliaaGreatDoor
open Go.RowKit
set_option maxRecDepth 20000
structure HvR (r : World) (s : List (BitVec 8)) (n : Nat) (v v2 : Value) (u : World) : Prop where
  bl : Below r.heap.size r u
  O : u.ownsRow r.heap.size 5 1 v n ((s.take n).map b8)
  O2 : u.ownsRow r.heap.size 5 1 v2 n (((s.drop 32).take n).map b8)
  ap : Apart v v2
theorem HvR.below {r u u' : World} {s : List (BitVec 8)} {n : Nat} {v v2 : Value} (i : HvR r s n v v2 u) (hb : Below u.heap.size u u') : HvR r s n v v2 u' :=
  ⟨i.bl.trans (hb.mono i.bl.size), qct i.O hb, qct i.O2 hb, i.ap⟩
theorem half_snoc {s : List (BitVec 8)} {n : Nat} (h : n + 32 < s.length) : (s.drop 32).take (n + 1) = (s.drop 32).take n ++ [s.getD (32 + n) 0] := by
  rw [take_snoc8 (s.drop 32) n (by rw [List.length_drop]; omega)]
  simp [List.getD_eq_getElem?_getD]
end Go.Proofs.YtfdjmdfaidiliaaGreatDoor
namespace Go.Proofs.YtfdjmdfaidiliaaGreatDoor
open Go.RowKit
set_option maxRecDepth 20000
theorem qb7 : Enters 14 := qao Tryz.func14 (by kernel_rfl) rfl
set_option maxHeartbeats 1000000 in
theorem qcr (K : List (BitVec 8)) (w : World) (hK : K.length = 32) :
    Calls Tryz.prog 14 #[.agg (K.map b8).toArray] w fun e w' => ∃ v', e = .returned v' ∧ S5 w v' K w' := by
  go_enter Tryz.func14, Tryz.ntmps14
  go_upto_region 0 with fail; refine wp_region_lit ?_
  refine qaa (qa9 (vs := K.map b8) rfl rfl) rfl ?_; (try simp only [Act.put, lyy])
  refine qaa (qag (v := .slice _ _ _) rfl rfl) rfl ?_; (try simp only [Act.put, lyy])
  refine qac ?_
  have HK := Lib.hid (Arr.new w (K.map b8) 23)
  have bl : Below w.heap.size w (w.alloc (.cells (K.map b8).toArray 23)) := (Below.refl _ _).alloc (Nat.le_refl _) _
  generalize w.alloc (.cells (K.map b8).toArray 23) = r at *
  have hI : Hid (S5 r (.slice none 0 0) (K.take 0) r) := Lib.hid ⟨Below.refl _ _, World.ownsRow_nil _ _ _ _⟩
  go_upto_region 1 with fail; refine wp_region_lit ?_
  refine qaa (qag (v := .slice _ _ _) rfl rfl) rfl ?_; (try simp only [Act.put, lyy])
  refine qac ?_
  go_upto_region 2 with fail; refine wp_region_lit ?_
  refine qaa (qag (v := .int _ _) rfl rfl) rfl ?_; (try simp only [Act.put, lyy])
  refine qac ?_
  go_wp2_with fail
  go_loopw [3, 4] (fun s3 s4 u => ∃ k : Nat, k ≤ 32 ∧ s4 = .int .i64 (k : Int) ∧ S5 r s3 (K.take k) u) (fun _ s4 _ => (32 - intOf s4).toNat)
  case atStart => exact ⟨0, by omega, rfl, hI.out⟩
  case round v3 v4 _ =>
    obtain ⟨k, hk, rfl, hJ⟩ := hrel
    replace hI := Lib.hid hJ
    clear hJ
    by_cases hlt : k = 32
    · subst hlt
      have hk1 : ¬ (((32 : Nat) : Int) < 32) := by omega
      rw [List.take_of_length_le (by omega)] at hI
      go_upto_region 6 with fail; refine wp_region_lit ?_
      refine qaa (qaf (v := u3) rfl rfl) rfl ?_; (try simp only [Act.put, lyy])
      refine qaa (qag (v := u3) rfl rfl) rfl ?_; (try simp only [Act.put, lyy])
      refine qac ?_
      go_wp2_with fail
      exact bodyPost_ret (results_tmp Tryz.results14 _ _ _) rfl ⟨_, rfl, hI.out.mono bl⟩
    · have hk1 : (k : Int) < 32 := by omega
      have hk2 : k < 32 := by omega
      have HT2 := Lib.hid (take_snoc8 K k (by omega))
      have htl : (K.take k).length = k := by rw [List.length_take]; omega
      have HC : Hid (wr.cell? ⟨w.heap.size, k, none⟩ = some (b8 (K.getD k 0))) := Lib.hid ((HK.out.below hI.out.bl).c k _ (qa5 b8 0 (by omega)))
      generalize K.getD k 0 = x at *
      generalize hP : K.take k = P at *
      clear hP
      go_upto_region 5 with fail; refine wp_region_lit ?_
      refine qaa (qaf (v := u3) rfl rfl) rfl ?_; (try simp only [Act.put, lyy])
      refine qaa (qaf (v := .int _ _) rfl rfl) rfl ?_; (try simp only [Act.put, lyy])
      refine qaa (qay rfl Tryz.underlying23 (by kernel_rfl) rfl rfl hk2) rfl ?_; (try simp only [Act.put, lyy])
      refine qaa (qby rfl rfl HC.out) rfl ?_; (try simp only [Act.put, lyy])
      refine qaa (qbu (cells := #[b8 (x)]) (z := .int .u8 0) rfl Tryz.underlying24 (by kernel_rfl) (by omega) (by omega) (by kernel_rfl)) rfl ?_; (try simp only [Act.put, lyy]); have hb2 : Below wr.heap.size wr (wr.alloc (.cells #[b8 (x)] 5)) := (Below.refl _ _).alloc (Nat.le_refl _) _; have A2 : Hid (Arr wr.heap.size ([x].map b8) (wr.alloc (.cells #[b8 (x)] 5))) := Lib.hid (Arr.new wr _ _); replace hI := Lib.hid (hI.out.below hb2); clear hb2; generalize wr.alloc (.cells #[b8 (x)] 5) = ua at *; refine qb0 (f := b8) (fun _ => rfl) (l := P) (m := [x]) (bw := 1) (z := .int .u8 0) rfl rfl Tryz.underlying24 (by kernel_rfl) rfl (by omega) rfl hI.out.O rfl A2.out.range (by rw [htl]; show k + 1 ≤ _; omega) hI.out.bl.size (fun v5 u5 h3 hb3 => ?_); (try simp only [Act.put, lyy]); replace hI : Hid (S5 _ v5 (P ++ [x]) u5) := Lib.hid ⟨hI.out.bl.trans hb3, by rw [List.length_append]; exact h3⟩; clear h3 hb3 A2; clear ua; refine qaa (qag (v := v5) rfl rfl) rfl ?_; (try simp only [Act.put, lyy]); refine qac ?_
      rw [← HT2.out] at hI
      clear HC HT2
      go_wp2_with fail
      go_roundw
      case rel => exact ⟨k + 1, by omega, by go_num, hI.out⟩
      case measure => simp [intOf]; omega
theorem enters_rkeyG : Enters 17 := qao Tryz.func17 (by kernel_rfl) rfl
set_option maxHeartbeats 4000000 in
theorem rkeyG_any (v : Value) (l : List (BitVec 8)) (w : World) (hv : Sl v l w) (hl : l.length = 32) :
    Calls Tryz.prog 17 #[v] w fun e w' => e = .returned (.agg (l.map b8).toArray) ∧ Below w.heap.size w w' := by
  obtain ⟨g, f, c, rfl, hg, hr⟩ := hv.adr (by omega)
  rw [hl]
  have HC : Hid (∀ (V : World) (L : List (Nat × List Value)), Mv w L V → ∀ k, k < 32 → V.cell? ⟨g, f + k, none⟩ = some (b8 (l.getD k 0))) := Lib.hid fun V L hV k hk => qa8 hr hg hV.bl _ _ (qa5 b8 0 (by omega))
  clear hr hv
  have SL := Lib.hid (szKy hl)
  have LL : Hid ((l.map b8).length = (z8 32).length) := Lib.hid (by rw [z8_32, List.length_map, hl])
  have BZ : Hid (Tryz.prog.built 23 [] = some (z8 32).toArray) := Lib.hid (by kernel_rfl)
  have hM := Lib.hid (Mv.nil w)
  go_enter Tryz.func17, Tryz.ntmps17
  go_upto_region 0 with fail; refine wp_region_lit ?_
  refine qaa (qar (vs := z8 32) rfl (by kernel_rfl)) rfl ?_; (try simp only [Act.put, lyy]); replace hM := Lib.hid (hM.out.new (z8 32) 23); generalize w.alloc (.cells (z8 32).toArray 23) = a1 at *; generalize w.heap.size = g1 at *
  refine qac ?_
  go_upto_region 1 with fail; refine wp_region_lit ?_
  refine qaa (run_bld (cells := (z8 32).toArray) rfl (by simpa using BZ.out)) rfl ?_; (try simp only [Act.put, lyy])
  refine qaa (qar (vs := z8 32) rfl (by kernel_rfl)) rfl ?_; (try simp only [Act.put, lyy]); replace hM := Lib.hid (hM.out.new (z8 32) 23); generalize a1.alloc (.cells (z8 32).toArray 23) = a2 at *; generalize a1.heap.size = g2 at *
  refine qae (qaq (vs := z8 32) rfl szZ rfl rfl (one8s (List.replicate 32 0)) (by rw [(rfl : (z8 32).length = (z8 32).length)]; exact (hM.out.get (i := 0) rfl).there)) rfl rfl ?_; replace hM := Lib.hid (hM.out.put 0 rfl (m := z8 32) ((rfl : (z8 32).length = (z8 32).length)))
  refine qac ?_
  generalize a2.setCells g2 0 (z8 32) = a3 at *
  go_upto_region 2 with fail; refine wp_region_lit ?_
  refine qaa (qag (v := .int _ _) rfl rfl) rfl ?_; (try simp only [Act.put, lyy])
  refine qac ?_
  go_wp2_with fail
  go_loopw [4] (fun s u => ∃ n : Nat, n ≤ 32 ∧ s = .int .i64 (n : Int) ∧ Mv w [(g2, (flB l n).map b8), (g1, z8 32)] u) (fun s _ => (32 - intOf s).toNat)
  case atStart => exact ⟨0, by omega, rfl, by rw [flB_zero]; exact hM.out⟩
  case round =>
    obtain ⟨n, hn, rfl, hJ⟩ := hrel
    replace hM := Lib.hid hJ
    clear hJ
    go_upto_region 3 with fail; refine wp_region_lit ?_
    refine qaa (qaf (v := .int _ _) rfl rfl) rfl ?_; (try simp only [Act.put, lyy])
    by_cases hlt : n = 32
    · subst hlt
      rw [flB_all hl] at hM
      refine qaa (run_lssb (c := false) rfl rfl rfl (decide_eq_false (by omega))) rfl ?_; (try simp only [Act.put, lyy])
      refine qaa (qaf (v := .bool false) rfl rfl) rfl ?_; (try simp only [Act.put, lyy])
      refine qca rfl ?_; (try simp only [Act.put, lyy])
      refine qca rfl ?_; (try simp only [Act.put, lyy])
      refine qca rfl ?_; (try simp only [Act.put, lyy])
      refine qca rfl ?_; (try simp only [Act.put, lyy])
      refine qaa (qcc (b := false) (v := .bool false) rfl rfl rfl) rfl ?_; (try simp only [Act.put, lyy])
      refine qac ?_
      go_upto_region 6 with fail; refine wp_region_lit ?_
      refine qaa (qah (vs := l.map b8) rfl Tryz.underlying23 rfl SL.out rfl ((hM.out.get (i := 0) rfl).range)) rfl ?_; (try simp only [Act.put, lyy])
      refine qae (qaq (vs := l.map b8) rfl SL.out rfl rfl (one8s _) (by rw [LL.out]; exact (hM.out.get (i := 1) rfl).there)) rfl rfl ?_; replace hM := Lib.hid (hM.out.put 1 rfl (m := l.map b8) (LL.out))
      refine qac ?_; go_wp2_with fail; refine bodyPost_ret (v := .agg (l.map b8).toArray) (qat Tryz.results17 rfl Tryz.underlying23 rfl SL.out (hM.out.get (i := 1) rfl).range) rfl ⟨rfl, hM.out.bl⟩
    · have hn2 : n < 32 := by omega
      have FS := Lib.hid (flB_set hl (n := n) hn2)
      have FL : Hid (n < ((flB l n).map b8).length) := Lib.hid (by rw [List.length_map, flB_len hl hn]; omega)
      have HG := Lib.hid (qa5 b8 0 (l := flB l n) (i := n) (by rw [flB_len hl hn]; omega))
      refine qaa (run_lssb (c := true) rfl rfl rfl (decide_eq_true (by omega))) rfl ?_; (try simp only [Act.put, lyy])
      refine qaa (qaf (v := .bool true) rfl rfl) rfl ?_; (try simp only [Act.put, lyy])
      refine qbb (qaf (v := .int _ _) rfl rfl) rfl ?_; (try simp only [Act.put, lyy])
      refine qbb (qaf (v := .slice (some _) _ _) rfl rfl) rfl ?_; (try simp only [Act.put, lyy])
      refine qbb (qch rfl Tryz.underlying24 rfl) rfl ?_; (try simp only [Act.put, lyy])
      refine qbb (run_lssb (c := true) rfl rfl rfl (decide_eq_true (by omega))) rfl ?_; (try simp only [Act.put, lyy])
      refine qaa (qcc (b := true) (v := .bool true) rfl rfl rfl) rfl ?_; (try simp only [Act.put, lyy])
      refine qac ?_
      go_upto_region 5 with fail; refine wp_region_lit ?_
      refine qaa (qaf (v := .int _ _) rfl rfl) rfl ?_; (try simp only [Act.put, lyy]); refine qaa (qaf (v := .slice (some _) _ _) rfl rfl) rfl ?_; (try simp only [Act.put, lyy]); refine qaa (qaf (v := .int _ _) rfl rfl) rfl ?_; (try simp only [Act.put, lyy])
      refine qaa (qa7 (i := n) rfl Tryz.underlying24 (by kernel_rfl) rfl rfl (by omega)) rfl ?_; (try simp only [Act.put, lyy])
      refine qaa (qby rfl rfl (HC.out _ _ hM.out n hn2)) rfl ?_; (try simp only [Act.put, lyy])
      refine qaa (qay (i := n) rfl Tryz.underlying23 (by kernel_rfl) rfl rfl (by omega)) rfl ?_; (try simp only [Act.put, lyy])
      refine qae (qcl rfl rfl rfl ((hM.out.get (i := 0) rfl).c n _ HG.out) ((hM.out.get (i := 0) rfl).f n)) rfl rfl ?_
      refine qac ?_
      have hM2 := Lib.hid (hM.out.set 0 rfl FL.out (b8 (l.getD n 0)))
      rw [FS.out] at hM2
      generalize wr.setCell ⟨g2, n, none⟩ (b8 (l.getD n 0)) = a8 at *
      clear hM HG FL FS
      go_wp2_with fail
      exact ⟨⟨n + 1, by omega, by go_num, hM2.out⟩, by simp [intOf]; omega⟩
theorem enters_halves : Enters 12 := qao Tryz.func12 (by kernel_rfl) rfl
set_option maxHeartbeats 4000000 in
theorem halves_any (s : List (BitVec 8)) (w : World) (hs : s.length = 64) :
    Calls Tryz.prog 12 #[.agg (s.map b8).toArray] w fun e w' => ∃ v', e = .returned v' ∧ ((∃ v1 v2, v' = .tuple #[v1, v2] ∧ Sl v1 (s.take 32) w' ∧ Sl v2 (s.drop 32) w') ∧ Below w.heap.size w w') := by
  go_enter Tryz.func12, Tryz.ntmps12
  go_upto_region 0 with fail; refine wp_region_lit ?_
  refine qaa (qa9 (vs := s.map b8) rfl rfl) rfl ?_; (try simp only [Act.put, lyy])
  refine qaa (qag (v := .slice _ _ _) rfl rfl) rfl ?_; (try simp only [Act.put, lyy]); refine qaa (qag (v := .slice _ _ _) rfl rfl) rfl ?_; (try simp only [Act.put, lyy])
  refine qac ?_
  have HK := Lib.hid (Arr.new w (s.map b8) 28)
  have bl : Below w.heap.size w (w.alloc (.cells (s.map b8).toArray 28)) := (Below.refl _ _).alloc (Nat.le_refl _) _
  generalize w.alloc (.cells (s.map b8).toArray 28) = r at *
  have hI : Hid (HvR r s 0 (.slice none 0 0) (.slice none 0 0) r) := Lib.hid ⟨Below.refl _ _, World.ownsRow_nil _ _ _ _, World.ownsRow_nil _ _ _ _, Apart.nil _⟩
  go_upto_region 1 with fail; refine wp_region_lit ?_
  refine qaa (qag (v := .slice _ _ _) rfl rfl) rfl ?_; (try simp only [Act.put, lyy])
  refine qac ?_
  go_upto_region 2 with fail; refine wp_region_lit ?_
  refine qaa (qag (v := .slice _ _ _) rfl rfl) rfl ?_; (try simp only [Act.put, lyy])
  refine qac ?_
  go_upto_region 3 with fail; refine wp_region_lit ?_
  refine qaa (qag (v := .int _ _) rfl rfl) rfl ?_; (try simp only [Act.put, lyy])
  refine qac ?_
  go_wp2_with fail
  go_loopw [4, 5, 6] (fun s4 s5 s6 u => ∃ k : Nat, k ≤ 32 ∧ s6 = .int .i64 (k : Int) ∧ HvR r s k s4 s5 u) (fun _ _ s6 _ => (32 - intOf s6).toNat)
  case atStart => exact ⟨0, by omega, rfl, hI.out⟩
  case round =>
    obtain ⟨k, hk, rfl, hJ⟩ := hrel
    replace hI := Lib.hid hJ
    clear hJ
    by_cases hlt : k = 32
    · subst hlt
      have hk1 : ¬ (((32 : Nat) : Int) < 32) := by omega
      go_upto_region 8 with fail; refine wp_region_lit ?_
      refine qaa (qaf (v := u4) rfl rfl) rfl ?_; (try simp only [Act.put, lyy])
      refine qaa (qaf (v := u5) rfl rfl) rfl ?_; (try simp only [Act.put, lyy])
      refine qaa (qag (v := u4) rfl rfl) rfl ?_; (try simp only [Act.put, lyy])
      refine qaa (qag (v := u5) rfl rfl) rfl ?_; (try simp only [Act.put, lyy])
      refine qac ?_
      have h1 := hI.out.O
      have h2 := hI.out.O2
      rw [List.take_of_length_le (l := s.drop 32) (by rw [List.length_drop]; omega)] at h2
      have s1 : Sl u4 (s.take 32) wr := Sl.own (base := r.heap.size) (by rw [List.length_take, hs]; exact h1)
      have s2 : Sl u5 (s.drop 32) wr := Sl.own (base := r.heap.size) (by rw [List.length_drop, hs]; exact h2)
      go_wp2_with fail
      exact bodyPost_ret (results_tmp2 Tryz.results12 _ _ _) rfl ⟨_, rfl, ⟨_, _, rfl, s1, s2⟩, bl.trans (hI.out.bl.mono bl.size)⟩
    · have hk1 : (k : Int) < 32 := by omega
      have hk2 : k < 32 := by omega
      have HX1 := Lib.hid (take_snoc8 s k (by omega))
      have HX2 := Lib.hid (half_snoc (s := s) (n := k) (by omega))
      have ht1 : (s.take k).length = k := by rw [List.length_take]; omega
      have ht2 : ((s.drop 32).take k).length = k := by rw [List.length_take, List.length_drop]; omega
      have HC1 : Hid (∀ V, Below r.heap.size r V → V.cell? ⟨w.heap.size, k, none⟩ = some (b8 (s.getD k 0))) := Lib.hid fun V hV => (HK.out.below hV).c k _ (qa5 b8 0 (by omega))
      have HC2 : Hid (∀ V, Below r.heap.size r V → V.cell? ⟨w.heap.size, 32 + k, none⟩ = some (b8 (s.getD (32 + k) 0))) := Lib.hid fun V hV => (HK.out.below hV).c (32 + k) _ (qa5 b8 0 (by omega))
      generalize s.getD k 0 = x at *
      generalize s.getD (32 + k) 0 = y at *
      have hO1 := Lib.hid hI.out.O
      have hO2 := Lib.hid hI.out.O2
      have hap := hI.out.ap
      have hbl := hI.out.bl
      clear hI
      generalize hP1 : s.take k = P1 at *
      generalize hP2 : (s.drop 32).take k = P2 at *
      clear hP1 hP2
      go_upto_region 6 with fail; refine wp_region_lit ?_
      refine qaa (qaf (v := u4) rfl rfl) rfl ?_; (try simp only [Act.put, lyy])
      refine qaa (qaf (v := .int _ _) rfl rfl) rfl ?_; (try simp only [Act.put, lyy])
      refine qaa (qay (i := k) rfl Tryz.underlying28 (by kernel_rfl) rfl rfl (by omega)) rfl ?_; (try simp only [Act.put, lyy])
      refine qaa (qby rfl rfl (HC1.out _ hbl)) rfl ?_; (try simp only [Act.put, lyy])
      refine qaa (qbu (cells := #[b8 (x)]) (z := .int .u8 0) rfl Tryz.underlying24 (by kernel_rfl) (by omega) (by omega) (by kernel_rfl)) rfl ?_; (try simp only [Act.put, lyy]); have hb2 : Below wr.heap.size wr (wr.alloc (.cells #[b8 (x)] 5)) := (Below.refl _ _).alloc (Nat.le_refl _) _; have A2 : Hid (Arr wr.heap.size ([x].map b8) (wr.alloc (.cells #[b8 (x)] 5))) := Lib.hid (Arr.new wr _ _); generalize wr.alloc (.cells #[b8 (x)] 5) = a2 at *; replace hO1 := Lib.hid (qct hO1.out hb2); replace hO2 := Lib.hid (qct hO2.out hb2); replace hbl := hbl.trans (hb2.mono hbl.size); clear hb2
      refine wpList_app2 (l := P1) (m := [x]) (l2 := P2) rfl rfl rfl hO1.out hO2.out hap rfl A2.out.range (by show k + 1 ≤ _; omega) (by simp) hbl.size (fun q1 a3 h1 h2 h3 h4 => ?_); (try simp only [Act.put, lyy])
      replace hO1 := Lib.hid h1
      replace hO2 := Lib.hid h2
      replace hap := h3
      replace hbl := hbl.trans h4
      clear h1 h2 h3 h4 A2
      refine qaa (qag (v := q1) rfl rfl) rfl ?_; (try simp only [Act.put, lyy])
      refine qac ?_
      go_upto_region 7 with fail; refine wp_region_lit ?_
      refine qaa (qaf (v := u5) rfl rfl) rfl ?_; (try simp only [Act.put, lyy])
      refine qaa (qaf (v := .int _ _) rfl rfl) rfl ?_; (try simp only [Act.put, lyy])
      refine qaa (run_addN (a := 32) (b := k) rfl rfl rfl (by omega)) rfl ?_; (try simp only [Act.put, lyy])
      refine qaa (qay (i := 32 + k) rfl Tryz.underlying28 (by kernel_rfl) rfl rfl (by omega)) rfl ?_; (try simp only [Act.put, lyy])
      refine qaa (qby rfl rfl (HC2.out _ hbl)) rfl ?_; (try simp only [Act.put, lyy])
      refine qaa (qbu (cells := #[b8 (y)]) (z := .int .u8 0) rfl Tryz.underlying24 (by kernel_rfl) (by omega) (by omega) (by kernel_rfl)) rfl ?_; (try simp only [Act.put, lyy]); have hb2 : Below a3.heap.size a3 (a3.alloc (.cells #[b8 (y)] 5)) := (Below.refl _ _).alloc (Nat.le_refl _) _; have A2 : Hid (Arr a3.heap.size ([y].map b8) (a3.alloc (.cells #[b8 (y)] 5))) := Lib.hid (Arr.new a3 _ _); generalize a3.alloc (.cells #[b8 (y)] 5) = a4 at *; replace hO1 := Lib.hid (qct hO1.out hb2); replace hO2 := Lib.hid (qct hO2.out hb2); replace hbl := hbl.trans (hb2.mono hbl.size); clear hb2
      refine wpList_app2 (l := P2) (m := [y]) (l2 := P1 ++ [x]) rfl rfl rfl hO2.out hO1.out hap.symm rfl A2.out.range (by show k + 1 ≤ _; omega) (by simp) hbl.size (fun q2 a5 h1 h2 h3 h4 => ?_); (try simp only [Act.put, lyy])
      have H5 : Hid (HvR r s (k + 1) q1 q2 a5) := Lib.hid ⟨hbl.trans h4, by rw [HX1.out]; exact h2, by rw [HX2.out]; exact h1, h3.symm⟩
      clear h1 h2 h3 h4 hO1 hO2 hap hbl A2 HX1 HX2
      refine qaa (qag (v := q2) rfl rfl) rfl ?_; (try simp only [Act.put, lyy])
      refine qac ?_
      go_wp2_with fail
      go_roundw
      case rel => exact ⟨k + 1, by omega, by go_num, H5.out⟩
      case measure => simp [intOf]; omega
theorem qc8 : Enters 22 := qao Tryz.func22 (by kernel_rfl) rfl
set_option maxHeartbeats 1000000 in
theorem three_any (va : Value) (a : List (BitVec 8)) (vb : Value) (b : List (BitVec 8)) (vc : Value) (c : List (BitVec 8)) (w : World) (ha : Sl va a w) (hb : Sl vb b w) (hc : Sl vc c w) (hn : a.length + b.length + c.length ≤ 16777216) :
    Calls Tryz.prog 22 #[va, vb, vc] w fun e w' => ∃ v', e = .returned v' ∧ (Sl v' (a ++ b ++ c) w' ∧ Below w.heap.size w w') := by
  have HA := Lib.hid ha; clear ha
  have HB := Lib.hid hb; clear hb
  have HC := Lib.hid hc; clear hc
  go_enter Tryz.func22, Tryz.ntmps22
  go_upto_region 1 with fail; refine wp_region_lit ?_
  refine qaa (qag (v := .slice _ _ _) rfl rfl) rfl ?_; (try simp only [Act.put, lyy])
  refine qac ?_
  go_upto_region 2 with fail; refine wp_region_lit ?_
  refine qaa (qaf (v := .slice _ _ _) rfl rfl) rfl ?_; (try simp only [Act.put, lyy])
  refine qaa (qaf (v := va) rfl rfl) rfl ?_; (try simp only [Act.put, lyy])
  refine wpList_appG (l := []) (m := a) rfl rfl rfl (World.ownsRow_nil w w.heap.size _ _) rfl HA.out (by omega) (Nat.le_refl _) (fun v1 u1 h1 bl => ?_); (try simp only [Act.put, lyy])
  refine qaa (qag (v := v1) rfl rfl) rfl ?_; (try simp only [Act.put, lyy])
  refine qac ?_
  have HO := Lib.hid h1; clear h1
  go_upto_region 3 with fail; refine wp_region_lit ?_
  refine qaa (qaf (v := v1) rfl rfl) rfl ?_; (try simp only [Act.put, lyy])
  refine qaa (qaf (v := vb) rfl rfl) rfl ?_; (try simp only [Act.put, lyy])
  refine wpList_appG (l := [] ++ a) (m := b) rfl rfl rfl HO.out rfl (HB.out.below bl) (by omega) bl.size (fun v2 u2 h2 hb2 => ?_); (try simp only [Act.put, lyy])
  refine qaa (qag (v := v2) rfl rfl) rfl ?_; (try simp only [Act.put, lyy])
  refine qac ?_
  replace HO := Lib.hid h2
  replace bl := bl.trans hb2
  clear h2 hb2
  go_upto_region 4 with fail; refine wp_region_lit ?_
  refine qaa (qaf (v := v2) rfl rfl) rfl ?_; (try simp only [Act.put, lyy])
  refine qaa (qaf (v := vc) rfl rfl) rfl ?_; (try simp only [Act.put, lyy])
  refine wpList_appG (l := [] ++ a ++ b) (m := c) rfl rfl rfl HO.out rfl (HC.out.below bl) (by omega) bl.size (fun v3 u3 h2 hb2 => ?_); (try simp only [Act.put, lyy])
  refine qaa (qag (v := v3) rfl rfl) rfl ?_; (try simp only [Act.put, lyy])
  refine qac ?_
  have HS : Hid (Sl v3 (a ++ b ++ c) u3) := Lib.hid (by
    rw [List.nil_append] at h2
    exact Sl.own (base := w.heap.size) (by rw [List.length_append, List.length_append]; rwa [Nat.zero_add] at h2))
  replace bl := bl.trans hb2
  clear h2 hb2 HO HA HB HC
  go_upto_region 5 with fail; refine wp_region_lit ?_
  refine qaa (qaf (v := v3) rfl rfl) rfl ?_; (try simp only [Act.put, lyy])
  refine qaa (qag (v := v3) rfl rfl) rfl ?_; (try simp only [Act.put, lyy])
  refine qac ?_
  go_wp2_with fail
  exact bodyPost_ret (results_tmp Tryz.results22 _ _ _) rfl ⟨_, rfl, HS.out, bl⟩
end Go.Proofs.YtfdjmdfaidiliaaGreatDoor
namespace Go.Proofs.YtfdjmdfaidiliaaGreatDoor
open Go.RowKit Go.Sort
set_option maxRecDepth 20000
structure ROfI (w : World) (l : List Int) (g1 g2 k : Nat) (u : World) : Prop where
  bl : Below w.heap.size w u
  L : Row w.heap.size l u
  R : Var4 g1 0 u
  V : Var4 g2 (le ((mask l).take k)) u
theorem ROfI.put {w u u' : World} {l : List Int} {g1 g2 k : Nat} (h : ROfI w l g1 g2 k u) (hw : w.heap.size < g2) (h12 : g1 ≠ g2) {o : Nat} {v : Value} (hu : u' = u.setCell ⟨g2, o, none⟩ v) (hV : Var4 g2 (le ((mask l).take (k + 1))) (u.setCell ⟨g2, o, none⟩ v)) : ROfI w l g1 g2 (k + 1) u' := by
  subst hu
  exact ⟨h.bl.setCell (p := ⟨g2, o, none⟩) (Nat.le_of_lt hw) _, h.L.far (by omega) _ _, h.R.far (Ne.symm h12) _ _, hV⟩
end Go.Proofs.YtfdjmdfaidiliaaGreatDoor
namespace Go.Proofs.YtfdjmdfaidiliaaGreatDoor
open Go.RowKit Go.Sort
set_option maxRecDepth 20000
theorem bz_wordT0 {Z : Int} {k : Nat} (hq : (k : Int) / 8 = 0) : IntKind.u8.wrap ((w0 Z / 2 ^ (8 * (k % 8))).tmod 256) = bz Z k := by
  have h : 0 ≤ w0 Z / 2 ^ (8 * (k % 8)) := Int.ediv_nonneg (qa0 Z).1 (Int.pow_nonneg (by omega))
  rw [← bz_word0 hq, Int.tmod_eq_emod_of_nonneg h, Nat.mul_comm (k % 8) 8, IntKind.wrap_u8', IntKind.wrap_u8', Int.emod_emod]
theorem bz_wordT1 {Z : Int} {k : Nat} (hq : (k : Int) / 8 = 1) : IntKind.u8.wrap ((w1 Z / 2 ^ (8 * (k % 8))).tmod 256) = bz Z k := by
  have h : 0 ≤ w1 Z / 2 ^ (8 * (k % 8)) := Int.ediv_nonneg (qa3 Z).1 (Int.pow_nonneg (by omega))
  rw [← bz_word1 hq, Int.tmod_eq_emod_of_nonneg h, Nat.mul_comm (k % 8) 8, IntKind.wrap_u8', IntKind.wrap_u8', Int.emod_emod]
theorem bz_wordT2 {Z : Int} {k : Nat} (hq : (k : Int) / 8 = 2) : IntKind.u8.wrap ((w2 Z / 2 ^ (8 * (k % 8))).tmod 256) = bz Z k := by
  have h : 0 ≤ w2 Z / 2 ^ (8 * (k % 8)) := Int.ediv_nonneg (qa2 Z).1 (Int.pow_nonneg (by omega))
  rw [← bz_word2 hq, Int.tmod_eq_emod_of_nonneg h, Nat.mul_comm (k % 8) 8, IntKind.wrap_u8', IntKind.wrap_u8', Int.emod_emod]
theorem bz_wordT3 {Z : Int} {k : Nat} (hq : (k : Int) / 8 = 3) : IntKind.u8.wrap ((w3 Z / 2 ^ (8 * (k % 8))).tmod 256) = bz Z k := by
  have h : 0 ≤ w3 Z / 2 ^ (8 * (k % 8)) := Int.ediv_nonneg (qa1 Z).1 (Int.pow_nonneg (by omega))
  rw [← bz_word3 hq, Int.tmod_eq_emod_of_nonneg h, Nat.mul_comm (k % 8) 8, IntKind.wrap_u8', IntKind.wrap_u8', Int.emod_emod]
structure RByI (w : World) (Z : Int) (g1 g2 g3 k : Nat) (u : World) : Prop where
  bl : Below w.heap.size w u
  X : Var4 g2 Z u
  R : Row g1 (List.replicate 32 0) u
  V : Row g3 (bzTo Z k) u
set_option maxHeartbeats 1000000 in
theorem refbytes_any (X : Int) (w : World) (hX : Num X) :
    Calls Tryz.prog 63 #[feV X] w fun e w' => e = .returned (kV (bzAll (X % pp))) ∧ Below w.heap.size w w' := by
  have b1 : Below w.heap.size w (w.alloc (.cells #[.int .u64 (w0 X), .int .u64 (w1 X), .int .u64 (w2 X), .int .u64 (w3 X)] 47)) := (Below.refl _ _).alloc (Nat.le_refl _) _
  have hV := Var4.new w X
  go_enter Tryz.func63, Tryz.ntmps63
  go_upto_region 1 with fail
  have hs : w.heap.size + 1 = (w.alloc (.cells #[.int .u64 (w0 X), .int .u64 (w1 X), .int .u64 (w2 X), .int .u64 (w3 X)] 47)).heap.size := by simp
  rw [hs]
  have l0 := hV.lt
  generalize w.alloc (.cells #[.int .u64 (w0 X), .int .u64 (w1 X), .int .u64 (w2 X), .int .u64 (w3 X)] 47) = u0 at *
  clear hs
  have hR := Row.zero u0
  have b2 : Below u0.heap.size u0 (u0.alloc (.cells #[.int .u8 0, .int .u8 0, .int .u8 0, .int .u8 0, .int .u8 0, .int .u8 0, .int .u8 0, .int .u8 0, .int .u8 0, .int .u8 0, .int .u8 0, .int .u8 0, .int .u8 0, .int .u8 0, .int .u8 0, .int .u8 0, .int .u8 0, .int .u8 0, .int .u8 0, .int .u8 0, .int .u8 0, .int .u8 0, .int .u8 0, .int .u8 0, .int .u8 0, .int .u8 0, .int .u8 0, .int .u8 0, .int .u8 0, .int .u8 0, .int .u8 0, .int .u8 0] 23)) := (Below.refl _ _).alloc (Nat.le_refl _) _
  replace hV := hV.below b2
  replace b1 := b1.trans (b2.mono b1.size)
  generalize u0.alloc (.cells #[.int .u8 0, .int .u8 0, .int .u8 0, .int .u8 0, .int .u8 0, .int .u8 0, .int .u8 0, .int .u8 0, .int .u8 0, .int .u8 0, .int .u8 0, .int .u8 0, .int .u8 0, .int .u8 0, .int .u8 0, .int .u8 0, .int .u8 0, .int .u8 0, .int .u8 0, .int .u8 0, .int .u8 0, .int .u8 0, .int .u8 0, .int .u8 0, .int .u8 0, .int .u8 0, .int .u8 0, .int .u8 0, .int .u8 0, .int .u8 0, .int .u8 0, .int .u8 0] 23) = u1 at *
  generalize u0.heap.size = g1 at *
  clear b2 u0
  obtain ⟨vl, v0, v1, v2, v3, vf0, vf1, vf2, vf3⟩ := id hV
  go_wp2_with fail
  refine (refcanon_any X _ hX).mono ?_
  rintro e u2 ⟨rfl, hb⟩
  replace hR := hR.below hb
  replace b1 := b1.trans (hb.mono b1.size)
  clear vl v0 v1 v2 v3 vf0 vf1 vf2 vf3
  clear hb hV
  generalize hZ : X % pp = Z at *
  have HZ := Lib.hid hZ; clear hZ
  go_upto_region 2 with fail
  have hV := Var4.new u2 Z
  have b2 : Below u2.heap.size u2 (u2.alloc (.cells #[.int .u64 (w0 Z), .int .u64 (w1 Z), .int .u64 (w2 Z), .int .u64 (w3 Z)] 47)) := (Below.refl _ _).alloc (Nat.le_refl _) _
  have l1 := hR.lt
  replace hR := hR.below b2
  replace b1 := b1.trans (b2.mono b1.size)
  generalize u2.alloc (.cells #[.int .u64 (w0 Z), .int .u64 (w1 Z), .int .u64 (w2 Z), .int .u64 (w3 Z)] 47) = u3 at *
  generalize u2.heap.size = g2 at *
  clear b2 u2
  have l2 := hV.lt
  have hB := Row.zero u3
  have b2 : Below u3.heap.size u3 (u3.alloc (.cells #[.int .u8 0, .int .u8 0, .int .u8 0, .int .u8 0, .int .u8 0, .int .u8 0, .int .u8 0, .int .u8 0, .int .u8 0, .int .u8 0, .int .u8 0, .int .u8 0, .int .u8 0, .int .u8 0, .int .u8 0, .int .u8 0, .int .u8 0, .int .u8 0, .int .u8 0, .int .u8 0, .int .u8 0, .int .u8 0, .int .u8 0, .int .u8 0, .int .u8 0, .int .u8 0, .int .u8 0, .int .u8 0, .int .u8 0, .int .u8 0, .int .u8 0, .int .u8 0] 23)) := (Below.refl _ _).alloc (Nat.le_refl _) _
  have HB := Lib.hid hB; clear hB
  go_upto_region 3 with (refine wpList_store_mid rfl 23 (.tmp 4) (.tmp 8) rfl u3.heap.size 0 ((List.replicate 32 0).map (Value.int .u8)).toArray rfl rfl (by simpa using HB.out.thereAt) (by simpa using kV_size (l := List.replicate 32 0) rfl) (kV_one _) ?_)
  replace HB := Lib.hid (HB.out.storeAll (l' := List.replicate 32 0) rfl)
  replace b2 := Below.setCells (Nat.le_refl u3.heap.size) ((List.replicate 32 0).map (Value.int .u8)) 0 b2
  replace hR := hR.below b2
  replace hV := hV.below b2
  replace b1 := b1.trans (b2.mono b1.size)
  generalize (u3.alloc (.cells #[.int .u8 0, .int .u8 0, .int .u8 0, .int .u8 0, .int .u8 0, .int .u8 0, .int .u8 0, .int .u8 0, .int .u8 0, .int .u8 0, .int .u8 0, .int .u8 0, .int .u8 0, .int .u8 0, .int .u8 0, .int .u8 0, .int .u8 0, .int .u8 0, .int .u8 0, .int .u8 0, .int .u8 0, .int .u8 0, .int .u8 0, .int .u8 0, .int .u8 0, .int .u8 0, .int .u8 0, .int .u8 0, .int .u8 0, .int .u8 0, .int .u8 0, .int .u8 0] 23)).setCells u3.heap.size 0 ((List.replicate 32 0).map (Value.int .u8)) = u2 at *
  generalize u3.heap.size = g3 at *
  clear b2 u3
  have hB := HB.out
  rw [← bzTo_zero Z] at hB
  clear HB
  go_wp2_with fail
  go_loopw [5] (fun s u => ∃ k : Nat, k ≤ 32 ∧ s = .int .i64 (k : Int) ∧ RByI w Z g1 g2 g3 k u) (fun s _ => (32 - intOf s).toNat)
  case atStart => exact ⟨0, by omega, rfl, b1, hV, hR, hB⟩
  case round =>
    obtain ⟨k, hk, rfl, hI⟩ := hrel
    clear b1 hV hR hB
    obtain ⟨b1, hV, hR, hB⟩ := id hI
    obtain ⟨vl, v0, v1, v2, v3, vf0, vf1, vf2, vf3⟩ := id hV
    by_cases hlt : k = 32
    · subst hlt
      rw [bzTo_all] at hB
      have hk1 : ¬ (((32 : Nat) : Int) < 32) := by omega
      have HB := Lib.hid hB; clear hB
      have HR := Lib.hid hR; clear hR
      go_wp2_with (first | refine wpList_load_mid rfl 23 (.tmp 4) rfl g3 0 rfl ((bzAll Z).map (Value.int .u8)) (.array 32 5) HB.out.range Tryz.underlying23 rfl (kV_size (qc4 Z)) ?_ | refine wpList_store_mid rfl 23 (.tmp 2) _ rfl g1 0 ((bzAll Z).map (Value.int .u8)).toArray rfl rfl (by simpa [qc4] using HR.out.thereAt) (by simpa using kV_size (qc4 Z)) (kV_one _) ?_)
      have hT := World.rangeAt_setCells_same wr g1 0 ((bzAll Z).map (Value.int .u8)) (by simpa [qc4] using HR.out.thereAt)
      refine bodyPost_ret (v := kV (bzAll Z)) ?_ rfl ⟨by rw [HZ.out], ?_⟩
      · exact results_key Tryz.results63 rfl (qc4 Z) hT
      · exact Below.setCells (by omega) _ _ b1
    · have hk1 : (k : Int) < 32 := by omega
      have hk0 : (0 : Int) ≤ (k : Int) := by omega
      have hk2 : k < 32 := by omega
      have hk3 : k < (bzTo Z k).length := by rw [bzTo_len]; omega
      have hc := hB.c k hk3
      have hf := hB.f k
      have HB := Lib.hid (hB.set hk3 (bz Z k)); clear hB
      have HR := Lib.hid hR; clear hR
      rcases (show (k : Int) / 8 = 0 ∨ (k : Int) / 8 = 1 ∨ (k : Int) / 8 = 2 ∨ (k : Int) / 8 = 3 by omega) with hq | hq | hq | hq
      · have hw := bz_wordT0 (Z := Z) hq
        go_wp2_with fail
        exact ⟨⟨k + 1, by omega, by go_num, b1.setCell (p := ⟨g3, k, none⟩) (show w.heap.size ≤ g3 by omega) _, hV.far (by omega) _ _, HR.out.far (by omega) _ _, by rw [← bzTo_succ]; exact HB.out⟩, by simp [intOf]; omega⟩
      · have hw := bz_wordT1 (Z := Z) hq
        go_wp2_with fail
        exact ⟨⟨k + 1, by omega, by go_num, b1.setCell (p := ⟨g3, k, none⟩) (show w.heap.size ≤ g3 by omega) _, hV.far (by omega) _ _, HR.out.far (by omega) _ _, by rw [← bzTo_succ]; exact HB.out⟩, by simp [intOf]; omega⟩
      · have hw := bz_wordT2 (Z := Z) hq
        go_wp2_with fail
        exact ⟨⟨k + 1, by omega, by go_num, b1.setCell (p := ⟨g3, k, none⟩) (show w.heap.size ≤ g3 by omega) _, hV.far (by omega) _ _, HR.out.far (by omega) _ _, by rw [← bzTo_succ]; exact HB.out⟩, by simp [intOf]; omega⟩
      · have hw := bz_wordT3 (Z := Z) hq
        go_wp2_with fail
        exact ⟨⟨k + 1, by omega, by go_num, b1.setCell (p := ⟨g3, k, none⟩) (show w.heap.size ≤ g3 by omega) _, hV.far (by omega) _ _, HR.out.far (by omega) _ _, by rw [← bzTo_succ]; exact HB.out⟩, by simp [intOf]; omega⟩
end Go.Proofs.YtfdjmdfaidiliaaGreatDoor
namespace Go.Proofs.YtfdjmdfaidiliaaGreatDoor
open Go.RowKit
set_option maxRecDepth 20000
theorem add_top : ∀ b : BitVec 8, b.toNat < 128 → ∀ c, c < 2 → (b + BitVec.ofNat 8 (c * 128)).toNat = b.toNat + 128 * c := by
  intro b hb c hc
  rw [BitVec.toNat_add, BitVec.toNat_ofNat]
  omega
def encA (n c : Nat) : List (BitVec 8) := (sk n).set 31 ((sk n).getD 31 0 + BitVec.ofNat 8 (c * 128))
theorem encA_sk {n : Nat} (h : n < 2 ^ 255) {c : Nat} (hc : c < 2) : encA n c = sk (n + 2 ^ 255 * c) := by
  have h1 := leB_set (l := sk n) (i := 31) (by rw [qcz]; omega) ((sk n).getD 31 0 + BitVec.ofNat 8 (c * 128))
  rw [add_top _ (top_lt h) c hc, leB_sk] at h1
  have h2 : (2 : Nat) ^ 255 = 256 ^ 31 * 128 := by decide +kernel
  have h3 : (2 : Nat) ^ 255 + 2 ^ 255 ≤ 256 ^ 32 := by decide +kernel
  have h4 : 2 ^ 255 * c ≤ 2 ^ 255 * 1 := Nat.mul_le_mul_left _ (by omega)
  refine leB_inj (by unfold encA; rw [List.length_set, qcz, qcz]) ?_
  rw [leB_sk, Nat.mod_eq_of_lt (by omega)]
  unfold encA
  rw [Nat.mod_eq_of_lt (by omega), Nat.mul_add] at h1
  rw [h2, Nat.mul_assoc]
  omega
theorem encA_enc (p : Pt) : encA (p.y % pp).toNat (p.x % pp % 2).toNat = sk (encN p) := by
  rw [encA_sk (y_top p.y) (bit_lt p.x)]
  rfl
theorem rbytesB_any (X : Int) (w : World) (hX : Num X) : Calls Tryz.prog 63 #[feV X] w fun e w' => e = .returned (.agg ((sk (X % pp).toNat).map b8).toArray) ∧ Below w.heap.size w w' := by
  have h := refbytes_any X w hX
  rw [← nat_mod, bzAll_sk, kV_toI] at h
  exact h
theorem enters_rbytes : Enters 63 := qao Tryz.func63 (by kernel_rfl) rfl
section
variable {w : World} {ρ : Operand → Value} {o : Oper} {t t' : TypeId} {x y : Operand}
theorem run_mulU {a b : Int} (ho : o.op = .binOp .mul t x y t') (hx : ρ x = .int .u64 a) (hy : ρ y = .int .u64 b) (h0 : 0 ≤ a * b) (h1 : a * b < 18446744073709551616) : (execOp ρ o).run Tryz.prog w = .ok (.value (.int .u64 (a * b))) w := by
  obtain ⟨dst, op, type, pos, after, guard⟩ := o
  subst ho
  have e : IntKind.u64.wrap (a * b) = a * b := by rw [wrap64]; omega
  go_simp
theorem run_cvbit2 {Z : Int} (ho : o.op = .convert 45 5 x) (hx : ρ x = .int .u64 (Z % 2 * 128)) : (execOp ρ o).run Tryz.prog w = .ok (.value (b8 (BitVec.ofNat 8 ((Z % 2).toNat * 128)))) w := by
  rw [run_cv ho Tryz.underlying45 Tryz.underlying5 hx]
  have e : IntKind.u8.wrap (Z % 2 * 128) = ((BitVec.ofNat 8 ((Z % 2).toNat * 128)).toNat : Int) := by rw [wrap8, BitVec.toNat_ofNat]; omega
  rw [e]; rfl
end
set_option maxHeartbeats 8000000 in
theorem eencode_any (p : Pt) (w : World) (hp : p.Nm) : Calls Tryz.prog 35 #[.agg (ptL p).toArray] w fun e w' => e = .returned (.agg ((sk (encN p)).map b8).toArray) ∧ Below w.heap.size w w' := by
  have hM := Lib.hid (Mv.nil w)
  have HE := Lib.hid (encA_enc p)
  have CB : Hid (∀ u, Calls Tryz.prog 63 #[feV p.y] u fun e w' => e = .returned (.agg ((sk (p.y % pp).toNat).map b8).toArray) ∧ Below u.heap.size u w') := Lib.hid fun u => rbytesB_any p.y u hp.2
  have HS : Hid (encA (p.y % pp).toNat (p.x % pp % 2).toNat = (sk (p.y % pp).toNat).set 31 ((sk (p.y % pp).toNat).getD 31 0 + BitVec.ofNat 8 ((p.x % pp % 2).toNat * 128))) := Lib.hid rfl
  rw [HE.out] at HS
  have hyl := qcz (p.y % pp).toNat
  have hel := qcz (encN p)
  clear HE
  generalize sk (p.y % pp).toNat = yl at *
  generalize sk (encN p) = el at *
  have hZw := qa0 (p.x % pp)
  have hZ2 : w0 (p.x % pp) % 2 = p.x % pp % 2 := by unfold w0; omega
  generalize hZ : p.x % pp = Z at *
  have CX : Hid (∀ u, Calls Tryz.prog 64 #[feV p.x] u fun e w' => e = .returned (feV Z) ∧ Below u.heap.size u w') := Lib.hid fun u => by rw [← hZ]; exact refcanon_any p.x u hp.1
  clear hZ
  have SY := Lib.hid (szKyB hyl)
  have SE := Lib.hid (szKyB hel)
  have LY : Hid ((yl.map b8).length = (z8 32).length) := Lib.hid (by rw [z8_k32, List.length_map, hyl])
  have LE : Hid ((el.map b8).length = (z8 32).length) := Lib.hid (by rw [z8_k32, List.length_map, hel])
  go_enter Tryz.func35, Tryz.ntmps35
  go_upto_region 0 with fail; refine wp_region_lit ?_
  refine qaa (qbf (vs := ptL p) rfl rfl) rfl ?_; (try simp only [Act.put, lyy]); replace hM := Lib.hid (hM.out.new (ptL p) 49); generalize w.alloc (.cells (ptL p).toArray 49) = a1 at *; generalize w.heap.size = g1 at *
  refine qaa (qar (vs := z8 32) rfl (by kernel_rfl)) rfl ?_; (try simp only [Act.put, lyy])
  replace hM := Lib.hid (hM.out.new (z8 32) 23)
  generalize a1.alloc (.cells (z8 32).toArray 23) = a2 at *
  generalize a1.heap.size = g2 at *
  refine qac ?_
  go_upto_region 1 with fail; refine wp_region_lit ?_
  refine qaa (qbh (s := 3) (k := 4) rfl Tryz.underlying49 rfl (by kernel_rfl) rfl rfl) rfl ?_; (try simp only [Act.put, lyy])
  refine qaa (qah (vs := feL p.y) rfl Tryz.underlying47 rfl (szFe _) rfl (pt_y (hM.out.get (i := 1) rfl))) rfl ?_; (try simp only [Act.put, lyy])
  refine qai (qaj enters_rbytes rfl rfl rfl) rfl (CB.out _) (fun a3 hb => ?_); (try simp only [Act.put, lyy]); replace hM := Lib.hid (hM.out.below hb); clear hb
  refine qaa (qar (vs := z8 32) rfl (by kernel_rfl)) rfl ?_; (try simp only [Act.put, lyy])
  replace hM := Lib.hid (hM.out.new (z8 32) 23)
  generalize a3.alloc (.cells (z8 32).toArray 23) = a4 at *
  generalize a3.heap.size = g3 at *
  refine qae (qaq (vs := yl.map b8) rfl SY.out rfl rfl (one8B _) (by rw [LY.out]; exact (hM.out.get (i := 0) rfl).there)) rfl rfl ?_
  replace hM := Lib.hid (hM.out.put 0 rfl (m := yl.map b8) LY.out)
  generalize a4.setCells g3 0 (yl.map b8) = a5 at *
  refine qac ?_
  have HC : Hid ((yl.map b8)[31]? = some (b8 (yl.getD 31 0))) := Lib.hid (qa5 b8 0 (by omega))
  generalize yl.getD 31 0 = y31 at *
  go_upto_region 2 with fail; refine qau 11 (by kernel_rfl) (by kernel_rfl) ?_
  refine qab _ (fun V hV => qad (qay (i := 31) rfl Tryz.underlying23 (by kernel_rfl) rfl rfl (by omega))) ?_; (try simp only [Act.put, lyy])
  refine qab _ (fun V hV => qad (qby rfl rfl (((hM.out.below hV).get (i := 0) rfl).c 31 _ HC.out))) ?_; (try simp only [Act.put, lyy])
  refine qab _ (fun V hV => qad (qbh (s := 3) (k := 0) rfl Tryz.underlying49 rfl (by kernel_rfl) rfl rfl)) ?_; (try simp only [Act.put, lyy])
  refine qab _ (fun V hV => qad (qah (vs := feL p.x) rfl Tryz.underlying47 rfl (szFe _) rfl (pt_x ((hM.out.below hV).get (i := 2) rfl)))) ?_; (try simp only [Act.put, lyy])
  refine qab _ (fun V hV => qak (qaj enters_rcanonF rfl rfl rfl) (CX.out V)) ?_; (try simp only [Act.put, lyy])
  refine qab _ (fun V hV => qad (run_ixv (i := 0) (vs := feL Z) (v := .int .u64 (w0 Z)) rfl Tryz.underlying47 (by kernel_rfl) (isAgg_u64 V) rfl rfl (by omega) rfl)) ?_; (try simp only [Act.put, lyy])
  refine qab _ (fun V hV => qad (run_remU (b := 2) rfl rfl rfl hZw.1 (by omega))) ?_; (try simp only [Act.put, lyy])
  rw [hZ2]
  refine qab _ (fun V hV => qad (run_mulU (b := 128) rfl rfl rfl (by omega) (by omega))) ?_; (try simp only [Act.put, lyy])
  refine qab _ (fun V hV => qad (run_cvbit2 rfl rfl)) ?_; (try simp only [Act.put, lyy])
  refine qab _ (fun V hV => qad (run_add8 rfl rfl rfl)) ?_; (try simp only [Act.put, lyy])
  refine qab _ (fun V hV => qad (qay (i := 31) rfl Tryz.underlying23 (by kernel_rfl) rfl rfl (by omega))) ?_; (try simp only [Act.put, lyy])
  refine qav ?_; intro a6 hb; simp only [List.drop_succ_cons, List.drop_zero]
  replace hM := Lib.hid (hM.out.below hb)
  clear hb
  refine qae (qcl rfl rfl rfl ((hM.out.get (i := 0) rfl).c 31 _ HC.out) ((hM.out.get (i := 0) rfl).f 31)) rfl rfl ?_
  refine qac ?_
  have hM2 : Hid (Mv w [(g3, el.map b8), (g2, z8 32), (g1, ptL p)] (a6.setCell ⟨g3, 31, none⟩ (b8 (y31 + BitVec.ofNat 8 ((Z % 2).toNat * 128))))) := Lib.hid (by
    have h := hM.out.set 0 rfl (j := 31) (by rw [List.length_map]; omega) (b8 (y31 + BitVec.ofNat 8 ((Z % 2).toNat * 128)))
    rw [qbw, ← HS.out] at h
    exact h)
  generalize a6.setCell ⟨g3, 31, none⟩ (b8 (y31 + BitVec.ofNat 8 ((Z % 2).toNat * 128))) = a7 at *
  replace hM := hM2
  clear hM2 HC HS hZ2
  go_upto_region 3 with fail; refine wp_region_lit ?_
  refine qaa (qah (vs := el.map b8) rfl Tryz.underlying23 rfl SE.out rfl (hM.out.get (i := 0) rfl).range) rfl ?_; (try simp only [Act.put, lyy])
  refine qae (qaq (vs := el.map b8) rfl SE.out rfl rfl (one8B _) (by rw [LE.out]; exact (hM.out.get (i := 1) rfl).there)) rfl rfl ?_
  replace hM := Lib.hid (hM.out.put 1 rfl (m := el.map b8) LE.out)
  refine qac ?_; go_wp2_with fail; refine bodyPost_ret (v := .agg (el.map b8).toArray) (qat Tryz.results35 rfl Tryz.underlying23 rfl SE.out (hM.out.get (i := 1) rfl).range) rfl ⟨rfl, hM.out.bl⟩
theorem enters_eencode : Enters 35 := qao Tryz.func35 (by kernel_rfl) rfl
end Go.Proofs.YtfdjmdfaidiliaaGreatDoor
namespace Go.Proofs.YtfdjmdfaidiliaaGreatDoor
open Go.RowKit
set_option maxRecDepth 20000
section
variable {w : World} {ρ : Operand → Value} {o : Oper} {t t' : TypeId} {x y : Operand}
theorem run_rem8b {a : BitVec 8} {c : Nat} (ho : o.op = .binOp .rem t x y t') (hx : ρ x = b8 a) (hy : ρ y = .int .u8 2) (hc : a.toNat % 2 = c) : (execOp ρ o).run Tryz.prog w = .ok (.value (.int .u8 (c : Int))) w := by
  obtain ⟨dst, op, type, pos, after, guard⟩ := o
  subst ho
  unfold b8 at hx
  have e : ((a.toNat : Int)).tmod 2 = (c : Int) := by rw [Int.tmod_eq_emod_of_nonneg (by omega)]; omega
  go_simp
  try exact e
end
theorem bit_leB {l : List (BitVec 8)} (hl : l.length = 32) {i : Nat} (hi : i < 256) : (l.getD (i / 8) 0 >>> (i % 8)).toNat % 2 = leB l / 2 ^ i % 2 := by
  have h := dv_bit (l.map (·.toNat)) (dg_bytes l) i
  have e : (l.map (·.toNat)).getD (i / 8) 0 = (l.getD (i / 8) 0).toNat := by
    rw [List.getD_eq_getElem?_getD, List.getD_eq_getElem?_getD, List.getElem?_map, List.getElem?_eq_getElem (by omega)]; rfl
  rw [e, ← leB_dv] at h
  rw [BitVec.toNat_ushiftRight, Nat.shiftRight_eq_div_pow, h]
theorem half_num (n j : Nat) : n / 2 ^ j = n / 2 ^ (j + 1) + n / 2 ^ (j + 1) + n / 2 ^ j % 2 := by
  rw [Nat.pow_succ, ← Nat.div_div_eq_div_mul]; omega
theorem mul_endT {p : Pt} (h : onB p = true) {n : Nat} {W : Tr} (hW : W.Rep (pmul p.can n)) : tto W = mulP n p := by
  unfold mulP
  rw [h, if_pos rfl]
  exact tto_eq hW (qdi _ _)
theorem none_rep3 : (tof nonePt).Rep nonePt := by have := tof_rep nonePt; rwa [can_id none_ok] at this
set_option maxHeartbeats 16000000 in
theorem emulP_any (l : List (BitVec 8)) (p : Pt) (w : World) (hl : l.length = 32) (hp : p.Nm) : Calls Tryz.prog 36 #[.agg (l.map b8).toArray, .agg (ptL p).toArray] w fun e w' => e = .returned (.agg (ptL (mulP (leB l) p)).toArray) ∧ Below w.heap.size w w' := by
  have hM := Lib.hid (Mv.nil w)
  have H1 : Hid (onB p = false → mulP (leB l) p = nonePt) := Lib.hid fun h => by unfold mulP; rw [h]; rfl
  have H2 : Hid (onB p = true → ∀ W : Tr, W.Rep (pmul p.can (leB l)) → tto W = mulP (leB l) p) := Lib.hid fun h W hW => mul_endT h hW
  have BL : Hid (∀ i, i < 256 → (l.getD (i / 8) 0 >>> (i % 8)).toNat % 2 = leB l / 2 ^ i % 2) := Lib.hid fun i hi => bit_leB hl hi
  have TP : Hid (leB l / 2 ^ 256 = 0) := Lib.hid (Nat.div_eq_of_lt (by
    have := leB_lt l
    rw [hl, show (256 : Nat) ^ 32 = 2 ^ 256 by decide +kernel] at this
    exact this))
  have HH : Hid (∀ j, leB l / 2 ^ j = leB l / 2 ^ (j + 1) + leB l / 2 ^ (j + 1) + leB l / 2 ^ j % 2) := Lib.hid (half_num (leB l))
  obtain ⟨nj, hnj⟩ : ∃ nj : Nat → Nat, nj = fun j => leB l / 2 ^ j := ⟨_, rfl⟩
  have B2 : Hid (∀ i, i < 256 → (l.getD (i / 8) 0 >>> (i % 8)).toNat % 2 = nj i % 2) := Lib.hid (by rw [hnj]; exact BL.out)
  have N0 : Hid (nj 256 = 0) := Lib.hid (by rw [hnj]; exact TP.out)
  have NE : Hid (nj 0 = leB l) := Lib.hid (by rw [hnj]; show leB l / 2 ^ 0 = leB l; rw [Nat.pow_zero, Nat.div_one])
  have NH : Hid (∀ j, nj j = nj (j + 1) + nj (j + 1) + nj j % 2) := Lib.hid (by rw [hnj]; exact HH.out)
  clear hnj BL TP HH
  generalize mulP (leB l) p = R at *
  obtain ⟨b1, hb1⟩ : ∃ b, b = onB p := ⟨_, rfl⟩
  have C1 : Hid (∀ u, Calls Tryz.prog 65 #[.agg (ptL p).toArray] u fun e w' => e = .returned (.bool b1) ∧ Below u.heap.size u w') := Lib.hid fun u => by rw [hb1]; exact eon_any p u hp
  have HO : Hid (b1 = true → p.can.On) := Lib.hid fun h => can_on ((onB_iff p).1 (by rw [← hb1, h]))
  rw [← hb1] at H1 H2
  clear hb1
  go_enter Tryz.func36, Tryz.ntmps36
  go_upto_region 0 with fail; refine wp_region_lit ?_
  refine qaa (qbf (vs := l.map b8) rfl rfl) rfl ?_; (try simp only [Act.put, lyy]); replace hM := Lib.hid (hM.out.new (l.map b8) 23); generalize w.alloc (.cells (l.map b8).toArray 23) = a1 at *; generalize w.heap.size = g1 at *
  refine qaa (qbf (vs := ptL p) rfl rfl) rfl ?_; (try simp only [Act.put, lyy]); replace hM := Lib.hid (hM.out.new (ptL p) 49); generalize a1.alloc (.cells (ptL p).toArray 49) = a2 at *; generalize a1.heap.size = g2 at *
  refine qaa (qar (vs := zq 8) rfl (by kernel_rfl)) rfl ?_; (try simp only [Act.put, lyy]); replace hM := Lib.hid (hM.out.new (zq 8) 49); generalize a2.alloc (.cells (zq 8).toArray 49) = a3 at *; generalize a2.heap.size = g3 at *
  refine qac ?_
  go_upto_region 1 with fail; refine wp_region_lit ?_
  refine qaa (qah (vs := ptL p) rfl Tryz.underlying49 rfl (szPt _) rfl ((hM.out.get (i := 1) rfl).range)) rfl ?_; (try simp only [Act.put, lyy])
  refine qai (qaj enters_eon rfl rfl rfl) rfl (C1.out _) (fun a4 hb => ?_); (try simp only [Act.put, lyy]); replace hM := Lib.hid (hM.out.below hb); clear hb
  cases b1
  · have e := H1.out rfl
    subst e
    refine qaa (qcd rfl rfl) rfl ?_; (try simp only [Act.put, lyy])
    refine qac ?_
    go_upto_region 2 with fail; refine wp_region_lit ?_
    refine qai (qbz enters_enone rfl rfl) rfl (enone_any _) (fun a5 hb => ?_); (try simp only [Act.put, lyy]); replace hM := Lib.hid (hM.out.below hb); clear hb
    refine qae (qaq (vs := ptL nonePt) rfl (szPt _) rfl rfl (onePt _) ((hM.out.get (i := 0) rfl).there)) rfl rfl ?_; replace hM := Lib.hid (hM.out.put 0 rfl (m := ptL nonePt) rfl); generalize a5.setCells g3 0 (ptL nonePt) = a6 at *
    refine qac ?_; go_wp2_with fail; refine bodyPost_ret (v := .agg (ptL nonePt).toArray) (qat Tryz.results36 rfl Tryz.underlying49 rfl (szPt _) (hM.out.get (i := 0) rfl).range) rfl ⟨rfl, hM.out.bl⟩
  · refine qaa (qcd rfl rfl) rfl ?_; (try simp only [Act.put, lyy])
    refine qac ?_
    have hO := HO.out rfl
    replace H2 := Lib.hid (H2.out rfl)
    have TR := Lib.hid (tof_rep p)
    have TN := tof_nm p
    have CO : Hid (∀ u, Calls Tryz.prog 67 #[.agg (ptL p).toArray] u fun e w' => e = .returned (.agg (trL (tof p)).toArray) ∧ Below u.heap.size u w') := Lib.hid fun u => eof_any p u hp
    have Z0 := Lib.hid none_rep3
    have ZN := tof_nm nonePt
    have CZ : Hid (∀ u, Calls Tryz.prog 67 #[.agg (ptL nonePt).toArray] u fun e w' => e = .returned (.agg (trL (tof nonePt)).toArray) ∧ Below u.heap.size u w') := Lib.hid fun u => eof_any nonePt u none_nm
    obtain ⟨P, hP⟩ : ∃ P : Nat → Pt, P = fun i => pmul p.can i := ⟨_, rfl⟩
    have PO : Hid (∀ i, (P i).On) := Lib.hid (by rw [hP]; exact qdh hO)
    have PA : Hid (∀ m n, padd (P m) (P n) = P (m + n)) := Lib.hid (by rw [hP]; exact fun m n => (pmul_add hO m n).symm)
    have P1 : Hid (∀ n, padd (P n) p.can = P (n + 1)) := Lib.hid (by rw [hP]; exact fun n => rfl)
    have PZ : Hid ((tof nonePt).Rep (P 0)) := Lib.hid (by rw [hP]; exact Z0.out)
    have HE : Hid (∀ W : Tr, W.Rep (P (leB l)) → tto W = R) := Lib.hid (by rw [hP]; exact H2.out)
    have PC : Hid p.can.On := Lib.hid hO
    clear hP H2 H1 HO C1 Z0 hO
    generalize tof p = Q at *
    generalize tof nonePt = Z at *
    go_upto_region 3 with fail; refine wp_region_lit ?_
    refine qai (qbz enters_enone rfl rfl) rfl (enone_any _) (fun a5 hb => ?_); (try simp only [Act.put, lyy]); replace hM := Lib.hid (hM.out.below hb); clear hb
    refine qai (qaj enters_eof rfl rfl rfl) rfl (CZ.out _) (fun a6 hb => ?_); (try simp only [Act.put, lyy]); replace hM := Lib.hid (hM.out.below hb); clear hb
    refine qaa (qar (vs := zq 12) rfl (by kernel_rfl)) rfl ?_; (try simp only [Act.put, lyy]); replace hM := Lib.hid (hM.out.new (zq 12) 94); generalize a6.alloc (.cells (zq 12).toArray 94) = a7 at *; generalize a6.heap.size = g4 at *
    refine qae (qaq (vs := trL Z) rfl (szTr _) rfl rfl (oneTr _) ((hM.out.get (i := 0) rfl).there)) rfl rfl ?_; replace hM := Lib.hid (hM.out.put 0 rfl (m := trL Z) rfl); generalize a7.setCells g4 0 (trL Z) = a8 at *
    refine qac ?_
    go_upto_region 4 with fail; refine wp_region_lit ?_
    refine qaa (qah (vs := ptL p) rfl Tryz.underlying49 rfl (szPt _) rfl ((hM.out.get (i := 2) rfl).range)) rfl ?_; (try simp only [Act.put, lyy])
    refine qai (qaj enters_eof rfl rfl rfl) rfl (CO.out _) (fun a9 hb => ?_); (try simp only [Act.put, lyy]); replace hM := Lib.hid (hM.out.below hb); clear hb
    refine qaa (qar (vs := zq 12) rfl (by kernel_rfl)) rfl ?_; (try simp only [Act.put, lyy]); replace hM := Lib.hid (hM.out.new (zq 12) 94); generalize a9.alloc (.cells (zq 12).toArray 94) = a10 at *; generalize a9.heap.size = g5 at *
    refine qae (qaq (vs := trL Q) rfl (szTr _) rfl rfl (oneTr _) ((hM.out.get (i := 0) rfl).there)) rfl rfl ?_; replace hM := Lib.hid (hM.out.put 0 rfl (m := trL Q) rfl); generalize a10.setCells g5 0 (trL Q) = a11 at *
    refine qac ?_
    go_upto_region 5 with fail; refine wp_region_lit ?_
    refine qaa (qag (v := .int _ _) rfl rfl) rfl ?_; (try simp only [Act.put, lyy])
    refine qac ?_
    go_wp2_with fail
    go_loopw [7] (fun s u => ∃ (j : Nat) (W : Tr), j ≤ 256 ∧ s = .int .i64 ((j : Int) - 1) ∧ W.Nm ∧ W.Rep (P (nj j)) ∧ Mv w [(g5, trL Q), (g4, trL W), (g3, zq 8), (g2, ptL p), (g1, l.map b8)] u) (fun s _ => (intOf s + 1).toNat)
    case atStart => exact ⟨256, Z, by omega, rfl, ZN, by rw [N0.out]; exact PZ.out, hM.out⟩
    case round =>
      obtain ⟨j, W, hj, rfl, hWn, hWr, hJ⟩ := hrel
      replace hM := Lib.hid hJ
      have HR := Lib.hid hWr
      clear hJ hWr
      rcases Nat.eq_zero_or_pos j with rfl | hpos
      · have hk1 : ¬ ((0 : Int) ≤ ((0 : Nat) : Int) - 1) := by omega
        rw [NE.out] at HR
        have hw := HE.out W HR.out
        go_upto_region 11 with fail; refine wp_region_lit ?_
        refine qaa (qah (vs := trL W) rfl Tryz.underlying94 rfl (szTr _) rfl ((hM.out.get (i := 1) rfl).range)) rfl ?_; (try simp only [Act.put, lyy])
        refine qai (qaj enters_eto rfl rfl rfl) rfl (eto_any W _ hWn) (fun b1 hb => ?_); (try simp only [Act.put, lyy]); replace hM := Lib.hid (hM.out.below hb); clear hb
        rw [hw]
        refine qae (qaq (vs := ptL R) rfl (szPt _) rfl rfl (onePt _) ((hM.out.get (i := 2) rfl).there)) rfl rfl ?_; replace hM := Lib.hid (hM.out.put 2 rfl (m := ptL R) rfl); generalize b1.setCells g3 0 (ptL R) = b2 at *
        refine qac ?_; go_wp2_with fail; refine bodyPost_ret (v := .agg (ptL R).toArray) (qat Tryz.results36 rfl Tryz.underlying49 rfl (szPt _) (hM.out.get (i := 2) rfl).range) rfl ⟨rfl, hM.out.bl⟩
      · obtain ⟨i, rfl⟩ : ∃ i, j = i + 1 := ⟨j - 1, by omega⟩
        have hk1 : (0 : Int) ≤ ((i + 1 : Nat) : Int) - 1 := by omega
        have ei : ((i + 1 : Nat) : Int) - 1 = (i : Int) := by omega
        rw [ei] at hk1 ⊢
        clear ei
        have HN := Lib.hid (NH.out i)
        have HB := Lib.hid (B2.out i (by omega))
        have hx8 : i / 8 < l.length := by rw [hl]; omega
        have HG := Lib.hid (qa5 b8 0 (l := l) (i := i / 8) hx8)
        have hb2 : nj i % 2 = 0 ∨ nj i % 2 = 1 := by omega
        generalize l.getD (i / 8) 0 = lb8 at *
        generalize nj (i + 1) = k at *
        generalize hbt : nj i % 2 = bt at *
        go_upto_region 8 with fail; refine wp_region_lit ?_
        refine qaa (qah (vs := trL W) rfl Tryz.underlying94 rfl (szTr _) rfl ((hM.out.get (i := 1) rfl).range)) rfl ?_; (try simp only [Act.put, lyy])
        refine qaa (qah (vs := trL W) rfl Tryz.underlying94 rfl (szTr _) rfl ((hM.out.get (i := 1) rfl).range)) rfl ?_; (try simp only [Act.put, lyy])
        refine qai (qam enters_esum rfl rfl rfl rfl) rfl (esum_any W W _ hWn hWn) (fun b1 hb => ?_); (try simp only [Act.put, lyy]); replace hM := Lib.hid (hM.out.below hb); clear hb
        have hD : Hid ((tsum W W).Rep (P (k + k))) := Lib.hid (by
          have := rep_tsum HR.out HR.out (PO.out _) (PO.out _)
          rwa [PA.out] at this)
        have hDn := tsum_nm W W
        generalize tsum W W = D at *
        refine qae (qaq (vs := trL D) rfl (szTr _) rfl rfl (oneTr _) ((hM.out.get (i := 1) rfl).there)) rfl rfl ?_; replace hM := Lib.hid (hM.out.put 1 rfl (m := trL D) rfl); generalize b1.setCells g4 0 (trL D) = b2 at *
        refine qac ?_
        clear hbt
        go_upto_region 9 with fail; refine wp_region_lit ?_
        refine qaa (qaf (v := .int _ _) rfl rfl) rfl ?_; (try simp only [Act.put, lyy])
        refine qaa (run_quoN (a := i) (b := 8) rfl rfl rfl (by omega) (by omega)) rfl ?_; (try simp only [Act.put, lyy])
        refine qaa (qay (i := i / 8) rfl Tryz.underlying23 (by kernel_rfl) rfl rfl (by omega)) rfl ?_; (try simp only [Act.put, lyy])
        refine qaa (qby rfl rfl ((hM.out.get (i := 4) rfl).c _ _ HG.out)) rfl ?_; (try simp only [Act.put, lyy])
        refine qaa (qaf (v := .int _ _) rfl rfl) rfl ?_; (try simp only [Act.put, lyy])
        refine qaa (qdf (a := i) (b := 8) rfl rfl rfl (by omega)) rfl ?_; (try simp only [Act.put, lyy])
        refine qaa (run_cviuN (n := i % 8) rfl rfl (by omega)) rfl ?_; (try simp only [Act.put, lyy])
        refine qaa (run_shr8 (n := i % 8) rfl rfl rfl (by omega)) rfl ?_; (try simp only [Act.put, lyy])
        refine qaa (run_rem8b (c := bt) rfl rfl rfl HB.out) rfl ?_; (try simp only [Act.put, lyy])
        rcases hb2 with rfl | rfl
        · refine qaa (run_eqlb (k := .u8) (c := false) rfl rfl rfl rfl) rfl ?_; (try simp only [Act.put, lyy])
          refine qac ?_
          rw [Nat.add_zero] at HN
          have hF : Hid (D.Rep (P (nj i))) := Lib.hid (by rw [HN.out]; exact hD.out)
          clear HB HG hx8
          go_wp2_with fail
          exact ⟨⟨i, D, by omega, by go_num, hDn, hF.out, hM.out⟩, by simp [intOf]⟩
        · refine qaa (run_eqlb (k := .u8) (c := true) rfl rfl rfl rfl) rfl ?_; (try simp only [Act.put, lyy])
          refine qac ?_
          go_upto_region 10 with fail; refine wp_region_lit ?_
          refine qaa (qah (vs := trL D) rfl Tryz.underlying94 rfl (szTr _) rfl ((hM.out.get (i := 1) rfl).range)) rfl ?_; (try simp only [Act.put, lyy])
          refine qaa (qah (vs := trL Q) rfl Tryz.underlying94 rfl (szTr _) rfl ((hM.out.get (i := 0) rfl).range)) rfl ?_; (try simp only [Act.put, lyy])
          refine qai (qam enters_esum rfl rfl rfl rfl) rfl (esum_any D Q _ hDn TN) (fun b3 hb => ?_); (try simp only [Act.put, lyy]); replace hM := Lib.hid (hM.out.below hb); clear hb
          have hF : Hid ((tsum D Q).Rep (P (nj i))) := Lib.hid (by
            have := rep_tsum hD.out TR.out (PO.out _) PC.out
            rw [P1.out] at this
            rw [HN.out]
            exact this)
          have hFn := tsum_nm D Q
          generalize tsum D Q = F at *
          refine qae (qaq (vs := trL F) rfl (szTr _) rfl rfl (oneTr _) ((hM.out.get (i := 1) rfl).there)) rfl rfl ?_; replace hM := Lib.hid (hM.out.put 1 rfl (m := trL F) rfl); generalize b3.setCells g4 0 (trL F) = b4 at *
          refine qac ?_
          clear HB HG hx8
          go_wp2_with fail
          exact ⟨⟨i, F, by omega, by go_num, hFn, hF.out, hM.out⟩, by simp [intOf]⟩
theorem enters_emulP : Enters 36 := qao Tryz.func36 (by kernel_rfl) rfl
end Go.Proofs.YtfdjmdfaidiliaaGreatDoor
namespace Go.Proofs.YtfdjmdfaidiliaaGreatDoor
open Go.RowKit
set_option maxRecDepth 20000
theorem sl_nil9 (w : World) : Sl (.slice none 0 0) [] w := ⟨none, 0, rfl, Nat.le_refl _, fun h => absurd rfl h⟩
theorem two_set {a b a' b' : List (BitVec 8)} {n : Nat} {x y : BitVec 8} (h1 : a.set n x = a') (h2 : b.set n y = b') (ha : a.length = 32) (hn : n < 32) : ((a ++ b).set n x).set (32 + n) y = a' ++ b' := by
  have e : 32 + n - (a.set n x).length = n := by rw [List.length_set, ha]; omega
  rw [List.set_append_left _ _ (by omega), List.set_append_right _ _ (by rw [List.length_set]; omega), e, h1, h2]
set_option maxHeartbeats 4000000 in
theorem stimes9_any (k : List (BitVec 8)) (w : World) (hk : k.length = 32) : Calls Tryz.prog 15 #[.agg (k.map b8).toArray] w fun e w' => e = .returned (.agg ((tmB (leB k)).map b8).toArray) ∧ Below w.heap.size w w' := by
  obtain ⟨B, hB⟩ : ∃ B, B = bs := ⟨_, rfl⟩
  obtain ⟨Q, hQ⟩ : ∃ Q, Q = pmul bs (leB k) := ⟨_, rfl⟩
  have nB : B.Nm := by rw [hB]; exact bs_ok.nm
  have nQ : Q.Nm := by rw [hQ]; exact (qdi _ _).nm
  have e1 : mulP (leB k) B = Q := by rw [hB, hQ, mul_bs]
  have CB : Hid (∀ u : World, Calls Tryz.prog 37 #[] u fun e w' => e = .returned (.agg (ptL B).toArray) ∧ Below u.heap.size u w') := Lib.hid fun u => by rw [hB]; exact ebase_any u
  have CM : Hid (∀ u : World, Calls Tryz.prog 36 #[.agg (k.map b8).toArray, .agg (ptL B).toArray] u fun e w' => e = .returned (.agg (ptL Q).toArray) ∧ Below u.heap.size u w') := Lib.hid fun u => by rw [← e1]; exact emulP_any k B u hk nB
  have CE : Hid (∀ u : World, Calls Tryz.prog 35 #[.agg (ptL Q).toArray] u fun e w' => e = .returned (.agg ((tmB (leB k)).map b8).toArray) ∧ Below u.heap.size u w') := Lib.hid fun u => by
    have h := eencode_any Q u nQ
    rw [hQ] at h
    rw [hQ]; exact h
  have hl := tmB_len (leB k)
  clear hB hQ e1
  generalize tmB (leB k) = R at *
  have SK := Lib.hid (szKy hk)
  have SR := Lib.hid (szKy hl)
  have LR : Hid ((R.map b8).length = (z8 32).length) := Lib.hid (by rw [z8_32, List.length_map, hl])
  have hM := Lib.hid (Mv.nil w)
  go_enter Tryz.func15, Tryz.ntmps15
  go_upto_region 0 with fail; refine wp_region_lit ?_
  refine qaa (qa9 (vs := k.map b8) rfl rfl) rfl ?_; (try simp only [Act.put, lyy]); replace hM := Lib.hid (hM.out.new (k.map b8) 23); generalize w.alloc (.cells (k.map b8).toArray 23) = a1 at *; generalize w.heap.size = g1 at *
  refine qaa (qar (vs := z8 32) rfl (by kernel_rfl)) rfl ?_; (try simp only [Act.put, lyy]); replace hM := Lib.hid (hM.out.new (z8 32) 23); generalize a1.alloc (.cells (z8 32).toArray 23) = a2 at *; generalize a1.heap.size = g2 at *
  refine qac ?_
  go_upto_region 1 with fail; refine qau 4 (by kernel_rfl) (by kernel_rfl) ?_
  refine qab _ (fun V hV => qad (qah (vs := k.map b8) rfl Tryz.underlying23 rfl SK.out rfl (((hM.out.below hV).get (i := 1) rfl).range))) ?_; (try simp only [Act.put, lyy])
  refine qab _ (fun V hV => qak (qbz enters_ebase rfl rfl) (CB.out V)) ?_; (try simp only [Act.put, lyy])
  refine qab _ (fun V hV => qak (qam enters_emulP rfl rfl rfl rfl) (CM.out V)) ?_; (try simp only [Act.put, lyy])
  refine qab _ (fun V hV => qak (qaj enters_eencode rfl rfl rfl) (CE.out V)) ?_; (try simp only [Act.put, lyy])
  refine qav ?_; intro a5 hb; simp only [List.drop_succ_cons, List.drop_zero]
  replace hM := Lib.hid (hM.out.below hb)
  clear hb
  refine qae (qaq (vs := R.map b8) rfl SR.out rfl rfl (one8s _) (by rw [LR.out]; exact (hM.out.get (i := 0) rfl).there)) rfl rfl ?_; replace hM := Lib.hid (hM.out.put 0 rfl (m := R.map b8) (LR.out))
  refine qac ?_; go_wp2_with fail; refine bodyPost_ret (v := .agg (R.map b8).toArray) (qat Tryz.results15 rfl Tryz.underlying23 rfl SR.out (hM.out.get (i := 0) rfl).range) rfl ⟨rfl, hM.out.bl⟩
theorem qc2 : Enters 15 := qao Tryz.func15 (by kernel_rfl) rfl
set_option maxHeartbeats 4000000 in
theorem number_any (v : Value) (b : List (BitVec 8)) (w : World) (hv : Sl v b w) (hl : b.length ≤ 10000) (hT : Tabs w) : Calls Tryz.prog 21 #[v] w fun e w' => e = .returned (.agg ((nmB b).map b8).toArray) ∧ Below w.heap.size w w' := by
  have HT := Lib.hid hT; clear hT
  have HV := Lib.hid hv; clear hv
  have CR : Hid (∀ u : World, Calls Tryz.prog 44 #[.agg ((sum64 b).map b8).toArray] u fun e w' => e = .returned (.agg ((nmB b).map b8).toArray) ∧ Below u.heap.size u w') := Lib.hid fun u => rreduce_any (sum64 b) u (qdb b)
  have hnl := nmB_len b
  generalize nmB b = R at *
  have SR := Lib.hid (szKy hnl)
  have LR : Hid ((R.map b8).length = (z8 32).length) := Lib.hid (by rw [z8_32, List.length_map, hnl])
  have CS : Hid (∀ u : World, Sl v b u → Tabs u → Calls Tryz.prog 13 #[v] u fun e w' => e = .returned (.agg ((sum64 b).map b8).toArray) ∧ Below u.heap.size u w') := Lib.hid fun u h1 h2 => refsum64_any v b u h1 hl h2
  generalize sum64 b = D at *
  have hM := Lib.hid (Mv.nil w)
  go_enter Tryz.func21, Tryz.ntmps21
  go_upto_region 0 with fail; refine wp_region_lit ?_
  refine qaa (qar (vs := z8 32) rfl (by kernel_rfl)) rfl ?_; (try simp only [Act.put, lyy]); replace hM := Lib.hid (hM.out.new (z8 32) 23); generalize w.alloc (.cells (z8 32).toArray 23) = a1 at *; generalize w.heap.size = g1 at *
  refine qac ?_
  go_upto_region 1 with fail; refine wp_region_lit ?_
  refine qaa (qaf (v := v) rfl rfl) rfl ?_; (try simp only [Act.put, lyy])
  refine qai (qaj enters_refsum64 rfl rfl rfl) rfl (CS.out _ (HV.out.below hM.out.bl) (HT.out.below hM.out.bl)) (fun a2 hb => ?_); (try simp only [Act.put, lyy]); replace hM := Lib.hid (hM.out.below hb); clear hb
  refine qai (qaj enters_rreduce rfl rfl rfl) rfl (CR.out _) (fun a3 hb => ?_); (try simp only [Act.put, lyy]); replace hM := Lib.hid (hM.out.below hb); clear hb
  refine qae (qaq (vs := R.map b8) rfl SR.out rfl rfl (one8s _) (by rw [LR.out]; exact (hM.out.get (i := 0) rfl).there)) rfl rfl ?_; replace hM := Lib.hid (hM.out.put 0 rfl (m := R.map b8) (LR.out))
  refine qac ?_; go_wp2_with fail; refine bodyPost_ret (v := .agg (R.map b8).toArray) (qat Tryz.results21 rfl Tryz.underlying23 rfl SR.out (hM.out.get (i := 0) rfl).range) rfl ⟨rfl, hM.out.bl⟩
theorem qcm : Enters 21 := qao Tryz.func21 (by kernel_rfl) rfl
set_option maxHeartbeats 8000000 in
theorem rpublic_any (k : List (BitVec 8)) (w : World) (hk : k.length = 32) (hT : Tabs w) : Calls Tryz.prog 6 #[.agg (k.map b8).toArray] w fun e w' => e = .returned (.agg ((pubB k).map b8).toArray) ∧ Below w.heap.size w w' := by
  have HT := Lib.hid hT; clear hT
  have HR := Lib.hid (pubB_len k)
  obtain ⟨D, hD⟩ : ∃ D, D = sum64 k := ⟨_, rfl⟩
  obtain ⟨A, hA⟩ : ∃ A, A = secA k := ⟨_, rfl⟩
  obtain ⟨R, hR⟩ : ∃ R, R = pubB k := ⟨_, rfl⟩
  obtain ⟨X, hX⟩ : ∃ X, X = D.take 32 := ⟨_, rfl⟩
  have lD : D.length = 64 := by rw [hD]; exact qdb k
  have lA : A.length = 32 := by rw [hA]; exact secA_len k
  have lR : R.length = 32 := by rw [hR]; exact pubB_len k
  have lX : X.length = 32 := by rw [hX, List.length_take, lD]; rfl
  have CS : Hid (∀ (v : Value) (u : World), Sl v k u → Tabs u → Calls Tryz.prog 13 #[v] u fun e w' => e = .returned (.agg (D.map b8).toArray) ∧ Below u.heap.size u w') := Lib.hid fun v u h1 h2 => by rw [hD]; exact refsum64_any v k u h1 (by omega) h2
  have CC : Hid (∀ u : World, Calls Tryz.prog 16 #[.agg (X.map b8).toArray] u fun e w' => e = .returned (.agg (A.map b8).toArray) ∧ Below u.heap.size u w') := Lib.hid fun u => by
    have h := rclampB_any X u lX
    rw [hX, hD] at h
    rw [hX, hD, hA]; exact h
  have CT : Hid (∀ u : World, Calls Tryz.prog 15 #[.agg (A.map b8).toArray] u fun e w' => e = .returned (.agg (R.map b8).toArray) ∧ Below u.heap.size u w') := Lib.hid fun u => by
    have h := stimes9_any A u lA
    rw [hA] at h
    rw [hA, hR]; exact h
  have CH : Hid (∀ u : World, Calls Tryz.prog 12 #[.agg (D.map b8).toArray] u fun e w' => ∃ v', e = .returned v' ∧ ((∃ v1 v2, v' = .tuple #[v1, v2] ∧ Sl v1 X w' ∧ Sl v2 (D.drop 32) w') ∧ Below u.heap.size u w')) := Lib.hid fun u => by rw [hX]; exact halves_any D u lD
  rw [← hR]
  clear hD hA hR hX HR
  have SK := Lib.hid (szKy hk)
  have SR := Lib.hid (szKy lR)
  have LR : Hid ((R.map b8).length = (z8 32).length) := Lib.hid (by rw [z8_32, List.length_map, lR])
  have hM := Lib.hid (Mv.nil w)
  go_enter Tryz.func6, Tryz.ntmps6
  go_upto_region 0 with fail; refine wp_region_lit ?_
  refine qaa (qa9 (vs := k.map b8) rfl rfl) rfl ?_; (try simp only [Act.put, lyy]); replace hM := Lib.hid (hM.out.new (k.map b8) 23); generalize w.alloc (.cells (k.map b8).toArray 23) = a1 at *; generalize w.heap.size = g1 at *
  refine qaa (qar (vs := z8 32) rfl (by kernel_rfl)) rfl ?_; (try simp only [Act.put, lyy]); replace hM := Lib.hid (hM.out.new (z8 32) 23); generalize a1.alloc (.cells (z8 32).toArray 23) = a2 at *; generalize a1.heap.size = g2 at *
  refine qac ?_
  go_upto_region 1 with fail; refine wp_region_lit ?_
  refine qaa (qah (vs := k.map b8) rfl Tryz.underlying23 rfl SK.out rfl ((hM.out.get (i := 1) rfl).range)) rfl ?_; (try simp only [Act.put, lyy])
  refine qbi (qaj qb7 rfl rfl rfl) rfl (qcr k _ hk) (fun vk a3 hR => ?_); (try simp only [Act.put, lyy])
  have H1 := Lib.hid hR.sl
  replace hM := Lib.hid (hM.out.below hR.bl)
  clear hR
  refine qai (qaj enters_refsum64 rfl rfl rfl) rfl (CS.out _ _ H1.out (HT.out.below hM.out.bl)) (fun a4 hb => ?_); (try simp only [Act.put, lyy]); replace hM := Lib.hid (hM.out.below hb); clear hb
  clear H1
  refine qbi (qaj enters_halves rfl rfl rfl) rfl (CH.out _) (fun vh a5 hR => ?_); (try simp only [Act.put, lyy])
  obtain ⟨⟨v1, v2, rfl, H1, -⟩, hb⟩ := hR
  replace hM := Lib.hid (hM.out.below hb)
  replace H1 := Lib.hid H1
  clear hb
  refine qaa (qaf (v := .tuple _) rfl rfl) rfl ?_; (try simp only [Act.put, lyy])
  refine qaa (qbx (v := v1) rfl rfl rfl) rfl ?_; (try simp only [Act.put, lyy])
  refine qaa (qbx (v := v2) rfl rfl rfl) rfl ?_; (try simp only [Act.put, lyy])
  refine qaa (qag (v := v1) rfl rfl) rfl ?_; (try simp only [Act.put, lyy])
  refine qaa (qag (v := v2) rfl rfl) rfl ?_; (try simp only [Act.put, lyy])
  refine qac ?_
  go_upto_region 2 with fail; refine wp_region_lit ?_
  refine qaa (qaf (v := v1) rfl rfl) rfl ?_; (try simp only [Act.put, lyy])
  refine qai (qaj enters_rkeyG rfl rfl rfl) rfl (rkeyG_any v1 X _ H1.out lX) (fun a6 hb => ?_); (try simp only [Act.put, lyy]); replace hM := Lib.hid (hM.out.below hb); clear hb
  refine qai (qaj enters_rclampB rfl rfl rfl) rfl (CC.out _) (fun a7 hb => ?_); (try simp only [Act.put, lyy]); replace hM := Lib.hid (hM.out.below hb); clear hb
  refine qai (qaj qc2 rfl rfl rfl) rfl (CT.out _) (fun a8 hb => ?_); (try simp only [Act.put, lyy]); replace hM := Lib.hid (hM.out.below hb); clear hb
  refine qae (qaq (vs := R.map b8) rfl SR.out rfl rfl (one8s _) (by rw [LR.out]; exact (hM.out.get (i := 0) rfl).there)) rfl rfl ?_; replace hM := Lib.hid (hM.out.put 0 rfl (m := R.map b8) (LR.out))
  refine qac ?_; go_wp2_with fail; refine bodyPost_ret (v := .agg (R.map b8).toArray) (qat Tryz.results6 rfl Tryz.underlying23 rfl SR.out (hM.out.get (i := 0) rfl).range) rfl ⟨rfl, hM.out.bl⟩
theorem enters_rpublic : Enters 6 := qao Tryz.func6 (by kernel_rfl) rfl
set_option maxHeartbeats 16000000 in
theorem rsign_any (s : List (BitVec 8)) (vb : Value) (b : List (BitVec 8)) (w : World) (hs : s.length = 32) (hb : Sl vb b w) (hbl : b.length ≤ 9000) (hT : Tabs w) : Calls Tryz.prog 8 #[.agg (s.map b8).toArray, vb] w fun e w' => e = .returned (.agg ((sigB s b).map b8).toArray) ∧ Below w.heap.size w w' := by
  have HT := Lib.hid hT; clear hT
  have HB := Lib.hid hb; clear hb
  obtain ⟨D, hD⟩ : ∃ D, D = sum64 s := ⟨_, rfl⟩
  obtain ⟨A, hA⟩ : ∃ A, A = secA s := ⟨_, rfl⟩
  obtain ⟨X, hX⟩ : ∃ X, X = D.take 32 := ⟨_, rfl⟩
  obtain ⟨Y, hY⟩ : ∃ Y, Y = D.drop 32 := ⟨_, rfl⟩
  obtain ⟨R, hR⟩ : ∃ R, R = sgR s b := ⟨_, rfl⟩
  obtain ⟨F0, hF⟩ : ∃ F0, F0 = sgF s b := ⟨_, rfl⟩
  obtain ⟨P0, hP⟩ : ∃ P0, P0 = pubB s := ⟨_, rfl⟩
  obtain ⟨K, hK⟩ : ∃ K, K = sgK s b := ⟨_, rfl⟩
  obtain ⟨S0, hS0⟩ : ∃ S0, S0 = sgS s b := ⟨_, rfl⟩
  have lD : D.length = 64 := by rw [hD]; exact qdb s
  have lA : A.length = 32 := by rw [hA]; exact secA_len s
  have lX : X.length = 32 := by rw [hX, List.length_take, lD]; rfl
  have lY : Y.length = 32 := by rw [hY, List.length_drop, lD]
  have lR : R.length = 32 := by rw [hR]; exact sgR_len s b
  have lF : F0.length = 32 := by rw [hF]; exact sgF_len s b
  have lP : P0.length = 32 := by rw [hP]; exact pubB_len s
  have lK : K.length = 32 := by rw [hK]; exact sgK_len s b
  have lS : S0.length = 32 := by rw [hS0]; exact sgS_len s b
  have CS : Hid (∀ (v : Value) (u : World), Sl v s u → Tabs u → Calls Tryz.prog 13 #[v] u fun e w' => e = .returned (.agg (D.map b8).toArray) ∧ Below u.heap.size u w') := Lib.hid fun v u h1 h2 => by rw [hD]; exact refsum64_any v s u h1 (by omega) h2
  have CH : Hid (∀ u : World, Calls Tryz.prog 12 #[.agg (D.map b8).toArray] u fun e w' => ∃ v', e = .returned v' ∧ ((∃ v1 v2, v' = .tuple #[v1, v2] ∧ Sl v1 X w' ∧ Sl v2 Y w') ∧ Below u.heap.size u w')) := Lib.hid fun u => by rw [hX, hY]; exact halves_any D u lD
  have CC : Hid (∀ u : World, Calls Tryz.prog 16 #[.agg (X.map b8).toArray] u fun e w' => e = .returned (.agg (A.map b8).toArray) ∧ Below u.heap.size u w') := Lib.hid fun u => by
    have h := rclampB_any X u lX
    rw [hX, hD] at h
    rw [hX, hD, hA]; exact h
  have CN : Hid (∀ (v : Value) (u : World), Sl v (Y ++ b ++ []) u → Tabs u → Calls Tryz.prog 21 #[v] u fun e w' => e = .returned (.agg (R.map b8).toArray) ∧ Below u.heap.size u w') := Lib.hid fun v u h1 h2 => by
    rw [List.append_nil] at h1
    have h := number_any v (Y ++ b) u h1 (by rw [List.length_append]; omega) h2
    rw [hY, hD] at h
    rw [hR]; exact h
  have CF : Hid (∀ u : World, Calls Tryz.prog 15 #[.agg (R.map b8).toArray] u fun e w' => e = .returned (.agg (F0.map b8).toArray) ∧ Below u.heap.size u w') := Lib.hid fun u => by
    have h := stimes9_any R u lR
    rw [hR] at h
    rw [hR, hF]; exact h
  have CP : Hid (∀ u : World, Calls Tryz.prog 15 #[.agg (A.map b8).toArray] u fun e w' => e = .returned (.agg (P0.map b8).toArray) ∧ Below u.heap.size u w') := Lib.hid fun u => by
    have h := stimes9_any A u lA
    rw [hA] at h
    rw [hA, hP]; exact h
  have CK : Hid (∀ (v : Value) (u : World), Sl v (F0 ++ P0 ++ b) u → Tabs u → Calls Tryz.prog 21 #[v] u fun e w' => e = .returned (.agg (K.map b8).toArray) ∧ Below u.heap.size u w') := Lib.hid fun v u h1 h2 => by
    have h := number_any v (F0 ++ P0 ++ b) u h1 (by rw [List.length_append, List.length_append]; omega) h2
    rw [hF, hP] at h
    rw [hK]; exact h
  have CM : Hid (∀ u : World, Calls Tryz.prog 23 #[.agg (K.map b8).toArray, .agg (A.map b8).toArray, .agg (R.map b8).toArray] u fun e w' => e = .returned (.agg (S0.map b8).toArray) ∧ Below u.heap.size u w') := Lib.hid fun u => by
    have h := rmad_any K A R u lK lA lR
    rw [hK, hA, hR] at h
    rw [hK, hA, hR, hS0]; exact h
  have ES : Hid (sigB s b = F0 ++ S0) := Lib.hid (by rw [hF, hS0]; rfl)
  have lG : (sigB s b).length = 64 := sigB_len s b
  clear hD hA hX hY hR hF hP hK hS0
  generalize sigB s b = G0 at *
  obtain ⟨Z, hZ⟩ : ∃ Z : List (BitVec 8), Z = List.replicate 32 0 := ⟨_, rfl⟩
  have lZ : Z.length = 32 := by rw [hZ]; exact List.length_replicate
  have EZ : Hid (z8 64 = (mixB F0 Z 0 ++ mixB S0 Z 0).map b8) := Lib.hid (by rw [mixB_zero, mixB_zero, hZ]; rfl)
  have ED : Hid (mixB F0 Z 32 ++ mixB S0 Z 32 = G0) := Lib.hid (by
    rw [ES.out]; unfold mixB
    rw [List.take_of_length_le (by omega), List.take_of_length_le (by omega), List.drop_of_length_le (by omega), List.append_nil, List.append_nil])
  clear hZ
  have Ss := Lib.hid (szKy hs)
  have SA := Lib.hid (szKy lA)
  have SR := Lib.hid (szKy lR)
  have SF := Lib.hid (szKy lF)
  have SK := Lib.hid (szKy lK)
  have SS := Lib.hid (szKy lS)
  have SG := Lib.hid (szSg lG)
  have LA : Hid ((A.map b8).length = (z8 32).length) := Lib.hid (by rw [z8_32, List.length_map, lA])
  have LR : Hid ((R.map b8).length = (z8 32).length) := Lib.hid (by rw [z8_32, List.length_map, lR])
  have LF : Hid ((F0.map b8).length = (z8 32).length) := Lib.hid (by rw [z8_32, List.length_map, lF])
  have LK : Hid ((K.map b8).length = (z8 32).length) := Lib.hid (by rw [z8_32, List.length_map, lK])
  have LS : Hid ((S0.map b8).length = (z8 32).length) := Lib.hid (by rw [z8_32, List.length_map, lS])
  have LG : Hid ((G0.map b8).length = (z8 64).length) := Lib.hid (by rw [List.length_map, lG]; rfl)
  have hM := Lib.hid (Mv.nil w)
  go_enter Tryz.func8, Tryz.ntmps8
  go_upto_region 0 with fail; refine wp_region_lit ?_
  refine qaa (qa9 (vs := s.map b8) rfl rfl) rfl ?_; (try simp only [Act.put, lyy]); replace hM := Lib.hid (hM.out.new (s.map b8) 23); generalize w.alloc (.cells (s.map b8).toArray 23) = a1 at *; generalize w.heap.size = g1 at *
  refine qaa (qar (vs := z8 64) rfl (by kernel_rfl)) rfl ?_; (try simp only [Act.put, lyy]); replace hM := Lib.hid (hM.out.new (z8 64) 28); generalize a1.alloc (.cells (z8 64).toArray 28) = a2 at *; generalize a1.heap.size = g2 at *
  refine qac ?_
  go_upto_region 1 with fail; refine wp_region_lit ?_
  refine qaa (qah (vs := s.map b8) rfl Tryz.underlying23 rfl Ss.out rfl ((hM.out.get (i := 1) rfl).range)) rfl ?_; (try simp only [Act.put, lyy])
  refine qbi (qaj qb7 rfl rfl rfl) rfl (qcr s _ hs) (fun vk a3 hR => ?_); (try simp only [Act.put, lyy])
  have H1 := Lib.hid hR.sl
  replace hM := Lib.hid (hM.out.below hR.bl)
  clear hR
  refine qai (qaj enters_refsum64 rfl rfl rfl) rfl (CS.out _ _ H1.out (HT.out.below hM.out.bl)) (fun a4 hb => ?_); (try simp only [Act.put, lyy]); replace hM := Lib.hid (hM.out.below hb); clear hb
  clear H1
  refine qbi (qaj enters_halves rfl rfl rfl) rfl (CH.out _) (fun vh a5 hR => ?_); (try simp only [Act.put, lyy])
  obtain ⟨⟨v1, v2, rfl, H1, H2⟩, hb⟩ := hR
  replace hM := Lib.hid (hM.out.below hb)
  replace H1 := Lib.hid H1
  replace H2 := Lib.hid H2
  clear hb
  refine qaa (qaf (v := .tuple _) rfl rfl) rfl ?_; (try simp only [Act.put, lyy])
  refine qaa (qbx (v := v1) rfl rfl rfl) rfl ?_; (try simp only [Act.put, lyy])
  refine qaa (qbx (v := v2) rfl rfl rfl) rfl ?_; (try simp only [Act.put, lyy])
  refine qaa (qag (v := v1) rfl rfl) rfl ?_; (try simp only [Act.put, lyy])
  refine qaa (qag (v := v2) rfl rfl) rfl ?_; (try simp only [Act.put, lyy])
  refine qac ?_
  have hM5 := hM
  replace HT := Lib.hid (HT.out.below hM5.out.bl)
  replace HB := Lib.hid (HB.out.below hM5.out.bl)
  replace hM := Lib.hid (Mv.nil a5)
  go_upto_region 2 with fail; refine wp_region_lit ?_
  refine qaa (qaf (v := v1) rfl rfl) rfl ?_; (try simp only [Act.put, lyy])
  refine qai (qaj enters_rkeyG rfl rfl rfl) rfl (rkeyG_any v1 X _ H1.out lX) (fun a6 hb => ?_); (try simp only [Act.put, lyy]); replace hM := Lib.hid (hM.out.below hb); clear hb
  refine qai (qaj enters_rclampB rfl rfl rfl) rfl (CC.out _) (fun a7 hb => ?_); (try simp only [Act.put, lyy]); replace hM := Lib.hid (hM.out.below hb); clear hb
  refine qaa (qar (vs := z8 32) rfl (by kernel_rfl)) rfl ?_; (try simp only [Act.put, lyy]); replace hM := Lib.hid (hM.out.new (z8 32) 23); generalize a7.alloc (.cells (z8 32).toArray 23) = a8 at *; generalize a7.heap.size = g3 at *
  refine qae (qaq (vs := A.map b8) rfl SA.out rfl rfl (one8s _) (by rw [LA.out]; exact (hM.out.get (i := 0) rfl).there)) rfl rfl ?_; replace hM := Lib.hid (hM.out.put 0 rfl (m := A.map b8) (LA.out))
  refine qac ?_
  generalize a8.setCells g3 0 (A.map b8) = a9 at *
  go_upto_region 3 with fail; refine wp_region_lit ?_
  refine qaa (qaf (v := v2) rfl rfl) rfl ?_; (try simp only [Act.put, lyy])
  refine qaa (qaf (v := vb) rfl rfl) rfl ?_; (try simp only [Act.put, lyy])
  refine qbi (qbk qc8 rfl rfl rfl rfl rfl) rfl (three_any v2 Y vb b _ [] _ (H2.out.below hM.out.bl) (HB.out.below hM.out.bl) (sl_nil9 _) (by simp; omega)) (fun v3 b1 hR => ?_); (try simp only [Act.put, lyy])
  obtain ⟨H3, hb⟩ := hR
  replace hM := Lib.hid (hM.out.below hb)
  replace H3 := Lib.hid H3
  clear hb
  refine qai (qaj qcm rfl rfl rfl) rfl (CN.out _ _ H3.out (HT.out.below hM.out.bl)) (fun b2 hb => ?_); (try simp only [Act.put, lyy]); replace hM := Lib.hid (hM.out.below hb); clear hb
  clear H3
  refine qaa (qar (vs := z8 32) rfl (by kernel_rfl)) rfl ?_; (try simp only [Act.put, lyy]); replace hM := Lib.hid (hM.out.new (z8 32) 23); generalize b2.alloc (.cells (z8 32).toArray 23) = b3 at *; generalize b2.heap.size = g4 at *
  refine qae (qaq (vs := R.map b8) rfl SR.out rfl rfl (one8s _) (by rw [LR.out]; exact (hM.out.get (i := 0) rfl).there)) rfl rfl ?_; replace hM := Lib.hid (hM.out.put 0 rfl (m := R.map b8) (LR.out))
  refine qac ?_
  generalize b3.setCells g4 0 (R.map b8) = b4 at *
  go_upto_region 4 with fail; refine wp_region_lit ?_
  refine qaa (qah (vs := R.map b8) rfl Tryz.underlying23 rfl SR.out rfl ((hM.out.get (i := 0) rfl).range)) rfl ?_; (try simp only [Act.put, lyy])
  refine qai (qaj qc2 rfl rfl rfl) rfl (CF.out _) (fun b5 hb => ?_); (try simp only [Act.put, lyy]); replace hM := Lib.hid (hM.out.below hb); clear hb
  refine qaa (qar (vs := z8 32) rfl (by kernel_rfl)) rfl ?_; (try simp only [Act.put, lyy]); replace hM := Lib.hid (hM.out.new (z8 32) 23); generalize b5.alloc (.cells (z8 32).toArray 23) = d1 at *; generalize b5.heap.size = g5 at *
  refine qae (qaq (vs := F0.map b8) rfl SF.out rfl rfl (one8s _) (by rw [LF.out]; exact (hM.out.get (i := 0) rfl).there)) rfl rfl ?_; replace hM := Lib.hid (hM.out.put 0 rfl (m := F0.map b8) (LF.out))
  refine qac ?_
  generalize d1.setCells g5 0 (F0.map b8) = d2 at *
  go_upto_region 5 with fail
  go_cut [10] (fun s10 u => ∃ g, s10 = .pointer (some ⟨g, 0, none⟩) ∧ Mv a5 [(g, K.map b8), (g5, F0.map b8), (g4, R.map b8), (g3, A.map b8)] u)
  case first =>
    refine wp_region_noPanic ?_; refine qbe (S := fun _ V => Below d2.heap.size d2 V) (by kernel_rfl) ((Below.refl _ _).drew) (fun hS => ?_)
    refine qal 0 rfl rfl (by kernel_rfl) (by kernel_rfl) (by kernel_rfl) (fun _ _ _ h => h) rfl (fun V hV => qah (vs := F0.map b8) rfl Tryz.underlying23 rfl SF.out rfl (((hM.out.below hV).get (i := 0) rfl).range)) hS ?_; (try simp only [Act.put, lyy])
    refine qal 2 rfl rfl (by kernel_rfl) (by kernel_rfl) (by kernel_rfl) (fun _ _ _ h => h) rfl (fun V hV => qah (vs := A.map b8) rfl Tryz.underlying23 rfl SA.out rfl (((hM.out.below hV).get (i := 2) rfl).range)) hS ?_; (try simp only [Act.put, lyy])
    refine qal 5 rfl rfl (by kernel_rfl) (by kernel_rfl) (by kernel_rfl) (fun _ _ _ h => h) rfl (fun V hV => qaf (v := vb) rfl rfl) hS ?_; (try simp only [Act.put, lyy])
    refine qb8 1 8 (by kernel_rfl) ?_ ?_
    · refine qcn 1 rfl rfl rfl (qaj qb7 rfl rfl rfl) (qcr F0 _ lF) (fun vc2 wc1 hR => ?_); (try simp only [Act.put, lyy])
      have hb := hR.bl
      have H1 := Lib.hid hR.sl
      clear hR
      replace hS := hS.trans (hb.mono hS.size)
      clear hb
      refine ⟨hS, ?_⟩
      refine qb8 3 8 (by kernel_rfl) ?_ ?_
      · refine qcn 3 rfl rfl rfl (qaj qc2 rfl rfl rfl) (qbg (CP.out _)) (fun vc4 wc3 hR => ?_); (try simp only [Act.put, lyy])
        obtain ⟨rfl, hb⟩ := hR
        replace hS := hS.trans (hb.mono hS.size)
        replace H1 := Lib.hid (H1.out.below hb)
        clear hb
        refine ⟨hS, ?_⟩
        refine qb8 4 8 (by kernel_rfl) ?_ ?_
        · refine qcn 4 rfl rfl rfl (qaj qb7 rfl rfl rfl) (qcr P0 _ lP) (fun vc6 wc5 hR => ?_); (try simp only [Act.put, lyy])
          have hb := hR.bl
          have H2 := Lib.hid hR.sl
          clear hR
          replace hS := hS.trans (hb.mono hS.size)
          replace H1 := Lib.hid (H1.out.below hb)
          clear hb
          refine ⟨hS, ?_⟩
          refine qb8 6 8 (by kernel_rfl) ?_ ?_
          · refine qcn 6 rfl rfl rfl (qbk qc8 rfl rfl rfl rfl rfl) (three_any _ F0 _ P0 _ b _ H1.out H2.out (HB.out.below (hM.out.below hS).bl) (by omega)) (fun vc8 wc7 hR => ?_); (try simp only [Act.put, lyy])
            obtain ⟨H3, hb⟩ := hR
            replace H3 := Lib.hid H3
            replace hS := hS.trans (hb.mono hS.size)
            replace H1 := Lib.hid (H1.out.below hb)
            replace H2 := Lib.hid (H2.out.below hb)
            clear hb
            refine ⟨hS, ?_⟩
            refine qb8 7 8 (by kernel_rfl) ?_ ?_
            · refine qcn 7 rfl rfl rfl (qaj qcm rfl rfl rfl) (qbg (CK.out _ _ H3.out (HT.out.below (hM.out.below hS).bl))) (fun vc10 wc9 hR => ?_); (try simp only [Act.put, lyy])
              obtain ⟨rfl, hb⟩ := hR
              replace hS := hS.trans (hb.mono hS.size)
              replace H1 := Lib.hid (H1.out.below hb)
              replace H2 := Lib.hid (H2.out.below hb)
              replace H3 := Lib.hid (H3.out.below hb)
              clear hb
              refine ⟨hS, ?_⟩
              refine wpAnyL_val 8 (by kernel_rfl) rfl rfl rfl (qar (vs := z8 32) rfl (by kernel_rfl)) (hS.alloc hS.size _) ?_; (try simp only [Act.put, lyy])
              have hb : Below wc9.heap.size wc9 (wc9.alloc (.cells (z8 32).toArray 23)) := (Below.refl _ _).alloc (Nat.le_refl _) _
              replace H1 := Lib.hid (H1.out.below hb)
              replace H2 := Lib.hid (H2.out.below hb)
              replace H3 := Lib.hid (H3.out.below hb)
              clear hb
              have hg := hS.size
              have A1 := Lib.hid (Arr.new wc9 (z8 32) 23)
              replace hS := hS.alloc hg (.cells (z8 32).toArray 23)
              generalize wc9.alloc (.cells (z8 32).toArray 23) = wa11 at *
              generalize wc9.heap.size = gA at *
              refine qbc 9 (by kernel_rfl) rfl rfl rfl (qaq (vs := K.map b8) rfl SK.out rfl rfl (one8s _) (by rw [LK.out]; exact A1.out.there)) (qas hg _ _ hS) ?_
              replace hS := qas hg (K.map b8) 0 hS
              replace A1 := Lib.hid (A1.out.put (l' := K.map b8) LK.out)
              generalize wa11.setCells gA 0 (K.map b8) = wz at *
              refine qa6 (by kernel_rfl) ?_ _; refine NoPanic.normal ?_
              go_wp2_with fail
              go_meet
              exact ⟨gA, rfl, hM.out.add hS hg A1.out⟩
            · refine qco 8 rfl rfl rfl (qar (vs := z8 32) rfl (by kernel_rfl)) ?_; (try simp only [Act.put, lyy])
              have hb : Below wc7.heap.size wc7 (wc7.alloc (.cells (z8 32).toArray 23)) := (Below.refl _ _).alloc (Nat.le_refl _) _
              replace H1 := Lib.hid (H1.out.below hb)
              replace H2 := Lib.hid (H2.out.below hb)
              replace H3 := Lib.hid (H3.out.below hb)
              clear hb
              have hg := hS.size
              have A1 := Lib.hid (Arr.new wc7 (z8 32) 23)
              replace hS := hS.alloc hg (.cells (z8 32).toArray 23)
              generalize wc7.alloc (.cells (z8 32).toArray 23) = wa12 at *
              generalize wc7.heap.size = gA at *
              refine ⟨hS, ?_⟩
              refine qa4 7 (by kernel_rfl) rfl rfl rfl (qaj qcm rfl rfl rfl) (qbg (CK.out _ _ H3.out (HT.out.below (hM.out.below hS).bl))) (fun v w h => hS.trans ((h.2).mono hS.size)) (fun vc14 wc13 hR => ?_); (try simp only [Act.put, lyy])
              obtain ⟨rfl, hb⟩ := hR
              replace hS := hS.trans (hb.mono hS.size)
              replace A1 := Lib.hid (A1.out.below hb)
              replace H1 := Lib.hid (H1.out.below hb)
              replace H2 := Lib.hid (H2.out.below hb)
              replace H3 := Lib.hid (H3.out.below hb)
              clear hb
              refine qbc 9 (by kernel_rfl) rfl rfl rfl (qaq (vs := K.map b8) rfl SK.out rfl rfl (one8s _) (by rw [LK.out]; exact A1.out.there)) (qas hg _ _ hS) ?_
              replace hS := qas hg (K.map b8) 0 hS
              replace A1 := Lib.hid (A1.out.put (l' := K.map b8) LK.out)
              generalize wc13.setCells gA 0 (K.map b8) = wz at *
              refine qa6 (by kernel_rfl) ?_ _; refine NoPanic.normal ?_
              go_wp2_with fail
              go_meet
              exact ⟨gA, rfl, hM.out.add hS hg A1.out⟩
          · refine qco 8 rfl rfl rfl (qar (vs := z8 32) rfl (by kernel_rfl)) ?_; (try simp only [Act.put, lyy])
            have hb : Below wc5.heap.size wc5 (wc5.alloc (.cells (z8 32).toArray 23)) := (Below.refl _ _).alloc (Nat.le_refl _) _
            replace H1 := Lib.hid (H1.out.below hb)
            replace H2 := Lib.hid (H2.out.below hb)
            clear hb
            have hg := hS.size
            have A1 := Lib.hid (Arr.new wc5 (z8 32) 23)
            replace hS := hS.alloc hg (.cells (z8 32).toArray 23)
            generalize wc5.alloc (.cells (z8 32).toArray 23) = wa15 at *
            generalize wc5.heap.size = gA at *
            refine ⟨hS, ?_⟩
            refine qa4 6 (by kernel_rfl) rfl rfl rfl (qbk qc8 rfl rfl rfl rfl rfl) (three_any _ F0 _ P0 _ b _ H1.out H2.out (HB.out.below (hM.out.below hS).bl) (by omega)) (fun v w h => hS.trans ((h.2).mono hS.size)) (fun vc17 wc16 hR => ?_); (try simp only [Act.put, lyy])
            obtain ⟨H3, hb⟩ := hR
            replace H3 := Lib.hid H3
            replace hS := hS.trans (hb.mono hS.size)
            replace A1 := Lib.hid (A1.out.below hb)
            replace H1 := Lib.hid (H1.out.below hb)
            replace H2 := Lib.hid (H2.out.below hb)
            clear hb
            refine qa4 7 (by kernel_rfl) rfl rfl rfl (qaj qcm rfl rfl rfl) (qbg (CK.out _ _ H3.out (HT.out.below (hM.out.below hS).bl))) (fun v w h => hS.trans ((h.2).mono hS.size)) (fun vc19 wc18 hR => ?_); (try simp only [Act.put, lyy])
            obtain ⟨rfl, hb⟩ := hR
            replace hS := hS.trans (hb.mono hS.size)
            replace A1 := Lib.hid (A1.out.below hb)
            replace H1 := Lib.hid (H1.out.below hb)
            replace H2 := Lib.hid (H2.out.below hb)
            replace H3 := Lib.hid (H3.out.below hb)
            clear hb
            refine qbc 9 (by kernel_rfl) rfl rfl rfl (qaq (vs := K.map b8) rfl SK.out rfl rfl (one8s _) (by rw [LK.out]; exact A1.out.there)) (qas hg _ _ hS) ?_
            replace hS := qas hg (K.map b8) 0 hS
            replace A1 := Lib.hid (A1.out.put (l' := K.map b8) LK.out)
            generalize wc18.setCells gA 0 (K.map b8) = wz at *
            refine qa6 (by kernel_rfl) ?_ _; refine NoPanic.normal ?_
            go_wp2_with fail
            go_meet
            exact ⟨gA, rfl, hM.out.add hS hg A1.out⟩
        · refine qco 8 rfl rfl rfl (qar (vs := z8 32) rfl (by kernel_rfl)) ?_; (try simp only [Act.put, lyy])
          have hb : Below wc3.heap.size wc3 (wc3.alloc (.cells (z8 32).toArray 23)) := (Below.refl _ _).alloc (Nat.le_refl _) _
          replace H1 := Lib.hid (H1.out.below hb)
          clear hb
          have hg := hS.size
          have A1 := Lib.hid (Arr.new wc3 (z8 32) 23)
          replace hS := hS.alloc hg (.cells (z8 32).toArray 23)
          generalize wc3.alloc (.cells (z8 32).toArray 23) = wa20 at *
          generalize wc3.heap.size = gA at *
          refine ⟨hS, ?_⟩
          refine qa4 4 (by kernel_rfl) rfl rfl rfl (qaj qb7 rfl rfl rfl) (qcr P0 _ lP) (fun v w h => hS.trans ((h.bl).mono hS.size)) (fun vc22 wc21 hR => ?_); (try simp only [Act.put, lyy])
          have hb := hR.bl
          have H2 := Lib.hid hR.sl
          clear hR
          replace hS := hS.trans (hb.mono hS.size)
          replace A1 := Lib.hid (A1.out.below hb)
          replace H1 := Lib.hid (H1.out.below hb)
          clear hb
          refine qa4 6 (by kernel_rfl) rfl rfl rfl (qbk qc8 rfl rfl rfl rfl rfl) (three_any _ F0 _ P0 _ b _ H1.out H2.out (HB.out.below (hM.out.below hS).bl) (by omega)) (fun v w h => hS.trans ((h.2).mono hS.size)) (fun vc24 wc23 hR => ?_); (try simp only [Act.put, lyy])
          obtain ⟨H3, hb⟩ := hR
          replace H3 := Lib.hid H3
          replace hS := hS.trans (hb.mono hS.size)
          replace A1 := Lib.hid (A1.out.below hb)
          replace H1 := Lib.hid (H1.out.below hb)
          replace H2 := Lib.hid (H2.out.below hb)
          clear hb
          refine qa4 7 (by kernel_rfl) rfl rfl rfl (qaj qcm rfl rfl rfl) (qbg (CK.out _ _ H3.out (HT.out.below (hM.out.below hS).bl))) (fun v w h => hS.trans ((h.2).mono hS.size)) (fun vc26 wc25 hR => ?_); (try simp only [Act.put, lyy])
          obtain ⟨rfl, hb⟩ := hR
          replace hS := hS.trans (hb.mono hS.size)
          replace A1 := Lib.hid (A1.out.below hb)
          replace H1 := Lib.hid (H1.out.below hb)
          replace H2 := Lib.hid (H2.out.below hb)
          replace H3 := Lib.hid (H3.out.below hb)
          clear hb
          refine qbc 9 (by kernel_rfl) rfl rfl rfl (qaq (vs := K.map b8) rfl SK.out rfl rfl (one8s _) (by rw [LK.out]; exact A1.out.there)) (qas hg _ _ hS) ?_
          replace hS := qas hg (K.map b8) 0 hS
          replace A1 := Lib.hid (A1.out.put (l' := K.map b8) LK.out)
          generalize wc25.setCells gA 0 (K.map b8) = wz at *
          refine qa6 (by kernel_rfl) ?_ _; refine NoPanic.normal ?_
          go_wp2_with fail
          go_meet
          exact ⟨gA, rfl, hM.out.add hS hg A1.out⟩
      · refine qco 8 rfl rfl rfl (qar (vs := z8 32) rfl (by kernel_rfl)) ?_; (try simp only [Act.put, lyy])
        have hb : Below wc1.heap.size wc1 (wc1.alloc (.cells (z8 32).toArray 23)) := (Below.refl _ _).alloc (Nat.le_refl _) _
        replace H1 := Lib.hid (H1.out.below hb)
        clear hb
        have hg := hS.size
        have A1 := Lib.hid (Arr.new wc1 (z8 32) 23)
        replace hS := hS.alloc hg (.cells (z8 32).toArray 23)
        generalize wc1.alloc (.cells (z8 32).toArray 23) = wa27 at *
        generalize wc1.heap.size = gA at *
        refine ⟨hS, ?_⟩
        refine qa4 3 (by kernel_rfl) rfl rfl rfl (qaj qc2 rfl rfl rfl) (qbg (CP.out _)) (fun v w h => hS.trans ((h.2).mono hS.size)) (fun vc29 wc28 hR => ?_); (try simp only [Act.put, lyy])
        obtain ⟨rfl, hb⟩ := hR
        replace hS := hS.trans (hb.mono hS.size)
        replace A1 := Lib.hid (A1.out.below hb)
        replace H1 := Lib.hid (H1.out.below hb)
        clear hb
        refine qa4 4 (by kernel_rfl) rfl rfl rfl (qaj qb7 rfl rfl rfl) (qcr P0 _ lP) (fun v w h => hS.trans ((h.bl).mono hS.size)) (fun vc31 wc30 hR => ?_); (try simp only [Act.put, lyy])
        have hb := hR.bl
        have H2 := Lib.hid hR.sl
        clear hR
        replace hS := hS.trans (hb.mono hS.size)
        replace A1 := Lib.hid (A1.out.below hb)
        replace H1 := Lib.hid (H1.out.below hb)
        clear hb
        refine qa4 6 (by kernel_rfl) rfl rfl rfl (qbk qc8 rfl rfl rfl rfl rfl) (three_any _ F0 _ P0 _ b _ H1.out H2.out (HB.out.below (hM.out.below hS).bl) (by omega)) (fun v w h => hS.trans ((h.2).mono hS.size)) (fun vc33 wc32 hR => ?_); (try simp only [Act.put, lyy])
        obtain ⟨H3, hb⟩ := hR
        replace H3 := Lib.hid H3
        replace hS := hS.trans (hb.mono hS.size)
        replace A1 := Lib.hid (A1.out.below hb)
        replace H1 := Lib.hid (H1.out.below hb)
        replace H2 := Lib.hid (H2.out.below hb)
        clear hb
        refine qa4 7 (by kernel_rfl) rfl rfl rfl (qaj qcm rfl rfl rfl) (qbg (CK.out _ _ H3.out (HT.out.below (hM.out.below hS).bl))) (fun v w h => hS.trans ((h.2).mono hS.size)) (fun vc35 wc34 hR => ?_); (try simp only [Act.put, lyy])
        obtain ⟨rfl, hb⟩ := hR
        replace hS := hS.trans (hb.mono hS.size)
        replace A1 := Lib.hid (A1.out.below hb)
        replace H1 := Lib.hid (H1.out.below hb)
        replace H2 := Lib.hid (H2.out.below hb)
        replace H3 := Lib.hid (H3.out.below hb)
        clear hb
        refine qbc 9 (by kernel_rfl) rfl rfl rfl (qaq (vs := K.map b8) rfl SK.out rfl rfl (one8s _) (by rw [LK.out]; exact A1.out.there)) (qas hg _ _ hS) ?_
        replace hS := qas hg (K.map b8) 0 hS
        replace A1 := Lib.hid (A1.out.put (l' := K.map b8) LK.out)
        generalize wc34.setCells gA 0 (K.map b8) = wz at *
        refine qa6 (by kernel_rfl) ?_ _; refine NoPanic.normal ?_
        go_wp2_with fail
        go_meet
        exact ⟨gA, rfl, hM.out.add hS hg A1.out⟩
    · refine qco 8 rfl rfl rfl (qar (vs := z8 32) rfl (by kernel_rfl)) ?_; (try simp only [Act.put, lyy])
      have hg := hS.size
      have A1 := Lib.hid (Arr.new d2.drew (z8 32) 23)
      replace hS := hS.alloc hg (.cells (z8 32).toArray 23)
      generalize d2.drew.alloc (.cells (z8 32).toArray 23) = wa36 at *
      generalize d2.drew.heap.size = gA at *
      refine ⟨hS, ?_⟩
      refine qa4 1 (by kernel_rfl) rfl rfl rfl (qaj qb7 rfl rfl rfl) (qcr F0 _ lF) (fun v w h => hS.trans ((h.bl).mono hS.size)) (fun vc38 wc37 hR => ?_); (try simp only [Act.put, lyy])
      have hb := hR.bl
      have H1 := Lib.hid hR.sl
      clear hR
      replace hS := hS.trans (hb.mono hS.size)
      replace A1 := Lib.hid (A1.out.below hb)
      clear hb
      refine qa4 3 (by kernel_rfl) rfl rfl rfl (qaj qc2 rfl rfl rfl) (qbg (CP.out _)) (fun v w h => hS.trans ((h.2).mono hS.size)) (fun vc40 wc39 hR => ?_); (try simp only [Act.put, lyy])
      obtain ⟨rfl, hb⟩ := hR
      replace hS := hS.trans (hb.mono hS.size)
      replace A1 := Lib.hid (A1.out.below hb)
      replace H1 := Lib.hid (H1.out.below hb)
      clear hb
      refine qa4 4 (by kernel_rfl) rfl rfl rfl (qaj qb7 rfl rfl rfl) (qcr P0 _ lP) (fun v w h => hS.trans ((h.bl).mono hS.size)) (fun vc42 wc41 hR => ?_); (try simp only [Act.put, lyy])
      have hb := hR.bl
      have H2 := Lib.hid hR.sl
      clear hR
      replace hS := hS.trans (hb.mono hS.size)
      replace A1 := Lib.hid (A1.out.below hb)
      replace H1 := Lib.hid (H1.out.below hb)
      clear hb
      refine qa4 6 (by kernel_rfl) rfl rfl rfl (qbk qc8 rfl rfl rfl rfl rfl) (three_any _ F0 _ P0 _ b _ H1.out H2.out (HB.out.below (hM.out.below hS).bl) (by omega)) (fun v w h => hS.trans ((h.2).mono hS.size)) (fun vc44 wc43 hR => ?_); (try simp only [Act.put, lyy])
      obtain ⟨H3, hb⟩ := hR
      replace H3 := Lib.hid H3
      replace hS := hS.trans (hb.mono hS.size)
      replace A1 := Lib.hid (A1.out.below hb)
      replace H1 := Lib.hid (H1.out.below hb)
      replace H2 := Lib.hid (H2.out.below hb)
      clear hb
      refine qa4 7 (by kernel_rfl) rfl rfl rfl (qaj qcm rfl rfl rfl) (qbg (CK.out _ _ H3.out (HT.out.below (hM.out.below hS).bl))) (fun v w h => hS.trans ((h.2).mono hS.size)) (fun vc46 wc45 hR => ?_); (try simp only [Act.put, lyy])
      obtain ⟨rfl, hb⟩ := hR
      replace hS := hS.trans (hb.mono hS.size)
      replace A1 := Lib.hid (A1.out.below hb)
      replace H1 := Lib.hid (H1.out.below hb)
      replace H2 := Lib.hid (H2.out.below hb)
      replace H3 := Lib.hid (H3.out.below hb)
      clear hb
      refine qbc 9 (by kernel_rfl) rfl rfl rfl (qaq (vs := K.map b8) rfl SK.out rfl rfl (one8s _) (by rw [LK.out]; exact A1.out.there)) (qas hg _ _ hS) ?_
      replace hS := qas hg (K.map b8) 0 hS
      replace A1 := Lib.hid (A1.out.put (l' := K.map b8) LK.out)
      generalize wc45.setCells gA 0 (K.map b8) = wz at *
      refine qa6 (by kernel_rfl) ?_ _; refine NoPanic.normal ?_
      go_wp2_with fail
      go_meet
      exact ⟨gA, rfl, hM.out.add hS hg A1.out⟩
  case rest =>
    obtain ⟨g6, rfl, hJ⟩ := hcut
    replace hM := Lib.hid hJ
    clear hJ
    generalize hw7 : wc = d3 at *
    clear hw7
    go_upto_region 6 with fail; refine wp_region_lit ?_
    refine qaa (qah (vs := K.map b8) rfl Tryz.underlying23 rfl SK.out rfl ((hM.out.get (i := 0) rfl).range)) rfl ?_; (try simp only [Act.put, lyy])
    refine qaa (qah (vs := A.map b8) rfl Tryz.underlying23 rfl SA.out rfl ((hM.out.get (i := 3) rfl).range)) rfl ?_; (try simp only [Act.put, lyy])
    refine qaa (qah (vs := R.map b8) rfl Tryz.underlying23 rfl SR.out rfl ((hM.out.get (i := 2) rfl).range)) rfl ?_; (try simp only [Act.put, lyy])
    refine qai (qbk enters_rmad rfl rfl rfl rfl rfl) rfl (CM.out _) (fun d4 hb => ?_); (try simp only [Act.put, lyy]); replace hM := Lib.hid (hM.out.below hb); clear hb
    refine qaa (qar (vs := z8 32) rfl (by kernel_rfl)) rfl ?_; (try simp only [Act.put, lyy]); replace hM := Lib.hid (hM.out.new (z8 32) 23); generalize d4.alloc (.cells (z8 32).toArray 23) = d5 at *; generalize d4.heap.size = g7 at *
    refine qae (qaq (vs := S0.map b8) rfl SS.out rfl rfl (one8s _) (by rw [LS.out]; exact (hM.out.get (i := 0) rfl).there)) rfl rfl ?_; replace hM := Lib.hid (hM.out.put 0 rfl (m := S0.map b8) (LS.out))
    refine qac ?_
    generalize d5.setCells g7 0 (S0.map b8) = d6 at *
    go_upto_region 7 with fail; refine wp_region_lit ?_
    refine qaa (run_bldW0 (cells := (z8 64).toArray) rfl (by kernel_rfl)) rfl ?_; (try simp only [Act.put, lyy])
    refine qaa (qar (vs := z8 64) rfl (by kernel_rfl)) rfl ?_; (try simp only [Act.put, lyy]); replace hM := Lib.hid (hM.out.new (z8 64) 28); generalize d6.alloc (.cells (z8 64).toArray 28) = d7 at *; generalize d6.heap.size = g8 at *
    refine qae (qaq (vs := z8 64) rfl szSz rfl rfl (one8s (List.replicate 64 0)) ((hM.out.get (i := 0) rfl).there)) rfl rfl ?_
    replace hM := Lib.hid (hM.out.put 0 rfl (m := z8 64) rfl)
    generalize d7.setCells g8 0 (z8 64) = d8 at *
    refine qac ?_
    rw [EZ.out] at hM
    clear EZ
    go_upto_region 8 with fail; refine wp_region_lit ?_
    refine qaa (qag (v := .int _ _) rfl rfl) rfl ?_; (try simp only [Act.put, lyy])
    refine qac ?_
    go_wp2_with fail
    go_loopw [13] (fun z u => ∃ n : Nat, n ≤ 32 ∧ z = .int .i64 (n : Int) ∧ Mv a5 [(g8, (mixB F0 Z n ++ mixB S0 Z n).map b8), (g7, S0.map b8), (g6, K.map b8), (g5, F0.map b8), (g4, R.map b8), (g3, A.map b8)] u) (fun z _ => (32 - intOf z).toNat)
    case atStart => exact ⟨0, by omega, rfl, hM.out⟩
    case round =>
      obtain ⟨n, hn, rfl, hJ⟩ := hrel
      replace hM := Lib.hid hJ
      clear hJ
      by_cases hlt : n = 32
      · subst hlt
        have hk1 : ¬ (((32 : Nat) : Int) < 32) := by omega
        rw [ED.out] at hM
        go_upto_region 13 with fail; refine wp_region_lit ?_
        refine qaa (qah (vs := G0.map b8) rfl Tryz.underlying28 rfl SG.out rfl ((hM.out.get (i := 0) rfl).range)) rfl ?_; (try simp only [Act.put, lyy])
        replace hM := Lib.hid (hM5.out.below hM.out.bl)
        refine qae (qaq (vs := G0.map b8) rfl SG.out rfl rfl (one8s _) (by rw [LG.out]; exact (hM.out.get (i := 0) rfl).there)) rfl rfl ?_; replace hM := Lib.hid (hM.out.put 0 rfl (m := G0.map b8) (LG.out))
        refine qac ?_; go_wp2_with fail; refine bodyPost_ret (v := .agg (G0.map b8).toArray) (qat Tryz.results8 rfl Tryz.underlying28 rfl SG.out (hM.out.get (i := 0) rfl).range) rfl ⟨rfl, hM.out.bl⟩
      · have hk1 : (n : Int) < 32 := by omega
        have hn2 : n < 32 := by omega
        have m1 := mixB_len (X := F0) (l := Z) (n := n) (by omega) (by omega)
        have m2 := mixB_len (X := S0) (l := Z) (n := n) (by omega) (by omega)
        rw [lZ] at m1 m2
        have n1 := mixB_set (X := F0) (l := Z) (n := n) (by omega) (by omega)
        have n2 := mixB_set (X := S0) (l := Z) (n := n) (by omega) (by omega)
        have NX := Lib.hid (two_set n1 n2 m1 hn2)
        have hl1 : (mixB F0 Z n ++ mixB S0 Z n).length = 64 := by rw [List.length_append, m1, m2]
        have hl2 : ((mixB F0 Z n ++ mixB S0 Z n).set n (F0.getD n 0)).length = 64 := by rw [List.length_set, hl1]
        have HL1 := Lib.hid (qa5 b8 0 (l := mixB F0 Z n ++ mixB S0 Z n) (i := n) (by omega))
        have HL2 := Lib.hid (qa5 b8 0 (l := (mixB F0 Z n ++ mixB S0 Z n).set n (F0.getD n 0)) (i := 32 + n) (by omega))
        have HB1 := Lib.hid (qa5 b8 0 (l := F0) (i := n) (by omega))
        have HB2 := Lib.hid (qa5 b8 0 (l := S0) (i := n) (by omega))
        have FL1 : Hid (n < ((mixB F0 Z n ++ mixB S0 Z n).map b8).length) := Lib.hid (by rw [List.length_map]; omega)
        have FL2 : Hid (32 + n < (((mixB F0 Z n ++ mixB S0 Z n).set n (F0.getD n 0)).map b8).length) := Lib.hid (by rw [List.length_map]; omega)
        clear n1 n2 m1 m2
        generalize hNn : mixB F0 Z (n + 1) ++ mixB S0 Z (n + 1) = FN at *
        have ENn := Lib.hid hNn
        clear hNn
        generalize mixB F0 Z n ++ mixB S0 Z n = Fn at *
        generalize F0.getD n 0 = x at *
        generalize S0.getD n 0 = y at *
        go_upto_region 11 with fail; refine wp_region_lit ?_
        refine qaa (qaf (v := .int _ _) rfl rfl) rfl ?_; (try simp only [Act.put, lyy]); refine qaa (qaf (v := .int _ _) rfl rfl) rfl ?_; (try simp only [Act.put, lyy])
        refine qaa (qay (i := n) rfl Tryz.underlying23 (by kernel_rfl) rfl rfl hn2) rfl ?_; (try simp only [Act.put, lyy])
        refine qaa (qby rfl rfl ((hM.out.get (i := 3) rfl).c _ _ HB1.out)) rfl ?_; (try simp only [Act.put, lyy])
        refine qaa (qay (i := n) rfl Tryz.underlying28 (by kernel_rfl) rfl rfl (by omega)) rfl ?_; (try simp only [Act.put, lyy])
        refine qae (qcl rfl rfl rfl ((hM.out.get (i := 0) rfl).c _ _ HL1.out) ((hM.out.get (i := 0) rfl).f _)) rfl rfl ?_
        refine qac ?_
        replace hM := Lib.hid (hM.out.set 0 rfl FL1.out (b8 x))
        rw [qbw] at hM
        generalize wr.setCell ⟨g8, n, none⟩ (b8 x) = e1 at *
        go_upto_region 12 with fail; refine wp_region_lit ?_
        refine qaa (qaf (v := .int _ _) rfl rfl) rfl ?_; (try simp only [Act.put, lyy])
        refine qaa (run_addN (a := 32) (b := n) rfl rfl rfl (by omega)) rfl ?_; (try simp only [Act.put, lyy])
        refine qaa (qaf (v := .int _ _) rfl rfl) rfl ?_; (try simp only [Act.put, lyy])
        refine qaa (qay (i := n) rfl Tryz.underlying23 (by kernel_rfl) rfl rfl hn2) rfl ?_; (try simp only [Act.put, lyy])
        refine qaa (qby rfl rfl ((hM.out.get (i := 1) rfl).c _ _ HB2.out)) rfl ?_; (try simp only [Act.put, lyy])
        refine qaa (qay (i := 32 + n) rfl Tryz.underlying28 (by kernel_rfl) rfl rfl (by omega)) rfl ?_; (try simp only [Act.put, lyy])
        refine qae (qcl rfl rfl rfl ((hM.out.get (i := 0) rfl).c _ _ HL2.out) ((hM.out.get (i := 0) rfl).f _)) rfl rfl ?_
        refine qac ?_
        replace hM := Lib.hid (hM.out.set 0 rfl FL2.out (b8 y))
        rw [qbw, NX.out] at hM
        generalize e1.setCell ⟨g8, 32 + n, none⟩ (b8 y) = e2 at *
        clear HL1 HL2 HB1 HB2 FL1 FL2 NX
        go_wp2_with fail
        exact ⟨⟨n + 1, by omega, by go_num, by rw [ENn.out]; exact hM.out⟩, by simp [intOf]; omega⟩
theorem enters_rsign : Enters 8 := qao Tryz.func8 (by kernel_rfl) rfl
end Go.Proofs.YtfdjmdfaidiliaaGreatDoor
namespace Go.Proofs.YtfdjmdfaidiliaaGreatDoor
open Go.RowKit
set_option maxRecDepth 20000
set_option maxHeartbeats 8000000 in
theorem signSigns_any (HP : PubC) (HS : SigC) (HV : VerC) (k : List (BitVec 8)) (vb : Value) (b : List (BitVec 8)) (w : World) (hk : k.length = 32) (hb : Sl vb b w) (hbl : b.length ≤ 140737488351232) (hW : W9 w) :
    Calls Tryz.prog 3 #[.agg (k.map b8).toArray, vb] w fun e w' => e = .returned (.bool true) ∧ Below w.heap.size w w' := by
  have HW := Lib.hid hW; clear hW
  have HB := Lib.hid hb
  obtain ⟨ab, cb, rfl, -, -⟩ := hb
  obtain ⟨P, hP⟩ : ∃ P, P = pubB k := ⟨_, rfl⟩
  obtain ⟨G, hG⟩ : ∃ G, G = sigB k b := ⟨_, rfl⟩
  have lP : P.length = 32 := by rw [hP]; exact pubB_len k
  have lG : G.length = 64 := by rw [hG]; exact sigB_len k b
  have CP : Hid (∀ u : World, W9 u → Calls Tryz.prog 5 #[.agg (k.map b8).toArray] u fun e w' => e = .returned (.agg (P.map b8).toArray) ∧ Below u.heap.size u w') := Lib.hid fun u h0 => by rw [hP]; exact HP k u hk h0
  have CQ : Hid (∀ u : World, W9 u → Calls Tryz.prog 6 #[.agg (k.map b8).toArray] u fun e w' => e = .returned (.agg (P.map b8).toArray) ∧ Below u.heap.size u w') := Lib.hid fun u h0 => by rw [hP]; exact rpublic_any k u hk h0.t
  have CS : Hid (∀ u : World, b.length ≤ 300 → Sl (.slice ab b.length cb) b u → W9 u → Calls Tryz.prog 7 #[.agg (k.map b8).toArray, .slice ab b.length cb] u fun e w' => e = .returned (.agg (G.map b8).toArray) ∧ Below u.heap.size u w') := Lib.hid fun u h0 h1 h2 => by rw [hG]; exact HS k _ b u hk h1 h0 h2
  have CR : Hid (∀ u : World, b.length ≤ 300 → Sl (.slice ab b.length cb) b u → W9 u → Calls Tryz.prog 8 #[.agg (k.map b8).toArray, .slice ab b.length cb] u fun e w' => e = .returned (.agg (G.map b8).toArray) ∧ Below u.heap.size u w') := Lib.hid fun u h0 h1 h2 => by rw [hG]; exact rsign_any k _ b u hk h1 (by omega) h2.t
  clear hP hG
  have SK := Lib.hid (szKy hk)
  have hM := Lib.hid (Mv.nil w)
  go_enter Tryz.func3, Tryz.ntmps3
  go_upto_region 0 with fail; refine wp_region_lit ?_
  refine qaa (qa9 (vs := k.map b8) rfl rfl) rfl ?_; (try simp only [Act.put, lyy]); replace hM := Lib.hid (hM.out.new (k.map b8) 23); generalize w.alloc (.cells (k.map b8).toArray 23) = a1 at *; generalize w.heap.size = g1 at *
  refine qaa (qag (v := .bool false) rfl rfl) rfl ?_; (try simp only [Act.put, lyy])
  refine qac ?_
  go_upto_region 1 with fail; refine wp_region_lit ?_
  refine qaa (qaf (v := .slice _ _ _) rfl rfl) rfl ?_; (try simp only [Act.put, lyy])
  refine qaa (qch rfl Tryz.underlying24 rfl) rfl ?_; (try simp only [Act.put, lyy])
  by_cases hlt : 300 < b.length
  · refine qaa (run_gtrb (c := true) rfl rfl rfl (decide_eq_true (by omega))) rfl ?_; (try simp only [Act.put, lyy])
    refine qaa (qaf (v := .bool true) rfl rfl) rfl ?_; (try simp only [Act.put, lyy])
    refine qca rfl ?_; (try simp only [Act.put, lyy])
    refine qca rfl ?_; (try simp only [Act.put, lyy])
    refine qaa (qcc (b := true) (v := .bool true) rfl rfl rfl) rfl ?_; (try simp only [Act.put, lyy])
    refine qac ?_
    go_upto_region 2 with fail; refine wp_region_lit ?_
    refine qai (qbz enters_known9 rfl rfl) rfl (known9_any HP HV _ (HW.out.below hM.out.bl)) (fun a3 hb3 => ?_); (try simp only [Act.put, lyy])
    refine qaa (qag (v := .bool true) rfl rfl) rfl ?_; (try simp only [Act.put, lyy])
    refine qac ?_
    replace hM := Lib.hid (hM.out.below hb3)
    go_wp2_with fail
    go_ret
    exact ⟨rfl, hM.out.bl⟩
  · refine qaa (run_gtrb (c := false) rfl rfl rfl (decide_eq_false (by omega))) rfl ?_; (try simp only [Act.put, lyy])
    refine qaa (qaf (v := .bool false) rfl rfl) rfl ?_; (try simp only [Act.put, lyy])
    refine wpList_enterG (qbz enters_known9 rfl rfl) rfl (known9_any HP HV _ (HW.out.below hM.out.bl)) (fun a3 hb3 => ?_); (try simp only [Act.put, lyy])
    replace hM := Lib.hid (hM.out.below hb3)
    clear hb3
    refine qbb (qcd rfl rfl) rfl ?_; (try simp only [Act.put, lyy])
    refine qaa (qcc (b := false) (v := .bool false) rfl rfl rfl) rfl ?_; (try simp only [Act.put, lyy])
    refine qac ?_
    go_upto_region 3 with fail
    refine wp_region_noPanic ?_; refine qbe (S := fun _ V => Below a3.heap.size a3 V) (by kernel_rfl) ((Below.refl _ _).drew) (fun hS => ?_)
    refine qal 0 rfl rfl (by kernel_rfl) (by kernel_rfl) (by kernel_rfl) (fun _ _ _ h => h) rfl (fun V hV => qah (vs := k.map b8) rfl Tryz.underlying23 rfl SK.out rfl (((hM.out.below hV).get (i := 0) rfl).range)) hS ?_; (try simp only [Act.put, lyy])
    refine qal 2 rfl rfl (by kernel_rfl) (by kernel_rfl) (by kernel_rfl) (fun _ _ _ h => h) rfl (fun V hV => qah (vs := k.map b8) rfl Tryz.underlying23 rfl SK.out rfl (((hM.out.below hV).get (i := 0) rfl).range)) hS ?_; (try simp only [Act.put, lyy])
    refine qa4 1 (by kernel_rfl) rfl rfl rfl (qaj enters_spublic rfl rfl rfl) (qbg (CP.out _ (HW.out.below (hM.out.below hS).bl))) (fun v w h => hS.trans (h.2.mono hS.size)) (fun v wl1 hR => ?_); (try simp only [Act.put, lyy]); obtain ⟨rfl, hb⟩ := hR; replace hS := hS.trans (hb.mono hS.size); clear hb
    refine qa4 3 (by kernel_rfl) rfl rfl rfl (qaj enters_rpublic rfl rfl rfl) (qbg (CQ.out _ (HW.out.below (hM.out.below hS).bl))) (fun v w h => hS.trans (h.2.mono hS.size)) (fun v wl2 hR => ?_); (try simp only [Act.put, lyy]); obtain ⟨rfl, hb⟩ := hR; replace hS := hS.trans (hb.mono hS.size); clear hb
    refine qal 4 rfl rfl (by kernel_rfl) (by kernel_rfl) (by kernel_rfl) (fun _ _ _ h => h) rfl (fun V hV => run_eqKyB (c := true) lP lP rfl rfl rfl (by simp)) hS ?_; (try simp only [Act.put, lyy])
    refine qal 5 rfl rfl (by kernel_rfl) (by kernel_rfl) (by kernel_rfl) (fun _ _ _ h => h) rfl (fun V hV => qaf (v := .bool true) rfl rfl) hS ?_; (try simp only [Act.put, lyy])
    refine qal 6 rfl rfl (by kernel_rfl) (by kernel_rfl) (by kernel_rfl) (fun _ _ _ h => h) rfl (fun V hV => qah (vs := k.map b8) rfl Tryz.underlying23 rfl SK.out rfl (((hM.out.below hV).get (i := 0) rfl).range)) hS ?_; (try simp only [Act.put, lyy])
    refine qal 7 rfl rfl (by kernel_rfl) (by kernel_rfl) (by kernel_rfl) (fun _ _ _ h => h) rfl (fun V hV => qaf (v := .slice ab b.length cb) rfl rfl) hS ?_; (try simp only [Act.put, lyy])
    refine qal 9 rfl rfl (by kernel_rfl) (by kernel_rfl) (by kernel_rfl) (fun _ _ _ h => h) rfl (fun V hV => qah (vs := k.map b8) rfl Tryz.underlying23 rfl SK.out rfl (((hM.out.below hV).get (i := 0) rfl).range)) hS ?_; (try simp only [Act.put, lyy])
    refine qal 10 rfl rfl (by kernel_rfl) (by kernel_rfl) (by kernel_rfl) (fun _ _ _ h => h) rfl (fun V hV => qaf (v := .slice ab b.length cb) rfl rfl) hS ?_; (try simp only [Act.put, lyy])
    refine qa4 8 (by kernel_rfl) rfl rfl rfl (qam enters_ssign rfl rfl rfl rfl) (qbg (CS.out _ (by omega) (HB.out.below (hM.out.below hS).bl) (HW.out.below (hM.out.below hS).bl))) (fun v w h => hS.trans (h.2.mono hS.size)) (fun v wl3 hR => ?_); (try simp only [Act.put, lyy]); obtain ⟨rfl, hb⟩ := hR; replace hS := hS.trans (hb.mono hS.size); clear hb
    refine qa4 11 (by kernel_rfl) rfl rfl rfl (qam enters_rsign rfl rfl rfl rfl) (qbg (CR.out _ (by omega) (HB.out.below (hM.out.below hS).bl) (HW.out.below (hM.out.below hS).bl))) (fun v w h => hS.trans (h.2.mono hS.size)) (fun v wl4 hR => ?_); (try simp only [Act.put, lyy]); obtain ⟨rfl, hb⟩ := hR; replace hS := hS.trans (hb.mono hS.size); clear hb
    refine qal 12 rfl rfl (by kernel_rfl) (by kernel_rfl) (by kernel_rfl) (fun _ _ _ h => h) rfl (fun V hV => run_eqSgB (c := true) lG lG rfl rfl rfl (by simp)) hS ?_; (try simp only [Act.put, lyy])
    refine qal 13 rfl rfl (by kernel_rfl) (by kernel_rfl) (by kernel_rfl) (fun _ _ _ h => h) rfl (fun V hV => qcc (b := true) (v := .bool true) rfl rfl rfl) hS ?_; (try simp only [Act.put, lyy])
    refine qal 14 rfl rfl (by kernel_rfl) (by kernel_rfl) (by kernel_rfl) (fun _ _ _ h => h) rfl (fun V hV => qag (v := .bool true) rfl rfl) hS ?_; (try simp only [Act.put, lyy])
    refine qa6 (by kernel_rfl) ?_ _; refine NoPanic.normal ?_
    replace hM := Lib.hid (hM.out.below hS)
    go_wp2_with fail
    go_ret
    exact ⟨rfl, hM.out.bl⟩
end Go.Proofs.YtfdjmdfaidiliaaGreatDoor
