/- Slices of whole numbers; what keywardref08's order, below and less answer. -/
import Derived.Test.YtefaihdhnnldmaaDoorGenA
import Derived.Test.YtefaihdhnnldmaaDoorScMath
namespace Go.Proofs.YtefaihdhnnldmaaDoor
open Go.RowKit
set_option maxRecDepth 20000

def iN (n : Nat) : Value := .int .i64 (n : Int)
/-- v is a slice that reads l. -/
def Rd (v : Value) (l : List Nat) (u : World) : Prop := ∃ g f c, v = .slice (some ⟨g, f, none⟩) l.length c ∧ g < u.heap.size ∧ u.rangeAt g f (l.map iN)
theorem Rd.below {v : Value} {l : List Nat} {u u' : World} (h : Rd v l u) (hb : Below u.heap.size u u') : Rd v l u' := by
  obtain ⟨g, f, c, h1, h2, h3⟩ := h
  exact ⟨g, f, c, h1, Nat.lt_of_lt_of_le h2 hb.size, rangeAt_below h3 h2 hb⟩
theorem rd_cell {g f : Nat} {l : List Nat} {u : World} (h : u.rangeAt g f (l.map iN)) {i : Nat} (hi : i < l.length) : u.cell? ⟨g, f + i, none⟩ = some (iN (l.getD i 0)) := h i _ (get_map iN 0 hi)
/-- A slice that grows by append, in memory laid since r. -/
structure Io (r : World) (v : Value) (l : List Nat) (u : World) : Prop where
  bl : Below r.heap.size r u
  O : u.ownsRow r.heap.size 3 1 v l.length (l.map iN)
theorem Io.below {r u u' : World} {v : Value} {l : List Nat} (i : Io r v l u) (hb : Below u.heap.size u u') : Io r v l u' := ⟨i.bl.trans (hb.mono i.bl.size), own_below i.O hb⟩
theorem Io.none (r : World) : Io r (.slice none 0 0) [] r := ⟨Below.refl _ _, ⟨rfl, .inl ⟨rfl, rfl⟩⟩⟩
theorem Io.mono {r r' u : World} {v : Value} {l : List Nat} (i : Io r' v l u) (hb : Below r.heap.size r r') : Io r v l u := ⟨hb.trans (i.bl.mono hb.size), own_mono i.O hb.size⟩
/-- A slice in a block of its own, that may be written. -/
structure Is (r : World) (v : Value) (l : List Nat) (u : World) : Prop where
  bl : Below r.heap.size r u
  ex : ∃ g c rest, v = .slice (some ⟨g, 0, none⟩) l.length c ∧ r.heap.size ≤ g ∧ Arr g (l.map iN ++ rest) u
theorem Io.is {r u : World} {v : Value} {l : List Nat} (i : Io r v l u) (hl : l ≠ []) : Is r v l u := by
  refine ⟨i.bl, ?_⟩
  rcases i.O.2 with ⟨_, hn⟩ | ⟨g, cap, cur, rfl, hb, hg, h1, h2, h3, h4⟩
  · exact absurd (List.eq_nil_of_length_eq_zero hn) hl
  · refine ⟨g, cap, (cur.toList.drop (l.map iN).length), rfl, hb, (Array.getElem?_eq_some_iff.1 hg).1, fun j v hv => ?_, fun j => by simp [World.frozen?, hg]⟩
    have e : l.map iN ++ cur.toList.drop (l.map iN).length = cur.toList := by
      rw [← h4]
      rw [show (cur.toList.take (l.length * 1)).length = l.length * 1 by rw [List.length_take]; simp; omega, List.take_append_drop]
    rw [e] at hv
    simp only [World.cell?, hg]
    simpa using hv
theorem Is.below {r u u' : World} {v : Value} {l : List Nat} (i : Is r v l u) (hb : Below u.heap.size u u') : Is r v l u' := by
  obtain ⟨g, c, rest, h1, h2, h3⟩ := i.ex
  exact ⟨i.bl.trans (hb.mono i.bl.size), g, c, rest, h1, h2, h3.below hb⟩
theorem Is.mono {r r' u : World} {v : Value} {l : List Nat} (i : Is r' v l u) (hb : Below r.heap.size r r') : Is r v l u := by
  obtain ⟨g, c, rest, h1, h2, h3⟩ := i.ex
  exact ⟨hb.trans (i.bl.mono hb.size), g, c, rest, h1, Nat.le_trans hb.size h2, h3⟩
theorem Is.rd {r u : World} {v : Value} {l : List Nat} (i : Is r v l u) : Rd v l u := by
  obtain ⟨g, c, rest, h1, h2, h3⟩ := i.ex
  refine ⟨g, 0, c, h1, h3.lt, fun j x hx => h3.range j x ?_⟩
  rw [List.getElem?_append_left (by
    rcases Nat.lt_or_ge j (l.map iN).length with h | h
    · exact h
    · rw [List.getElem?_eq_none h] at hx; cases hx)]
  exact hx
theorem Io.rd {r u : World} {v : Value} {l : List Nat} (i : Io r v l u) (hl : l ≠ []) : Rd v l u := (i.is hl).rd

theorem ob_low : ∀ i, i < 16 → (obL.take 16).getD i 0 = obL.getD i 0 := by decide
theorem ob_zero {i : Nat} (h1 : ¬ i < 16) (h2 : i ≠ 31) : obL.getD i 0 = 0 := by
  by_cases h : i < 33
  · have : ∀ i, i < 33 → ¬ i < 16 → i ≠ 31 → obL.getD i 0 = 0 := by decide
    exact this i h h1 h2
  · rw [List.getD_eq_getElem?_getD, List.getElem?_eq_none (by rw [obL_len]; omega)]; rfl
set_option maxHeartbeats 4000000 in
theorem order_any (i : Nat) (w : World) : Calls Tryd.prog 31 #[.int .i64 (i : Int)] w fun e w' => e = .returned (.int .i64 ((obL.getD i 0 : Nat) : Int)) ∧ Below w.heap.size w w' := by
  have H1 : Hid (i < 16 → (obL.take 16).getD i 0 = obL.getD i 0) := Lib.hid (ob_low i)
  have H2 : Hid (¬ i < 16 → i ≠ 31 → obL.getD i 0 = 0) := Lib.hid ob_zero
  have H3 : Hid (i = 31 → obL.getD i 0 = 16) := Lib.hid (by rintro rfl; rfl)
  generalize obL.getD i 0 = ob at *
  obtain ⟨L, hL⟩ : ∃ L, L = obL.take 16 := ⟨_, rfl⟩
  have hLl : L.length = 16 := by rw [hL]; rfl
  have HF : Hid (∀ ρ : Operand → Value, (∀ c, ρ (.const c) = c) → Instr.fill (fun i => some (i * 1, 1)) ((Array.range (16 * 1)).map ((Value.int .i64 0).cells[· % (Value.int .i64 0).cells.size]!)) ((#[(0, .const (.int .i64 237)), (1, .const (.int .i64 211)), (2, .const (.int .i64 245)), (3, .const (.int .i64 92)), (4, .const (.int .i64 26)), (5, .const (.int .i64 99)), (6, .const (.int .i64 18)), (7, .const (.int .i64 88)), (8, .const (.int .i64 214)), (9, .const (.int .i64 156)), (10, .const (.int .i64 247)), (11, .const (.int .i64 162)), (12, .const (.int .i64 222)), (13, .const (.int .i64 249)), (14, .const (.int .i64 222)), (15, .const (.int .i64 20))] : Array (Nat × Operand)).map fun (i, x) => (i, ρ x)).toList = some (L.map iN).toArray) := Lib.hid fun ρ hρ => by
    rw [hL]
    simp only [List.map_toArray, List.map_cons, List.map_nil, hρ]
    kernel_rfl
  rw [← hL] at H1
  clear hL
  go_enter Tryd.func31, Tryd.ntmps31
  go_upto_region 0 with fail; refine wp_region_lit ?_
  (repeat ((first | refine wpList_val (run_mv (v := b32 _) rfl rfl) rfl ?_ | refine wpList_val (run_mv (v := b64 _) rfl rfl) rfl ?_ | refine wpList_val (run_mv (v := b8 _) rfl rfl) rfl ?_ | refine wpList_val (run_mv (v := .int _ _) rfl rfl) rfl ?_ | refine wpList_val (run_mv (v := .bool _) rfl rfl) rfl ?_ | refine wpList_val (run_mv (v := .slice (some _) _ _) rfl rfl) rfl ?_ | refine wpList_val (run_mv (v := .slice _ _ _) rfl rfl) rfl ?_ | refine wpList_val (run_mv (v := .pointer (some _)) rfl rfl) rfl ?_ | refine wpList_val (run_mv (v := .agg _) rfl rfl) rfl ?_ | refine wpList_val (run_asg (v := b32 _) rfl rfl) rfl ?_ | refine wpList_val (run_asg (v := b64 _) rfl rfl) rfl ?_ | refine wpList_val (run_asg (v := b8 _) rfl rfl) rfl ?_ | refine wpList_val (run_asg (v := .int _ _) rfl rfl) rfl ?_ | refine wpList_val (run_asg (v := .bool _) rfl rfl) rfl ?_ | refine wpList_val (run_asg (v := .slice (some _) _ _) rfl rfl) rfl ?_ | refine wpList_val (run_asg (v := .slice _ _ _) rfl rfl) rfl ?_ | refine wpList_val (run_asg (v := .pointer (some _)) rfl rfl) rfl ?_ | refine wpList_val (run_asg (v := .agg _) rfl rfl) rfl ?_ | refine wpList_val (run_mv rfl rfl) rfl ?_ | refine wpList_val (run_asg rfl rfl) rfl ?_ | refine wpList_val (run_xor32 rfl rfl rfl) rfl ?_ | refine wpList_val (run_and32 rfl rfl rfl) rfl ?_ | refine wpList_val (run_or32 rfl rfl rfl) rfl ?_ | refine wpList_val (run_add32 rfl rfl rfl) rfl ?_ | refine wpList_val (run_not32 rfl rfl) rfl ?_ | refine wpList_val (run_xor64 rfl rfl rfl) rfl ?_ | refine wpList_val (run_and64 rfl rfl rfl) rfl ?_ | refine wpList_val (run_or64 rfl rfl rfl) rfl ?_ | refine wpList_val (run_add64 rfl rfl rfl) rfl ?_ | refine wpList_val (run_not64 rfl rfl) rfl ?_ | refine wpList_val (run_xor8 rfl rfl rfl) rfl ?_ | refine wpList_val (run_and8 rfl rfl rfl) rfl ?_ | refine wpList_val (run_or8 rfl rfl rfl) rfl ?_ | refine wpList_val (run_add8 rfl rfl rfl) rfl ?_ | refine wpList_val (run_not8 rfl rfl) rfl ?_ | refine wpList_val (run_cv64_32 rfl rfl) rfl ?_ | refine wpList_val (run_cv8_32 rfl rfl) rfl ?_ | refine wpList_val (run_cv8_64 rfl rfl) rfl ?_ | refine wpList_val (run_cv32_8 rfl rfl) rfl ?_ | refine wpList_val (run_cv64_8 rfl rfl) rfl ?_); (try simp only [Act.put, List.setIfInBounds_toArray, List.set_cons_zero, List.set_cons_succ])))
  refine wpList_end ?_
  go_upto_region 1 with fail; refine wp_region_lit ?_
  refine wpList_val (run_bsl (cells := (L.map iN).toArray) (z := .int .i64 0) rfl Tryd.underlying55 (by kernel_rfl) (by omega) (by omega) (HF.out _ (fun _ => rfl))) rfl ?_; (try simp only [Act.put, List.setIfInBounds_toArray, List.set_cons_zero, List.set_cons_succ])
  have HA := Lib.hid (Arr.new w (L.map iN) 3)
  have bl : Below w.heap.size w (w.alloc (.cells (L.map iN).toArray 3)) := (Below.refl _ _).alloc (Nat.le_refl _) _
  generalize w.alloc (.cells (L.map iN).toArray 3) = u0 at *
  clear HF
  (repeat ((first | refine wpList_val (run_mv (v := b32 _) rfl rfl) rfl ?_ | refine wpList_val (run_mv (v := b64 _) rfl rfl) rfl ?_ | refine wpList_val (run_mv (v := b8 _) rfl rfl) rfl ?_ | refine wpList_val (run_mv (v := .int _ _) rfl rfl) rfl ?_ | refine wpList_val (run_mv (v := .bool _) rfl rfl) rfl ?_ | refine wpList_val (run_mv (v := .slice (some _) _ _) rfl rfl) rfl ?_ | refine wpList_val (run_mv (v := .slice _ _ _) rfl rfl) rfl ?_ | refine wpList_val (run_mv (v := .pointer (some _)) rfl rfl) rfl ?_ | refine wpList_val (run_mv (v := .agg _) rfl rfl) rfl ?_ | refine wpList_val (run_asg (v := b32 _) rfl rfl) rfl ?_ | refine wpList_val (run_asg (v := b64 _) rfl rfl) rfl ?_ | refine wpList_val (run_asg (v := b8 _) rfl rfl) rfl ?_ | refine wpList_val (run_asg (v := .int _ _) rfl rfl) rfl ?_ | refine wpList_val (run_asg (v := .bool _) rfl rfl) rfl ?_ | refine wpList_val (run_asg (v := .slice (some _) _ _) rfl rfl) rfl ?_ | refine wpList_val (run_asg (v := .slice _ _ _) rfl rfl) rfl ?_ | refine wpList_val (run_asg (v := .pointer (some _)) rfl rfl) rfl ?_ | refine wpList_val (run_asg (v := .agg _) rfl rfl) rfl ?_ | refine wpList_val (run_mv rfl rfl) rfl ?_ | refine wpList_val (run_asg rfl rfl) rfl ?_ | refine wpList_val (run_xor32 rfl rfl rfl) rfl ?_ | refine wpList_val (run_and32 rfl rfl rfl) rfl ?_ | refine wpList_val (run_or32 rfl rfl rfl) rfl ?_ | refine wpList_val (run_add32 rfl rfl rfl) rfl ?_ | refine wpList_val (run_not32 rfl rfl) rfl ?_ | refine wpList_val (run_xor64 rfl rfl rfl) rfl ?_ | refine wpList_val (run_and64 rfl rfl rfl) rfl ?_ | refine wpList_val (run_or64 rfl rfl rfl) rfl ?_ | refine wpList_val (run_add64 rfl rfl rfl) rfl ?_ | refine wpList_val (run_not64 rfl rfl) rfl ?_ | refine wpList_val (run_xor8 rfl rfl rfl) rfl ?_ | refine wpList_val (run_and8 rfl rfl rfl) rfl ?_ | refine wpList_val (run_or8 rfl rfl rfl) rfl ?_ | refine wpList_val (run_add8 rfl rfl rfl) rfl ?_ | refine wpList_val (run_not8 rfl rfl) rfl ?_ | refine wpList_val (run_cv64_32 rfl rfl) rfl ?_ | refine wpList_val (run_cv8_32 rfl rfl) rfl ?_ | refine wpList_val (run_cv8_64 rfl rfl) rfl ?_ | refine wpList_val (run_cv32_8 rfl rfl) rfl ?_ | refine wpList_val (run_cv64_8 rfl rfl) rfl ?_); (try simp only [Act.put, List.setIfInBounds_toArray, List.set_cons_zero, List.set_cons_succ])))
  refine wpList_end ?_
  by_cases h16 : i < 16
  · have hk : (i : Int) < 16 := by omega
    have e := H1.out h16
    go_upto_region 3 with fail; refine wp_region_lit ?_
    (repeat ((first | refine wpList_val (run_mv (v := b32 _) rfl rfl) rfl ?_ | refine wpList_val (run_mv (v := b64 _) rfl rfl) rfl ?_ | refine wpList_val (run_mv (v := b8 _) rfl rfl) rfl ?_ | refine wpList_val (run_mv (v := .int _ _) rfl rfl) rfl ?_ | refine wpList_val (run_mv (v := .bool _) rfl rfl) rfl ?_ | refine wpList_val (run_mv (v := .slice (some _) _ _) rfl rfl) rfl ?_ | refine wpList_val (run_mv (v := .slice _ _ _) rfl rfl) rfl ?_ | refine wpList_val (run_mv (v := .pointer (some _)) rfl rfl) rfl ?_ | refine wpList_val (run_mv (v := .agg _) rfl rfl) rfl ?_ | refine wpList_val (run_asg (v := b32 _) rfl rfl) rfl ?_ | refine wpList_val (run_asg (v := b64 _) rfl rfl) rfl ?_ | refine wpList_val (run_asg (v := b8 _) rfl rfl) rfl ?_ | refine wpList_val (run_asg (v := .int _ _) rfl rfl) rfl ?_ | refine wpList_val (run_asg (v := .bool _) rfl rfl) rfl ?_ | refine wpList_val (run_asg (v := .slice (some _) _ _) rfl rfl) rfl ?_ | refine wpList_val (run_asg (v := .slice _ _ _) rfl rfl) rfl ?_ | refine wpList_val (run_asg (v := .pointer (some _)) rfl rfl) rfl ?_ | refine wpList_val (run_asg (v := .agg _) rfl rfl) rfl ?_ | refine wpList_val (run_mv rfl rfl) rfl ?_ | refine wpList_val (run_asg rfl rfl) rfl ?_ | refine wpList_val (run_xor32 rfl rfl rfl) rfl ?_ | refine wpList_val (run_and32 rfl rfl rfl) rfl ?_ | refine wpList_val (run_or32 rfl rfl rfl) rfl ?_ | refine wpList_val (run_add32 rfl rfl rfl) rfl ?_ | refine wpList_val (run_not32 rfl rfl) rfl ?_ | refine wpList_val (run_xor64 rfl rfl rfl) rfl ?_ | refine wpList_val (run_and64 rfl rfl rfl) rfl ?_ | refine wpList_val (run_or64 rfl rfl rfl) rfl ?_ | refine wpList_val (run_add64 rfl rfl rfl) rfl ?_ | refine wpList_val (run_not64 rfl rfl) rfl ?_ | refine wpList_val (run_xor8 rfl rfl rfl) rfl ?_ | refine wpList_val (run_and8 rfl rfl rfl) rfl ?_ | refine wpList_val (run_or8 rfl rfl rfl) rfl ?_ | refine wpList_val (run_add8 rfl rfl rfl) rfl ?_ | refine wpList_val (run_not8 rfl rfl) rfl ?_ | refine wpList_val (run_cv64_32 rfl rfl) rfl ?_ | refine wpList_val (run_cv8_32 rfl rfl) rfl ?_ | refine wpList_val (run_cv8_64 rfl rfl) rfl ?_ | refine wpList_val (run_cv32_8 rfl rfl) rfl ?_ | refine wpList_val (run_cv64_8 rfl rfl) rfl ?_); (try simp only [Act.put, List.setIfInBounds_toArray, List.set_cons_zero, List.set_cons_succ])))
    refine wpList_val (run_ixs (i := i) rfl Tryd.underlying55 (by kernel_rfl) rfl rfl h16) rfl ?_; (try simp only [Act.put, List.setIfInBounds_toArray, List.set_cons_zero, List.set_cons_succ])
    refine wpList_val (run_ldi rfl rfl (rd_cell HA.out.range (by omega))) rfl ?_; (try simp only [Act.put, List.setIfInBounds_toArray, List.set_cons_zero, List.set_cons_succ])
    rw [e]
    refine wpList_val (run_asg (v := .int .i64 (ob : Int)) rfl rfl) rfl ?_; (try simp only [Act.put, List.setIfInBounds_toArray, List.set_cons_zero, List.set_cons_succ])
    refine wpList_end ?_
    go_wp2_with fail
    go_ret
    exact ⟨rfl, bl⟩
  · have hk : ¬ (i : Int) < 16 := by omega
    by_cases h31 : i = 31
    · have hk2 : (i : Int) = 31 := by omega
      have e := H3.out h31
      subst e
      go_upto_region 5 with fail; refine wp_region_lit ?_
      (repeat ((first | refine wpList_val (run_mv (v := b32 _) rfl rfl) rfl ?_ | refine wpList_val (run_mv (v := b64 _) rfl rfl) rfl ?_ | refine wpList_val (run_mv (v := b8 _) rfl rfl) rfl ?_ | refine wpList_val (run_mv (v := .int _ _) rfl rfl) rfl ?_ | refine wpList_val (run_mv (v := .bool _) rfl rfl) rfl ?_ | refine wpList_val (run_mv (v := .slice (some _) _ _) rfl rfl) rfl ?_ | refine wpList_val (run_mv (v := .slice _ _ _) rfl rfl) rfl ?_ | refine wpList_val (run_mv (v := .pointer (some _)) rfl rfl) rfl ?_ | refine wpList_val (run_mv (v := .agg _) rfl rfl) rfl ?_ | refine wpList_val (run_asg (v := b32 _) rfl rfl) rfl ?_ | refine wpList_val (run_asg (v := b64 _) rfl rfl) rfl ?_ | refine wpList_val (run_asg (v := b8 _) rfl rfl) rfl ?_ | refine wpList_val (run_asg (v := .int _ _) rfl rfl) rfl ?_ | refine wpList_val (run_asg (v := .bool _) rfl rfl) rfl ?_ | refine wpList_val (run_asg (v := .slice (some _) _ _) rfl rfl) rfl ?_ | refine wpList_val (run_asg (v := .slice _ _ _) rfl rfl) rfl ?_ | refine wpList_val (run_asg (v := .pointer (some _)) rfl rfl) rfl ?_ | refine wpList_val (run_asg (v := .agg _) rfl rfl) rfl ?_ | refine wpList_val (run_mv rfl rfl) rfl ?_ | refine wpList_val (run_asg rfl rfl) rfl ?_ | refine wpList_val (run_xor32 rfl rfl rfl) rfl ?_ | refine wpList_val (run_and32 rfl rfl rfl) rfl ?_ | refine wpList_val (run_or32 rfl rfl rfl) rfl ?_ | refine wpList_val (run_add32 rfl rfl rfl) rfl ?_ | refine wpList_val (run_not32 rfl rfl) rfl ?_ | refine wpList_val (run_xor64 rfl rfl rfl) rfl ?_ | refine wpList_val (run_and64 rfl rfl rfl) rfl ?_ | refine wpList_val (run_or64 rfl rfl rfl) rfl ?_ | refine wpList_val (run_add64 rfl rfl rfl) rfl ?_ | refine wpList_val (run_not64 rfl rfl) rfl ?_ | refine wpList_val (run_xor8 rfl rfl rfl) rfl ?_ | refine wpList_val (run_and8 rfl rfl rfl) rfl ?_ | refine wpList_val (run_or8 rfl rfl rfl) rfl ?_ | refine wpList_val (run_add8 rfl rfl rfl) rfl ?_ | refine wpList_val (run_not8 rfl rfl) rfl ?_ | refine wpList_val (run_cv64_32 rfl rfl) rfl ?_ | refine wpList_val (run_cv8_32 rfl rfl) rfl ?_ | refine wpList_val (run_cv8_64 rfl rfl) rfl ?_ | refine wpList_val (run_cv32_8 rfl rfl) rfl ?_ | refine wpList_val (run_cv64_8 rfl rfl) rfl ?_); (try simp only [Act.put, List.setIfInBounds_toArray, List.set_cons_zero, List.set_cons_succ])))
      refine wpList_end ?_
      go_wp2_with fail
      go_ret
      exact ⟨rfl, bl⟩
    · have hk2 : ¬ (i : Int) = 31 := by omega
      have e := H2.out h16 h31
      subst e
      go_upto_region 6 with fail; refine wp_region_lit ?_
      (repeat ((first | refine wpList_val (run_mv (v := b32 _) rfl rfl) rfl ?_ | refine wpList_val (run_mv (v := b64 _) rfl rfl) rfl ?_ | refine wpList_val (run_mv (v := b8 _) rfl rfl) rfl ?_ | refine wpList_val (run_mv (v := .int _ _) rfl rfl) rfl ?_ | refine wpList_val (run_mv (v := .bool _) rfl rfl) rfl ?_ | refine wpList_val (run_mv (v := .slice (some _) _ _) rfl rfl) rfl ?_ | refine wpList_val (run_mv (v := .slice _ _ _) rfl rfl) rfl ?_ | refine wpList_val (run_mv (v := .pointer (some _)) rfl rfl) rfl ?_ | refine wpList_val (run_mv (v := .agg _) rfl rfl) rfl ?_ | refine wpList_val (run_asg (v := b32 _) rfl rfl) rfl ?_ | refine wpList_val (run_asg (v := b64 _) rfl rfl) rfl ?_ | refine wpList_val (run_asg (v := b8 _) rfl rfl) rfl ?_ | refine wpList_val (run_asg (v := .int _ _) rfl rfl) rfl ?_ | refine wpList_val (run_asg (v := .bool _) rfl rfl) rfl ?_ | refine wpList_val (run_asg (v := .slice (some _) _ _) rfl rfl) rfl ?_ | refine wpList_val (run_asg (v := .slice _ _ _) rfl rfl) rfl ?_ | refine wpList_val (run_asg (v := .pointer (some _)) rfl rfl) rfl ?_ | refine wpList_val (run_asg (v := .agg _) rfl rfl) rfl ?_ | refine wpList_val (run_mv rfl rfl) rfl ?_ | refine wpList_val (run_asg rfl rfl) rfl ?_ | refine wpList_val (run_xor32 rfl rfl rfl) rfl ?_ | refine wpList_val (run_and32 rfl rfl rfl) rfl ?_ | refine wpList_val (run_or32 rfl rfl rfl) rfl ?_ | refine wpList_val (run_add32 rfl rfl rfl) rfl ?_ | refine wpList_val (run_not32 rfl rfl) rfl ?_ | refine wpList_val (run_xor64 rfl rfl rfl) rfl ?_ | refine wpList_val (run_and64 rfl rfl rfl) rfl ?_ | refine wpList_val (run_or64 rfl rfl rfl) rfl ?_ | refine wpList_val (run_add64 rfl rfl rfl) rfl ?_ | refine wpList_val (run_not64 rfl rfl) rfl ?_ | refine wpList_val (run_xor8 rfl rfl rfl) rfl ?_ | refine wpList_val (run_and8 rfl rfl rfl) rfl ?_ | refine wpList_val (run_or8 rfl rfl rfl) rfl ?_ | refine wpList_val (run_add8 rfl rfl rfl) rfl ?_ | refine wpList_val (run_not8 rfl rfl) rfl ?_ | refine wpList_val (run_cv64_32 rfl rfl) rfl ?_ | refine wpList_val (run_cv8_32 rfl rfl) rfl ?_ | refine wpList_val (run_cv8_64 rfl rfl) rfl ?_ | refine wpList_val (run_cv32_8 rfl rfl) rfl ?_ | refine wpList_val (run_cv64_8 rfl rfl) rfl ?_); (try simp only [Act.put, List.setIfInBounds_toArray, List.set_cons_zero, List.set_cons_succ])))
      refine wpList_end ?_
      go_wp2_with fail
      go_ret
      exact ⟨rfl, bl⟩
theorem enters_order : Enters 31 := enters_of Tryd.func31 (by kernel_rfl) rfl
end Go.Proofs.YtefaihdhnnldmaaDoor
