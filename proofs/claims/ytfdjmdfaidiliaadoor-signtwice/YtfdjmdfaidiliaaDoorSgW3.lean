/- What sign's Verify answers. -/
import Derived.Test.YtfdjmdfaidiliaaDoorS5
import Derived.Test.YtfdjmdfaidiliaaDoorGenA
import Derived.Lib.AppendZeros
import Derived.Test.YtfdjmdfaidiliaaDoorSgCon
import Derived.Test.YtfdjmdfaidiliaaDoorScApi
import Derived.Test.YtfdjmdfaidiliaaDoorEdEnc
import Derived.Test.YtfdjmdfaidiliaaDoorClampB
import Derived.Test.YtfdjmdfaidiliaaDoorLateD
import Derived.Test.YtfdjmdfaidiliaaDoorEdDec2
import Derived.Test.YtfdjmdfaidiliaaDoorEdEq
namespace Go.Proofs.YtfdjmdfaidiliaaDoor
open Go.RowKit
set_option maxRecDepth 20000

theorem sl_own {g n : Nat} {l : List (BitVec 8)} {u : World} (h : Arr g (l.map b8) u) (hl : l.length = n) : Sl (.slice (some ⟨g, 0, none⟩) n n) l u := by
  subst hl; exact Sl.arr h (Nat.le_refl _)
theorem sl_nil (u : World) : Sl (.slice none 0 0) [] u := ⟨none, 0, rfl, Nat.le_refl _, fun h => absurd rfl h⟩
theorem row_const (w : World) (l : List (BitVec 8)) (n : Nat) (m : Nat × Nat) (hn : l.length = n) : Sl (.slice (some ⟨w.heap.size, 0, none⟩) n n) l (w.alloc (.cells (l.map b8).toArray 5 m)) := by
  refine ⟨_, n, by rw [hn], by omega, fun _ => ⟨w.heap.size, 0, rfl, by simp, fun j v hv => ?_⟩⟩
  rw [Nat.zero_add]
  simp only [World.cell?, World.alloc, Array.getElem?_push_size]
  simpa using hv
theorem results_two {fn : Func} {p q : Tmp} {t : TypeId} {d : TypeDesc} (h : fn.results = #[.cell p t, .cell q t]) {tmps : Array Value} {w : World} {g g' : Nat} {l l' : List Value} (ht : tmps.getD p undef = .pointer (some ⟨g, 0, none⟩)) (ht' : tmps.getD q undef = .pointer (some ⟨g', 0, none⟩)) (hu : Tryd.prog.underlying t = some d) (hd : d.isRow = true) (hl : (Tryd.prog.info? t).map (·.size) = some l.length) (hl' : (Tryd.prog.info? t).map (·.size) = some l'.length) (hr : w.rangeAt g 0 l) (hr' : w.rangeAt g' 0 l') :
    (results fn tmps).run Tryd.prog w = .ok (.tuple #[.agg l.toArray, .agg l'.toArray]) w := by
  have e := run_loadVar_mid (P := Tryd.prog) w g 0 t l d hr hu hd hl
  have e' := run_loadVar_mid (P := Tryd.prog) w g' 0 t l' d hr' hu hd hl'
  simp only [results, h]
  simp [Sem.run_bind, Result.andThen, -Array.getD_eq_getD_getElem?, ht, ht', asAddr, e, e']
section
variable {w : World} {ρ : Operand → Value} {o : Oper} {x y : Operand} {t t' : TypeId}
theorem run_shr64i {a : BitVec 64} {n : Nat} (ho : o.op = .binOp .shr t x y t') (hx : ρ x = b64 a) (hy : ρ y = .int .i64 (n : Int)) (hn : n ≤ 64) : (execOp ρ o).run Tryd.prog w = .ok (.value (b64 (a >>> n))) w := by
  obtain ⟨dst, op, type, pos, after, guard⟩ := o
  subst ho
  unfold b64 at *
  have e : (a.toNat : Int) / 2 ^ n = (((a >>> n).toNat : Nat) : Int) := by
    rw [BitVec.toNat_ushiftRight, Nat.shiftRight_eq_div_pow]; simp
  generalize (a >>> n).toNat = z at *
  have hn0 : (0 : Int) ≤ (n : Int) := by omega
  go_simp
  try exact e
theorem run_cap {ao : Option Addr} {n c : Nat} (ho : o.op = .call { callee := .builtin .cap, args := #[x], argTypes := #[t] }) (ht : Tryd.prog.underlying t = some (.slice t')) (hx : ρ x = .slice ao n c) : (execOp ρ o).run Tryd.prog w = .ok (.value (.int .i64 (c : Int))) w := by
  obtain ⟨dst, op, type, pos, after, guard⟩ := o
  subst ho
  have el : Tryd.prog.elem t = t' := by unfold Program.elem; rw [ht]
  have ht' : Tryd.prog.underlying t = some (.slice (Tryd.prog.elem t)) := by rw [el]; exact ht
  go_simp
theorem run_ldSl {g i : Nat} {v : Value} (ho : o.op = .load 24 x) (hx : ρ x = .pointer (some ⟨g, i, none⟩)) (hc : w.cell? ⟨g, i, none⟩ = some v) : (execOp ρ o).run Tryd.prog w = .ok (.value v) w := by
  obtain ⟨dst, op, type, pos, after, guard⟩ := o
  subst ho
  go_simp
theorem run_slh0 {e : TypeId} (ho : o.op = .slice t x none (some y) none) (ht : Tryd.prog.underlying t = some (.slice e)) (hs : (Tryd.prog.info? e).map (·.size) = some 1) (hx : ρ x = .slice none 0 0) (hy : ρ y = .int .i64 0) : (execOp ρ o).run Tryd.prog w = .ok (.value (.slice none 0 0)) w := by
  have el : Tryd.prog.elem t = e := by unfold Program.elem; rw [ht]
  have ht' : Tryd.prog.underlying t = some (.slice (Tryd.prog.elem t)) := by rw [el]; exact ht
  have h1 := run_slice_h (P := Tryd.prog) (w := w) t none 0 0 ht' .i64 0 (by omega) (by omega)
  obtain ⟨inf, hi, h2⟩ := Option.map_eq_some_iff.1 hs
  have hz : (sizeOf e).run Tryd.prog w = .ok 1 w := by simp [sizeOf, typeInfo, go_sem, hi, h2]
  rw [el, hz] at h1
  have h3 := run_sliceAt_slice (P := Tryd.prog) (w := w) t (.slice none 0 0) none (some (.int .i64 0)) none ht'
  unfold execOp
  simp only [ho, hx, hy, Option.map_some, Option.map_none, Sem.run_bind, h3, h1]
  simp [go_sem, sliced]
theorem run_cvlen {n : Nat} (ho : o.op = .convert 3 29 x) (hx : ρ x = .int .i64 (n : Int)) : (execOp ρ o).run Tryd.prog w = .ok (.value (b64 (BitVec.ofNat 64 n))) w := by
  rw [run_cv ho Tryd.underlying3 Tryd.underlying29 hx]
  have e : IntKind.u64.wrap (n : Int) = ((BitVec.ofNat 64 n).toNat : Int) := by rw [wrap64, BitVec.toNat_ofNat]; omega
  rw [e]; rfl
theorem run_notS {c : Bool} (ho : o.op = .unOp .not t x) (hx : ρ x = .bool c) : (execOp ρ o).run Tryd.prog w = .ok (.value (.bool (!c))) w := by
  obtain ⟨dst, op, type, pos, after, guard⟩ := o
  subst ho
  go_simp
theorem run_ext {vs : Array Value} {i : Nat} {v : Value} (ho : o.op = .extract x i) (hx : ρ x = .tuple vs) (hi : vs[i]? = some v) : (execOp ρ o).run Tryd.prog w = .ok (.value v) w := by
  unfold execOp
  simp only [ho, hx, Instr.extract, hi, Sem.run_bind, Sem.run_pure, Result.andThen_ok]
end
end Go.Proofs.YtfdjmdfaidiliaaDoor
namespace Go.Proofs.YtfdjmdfaidiliaaDoor
open Go.RowKit
set_option maxRecDepth 20000

/-- Slices that lie in a row, and what each reads. -/
structure Cat (g : Nat) (vs : List Value) (ls : List (List (BitVec 8))) (u : World) : Prop where
  lt : g < u.heap.size
  R : u.rangeAt g 0 vs
  S : ∀ i, i < ls.length → ∃ v, vs[i]? = some v ∧ Sl v (ls.getD i []) u
theorem Cat.below {g : Nat} {vs : List Value} {ls : List (List (BitVec 8))} {u u' : World} (h : Cat g vs ls u) (hb : Below u.heap.size u u') : Cat g vs ls u' :=
  ⟨Nat.lt_of_lt_of_le h.lt hb.size, rangeAt_below h.R h.lt hb, fun i hi => by obtain ⟨v, h1, h2⟩ := h.S i hi; exact ⟨v, h1, h2.below hb⟩⟩
def catL (ls : List (List (BitVec 8))) (i : Nat) : List (BitVec 8) := (ls.take i).flatten
theorem catL_succ (ls : List (List (BitVec 8))) (i : Nat) (h : i < ls.length) : catL ls (i + 1) = catL ls i ++ ls.getD i [] := by
  unfold catL
  rw [List.take_add_one, List.flatten_append, List.getElem?_eq_getElem h, List.getD_eq_getElem?_getD, List.getElem?_eq_getElem h]
  simp
theorem catL_all (ls : List (List (BitVec 8))) : catL ls ls.length = ls.flatten := by unfold catL; rw [List.take_length]
theorem catL_le (ls : List (List (BitVec 8))) (i : Nat) : (catL ls i).length ≤ ls.flatten.length := by
  have h : ls.flatten = catL ls i ++ (ls.drop i).flatten := by unfold catL; rw [← List.flatten_append, List.take_append_drop]
  rw [h, List.length_append]; omega
theorem cat_row (w : World) (vs : List Value) (ls : List (List (BitVec 8))) (hS : ∀ i, i < ls.length → ∃ v, vs[i]? = some v ∧ Sl v (ls.getD i []) w) : Cat w.heap.size vs ls (w.alloc (.cells vs.toArray 24)) :=
  have hb : Below w.heap.size w (w.alloc (.cells vs.toArray 24)) := (Below.refl _ _).alloc (Nat.le_refl _) _
  ⟨(Arr.new w vs 24).lt, (Arr.new w vs 24).range, fun i hi => by obtain ⟨v, h1, h2⟩ := hS i hi; exact ⟨v, h1, h2.below hb⟩⟩
end Go.Proofs.YtfdjmdfaidiliaaDoor
namespace Go.Proofs.YtfdjmdfaidiliaaDoor
open Go.RowKit
set_option maxRecDepth 20000

theorem zero_size (n : Nat) : (Builtin.zeroCells (Value.int .u8 0).cells n).size = n := by
  show ((Array.range (n * 1)).map _).size = n
  simp
set_option maxHeartbeats 2000000 in
theorem grow_any (n : Nat) (w : World) (hn : n ≤ 16000000) : Calls Tryd.prog 86 #[.slice none 0 0, .int .i64 (n : Int)] w fun e w' => ∃ v', e = .returned v' ∧ S5 w v' [] w' := by
  go_enter Tryd.func86, Tryd.ntmps86
  go_upto_region 1 with fail; refine wp_region_lit ?_
  refine wpList_val (run_mv (v := .int _ _) rfl rfl) rfl ?_; (try simp only [Act.put, List.setIfInBounds_toArray, List.set_cons_zero, List.set_cons_succ])
  refine wpList_val (run_lssb (c := false) rfl rfl rfl (decide_eq_false (by omega))) rfl ?_; (try simp only [Act.put, List.setIfInBounds_toArray, List.set_cons_zero, List.set_cons_succ])
  refine wpList_end ?_
  go_upto_region 3 with fail; refine wp_region_lit ?_
  refine wpList_val (run_mv (v := .int _ _) rfl rfl) rfl ?_; (try simp only [Act.put, List.setIfInBounds_toArray, List.set_cons_zero, List.set_cons_succ]); refine wpList_val (run_mv (v := .slice _ _ _) rfl rfl) rfl ?_; (try simp only [Act.put, List.setIfInBounds_toArray, List.set_cons_zero, List.set_cons_succ])
  refine wpList_val (run_cap rfl Tryd.underlying24 rfl) rfl ?_; (try simp only [Act.put, List.setIfInBounds_toArray, List.set_cons_zero, List.set_cons_succ])
  refine wpList_val (run_mv (v := .slice _ _ _) rfl rfl) rfl ?_; (try simp only [Act.put, List.setIfInBounds_toArray, List.set_cons_zero, List.set_cons_succ])
  refine wpList_val (run_len rfl Tryd.underlying24 rfl) rfl ?_; (try simp only [Act.put, List.setIfInBounds_toArray, List.set_cons_zero, List.set_cons_succ])
  refine wpList_val (run_subN (a := 0) (b := 0) rfl rfl rfl (by omega) (by omega)) rfl ?_; (try simp only [Act.put, List.setIfInBounds_toArray, List.set_cons_zero, List.set_cons_succ])
  refine wpList_val (run_subN (a := n) (b := 0) rfl rfl rfl (by omega) (by omega)) rfl ?_; (try simp only [Act.put, List.setIfInBounds_toArray, List.set_cons_zero, List.set_cons_succ])
  rw [Nat.sub_zero]
  refine wpList_val (run_asg (v := .int _ _) rfl rfl) rfl ?_; (try simp only [Act.put, List.setIfInBounds_toArray, List.set_cons_zero, List.set_cons_succ])
  refine wpList_end ?_
  go_upto_region 4 with fail; refine wp_region_lit ?_
  refine wpList_val (run_mv (v := .int _ _) rfl rfl) rfl ?_; (try simp only [Act.put, List.setIfInBounds_toArray, List.set_cons_zero, List.set_cons_succ])
  by_cases h0 : n = 0
  · subst h0
    refine wpList_val (run_gtrb (c := false) rfl rfl rfl (decide_eq_false (by omega))) rfl ?_; (try simp only [Act.put, List.setIfInBounds_toArray, List.set_cons_zero, List.set_cons_succ])
    refine wpList_end ?_
    go_upto_region 6 with fail; refine wp_region_lit ?_
    refine wpList_val (run_mv (v := .slice _ _ _) rfl rfl) rfl ?_; (try simp only [Act.put, List.setIfInBounds_toArray, List.set_cons_zero, List.set_cons_succ]); refine wpList_val (run_asg (v := .slice _ _ _) rfl rfl) rfl ?_; (try simp only [Act.put, List.setIfInBounds_toArray, List.set_cons_zero, List.set_cons_succ])
    refine wpList_end ?_
    go_wp2_with fail
    exact bodyPost_ret (results_tmp Tryd.results86 _ _ _) rfl ⟨_, rfl, S5.none w⟩
  · refine wpList_val (run_gtrb (c := true) rfl rfl rfl (decide_eq_true (by omega))) rfl ?_; (try simp only [Act.put, List.setIfInBounds_toArray, List.set_cons_zero, List.set_cons_succ])
    refine wpList_end ?_
    have hi : (Tryd.prog.info? 5).map (fun i => (i.size, i.bytes, i.zero)) = some (1, 1, some (.int .u8 0)) := by kernel_rfl
    obtain ⟨inf, h1, h2⟩ := Option.map_eq_some_iff.1 hi
    obtain ⟨e1, e2, e3⟩ : inf.size = 1 ∧ inf.bytes = 1 ∧ inf.zero = some (.int .u8 0) := by simpa using h2
    have HR : Hid (∀ ty, (Builtin.append_ #[24, 3] ty #[.slice none 0 0, .int .i64 (n : Int)]).run Tryd.prog w = .ok (.slice (some ⟨w.heap.size, 0, none⟩) n (grownCap w n 0 5)) (w.drew.alloc (.cells (Builtin.zeroCells (Value.int .u8 0).cells n ++ Builtin.zeroCells (Value.int .u8 0).cells (grownCap w n 0 5 - n)) 5))) := Lib.hid fun ty =>
      Lib.run_append_nil_zeros w 24 3 ty 5 inf (.int .u8 0) .i64 .i64 Tryd.underlying24 Tryd.underlying3 h1 e3 n (by omega) (by omega) (by omega) (by rw [e2]; omega)
    have hG1 := grownCap_ge w n 0 5
    have hG2 := grownCap_le_maxLen w n 0 5 (by unfold maxLen; omega)
    have hS : Hid (S5 w (.slice (some ⟨w.heap.size, 0, none⟩) 0 (grownCap w n 0 5)) [] (w.drew.alloc (.cells (Builtin.zeroCells (Value.int .u8 0).cells n ++ Builtin.zeroCells (Value.int .u8 0).cells (grownCap w n 0 5 - n)) 5))) := Lib.hid (by
      refine ⟨(Below.refl _ _).drew.alloc (Nat.le_refl _) _, ?_⟩
      refine And.intro rfl (Or.inr ?_)
      refine ⟨w.heap.size, grownCap w n 0 5, Builtin.zeroCells (Value.int .u8 0).cells n ++ Builtin.zeroCells (Value.int .u8 0).cells (grownCap w n 0 5 - n), rfl, Nat.le_refl _, ?_, Nat.zero_le _, hG2, ?_, ?_⟩
      · exact Array.getElem?_push_size
      · rw [Array.size_append, zero_size, zero_size]; omega
      · simp)
    clear h1 h2 e1 e2 e3 hi hG2
    generalize w.drew.alloc (.cells (Builtin.zeroCells (Value.int .u8 0).cells n ++ Builtin.zeroCells (Value.int .u8 0).cells (grownCap w n 0 5 - n)) 5) = a1 at *
    generalize grownCap w n 0 5 = G at *
    go_upto_region 5 with fail; refine wp_region_lit ?_
    refine wpList_val (run_mv (v := .slice _ _ _) rfl rfl) rfl ?_; (try simp only [Act.put, List.setIfInBounds_toArray, List.set_cons_zero, List.set_cons_succ]); refine wpList_val (run_mv (v := .slice _ _ _) rfl rfl) rfl ?_; (try simp only [Act.put, List.setIfInBounds_toArray, List.set_cons_zero, List.set_cons_succ])
    refine wpList_val (run_cap rfl Tryd.underlying24 rfl) rfl ?_; (try simp only [Act.put, List.setIfInBounds_toArray, List.set_cons_zero, List.set_cons_succ])
    refine wpList_val (run_slh0 rfl Tryd.underlying24 (by kernel_rfl) rfl rfl) rfl ?_; (try simp only [Act.put, List.setIfInBounds_toArray, List.set_cons_zero, List.set_cons_succ])
    refine wpList_val (run_mv (v := .int _ _) rfl rfl) rfl ?_; (try simp only [Act.put, List.setIfInBounds_toArray, List.set_cons_zero, List.set_cons_succ])
    refine Lib.wpList_append_run _ rfl _ _ _ _ rfl _ _ rfl rfl _ _ (HR.out _) ?_; (try simp only [Act.put, List.setIfInBounds_toArray, List.set_cons_zero, List.set_cons_succ])
    refine wpList_val (run_mv (v := .slice _ _ _) rfl rfl) rfl ?_; (try simp only [Act.put, List.setIfInBounds_toArray, List.set_cons_zero, List.set_cons_succ])
    refine wpList_val (run_len rfl Tryd.underlying24 rfl) rfl ?_; (try simp only [Act.put, List.setIfInBounds_toArray, List.set_cons_zero, List.set_cons_succ])
    refine wpList_val (run_slh (h := 0) rfl Tryd.underlying24 (by kernel_rfl) rfl rfl (by omega)) rfl ?_; (try simp only [Act.put, List.setIfInBounds_toArray, List.set_cons_zero, List.set_cons_succ])
    refine wpList_val (run_asg (v := .slice (some _) _ _) rfl rfl) rfl ?_; (try simp only [Act.put, List.setIfInBounds_toArray, List.set_cons_zero])
    refine wpList_end ?_
    go_upto_region 6 with fail; refine wp_region_lit ?_
    refine wpList_val (run_mv (v := .slice (some _) _ _) rfl rfl) rfl ?_; (try simp only [Act.put, List.setIfInBounds_toArray, List.set_cons_zero, List.set_cons_succ]); refine wpList_val (run_asg (v := .slice (some _) _ _) rfl rfl) rfl ?_; (try simp only [Act.put, List.setIfInBounds_toArray, List.set_cons_zero, List.set_cons_succ])
    refine wpList_end ?_
    go_wp2_with fail
    exact bodyPost_ret (results_tmp Tryd.results86 _ _ _) rfl ⟨_, rfl, hS.out⟩
theorem enters_grow : Enters 86 := enters_of Tryd.func86 (by kernel_rfl) rfl

set_option maxHeartbeats 4000000 in
theorem concat_any (g : Nat) (vs : List Value) (ls : List (List (BitVec 8))) (k : Nat) (w : World) (hc : Cat g vs ls w) (hk : ls.length = k) (hk2 : k ≤ 1000) (hn : ls.flatten.length ≤ 16000000) :
    Calls Tryd.prog 71 #[.slice (some ⟨g, 0, none⟩) k k] w fun e w' => ∃ v', e = .returned v' ∧ S5 w v' ls.flatten w' := by
  have HC := Lib.hid hc; clear hc
  have EA : Hid (catL ls k = ls.flatten) := Lib.hid (by rw [← hk]; exact catL_all ls)
  have HL : Hid (∀ i, (catL ls i).length ≤ 16000000) := Lib.hid fun i => Nat.le_trans (catL_le ls i) hn
  have HE : Hid (∀ i, i < k → ∃ v l, w.rangeAt g 0 vs ∧ vs[i]? = some v ∧ Sl v l w ∧ catL ls (i + 1) = catL ls i ++ l ∧ (catL ls i).length + l.length ≤ 16000000) := Lib.hid fun i hi => by
    obtain ⟨v, h1, h2⟩ := HC.out.S i (by omega)
    have e := catL_succ ls i (by omega)
    have := HL.out (i + 1)
    rw [e, List.length_append] at this
    exact ⟨v, _, HC.out.R, h1, h2, e, this⟩
  have hlt := HC.out.lt
  clear HC
  obtain ⟨F, hF⟩ : ∃ F, F = catL ls := ⟨_, rfl⟩
  have E0 : F 0 = [] := by rw [hF]; rfl
  rw [← hF] at EA HL HE
  clear hF hn
  generalize ls.flatten = out at *
  clear hk
  go_enter Tryd.func71, Tryd.ntmps71
  go_upto_region 2 with fail; refine wp_region_lit ?_
  refine wpList_val (run_mv (v := .slice (some _) _ _) rfl rfl) rfl ?_; (try simp only [Act.put, List.setIfInBounds_toArray, List.set_cons_zero, List.set_cons_succ])
  refine wpList_val (run_len rfl Tryd.underlying67 rfl) rfl ?_; (try simp only [Act.put, List.setIfInBounds_toArray, List.set_cons_zero, List.set_cons_succ])
  refine wpList_val (run_mv (v := .int _ _) rfl rfl) rfl ?_; (try simp only [Act.put, List.setIfInBounds_toArray, List.set_cons_zero, List.set_cons_succ])
  refine wpList_end ?_
  go_wp2_with fail
  go_loopw [3, 11] (fun s1 s2 u => ∃ i : Nat, i ≤ k ∧ s1 = .int .i64 ((F i).length : Int) ∧ s2 = .int .i64 (i : Int) ∧ u = w) (fun _ s _ => (k - intOf s).toNat)
  case atStart => exact ⟨0, by omega, by rw [E0]; rfl, rfl, rfl⟩
  case round =>
    obtain ⟨i, hi, rfl, rfl, rfl⟩ := hrel
    have hLi := HL.out i
    by_cases hik : i = k
    · subst hik
      have hk1 : ¬ (((i : Nat) : Int) < (i : Int)) := by omega
      rw [EA.out] at hLi ⊢
      generalize hw0 : wr = w0 at *
      have EW := Lib.hid hw0
      clear hw0
      go_upto_region 9 with fail; refine wp_region_lit ?_
      refine wpList_val (run_mv (v := .int _ _) rfl rfl) rfl ?_; (try simp only [Act.put, List.setIfInBounds_toArray, List.set_cons_zero, List.set_cons_succ])
      refine wpList_callR (run_call2 enters_grow rfl rfl rfl rfl) rfl (grow_any out.length _ hLi) (fun v6 c1 hR => ?_); (try simp only [Act.put, List.setIfInBounds_toArray, List.set_cons_zero, List.set_cons_succ])
      have hI : Hid (S5 w0 v6 (F 0) c1) := Lib.hid (by rw [E0]; exact hR)
      clear hR
      refine wpList_val (run_asg (v := v6) rfl rfl) rfl ?_; (try simp only [Act.put, List.setIfInBounds_toArray, List.set_cons_zero, List.set_cons_succ])
      refine wpList_end ?_
      go_upto_region 10 with fail; refine wp_region_lit ?_
      refine wpList_val (run_mv (v := .slice (some _) _ _) rfl rfl) rfl ?_; (try simp only [Act.put, List.setIfInBounds_toArray, List.set_cons_zero, List.set_cons_succ])
      refine wpList_val (run_len rfl Tryd.underlying67 rfl) rfl ?_; (try simp only [Act.put, List.setIfInBounds_toArray, List.set_cons_zero, List.set_cons_succ])
      refine wpList_val (run_mv (v := .int _ _) rfl rfl) rfl ?_; (try simp only [Act.put, List.setIfInBounds_toArray, List.set_cons_zero, List.set_cons_succ])
      refine wpList_end ?_
      clear hk1 hi
      go_wp2_with fail
      go_loopw [6, 27] (fun s1 s2 u => ∃ j : Nat, j ≤ i ∧ s2 = .int .i64 (j : Int) ∧ S5 w0 s1 (F j) u) (fun _ s _ => (i - intOf s).toNat)
      case atStart => exact ⟨0, by omega, rfl, hI.out⟩
      case round =>
        obtain ⟨j, hj, rfl, hJ⟩ := hrel
        replace hI := Lib.hid hJ
        clear hJ
        by_cases hji : j = i
        · subst hji
          have hk1 : ¬ (((j : Nat) : Int) < (j : Int)) := by omega
          rw [EA.out] at hI
          go_upto_region 15 with fail; refine wp_region_lit ?_
          refine wpList_val (run_mv (v := u6) rfl rfl) rfl ?_; (try simp only [Act.put, List.setIfInBounds_toArray, List.set_cons_zero, List.set_cons_succ])
          refine wpList_val (run_asg (v := u6) rfl rfl) rfl ?_; (try simp only [Act.put, List.setIfInBounds_toArray, List.set_cons_zero, List.set_cons_succ])
          refine wpList_end ?_
          go_wp2_with fail
          exact bodyPost_ret (results_tmp Tryd.results71 _ _ _) rfl ⟨_, rfl, by rw [EW.out]; exact hI.out⟩
        · have hk1 : (j : Int) < (i : Int) := by omega
          obtain ⟨v, l, h1, h2, h3, h4, h5⟩ := HE.out j (by omega)
          have HX := Lib.hid h4; clear h4
          have C1 : Hid (wr.cell? ⟨g, j, none⟩ = some v) := Lib.hid (by
            have := rangeAt_below h1 hlt hI.out.bl j v h2
            rwa [Nat.zero_add] at this)
          have S1 : Hid (Sl v l wr) := Lib.hid (h3.below hI.out.bl)
          clear h1 h2 h3
          go_upto_region 12 with fail; refine wp_region_lit ?_
          refine wpList_val (run_ixs rfl Tryd.underlying67 (by kernel_rfl) rfl rfl (by omega)) rfl ?_; (try simp only [Act.put, List.setIfInBounds_toArray, List.set_cons_zero, List.set_cons_succ])
          refine wpList_val (run_ldSl rfl rfl (by rw [Nat.zero_add]; exact C1.out)) rfl ?_; (try simp only [Act.put, List.setIfInBounds_toArray, List.set_cons_zero, List.set_cons_succ])
          refine wpList_val (run_asg (v := v) rfl rfl) rfl ?_; (try simp only [Act.put, List.setIfInBounds_toArray, List.set_cons_zero, List.set_cons_succ])
          refine wpList_end ?_
          go_upto_region 13 with fail; refine wp_region_lit ?_
          refine wpList_val (run_mv (v := u6) rfl rfl) rfl ?_; (try simp only [Act.put, List.setIfInBounds_toArray, List.set_cons_zero, List.set_cons_succ])
          refine wpList_val (run_mv (v := v) rfl rfl) rfl ?_; (try simp only [Act.put, List.setIfInBounds_toArray, List.set_cons_zero, List.set_cons_succ])
          refine wpList_appG (l := F j) (m := l) rfl rfl rfl hI.out.O rfl S1.out (by omega) hI.out.bl.size (fun v2 c2 h6 hb3 => ?_); (try simp only [Act.put, List.setIfInBounds_toArray, List.set_cons_zero, List.set_cons_succ])
          replace hI : Hid (S5 w0 v2 (F (j + 1)) c2) := Lib.hid ⟨hI.out.bl.trans hb3, by rw [HX.out, List.length_append]; exact h6⟩
          clear h6 hb3 S1 C1
          refine wpList_val (run_asg (v := v2) rfl rfl) rfl ?_; (try simp only [Act.put, List.setIfInBounds_toArray, List.set_cons_zero, List.set_cons_succ])
          refine wpList_end ?_
          go_wp2_with fail
          go_roundw
          case rel => exact ⟨j + 1, by omega, by go_num, hI.out⟩
          case measure => simp [intOf]; omega
    · have hk1 : (i : Int) < (k : Int) := by omega
      obtain ⟨v, l, h1, h2, h3, h4, h5⟩ := HE.out i (by omega)
      have HX := Lib.hid h4; clear h4
      have C1 := Lib.hid (h1 i v h2)
      rw [Nat.zero_add] at C1
      obtain ⟨ao, c, rfl, -, -⟩ := h3
      clear h1 h2
      go_upto_region 4 with fail; refine wp_region_lit ?_
      refine wpList_val (run_ixs rfl Tryd.underlying67 (by kernel_rfl) rfl rfl (by omega)) rfl ?_; (try simp only [Act.put, List.setIfInBounds_toArray, List.set_cons_zero, List.set_cons_succ])
      refine wpList_val (run_ldSl rfl rfl (by rw [Nat.zero_add]; exact C1.out)) rfl ?_; (try simp only [Act.put, List.setIfInBounds_toArray, List.set_cons_zero, List.set_cons_succ])
      refine wpList_val (run_asg (v := .slice _ _ _) rfl rfl) rfl ?_; (try simp only [Act.put, List.setIfInBounds_toArray, List.set_cons_zero, List.set_cons_succ])
      refine wpList_end ?_
      go_upto_region 5 with fail; refine wp_region_lit ?_
      refine wpList_val (run_mv (v := .int _ _) rfl rfl) rfl ?_; (try simp only [Act.put, List.setIfInBounds_toArray, List.set_cons_zero, List.set_cons_succ]); refine wpList_val (run_mv (v := .slice _ _ _) rfl rfl) rfl ?_; (try simp only [Act.put, List.setIfInBounds_toArray, List.set_cons_zero, List.set_cons_succ])
      refine wpList_val (run_len rfl Tryd.underlying24 rfl) rfl ?_; (try simp only [Act.put, List.setIfInBounds_toArray, List.set_cons_zero, List.set_cons_succ])
      refine wpList_val (run_addN rfl rfl rfl (by omega)) rfl ?_; (try simp only [Act.put, List.setIfInBounds_toArray, List.set_cons_zero, List.set_cons_succ])
      refine wpList_val (run_asg (v := .int _ _) rfl rfl) rfl ?_; (try simp only [Act.put, List.setIfInBounds_toArray, List.set_cons_zero, List.set_cons_succ])
      refine wpList_end ?_
      go_upto_region 6 with fail; refine wp_region_lit ?_
      refine wpList_val (run_mv (v := .int _ _) rfl rfl) rfl ?_; (try simp only [Act.put, List.setIfInBounds_toArray, List.set_cons_zero, List.set_cons_succ])
      refine wpList_val (run_lssb (c := false) rfl rfl rfl (decide_eq_false (by omega))) rfl ?_; (try simp only [Act.put, List.setIfInBounds_toArray, List.set_cons_zero, List.set_cons_succ])
      refine wpList_end ?_
      go_wp2_with fail
      go_roundw
      case rel => exact ⟨i + 1, by omega, by rw [HX.out, List.length_append], by go_num, trivial⟩
      case measure => simp [intOf]; omega
theorem enters_concat : Enters 71 := enters_of Tryd.func71 (by kernel_rfl) rfl
end Go.Proofs.YtfdjmdfaidiliaaDoor
namespace Go.Proofs.YtfdjmdfaidiliaaDoor
open Go.RowKit
set_option maxRecDepth 20000

/-- What stands while both halves are told. -/
def SpS (w : World) (g1 g2 g3 : Nat) (S : List Value) (V : World) : Prop := ∃ x y : List Value, x.length = 32 ∧ y.length = 32 ∧ Mv w [(g3, y), (g2, x), (g1, S)] V
set_option maxHeartbeats 4000000 in
theorem sgsplit_any (s : List (BitVec 8)) (w : World) (hs : s.length = 64) : Calls Tryd.prog 34 #[.agg (s.map b8).toArray] w fun e w' => e = .returned (.tuple #[.agg ((s.take 32).map b8).toArray, .agg ((s.drop 32).map b8).toArray]) ∧ Below w.heap.size w w' := by
  have lA : (s.take 32).length = 32 := by rw [List.length_take]; omega
  have lB : (s.drop 32).length = 32 := by rw [List.length_drop]; omega
  have E1 : Hid ((s.map b8).take 32 = (s.take 32).map b8) := Lib.hid (List.map_take ..).symm
  have E2 : Hid ((s.map b8).drop 32 = (s.drop 32).map b8) := Lib.hid (List.map_drop ..).symm
  generalize s.take 32 = A at *
  generalize s.drop 32 = B at *
  generalize s.map b8 = S at *
  have SA := Lib.hid (szKy lA)
  have SB := Lib.hid (szKy lB)
  have LA : Hid ((A.map b8).length = 32) := Lib.hid (by rw [List.length_map, lA])
  have LB : Hid ((B.map b8).length = 32) := Lib.hid (by rw [List.length_map, lB])
  have hM := Lib.hid (Mv.nil w)
  go_enter Tryd.func34, Tryd.ntmps34
  go_upto_region 0 with fail; refine wp_region_lit ?_
  refine wpList_val (run_boxL8 (vs := S) rfl rfl) rfl ?_; (try simp only [Act.put, List.setIfInBounds_toArray, List.set_cons_zero, List.set_cons_succ]); replace hM := Lib.hid (hM.out.new (S) 27); generalize w.alloc (.cells (S).toArray 27) = a1 at *; generalize w.heap.size = g1 at *
  refine wpList_val (run_alc (vs := z8 32) rfl (by kernel_rfl)) rfl ?_; (try simp only [Act.put, List.setIfInBounds_toArray, List.set_cons_zero, List.set_cons_succ]); replace hM := Lib.hid (hM.out.new (z8 32) 23); generalize a1.alloc (.cells (z8 32).toArray 23) = a2 at *; generalize a1.heap.size = g2 at *
  refine wpList_val (run_alc (vs := z8 32) rfl (by kernel_rfl)) rfl ?_; (try simp only [Act.put, List.setIfInBounds_toArray, List.set_cons_zero, List.set_cons_succ]); replace hM := Lib.hid (hM.out.new (z8 32) 23); generalize a2.alloc (.cells (z8 32).toArray 23) = a3 at *; generalize a2.heap.size = g3 at *
  refine wpList_end ?_
  go_upto_region 1 with fail
  have HA1 : Hid (∀ V, SpS w g1 g2 g3 S V → V.rangeAt g1 0 (A.map b8)) := Lib.hid fun V ⟨x, y, _, _, h⟩ => by
    have := rangeAt_take (k := 32) (h.get (i := 2) rfl).range
    rw [E1.out] at this
    exact this
  have HA2 : Hid (∀ V, SpS w g1 g2 g3 S V → V.rangeAt g1 (0 + 32) (B.map b8)) := Lib.hid fun V ⟨x, y, _, _, h⟩ => by
    have := rangeAt_drop (k := 32) (h.get (i := 2) rfl).range
    rw [E2.out] at this
    exact this
  replace hM := Lib.hid (hM.out.below (Below.refl _ _).drew)
  have h0 : SpS w g1 g2 g3 S a3.drew := ⟨_, _, z8_32, z8_32, hM.out⟩
  refine wp_region_noPanic ?_
  refine wp_region_late (S := fun _ V => SpS w g1 g2 g3 S V) (by kernel_rfl) h0 (fun hS => ?_)
  generalize a3.drew = a4 at *
  refine wpAnyL_take 0 rfl rfl (by kernel_rfl) (by kernel_rfl) (by kernel_rfl) (fun _ _ _ h => h) rfl (fun V hV => run_slWh (h := 32) rfl Tryd.underlying27 (by kernel_rfl) rfl rfl (by omega)) hS ?_; (try simp only [Act.put, List.setIfInBounds_toArray, List.set_cons_zero, List.set_cons_succ])
  refine wpAnyL_take 1 rfl rfl (by kernel_rfl) (by kernel_rfl) (by kernel_rfl) (fun _ _ _ h => h) rfl (fun V hV => run_s2a rfl Tryd.underlying23 rfl (by omega)) hS ?_; (try simp only [Act.put, List.setIfInBounds_toArray, List.set_cons_zero, List.set_cons_succ])
  refine wpAnyL_take 2 rfl rfl (by kernel_rfl) (by kernel_rfl) (by kernel_rfl) (fun _ _ _ h => h) rfl (fun V hV => run_ldM (vs := A.map b8) rfl Tryd.underlying23 rfl SA.out rfl (HA1.out V hV)) hS ?_; (try simp only [Act.put, List.setIfInBounds_toArray, List.set_cons_zero, List.set_cons_succ])
  refine wpAnyL_take 3 rfl rfl (by kernel_rfl) (by kernel_rfl) (by kernel_rfl) (fun _ _ _ h => h) rfl (fun V hV => run_slWl (l := 32) rfl Tryd.underlying27 (by kernel_rfl) rfl rfl (by omega)) hS ?_; (try simp only [Act.put, List.setIfInBounds_toArray, List.set_cons_zero, List.set_cons_succ])
  refine wpAnyL_take 4 rfl rfl (by kernel_rfl) (by kernel_rfl) (by kernel_rfl) (fun _ _ _ h => h) rfl (fun V hV => run_s2a rfl Tryd.underlying23 rfl (by omega)) hS ?_; (try simp only [Act.put, List.setIfInBounds_toArray, List.set_cons_zero, List.set_cons_succ])
  refine wpAnyL_take 5 rfl rfl (by kernel_rfl) (by kernel_rfl) (by kernel_rfl) (fun _ _ _ h => h) rfl (fun V hV => run_ldM (vs := B.map b8) rfl Tryd.underlying23 rfl SB.out rfl (HA2.out V hV)) hS ?_; (try simp only [Act.put, List.setIfInBounds_toArray, List.set_cons_zero, List.set_cons_succ])
  have hM2 := Lib.hid (hM.out.put 1 rfl (m := A.map b8) (by rw [LA.out, z8_32]))
  refine wpAnyL_skip 6 (by kernel_rfl) rfl rfl rfl (run_stM (vs := A.map b8) rfl SA.out rfl rfl (one8s _) ((hM.out.get (i := 1) rfl).thereM (by rw [LA.out, z8_32]; omega))) ⟨_, _, LA.out, z8_32, hM2.out⟩ ?_
  clear hM
  have hM3 := Lib.hid (hM2.out.put 0 rfl (m := B.map b8) (by rw [LB.out, z8_32]))
  refine wpAnyL_skip 7 (by kernel_rfl) rfl rfl rfl (run_stM (vs := B.map b8) rfl SB.out rfl rfl (one8s _) ((hM2.out.get (i := 0) rfl).thereM (by rw [LB.out, z8_32]; omega))) ⟨_, _, LA.out, LB.out, hM3.out⟩ ?_
  clear hM2
  refine wpAnyL_done (by kernel_rfl) ?_ _; refine NoPanic.normal ?_
  have hM : Hid (Mv w [(g3, B.map b8), (g2, A.map b8), (g1, S)] ((a4.setCells g2 0 (A.map b8)).setCells g3 0 (B.map b8))) := hM3
  go_wp2_with fail
  refine bodyPost_ret (v := .tuple #[.agg (A.map b8).toArray, .agg (B.map b8).toArray]) (results_two Tryd.results34 rfl rfl Tryd.underlying23 rfl SA.out SB.out (hM.out.get (i := 1) rfl).range (hM.out.get (i := 0) rfl).range) rfl ⟨rfl, hM.out.bl⟩
theorem enters_sgsplit : Enters 34 := enters_of Tryd.func34 (by kernel_rfl) rfl
set_option maxHeartbeats 4000000 in
theorem sgdigest_any (g : Nat) (vs : List Value) (ls : List (List (BitVec 8))) (k : Nat) (w : World) (hc : Cat g vs ls w) (hk : ls.length = k) (hk2 : k ≤ 1000) (hn : ls.flatten.length ≤ 16000000) (hT : Tabs w) : Calls Tryd.prog 38 #[.slice (some ⟨g, 0, none⟩) k k] w fun e w' => e = .returned (.agg ((sum64 ls.flatten).map b8).toArray) ∧ Below w.heap.size w w' := by
  have HC := Lib.hid hc; clear hc
  have HT := Lib.hid hT; clear hT
  have lD := sum64_len ls.flatten
  have CC : Hid (∀ u : World, Cat g vs ls u → Calls Tryd.prog 71 #[.slice (some ⟨g, 0, none⟩) k k] u fun e w' => ∃ v', e = .returned v' ∧ S5 u v' ls.flatten w') := Lib.hid fun u h => concat_any g vs ls k u h hk hk2 hn
  have CS : Hid (∀ (v : Value) (u : World), Sl v ls.flatten u → Tabs u → Calls Tryd.prog 70 #[v] u fun e w' => e = .returned (.agg ((sum64 ls.flatten).map b8).toArray) ∧ Below u.heap.size u w') := Lib.hid fun v u h1 h2 => sum64_any v _ u h1 (by omega) h2
  generalize sum64 ls.flatten = D at *
  generalize ls.flatten = fl at *
  have SD := Lib.hid (szSg lD)
  have LD : Hid ((D.map b8).length = (z8 64).length) := Lib.hid (by unfold z8; rw [List.length_map, List.length_map, lD, List.length_replicate])
  have hM := Lib.hid (Mv.nil w)
  go_enter Tryd.func38, Tryd.ntmps38
  go_upto_region 0 with fail; refine wp_region_lit ?_
  refine wpList_val (run_alc (vs := z8 64) rfl (by kernel_rfl)) rfl ?_; (try simp only [Act.put, List.setIfInBounds_toArray, List.set_cons_zero, List.set_cons_succ]); replace hM := Lib.hid (hM.out.new (z8 64) 27); generalize w.alloc (.cells (z8 64).toArray 27) = a1 at *; generalize w.heap.size = g1 at *
  refine wpList_end ?_
  go_upto_region 1 with fail; refine wp_region_lit ?_
  refine wpList_val (run_mv (v := .slice (some _) _ _) rfl rfl) rfl ?_; (try simp only [Act.put, List.setIfInBounds_toArray, List.set_cons_zero, List.set_cons_succ])
  refine wpList_callR (run_call1 enters_concat rfl rfl rfl) rfl (CC.out _ (HC.out.below hM.out.bl)) (fun v4 a2 hR => ?_); (try simp only [Act.put, List.setIfInBounds_toArray, List.set_cons_zero, List.set_cons_succ])
  have S4 := Lib.hid hR.sl
  replace hM := Lib.hid (hM.out.below hR.bl)
  clear hR
  refine wpList_enter (run_call1 enters_sum64 rfl rfl rfl) rfl (CS.out v4 _ S4.out (HT.out.below hM.out.bl)) (fun a3 hb => ?_); (try simp only [Act.put, List.setIfInBounds_toArray, List.set_cons_zero, List.set_cons_succ]); replace hM := Lib.hid (hM.out.below hb); clear hb
  refine wpList_skip (run_stM (vs := D.map b8) rfl SD.out rfl rfl (one8s _) (by rw [LD.out]; exact (hM.out.get (i := 0) rfl).there)) rfl rfl ?_; replace hM := Lib.hid (hM.out.put 0 rfl (m := D.map b8) (LD.out))
  refine wpList_end ?_; go_wp2_with fail; refine bodyPost_ret (v := .agg (D.map b8).toArray) (results_rowB Tryd.results38 rfl Tryd.underlying27 rfl SD.out (hM.out.get (i := 0) rfl).range) rfl ⟨rfl, hM.out.bl⟩
theorem enters_sgdigest : Enters 38 := enters_of Tryd.func38 (by kernel_rfl) rfl
set_option maxHeartbeats 4000000 in
theorem sgnum_any (g : Nat) (vs : List Value) (ls : List (List (BitVec 8))) (k : Nat) (w : World) (hc : Cat g vs ls w) (hk : ls.length = k) (hk2 : k ≤ 1000) (hn : ls.flatten.length ≤ 16000000) (hW : W9 w) : Calls Tryd.prog 16 #[.slice (some ⟨g, 0, none⟩) k k] w fun e w' => e = .returned (.agg ((nmB ls.flatten).map b8).toArray) ∧ Below w.heap.size w w' := by
  have HC := Lib.hid hc; clear hc
  have HW := Lib.hid hW; clear hW
  have lN := nmB_len ls.flatten
  have CD : Hid (∀ u : World, Cat g vs ls u → W9 u → Calls Tryd.prog 38 #[.slice (some ⟨g, 0, none⟩) k k] u fun e w' => e = .returned (.agg ((sum64 ls.flatten).map b8).toArray) ∧ Below u.heap.size u w') := Lib.hid fun u h h2 => sgdigest_any g vs ls k u h hk hk2 hn h2.t
  have CR : Hid (∀ u : World, W9 u → Calls Tryd.prog 41 #[.agg ((sum64 ls.flatten).map b8).toArray] u fun e w' => e = .returned (.agg ((nmB ls.flatten).map b8).toArray) ∧ Below u.heap.size u w') := Lib.hid fun u h => sreduce_any (sum64 ls.flatten) u (sum64_len _) h.s
  generalize nmB ls.flatten = R at *
  generalize sum64 ls.flatten = D at *
  clear hn
  generalize ls.flatten = fl at *
  have SR := Lib.hid (szKy lN)
  have LR : Hid ((R.map b8).length = (z8 32).length) := Lib.hid (by rw [z8_32, List.length_map, lN])
  have hM := Lib.hid (Mv.nil w)
  go_enter Tryd.func16, Tryd.ntmps16
  go_upto_region 0 with fail; refine wp_region_lit ?_
  refine wpList_val (run_alc (vs := z8 32) rfl (by kernel_rfl)) rfl ?_; (try simp only [Act.put, List.setIfInBounds_toArray, List.set_cons_zero, List.set_cons_succ]); replace hM := Lib.hid (hM.out.new (z8 32) 23); generalize w.alloc (.cells (z8 32).toArray 23) = a1 at *; generalize w.heap.size = g1 at *
  refine wpList_end ?_
  go_upto_region 1 with fail; refine wp_region_lit ?_
  refine wpList_val (run_mv (v := .slice (some _) _ _) rfl rfl) rfl ?_; (try simp only [Act.put, List.setIfInBounds_toArray, List.set_cons_zero, List.set_cons_succ])
  refine wpList_enter (run_call1 enters_sgdigest rfl rfl rfl) rfl (CD.out _ (HC.out.below hM.out.bl) (HW.out.below hM.out.bl)) (fun a2 hb => ?_); (try simp only [Act.put, List.setIfInBounds_toArray, List.set_cons_zero, List.set_cons_succ]); replace hM := Lib.hid (hM.out.below hb); clear hb
  refine wpList_enter (run_call1 enters_sreduce rfl rfl rfl) rfl (CR.out _ (HW.out.below hM.out.bl)) (fun a3 hb => ?_); (try simp only [Act.put, List.setIfInBounds_toArray, List.set_cons_zero, List.set_cons_succ]); replace hM := Lib.hid (hM.out.below hb); clear hb
  refine wpList_skip (run_stM (vs := R.map b8) rfl SR.out rfl rfl (one8s _) (by rw [LR.out]; exact (hM.out.get (i := 0) rfl).there)) rfl rfl ?_; replace hM := Lib.hid (hM.out.put 0 rfl (m := R.map b8) (LR.out))
  refine wpList_end ?_; go_wp2_with fail; refine bodyPost_ret (v := .agg (R.map b8).toArray) (results_rowB Tryd.results16 rfl Tryd.underlying23 rfl SR.out (hM.out.get (i := 0) rfl).range) rfl ⟨rfl, hM.out.bl⟩
theorem enters_sgnum : Enters 16 := enters_of Tryd.func16 (by kernel_rfl) rfl
set_option maxHeartbeats 4000000 in
theorem sgtimes_any (k : List (BitVec 8)) (w : World) (hk : k.length = 32) (hG : EG w) : Calls Tryd.prog 15 #[.agg (k.map b8).toArray] w fun e w' => e = .returned (.agg ((tmB (leB k)).map b8).toArray) ∧ Below w.heap.size w w' := by
  have HG := Lib.hid hG; clear hG
  obtain ⟨B, hB⟩ : ∃ B, B = bs := ⟨_, rfl⟩
  obtain ⟨Q, hQ⟩ : ∃ Q, Q = pmul bs (leB k) := ⟨_, rfl⟩
  have nB : B.Nm := by rw [hB]; exact bs_ok.nm
  have nQ : Q.Nm := by rw [hQ]; exact (pmul_ok _ _).nm
  have e1 : mulP (leB k) B = Q := by rw [hB, hQ, mul_bs]
  have CB : Hid (∀ u : World, EG u → Calls Tryd.prog 36 #[] u fun e w' => e = .returned (.agg (ptL B).toArray) ∧ Below u.heap.size u w') := Lib.hid fun u h => by rw [hB]; exact base_any u h
  have CM : Hid (∀ u : World, EG u → Calls Tryd.prog 35 #[.agg (k.map b8).toArray, .agg (ptL B).toArray] u fun e w' => e = .returned (.agg (ptL Q).toArray) ∧ Below u.heap.size u w') := Lib.hid fun u h => by rw [← e1]; exact mulP_any k B u hk nB h
  have CE : Hid (∀ u : World, EG u → Calls Tryd.prog 40 #[.agg (ptL Q).toArray] u fun e w' => e = .returned (.agg ((tmB (leB k)).map b8).toArray) ∧ Below u.heap.size u w') := Lib.hid fun u hg => by
    have h := encode_any Q u nQ hg
    rw [hQ] at h
    rw [hQ]; exact h
  have hl := tmB_len (leB k)
  clear hB hQ e1
  generalize tmB (leB k) = R at *
  have SK := Lib.hid (szKy hk)
  have SR := Lib.hid (szKy hl)
  have LR : Hid ((R.map b8).length = (z8 32).length) := Lib.hid (by rw [z8_32, List.length_map, hl])
  have hM := Lib.hid (Mv.nil w)
  go_enter Tryd.func15, Tryd.ntmps15
  go_upto_region 0 with fail; refine wp_region_lit ?_
  refine wpList_val (run_boxL8 (vs := k.map b8) rfl rfl) rfl ?_; (try simp only [Act.put, List.setIfInBounds_toArray, List.set_cons_zero, List.set_cons_succ]); replace hM := Lib.hid (hM.out.new (k.map b8) 23); generalize w.alloc (.cells (k.map b8).toArray 23) = a1 at *; generalize w.heap.size = g1 at *
  refine wpList_val (run_alc (vs := z8 32) rfl (by kernel_rfl)) rfl ?_; (try simp only [Act.put, List.setIfInBounds_toArray, List.set_cons_zero, List.set_cons_succ]); replace hM := Lib.hid (hM.out.new (z8 32) 23); generalize a1.alloc (.cells (z8 32).toArray 23) = a2 at *; generalize a1.heap.size = g2 at *
  refine wpList_end ?_
  go_upto_region 1 with fail; refine wp_region_calm 4 (by kernel_rfl) (by kernel_rfl) ?_
  refine wpCalm_step _ (fun V hV => calm_run (run_ldM (vs := k.map b8) rfl Tryd.underlying23 rfl SK.out rfl (((hM.out.below hV).get (i := 1) rfl).range))) ?_; (try simp only [Act.put, List.setIfInBounds_toArray, List.set_cons_zero, List.set_cons_succ])
  refine wpCalm_step _ (fun V hV => calm_enter (run_call0 enters_base rfl rfl) (CB.out V (HG.out.below (hM.out.below hV).bl))) ?_; (try simp only [Act.put, List.setIfInBounds_toArray, List.set_cons_zero, List.set_cons_succ])
  refine wpCalm_step _ (fun V hV => calm_enter (run_call2 enters_mulP rfl rfl rfl rfl) (CM.out V (HG.out.below (hM.out.below hV).bl))) ?_; (try simp only [Act.put, List.setIfInBounds_toArray, List.set_cons_zero, List.set_cons_succ])
  refine wpCalm_step _ (fun V hV => calm_enter (run_call1 enters_encode rfl rfl rfl) (CE.out V (HG.out.below (hM.out.below hV).bl))) ?_; (try simp only [Act.put, List.setIfInBounds_toArray, List.set_cons_zero, List.set_cons_succ])
  refine wpCalm_done ?_; intro a5 hb; simp only [List.drop_succ_cons, List.drop_zero]
  replace hM := Lib.hid (hM.out.below hb)
  clear hb
  refine wpList_skip (run_stM (vs := R.map b8) rfl SR.out rfl rfl (one8s _) (by rw [LR.out]; exact (hM.out.get (i := 0) rfl).there)) rfl rfl ?_; replace hM := Lib.hid (hM.out.put 0 rfl (m := R.map b8) (LR.out))
  refine wpList_end ?_; go_wp2_with fail; refine bodyPost_ret (v := .agg (R.map b8).toArray) (results_rowB Tryd.results15 rfl Tryd.underlying23 rfl SR.out (hM.out.get (i := 0) rfl).range) rfl ⟨rfl, hM.out.bl⟩
theorem enters_sgtimes : Enters 15 := enters_of Tryd.func15 (by kernel_rfl) rfl
set_option maxHeartbeats 4000000 in
theorem sgjoin_any (l m : List (BitVec 8)) (w : World) (hl : l.length = 32) (hm : m.length = 32) : Calls Tryd.prog 17 #[.agg (l.map b8).toArray, .agg (m.map b8).toArray] w fun e w' => e = .returned (.agg ((l ++ m).map b8).toArray) ∧ Below w.heap.size w w' := by
  have hM := Lib.hid (Mv.nil w)
  have hlm : (l ++ m).length = 64 := by rw [List.length_append, hl, hm]
  have LL : Hid ((l.map b8).length = 32) := Lib.hid (by rw [List.length_map, hl])
  have LM : Hid ((m.map b8).length = 32) := Lib.hid (by rw [List.length_map, hm])
  have LZ : Hid ((z8 64).length = 64) := Lib.hid (by unfold z8; rw [List.length_map, List.length_replicate])
  have LX : Hid (((l ++ m).map b8).length = (z8 64).length) := Lib.hid (by rw [List.length_map, hlm, LZ.out])
  have E1 : Hid ((z8 64).take 0 ++ (l.map b8 ++ (z8 64).drop (0 + (l.map b8).length)) = l.map b8 ++ z8 32) := Lib.hid (by rw [LL.out]; rfl)
  have E2 : Hid ((l.map b8 ++ z8 32).take 32 ++ (m.map b8 ++ (l.map b8 ++ z8 32).drop (32 + (m.map b8).length)) = (l ++ m).map b8) := Lib.hid (by
    rw [LM.out, List.take_left' LL.out, List.drop_of_length_le (by rw [List.length_append, LL.out, z8_32]; exact Nat.le_refl _), List.append_nil, List.map_append])
  have OL : Hid (∀ v ∈ l.map b8, v.oneCell' = true) := Lib.hid fun v hv => by rw [List.mem_map] at hv; obtain ⟨x, _, rfl⟩ := hv; rfl
  have OM : Hid (∀ v ∈ m.map b8, v.oneCell' = true) := Lib.hid fun v hv => by rw [List.mem_map] at hv; obtain ⟨x, _, rfl⟩ := hv; rfl
  have SZ := Lib.hid (szSg hlm)
  have OX := Lib.hid (one8s (l ++ m))
  generalize l.map b8 = L at *
  generalize m.map b8 = M at *
  generalize (l ++ m).map b8 = X at *
  go_enter Tryd.func17, Tryd.ntmps17
  go_upto_region 0 with fail; refine wp_region_lit ?_
  refine wpList_val (run_boxL8 (vs := L) rfl rfl) rfl ?_; (try simp only [Act.put, List.setIfInBounds_toArray, List.set_cons_zero, List.set_cons_succ]); replace hM := Lib.hid (hM.out.new (L) 23); generalize w.alloc (.cells (L).toArray 23) = a1 at *; generalize w.heap.size = g1 at *
  refine wpList_val (run_boxL8 (vs := M) rfl rfl) rfl ?_; (try simp only [Act.put, List.setIfInBounds_toArray, List.set_cons_zero, List.set_cons_succ]); replace hM := Lib.hid (hM.out.new (M) 23); generalize a1.alloc (.cells (M).toArray 23) = a2 at *; generalize a1.heap.size = g2 at *
  refine wpList_val (run_alc (vs := z8 64) rfl (by kernel_rfl)) rfl ?_; (try simp only [Act.put, List.setIfInBounds_toArray, List.set_cons_zero, List.set_cons_succ]); replace hM := Lib.hid (hM.out.new (z8 64) 27); generalize a2.alloc (.cells (z8 64).toArray 27) = a3 at *; generalize a2.heap.size = g3 at *
  refine wpList_end ?_
  go_upto_region 1 with fail; refine wp_region_lit ?_
  refine wpList_val (run_alc (vs := z8 64) rfl (by kernel_rfl)) rfl ?_; (try simp only [Act.put, List.setIfInBounds_toArray, List.set_cons_zero, List.set_cons_succ]); replace hM := Lib.hid (hM.out.new (z8 64) 27); generalize a3.alloc (.cells (z8 64).toArray 27) = a4 at *; generalize a3.heap.size = g4 at *
  refine wpList_end ?_
  go_upto_region 2 with fail; refine wp_region_calm 2 (by kernel_rfl) (by kernel_rfl) ?_
  refine wpCalm_step _ (fun V hV => calm_run (run_slWh (h := 32) rfl Tryd.underlying27 (by kernel_rfl) rfl rfl (by omega))) ?_; (try simp only [Act.put, List.setIfInBounds_toArray, List.set_cons_zero, List.set_cons_succ])
  refine wpCalm_step _ (fun V hV => calm_run (run_slW rfl Tryd.underlying23 (by kernel_rfl) rfl)) ?_; (try simp only [Act.put, List.setIfInBounds_toArray, List.set_cons_zero, List.set_cons_succ])
  refine wpCalm_done ?_; intro a5 hb; simp only [List.drop_succ_cons, List.drop_zero]
  replace hM := Lib.hid (hM.out.below hb)
  clear hb
  refine wpList_val (run_cpyV (vs := L) (l := z8 64) rfl Tryd.underlying24 (by kernel_rfl) rfl rfl (hM.out.get (i := 3) rfl).range (by rw [LL.out]; rfl) (hM.out.get (i := 0) rfl) (by rw [LL.out, LZ.out]; omega) OL.out) rfl ?_; (try simp only [Act.put, List.setIfInBounds_toArray, List.set_cons_zero, List.set_cons_succ])
  refine wpList_end ?_
  replace hM := Lib.hid (hM.out.mid 0 rfl (f := 0) (m := L) (by rw [LL.out, LZ.out]; omega))
  rw [E1.out] at hM
  generalize a5.setCells g4 0 L = a6 at *
  go_upto_region 3 with fail; refine wp_region_calm 2 (by kernel_rfl) (by kernel_rfl) ?_
  refine wpCalm_step _ (fun V hV => calm_run (run_slWl (l := 32) rfl Tryd.underlying27 (by kernel_rfl) rfl rfl (by omega))) ?_; (try simp only [Act.put, List.setIfInBounds_toArray, List.set_cons_zero, List.set_cons_succ])
  refine wpCalm_step _ (fun V hV => calm_run (run_slW rfl Tryd.underlying23 (by kernel_rfl) rfl)) ?_; (try simp only [Act.put, List.setIfInBounds_toArray, List.set_cons_zero, List.set_cons_succ])
  refine wpCalm_done ?_; intro a7 hb; simp only [List.drop_succ_cons, List.drop_zero]
  replace hM := Lib.hid (hM.out.below hb)
  clear hb
  refine wpList_val (run_cpyV (f := 32) (vs := M) (l := L ++ z8 32) rfl Tryd.underlying24 (by kernel_rfl) rfl rfl (hM.out.get (i := 2) rfl).range (by rw [LM.out]; rfl) (hM.out.get (i := 0) rfl) (by rw [LM.out, List.length_append, LL.out, z8_32]; omega) OM.out) rfl ?_; (try simp only [Act.put, List.setIfInBounds_toArray, List.set_cons_zero, List.set_cons_succ])
  refine wpList_end ?_
  replace hM := Lib.hid (hM.out.mid 0 rfl (f := 32) (m := M) (by rw [LM.out, List.length_append, LL.out, z8_32]; omega))
  rw [E2.out] at hM
  generalize a7.setCells g4 32 M = a8 at *
  go_upto_region 4 with fail; refine wp_region_lit ?_
  refine wpList_val (run_ldM (vs := X) rfl Tryd.underlying27 rfl SZ.out rfl ((hM.out.get (i := 0) rfl).range)) rfl ?_; (try simp only [Act.put, List.setIfInBounds_toArray, List.set_cons_zero, List.set_cons_succ])
  refine wpList_skip (run_stM (vs := X) rfl SZ.out rfl rfl OX.out (by rw [LX.out]; exact (hM.out.get (i := 1) rfl).there)) rfl rfl ?_; replace hM := Lib.hid (hM.out.put 1 rfl (m := X) (LX.out))
  refine wpList_end ?_; go_wp2_with fail; refine bodyPost_ret (v := .agg (X).toArray) (results_rowB Tryd.results17 rfl Tryd.underlying27 rfl SZ.out (hM.out.get (i := 1) rfl).range) rfl ⟨rfl, hM.out.bl⟩
theorem enters_sgjoin : Enters 17 := enters_of Tryd.func17 (by kernel_rfl) rfl
end Go.Proofs.YtfdjmdfaidiliaaDoor
namespace Go.Proofs.YtfdjmdfaidiliaaDoor
open Go.RowKit
set_option maxRecDepth 20000

theorem flat1g (a : List (BitVec 8)) : [a].flatten = a := by simp
theorem flat2g (a b : List (BitVec 8)) : [a, b].flatten = a ++ b := by simp
theorem flat3g (a b c : List (BitVec 8)) : [a, b, c].flatten = a ++ b ++ c := by simp
theorem cat_below_alloc (w : World) (vs : Array Value) (t : TypeId) : Below w.heap.size w (w.alloc (.cells vs t)) := (Below.refl _ _).alloc (Nat.le_refl _) _
/-- What stands while both parts of a secret are told. -/
def ExS (w : World) (g1 g2 g3 g4 g5 : Nat) (S F L : List Value) (V : World) : Prop := ∃ x y : List Value, x.length = 32 ∧ y.length = 32 ∧ Mv w [(g5, L), (g4, F), (g3, y), (g2, x), (g1, S)] V
set_option maxHeartbeats 4000000 in
theorem sgexpand_any (s : List (BitVec 8)) (w : World) (hs : s.length = 32) (hW : W9 w) : Calls Tryd.prog 14 #[.agg (s.map b8).toArray] w fun e w' => e = .returned (.tuple #[.agg ((secA s).map b8).toArray, .agg (((sum64 s).drop 32).map b8).toArray]) ∧ Below w.heap.size w w' := by
  have HW := Lib.hid hW; clear hW
  have lD := sum64_len s
  have lF : ((sum64 s).take 32).length = 32 := by rw [List.length_take]; omega
  have lL : ((sum64 s).drop 32).length = 32 := by rw [List.length_drop]; omega
  have lC := secA_len s
  have CD : Hid (∀ (g : Nat) (v : Value) (u : World), Cat g [v] [s] u → W9 u → Calls Tryd.prog 38 #[.slice (some ⟨g, 0, none⟩) 1 1] u fun e w' => e = .returned (.agg ((sum64 s).map b8).toArray) ∧ Below u.heap.size u w') := Lib.hid fun g v u h h2 => by
    have h := sgdigest_any g [v] [s] 1 u h rfl (by omega) (by rw [flat1g]; omega) h2.t
    rw [flat1g] at h; exact h
  have CS : Hid (∀ u : World, Calls Tryd.prog 34 #[.agg ((sum64 s).map b8).toArray] u fun e w' => e = .returned (.tuple #[.agg (((sum64 s).take 32).map b8).toArray, .agg (((sum64 s).drop 32).map b8).toArray]) ∧ Below u.heap.size u w') := Lib.hid fun u => sgsplit_any (sum64 s) u lD
  have CK : Hid (∀ u : World, Calls Tryd.prog 39 #[.agg (((sum64 s).take 32).map b8).toArray] u fun e w' => e = .returned (.agg ((secA s).map b8).toArray) ∧ Below u.heap.size u w') := Lib.hid fun u => clampB_any _ u lF
  generalize secA s = C at *
  generalize (sum64 s).take 32 = F at *
  generalize (sum64 s).drop 32 = L at *
  generalize sum64 s = D at *
  have SK := Lib.hid (szKy hs)
  have SF := Lib.hid (szKy lF)
  have SL := Lib.hid (szKy lL)
  have SC := Lib.hid (szKy lC)
  have LF : Hid ((F.map b8).length = (z8 32).length) := Lib.hid (by rw [z8_32, List.length_map, lF])
  have LL : Hid ((L.map b8).length = (z8 32).length) := Lib.hid (by rw [z8_32, List.length_map, lL])
  have LC : Hid ((C.map b8).length = (z8 32).length) := Lib.hid (by rw [z8_32, List.length_map, lC])
  have hM := Lib.hid (Mv.nil w)
  go_enter Tryd.func14, Tryd.ntmps14
  go_upto_region 0 with fail; refine wp_region_lit ?_
  refine wpList_val (run_boxL8 (vs := s.map b8) rfl rfl) rfl ?_; (try simp only [Act.put, List.setIfInBounds_toArray, List.set_cons_zero, List.set_cons_succ]); replace hM := Lib.hid (hM.out.new (s.map b8) 23); generalize w.alloc (.cells (s.map b8).toArray 23) = a1 at *; generalize w.heap.size = g1 at *
  refine wpList_val (run_alc (vs := z8 32) rfl (by kernel_rfl)) rfl ?_; (try simp only [Act.put, List.setIfInBounds_toArray, List.set_cons_zero, List.set_cons_succ]); replace hM := Lib.hid (hM.out.new (z8 32) 23); generalize a1.alloc (.cells (z8 32).toArray 23) = a2 at *; generalize a1.heap.size = g2 at *
  refine wpList_val (run_alc (vs := z8 32) rfl (by kernel_rfl)) rfl ?_; (try simp only [Act.put, List.setIfInBounds_toArray, List.set_cons_zero, List.set_cons_succ]); replace hM := Lib.hid (hM.out.new (z8 32) 23); generalize a2.alloc (.cells (z8 32).toArray 23) = a3 at *; generalize a2.heap.size = g3 at *
  refine wpList_end ?_
  go_upto_region 1 with fail; refine wp_region_lit ?_
  refine wpList_val (run_slW rfl Tryd.underlying23 (by kernel_rfl) rfl) rfl ?_; (try simp only [Act.put, List.setIfInBounds_toArray, List.set_cons_zero, List.set_cons_succ])
  have HCt : Hid (Cat a3.heap.size [.slice (some ⟨g1, 0, none⟩) 32 32] [s] (a3.alloc (.cells #[.slice (some ⟨g1, 0, none⟩) 32 32] 24))) := Lib.hid (cat_row a3 _ [s] fun i hi => match i, hi with
    | 0, _ => ⟨_, rfl, sl_own (hM.out.get (i := 2) rfl) hs⟩
    | i + 1, hi => absurd hi (by simp))
  refine wpList_val (run_bsl (cells := #[.slice (some ⟨g1, 0, none⟩) 32 32]) (z := .slice none 0 0) rfl Tryd.underlying67 (by kernel_rfl) (by omega) (by omega) (by kernel_rfl)) rfl ?_; (try simp only [Act.put, List.setIfInBounds_toArray, List.set_cons_zero, List.set_cons_succ])
  replace hM := Lib.hid (hM.out.below (cat_below_alloc a3 #[.slice (some ⟨g1, 0, none⟩) 32 32] 24))
  generalize a3.alloc (.cells #[.slice (some ⟨g1, 0, none⟩) 32 32] 24) = a4 at *
  generalize a3.heap.size = gc at *
  refine wpList_enter (run_call1 enters_sgdigest rfl rfl rfl) rfl (CD.out gc _ _ HCt.out (HW.out.below hM.out.bl)) (fun a5 hb => ?_); (try simp only [Act.put, List.setIfInBounds_toArray, List.set_cons_zero, List.set_cons_succ]); replace hM := Lib.hid (hM.out.below hb); clear hb
  clear HCt
  refine wpList_enter (run_call1 enters_sgsplit rfl rfl rfl) rfl (CS.out _) (fun a6 hb => ?_); (try simp only [Act.put, List.setIfInBounds_toArray, List.set_cons_zero, List.set_cons_succ]); replace hM := Lib.hid (hM.out.below hb); clear hb
  refine wpList_val (run_mv (v := .tuple _) rfl rfl) rfl ?_; (try simp only [Act.put, List.setIfInBounds_toArray, List.set_cons_zero, List.set_cons_succ])
  refine wpList_val (run_xtr (v := .agg (F.map b8).toArray) rfl rfl rfl) rfl ?_; (try simp only [Act.put, List.setIfInBounds_toArray, List.set_cons_zero, List.set_cons_succ])
  refine wpList_val (run_xtr (v := .agg (L.map b8).toArray) rfl rfl rfl) rfl ?_; (try simp only [Act.put, List.setIfInBounds_toArray, List.set_cons_zero, List.set_cons_succ])
  refine wpList_val (run_alc (vs := z8 32) rfl (by kernel_rfl)) rfl ?_; (try simp only [Act.put, List.setIfInBounds_toArray, List.set_cons_zero, List.set_cons_succ]); replace hM := Lib.hid (hM.out.new (z8 32) 23); generalize a6.alloc (.cells (z8 32).toArray 23) = a7 at *; generalize a6.heap.size = g4 at *
  refine wpList_val (run_alc (vs := z8 32) rfl (by kernel_rfl)) rfl ?_; (try simp only [Act.put, List.setIfInBounds_toArray, List.set_cons_zero, List.set_cons_succ]); replace hM := Lib.hid (hM.out.new (z8 32) 23); generalize a7.alloc (.cells (z8 32).toArray 23) = a8 at *; generalize a7.heap.size = g5 at *
  refine wpList_skip (run_stM (vs := F.map b8) rfl SF.out rfl rfl (one8s _) (by rw [LF.out]; exact (hM.out.get (i := 1) rfl).there)) rfl rfl ?_; replace hM := Lib.hid (hM.out.put 1 rfl (m := F.map b8) (LF.out))
  generalize a8.setCells g4 0 (F.map b8) = a9 at *
  refine wpList_skip (run_stM (vs := L.map b8) rfl SL.out rfl rfl (one8s _) (by rw [LL.out]; exact (hM.out.get (i := 0) rfl).there)) rfl rfl ?_; replace hM := Lib.hid (hM.out.put 0 rfl (m := L.map b8) (LL.out))
  refine wpList_end ?_
  replace hM : Hid (Mv w [(g5, L.map b8), (g4, F.map b8), (g3, z8 32), (g2, z8 32), (g1, s.map b8)] (a9.setCells g5 0 (L.map b8))) := hM
  generalize a9.setCells g5 0 (L.map b8) = b1 at *
  generalize s.map b8 = S at *
  go_upto_region 2 with fail
  have HF : Hid (∀ V, ExS w g1 g2 g3 g4 g5 S (F.map b8) (L.map b8) V → V.rangeAt g4 0 (F.map b8)) := Lib.hid fun V ⟨x, y, _, _, h⟩ => (h.get (i := 1) rfl).range
  have HL : Hid (∀ V, ExS w g1 g2 g3 g4 g5 S (F.map b8) (L.map b8) V → V.rangeAt g5 0 (L.map b8)) := Lib.hid fun V ⟨x, y, _, _, h⟩ => (h.get (i := 0) rfl).range
  replace hM := Lib.hid (hM.out.below (Below.refl _ _).drew)
  have h0 : ExS w g1 g2 g3 g4 g5 S (F.map b8) (L.map b8) b1.drew := ⟨_, _, z8_32, z8_32, hM.out⟩
  refine wp_region_noPanic ?_
  refine wp_region_late (S := fun _ V => ExS w g1 g2 g3 g4 g5 S (F.map b8) (L.map b8) V) (by kernel_rfl) h0 (fun hS => ?_)
  generalize b1.drew = b2 at *
  refine wpAnyL_take 0 rfl rfl (by kernel_rfl) (by kernel_rfl) (by kernel_rfl) (fun _ _ _ h => h) rfl (fun V hV => run_ldM (vs := F.map b8) rfl Tryd.underlying23 rfl SF.out rfl (HF.out V hV)) hS ?_; (try simp only [Act.put, List.setIfInBounds_toArray, List.set_cons_zero, List.set_cons_succ])
  refine wpAnyL_take 2 rfl rfl (by kernel_rfl) (by kernel_rfl) (by kernel_rfl) (fun _ _ _ h => h) rfl (fun V hV => run_ldM (vs := L.map b8) rfl Tryd.underlying23 rfl SL.out rfl (HL.out V hV)) hS ?_; (try simp only [Act.put, List.setIfInBounds_toArray, List.set_cons_zero, List.set_cons_succ])
  refine wpAnyL_call (R := fun v w' => v = .agg (C.map b8).toArray ∧ Below b2.heap.size b2 w') 1 (by kernel_rfl) rfl rfl rfl (run_call1 enters_clampB rfl rfl rfl) (calls_eq (CK.out _)) (fun v w' h => ⟨_, _, z8_32, z8_32, hM.out.below h.2⟩) (fun v b3 h => ?_); (try simp only [Act.put, List.setIfInBounds_toArray, List.set_cons_zero, List.set_cons_succ])
  obtain ⟨rfl, hb⟩ := h
  replace hM := Lib.hid (hM.out.below hb)
  clear hb hS h0
  have hM2 := Lib.hid (hM.out.put 3 rfl (m := C.map b8) LC.out)
  refine wpAnyL_skip 3 (by kernel_rfl) rfl rfl rfl (run_stM (vs := C.map b8) rfl SC.out rfl rfl (one8s _) ((hM.out.get (i := 3) rfl).thereM (by rw [LC.out]; omega))) ⟨_, _, LC.out.trans z8_32, z8_32, hM2.out⟩ ?_
  clear hM
  have hM3 := Lib.hid (hM2.out.put 2 rfl (m := L.map b8) LL.out)
  refine wpAnyL_skip 4 (by kernel_rfl) rfl rfl rfl (run_stM (vs := L.map b8) rfl SL.out rfl rfl (one8s _) ((hM2.out.get (i := 2) rfl).thereM (by rw [LL.out]; omega))) ⟨_, _, LC.out.trans z8_32, LL.out.trans z8_32, hM3.out⟩ ?_
  clear hM2
  refine wpAnyL_done (by kernel_rfl) ?_ _; refine NoPanic.normal ?_
  have hM : Hid (Mv w [(g5, L.map b8), (g4, F.map b8), (g3, L.map b8), (g2, C.map b8), (g1, S)] ((b3.setCells g2 0 (C.map b8)).setCells g3 0 (L.map b8))) := hM3
  go_wp2_with fail
  refine bodyPost_ret (v := .tuple #[.agg (C.map b8).toArray, .agg (L.map b8).toArray]) (results_two Tryd.results14 rfl rfl Tryd.underlying23 rfl SC.out SL.out (hM.out.get (i := 3) rfl).range (hM.out.get (i := 2) rfl).range) rfl ⟨rfl, hM.out.bl⟩
theorem enters_sgexpand : Enters 14 := enters_of Tryd.func14 (by kernel_rfl) rfl
set_option maxHeartbeats 4000000 in
theorem sgpublic_any (k : List (BitVec 8)) (w : World) (hk : k.length = 32) (hW : W9 w) : Calls Tryd.prog 11 #[.agg (k.map b8).toArray] w fun e w' => e = .returned (.agg ((pubB k).map b8).toArray) ∧ Below w.heap.size w w' := by
  have HW := Lib.hid hW; clear hW
  have lA := secA_len k
  have lH : ((sum64 k).drop 32).length = 32 := by rw [List.length_drop, sum64_len]
  have lP := pubB_len k
  have CX : Hid (∀ u : World, W9 u → Calls Tryd.prog 14 #[.agg (k.map b8).toArray] u fun e w' => e = .returned (.tuple #[.agg ((secA k).map b8).toArray, .agg (((sum64 k).drop 32).map b8).toArray]) ∧ Below u.heap.size u w') := Lib.hid fun u h => sgexpand_any k u hk h
  have CT : Hid (∀ u : World, W9 u → Calls Tryd.prog 15 #[.agg ((secA k).map b8).toArray] u fun e w' => e = .returned (.agg ((pubB k).map b8).toArray) ∧ Below u.heap.size u w') := Lib.hid fun u h => sgtimes_any _ u lA h.e
  generalize pubB k = P at *
  generalize secA k = A at *
  generalize (sum64 k).drop 32 = H at *
  have SK := Lib.hid (szKy hk)
  have SA := Lib.hid (szKy lA)
  have SH := Lib.hid (szKy lH)
  have SP := Lib.hid (szKy lP)
  have LA : Hid ((A.map b8).length = (z8 32).length) := Lib.hid (by rw [z8_32, List.length_map, lA])
  have LH : Hid ((H.map b8).length = (z8 32).length) := Lib.hid (by rw [z8_32, List.length_map, lH])
  have LP : Hid ((P.map b8).length = (z8 32).length) := Lib.hid (by rw [z8_32, List.length_map, lP])
  have hM := Lib.hid (Mv.nil w)
  go_enter Tryd.func11, Tryd.ntmps11
  go_upto_region 0 with fail; refine wp_region_lit ?_
  refine wpList_val (run_boxL8 (vs := k.map b8) rfl rfl) rfl ?_; (try simp only [Act.put, List.setIfInBounds_toArray, List.set_cons_zero, List.set_cons_succ]); replace hM := Lib.hid (hM.out.new (k.map b8) 23); generalize w.alloc (.cells (k.map b8).toArray 23) = a1 at *; generalize w.heap.size = g1 at *
  refine wpList_val (run_alc (vs := z8 32) rfl (by kernel_rfl)) rfl ?_; (try simp only [Act.put, List.setIfInBounds_toArray, List.set_cons_zero, List.set_cons_succ]); replace hM := Lib.hid (hM.out.new (z8 32) 23); generalize a1.alloc (.cells (z8 32).toArray 23) = a2 at *; generalize a1.heap.size = g2 at *
  refine wpList_end ?_
  go_upto_region 1 with fail; refine wp_region_lit ?_
  refine wpList_val (run_ldM (vs := k.map b8) rfl Tryd.underlying23 rfl SK.out rfl ((hM.out.get (i := 1) rfl).range)) rfl ?_; (try simp only [Act.put, List.setIfInBounds_toArray, List.set_cons_zero, List.set_cons_succ])
  refine wpList_enter (run_call1 enters_sgexpand rfl rfl rfl) rfl (CX.out _ (HW.out.below hM.out.bl)) (fun a3 hb => ?_); (try simp only [Act.put, List.setIfInBounds_toArray, List.set_cons_zero, List.set_cons_succ]); replace hM := Lib.hid (hM.out.below hb); clear hb
  refine wpList_val (run_mv (v := .tuple _) rfl rfl) rfl ?_; (try simp only [Act.put, List.setIfInBounds_toArray, List.set_cons_zero, List.set_cons_succ])
  refine wpList_val (run_xtr (v := .agg (A.map b8).toArray) rfl rfl rfl) rfl ?_; (try simp only [Act.put, List.setIfInBounds_toArray, List.set_cons_zero, List.set_cons_succ])
  refine wpList_val (run_xtr (v := .agg (H.map b8).toArray) rfl rfl rfl) rfl ?_; (try simp only [Act.put, List.setIfInBounds_toArray, List.set_cons_zero, List.set_cons_succ])
  refine wpList_val (run_alc (vs := z8 32) rfl (by kernel_rfl)) rfl ?_; (try simp only [Act.put, List.setIfInBounds_toArray, List.set_cons_zero, List.set_cons_succ]); replace hM := Lib.hid (hM.out.new (z8 32) 23); generalize a3.alloc (.cells (z8 32).toArray 23) = a4 at *; generalize a3.heap.size = g3 at *
  refine wpList_val (run_alc (vs := z8 32) rfl (by kernel_rfl)) rfl ?_; (try simp only [Act.put, List.setIfInBounds_toArray, List.set_cons_zero, List.set_cons_succ]); replace hM := Lib.hid (hM.out.new (z8 32) 23); generalize a4.alloc (.cells (z8 32).toArray 23) = a5 at *; generalize a4.heap.size = g4 at *
  refine wpList_skip (run_stM (vs := A.map b8) rfl SA.out rfl rfl (one8s _) (by rw [LA.out]; exact (hM.out.get (i := 1) rfl).there)) rfl rfl ?_; replace hM := Lib.hid (hM.out.put 1 rfl (m := A.map b8) (LA.out))
  generalize a5.setCells g3 0 (A.map b8) = a6 at *
  refine wpList_skip (run_stM (vs := H.map b8) rfl SH.out rfl rfl (one8s _) (by rw [LH.out]; exact (hM.out.get (i := 0) rfl).there)) rfl rfl ?_; replace hM := Lib.hid (hM.out.put 0 rfl (m := H.map b8) (LH.out))
  refine wpList_end ?_
  replace hM : Hid (Mv w [(g4, H.map b8), (g3, A.map b8), (g2, z8 32), (g1, k.map b8)] (a6.setCells g4 0 (H.map b8))) := hM
  generalize a6.setCells g4 0 (H.map b8) = a7 at *
  go_upto_region 2 with fail; refine wp_region_lit ?_
  refine wpList_val (run_ldM (vs := A.map b8) rfl Tryd.underlying23 rfl SA.out rfl ((hM.out.get (i := 1) rfl).range)) rfl ?_; (try simp only [Act.put, List.setIfInBounds_toArray, List.set_cons_zero, List.set_cons_succ])
  refine wpList_enter (run_call1 enters_sgtimes rfl rfl rfl) rfl (CT.out _ (HW.out.below hM.out.bl)) (fun a8 hb => ?_); (try simp only [Act.put, List.setIfInBounds_toArray, List.set_cons_zero, List.set_cons_succ]); replace hM := Lib.hid (hM.out.below hb); clear hb
  refine wpList_skip (run_stM (vs := P.map b8) rfl SP.out rfl rfl (one8s _) (by rw [LP.out]; exact (hM.out.get (i := 2) rfl).there)) rfl rfl ?_; replace hM := Lib.hid (hM.out.put 2 rfl (m := P.map b8) (LP.out))
  refine wpList_end ?_; go_wp2_with fail; refine bodyPost_ret (v := .agg (P.map b8).toArray) (results_rowB Tryd.results11 rfl Tryd.underlying23 rfl SP.out (hM.out.get (i := 2) rfl).range) rfl ⟨rfl, hM.out.bl⟩
theorem pubC : PubC := fun k u hk hW => sgpublic_any k u hk hW
set_option maxHeartbeats 8000000 in
theorem sgsign_any (k : List (BitVec 8)) (vb : Value) (b : List (BitVec 8)) (w : World) (hk : k.length = 32) (hb : Sl vb b w) (hbl : b.length ≤ 300) (hW : W9 w) : Calls Tryd.prog 7 #[.agg (k.map b8).toArray, vb] w fun e w' => e = .returned (.agg ((sigB k b).map b8).toArray) ∧ Below w.heap.size w w' := by
  have HW := Lib.hid hW; clear hW
  have HB := Lib.hid hb
  obtain ⟨ab, cb, rfl, -, -⟩ := hb
  have lA := secA_len k
  have lH : ((sum64 k).drop 32).length = 32 := by rw [List.length_drop, sum64_len]
  have lP := pubB_len k
  have lR := sgR_len k b
  have lF := sgF_len k b
  have lN := sgK_len k b
  have lS := sgS_len k b
  have lG := sigB_len k b
  have CX : Hid (∀ u : World, W9 u → Calls Tryd.prog 14 #[.agg (k.map b8).toArray] u fun e w' => e = .returned (.tuple #[.agg ((secA k).map b8).toArray, .agg (((sum64 k).drop 32).map b8).toArray]) ∧ Below u.heap.size u w') := Lib.hid fun u h => sgexpand_any k u hk h
  have CT : Hid (∀ u : World, W9 u → Calls Tryd.prog 15 #[.agg ((secA k).map b8).toArray] u fun e w' => e = .returned (.agg ((pubB k).map b8).toArray) ∧ Below u.heap.size u w') := Lib.hid fun u h => sgtimes_any _ u lA h.e
  have CN : Hid (∀ (g : Nat) (v1 v2 : Value) (u : World), Cat g [v1, v2] [(sum64 k).drop 32, b] u → W9 u → Calls Tryd.prog 16 #[.slice (some ⟨g, 0, none⟩) 2 2] u fun e w' => e = .returned (.agg ((sgR k b).map b8).toArray) ∧ Below u.heap.size u w') := Lib.hid fun g v1 v2 u h h2 => by
    have h := sgnum_any g [v1, v2] [(sum64 k).drop 32, b] 2 u h rfl (by omega) (by rw [flat2g, List.length_append]; omega) h2
    rw [flat2g] at h; exact h
  have CF : Hid (∀ u : World, W9 u → Calls Tryd.prog 15 #[.agg ((sgR k b).map b8).toArray] u fun e w' => e = .returned (.agg ((sgF k b).map b8).toArray) ∧ Below u.heap.size u w') := Lib.hid fun u h => sgtimes_any _ u lR h.e
  have CK : Hid (∀ (g : Nat) (v1 v2 v3 : Value) (u : World), Cat g [v1, v2, v3] [sgF k b, pubB k, b] u → W9 u → Calls Tryd.prog 16 #[.slice (some ⟨g, 0, none⟩) 3 3] u fun e w' => e = .returned (.agg ((sgK k b).map b8).toArray) ∧ Below u.heap.size u w') := Lib.hid fun g v1 v2 v3 u h h2 => by
    have h := sgnum_any g [v1, v2, v3] [sgF k b, pubB k, b] 3 u h rfl (by omega) (by rw [flat3g, List.length_append, List.length_append]; omega) h2
    rw [flat3g] at h; exact h
  have CM : Hid (∀ u : World, W9 u → Calls Tryd.prog 18 #[.agg ((sgK k b).map b8).toArray, .agg ((secA k).map b8).toArray, .agg ((sgR k b).map b8).toArray] u fun e w' => e = .returned (.agg ((sgS k b).map b8).toArray) ∧ Below u.heap.size u w') := Lib.hid fun u h => smad_any _ _ _ u lN lA lR h.s
  have CJ : Hid (∀ u : World, Calls Tryd.prog 17 #[.agg ((sgF k b).map b8).toArray, .agg ((sgS k b).map b8).toArray] u fun e w' => e = .returned (.agg ((sigB k b).map b8).toArray) ∧ Below u.heap.size u w') := Lib.hid fun u => sgjoin_any _ _ u lF lS
  generalize sigB k b = G at *
  generalize sgS k b = Y at *
  generalize sgK k b = N at *
  generalize sgF k b = F0 at *
  generalize sgR k b = R at *
  generalize pubB k = P at *
  generalize secA k = A at *
  generalize (sum64 k).drop 32 = H at *
  have SK := Lib.hid (szKy hk)
  have SA := Lib.hid (szKy lA)
  have SH := Lib.hid (szKy lH)
  have SP := Lib.hid (szKy lP)
  have SR := Lib.hid (szKy lR)
  have SF := Lib.hid (szKy lF)
  have SG2 := Lib.hid (szSg lG)
  have LA : Hid ((A.map b8).length = (z8 32).length) := Lib.hid (by rw [z8_32, List.length_map, lA])
  have LH : Hid ((H.map b8).length = (z8 32).length) := Lib.hid (by rw [z8_32, List.length_map, lH])
  have LP : Hid ((P.map b8).length = (z8 32).length) := Lib.hid (by rw [z8_32, List.length_map, lP])
  have LR : Hid ((R.map b8).length = (z8 32).length) := Lib.hid (by rw [z8_32, List.length_map, lR])
  have LF : Hid ((F0.map b8).length = (z8 32).length) := Lib.hid (by rw [z8_32, List.length_map, lF])
  have LG : Hid ((G.map b8).length = (z8 64).length) := Lib.hid (by unfold z8; rw [List.length_map, List.length_map, lG, List.length_replicate])
  have hM := Lib.hid (Mv.nil w)
  go_enter Tryd.func7, Tryd.ntmps7
  go_upto_region 0 with fail; refine wp_region_lit ?_
  refine wpList_val (run_boxL8 (vs := k.map b8) rfl rfl) rfl ?_; (try simp only [Act.put, List.setIfInBounds_toArray, List.set_cons_zero, List.set_cons_succ]); replace hM := Lib.hid (hM.out.new (k.map b8) 23); generalize w.alloc (.cells (k.map b8).toArray 23) = a1 at *; generalize w.heap.size = g1 at *
  refine wpList_val (run_alc (vs := z8 64) rfl (by kernel_rfl)) rfl ?_; (try simp only [Act.put, List.setIfInBounds_toArray, List.set_cons_zero, List.set_cons_succ]); replace hM := Lib.hid (hM.out.new (z8 64) 27); generalize a1.alloc (.cells (z8 64).toArray 27) = a2 at *; generalize a1.heap.size = g2 at *
  refine wpList_end ?_
  go_upto_region 1 with fail; refine wp_region_lit ?_
  refine wpList_val (run_ldM (vs := k.map b8) rfl Tryd.underlying23 rfl SK.out rfl ((hM.out.get (i := 1) rfl).range)) rfl ?_; (try simp only [Act.put, List.setIfInBounds_toArray, List.set_cons_zero, List.set_cons_succ])
  refine wpList_enter (run_call1 enters_sgexpand rfl rfl rfl) rfl (CX.out _ (HW.out.below hM.out.bl)) (fun a3 hb => ?_); (try simp only [Act.put, List.setIfInBounds_toArray, List.set_cons_zero, List.set_cons_succ]); replace hM := Lib.hid (hM.out.below hb); clear hb
  refine wpList_val (run_mv (v := .tuple _) rfl rfl) rfl ?_; (try simp only [Act.put, List.setIfInBounds_toArray, List.set_cons_zero, List.set_cons_succ])
  refine wpList_val (run_xtr (v := .agg (A.map b8).toArray) rfl rfl rfl) rfl ?_; (try simp only [Act.put, List.setIfInBounds_toArray, List.set_cons_zero, List.set_cons_succ])
  refine wpList_val (run_xtr (v := .agg (H.map b8).toArray) rfl rfl rfl) rfl ?_; (try simp only [Act.put, List.setIfInBounds_toArray, List.set_cons_zero, List.set_cons_succ])
  refine wpList_val (run_alc (vs := z8 32) rfl (by kernel_rfl)) rfl ?_; (try simp only [Act.put, List.setIfInBounds_toArray, List.set_cons_zero, List.set_cons_succ]); replace hM := Lib.hid (hM.out.new (z8 32) 23); generalize a3.alloc (.cells (z8 32).toArray 23) = a4 at *; generalize a3.heap.size = g3 at *
  refine wpList_val (run_alc (vs := z8 32) rfl (by kernel_rfl)) rfl ?_; (try simp only [Act.put, List.setIfInBounds_toArray, List.set_cons_zero, List.set_cons_succ]); replace hM := Lib.hid (hM.out.new (z8 32) 23); generalize a4.alloc (.cells (z8 32).toArray 23) = a5 at *; generalize a4.heap.size = g4 at *
  refine wpList_skip (run_stM (vs := A.map b8) rfl SA.out rfl rfl (one8s _) (by rw [LA.out]; exact (hM.out.get (i := 1) rfl).there)) rfl rfl ?_; replace hM := Lib.hid (hM.out.put 1 rfl (m := A.map b8) (LA.out))
  generalize a5.setCells g3 0 (A.map b8) = a6 at *
  refine wpList_skip (run_stM (vs := H.map b8) rfl SH.out rfl rfl (one8s _) (by rw [LH.out]; exact (hM.out.get (i := 0) rfl).there)) rfl rfl ?_; replace hM := Lib.hid (hM.out.put 0 rfl (m := H.map b8) (LH.out))
  refine wpList_end ?_
  replace hM : Hid (Mv w [(g4, H.map b8), (g3, A.map b8), (g2, z8 64), (g1, k.map b8)] (a6.setCells g4 0 (H.map b8))) := hM
  generalize a6.setCells g4 0 (H.map b8) = a7 at *
  go_upto_region 2 with fail; refine wp_region_lit ?_
  refine wpList_val (run_ldM (vs := A.map b8) rfl Tryd.underlying23 rfl SA.out rfl ((hM.out.get (i := 1) rfl).range)) rfl ?_; (try simp only [Act.put, List.setIfInBounds_toArray, List.set_cons_zero, List.set_cons_succ])
  refine wpList_enter (run_call1 enters_sgtimes rfl rfl rfl) rfl (CT.out _ (HW.out.below hM.out.bl)) (fun a8 hb => ?_); (try simp only [Act.put, List.setIfInBounds_toArray, List.set_cons_zero, List.set_cons_succ]); replace hM := Lib.hid (hM.out.below hb); clear hb
  refine wpList_val (run_alc (vs := z8 32) rfl (by kernel_rfl)) rfl ?_; (try simp only [Act.put, List.setIfInBounds_toArray, List.set_cons_zero, List.set_cons_succ]); replace hM := Lib.hid (hM.out.new (z8 32) 23); generalize a8.alloc (.cells (z8 32).toArray 23) = a9 at *; generalize a8.heap.size = g5 at *
  refine wpList_skip (run_stM (vs := P.map b8) rfl SP.out rfl rfl (one8s _) (by rw [LP.out]; exact (hM.out.get (i := 0) rfl).there)) rfl rfl ?_; replace hM := Lib.hid (hM.out.put 0 rfl (m := P.map b8) (LP.out))
  refine wpList_end ?_
  replace hM : Hid (Mv w [(g5, P.map b8), (g4, H.map b8), (g3, A.map b8), (g2, z8 64), (g1, k.map b8)] (a9.setCells g5 0 (P.map b8))) := hM
  generalize a9.setCells g5 0 (P.map b8) = b1 at *
  go_upto_region 3 with fail; refine wp_region_lit ?_
  refine wpList_val (run_slW rfl Tryd.underlying23 (by kernel_rfl) rfl) rfl ?_; (try simp only [Act.put, List.setIfInBounds_toArray, List.set_cons_zero, List.set_cons_succ])
  refine wpList_val (run_mv (v := .slice _ _ _) rfl rfl) rfl ?_; (try simp only [Act.put, List.setIfInBounds_toArray, List.set_cons_zero, List.set_cons_succ])
  have HCt : Hid (Cat b1.heap.size [.slice (some ⟨g4, 0, none⟩) 32 32, .slice ab b.length cb] [H, b] (b1.alloc (.cells #[.slice (some ⟨g4, 0, none⟩) 32 32, .slice ab b.length cb] 24))) := Lib.hid (cat_row b1 _ [H, b] fun i hi => match i, hi with
    | 0, _ => ⟨_, rfl, sl_own (hM.out.get (i := 1) rfl) lH⟩
    | 1, _ => ⟨_, rfl, HB.out.below hM.out.bl⟩
    | i + 2, hi => absurd hi (by simp))
  refine wpList_val (run_bsl (cells := #[.slice (some ⟨g4, 0, none⟩) 32 32, .slice ab b.length cb]) (z := .slice none 0 0) rfl Tryd.underlying67 (by kernel_rfl) (by omega) (by omega) (by kernel_rfl)) rfl ?_; (try simp only [Act.put, List.setIfInBounds_toArray, List.set_cons_zero, List.set_cons_succ])
  replace hM := Lib.hid (hM.out.below (cat_below_alloc b1 #[.slice (some ⟨g4, 0, none⟩) 32 32, .slice ab b.length cb] 24))
  generalize b1.alloc (.cells #[.slice (some ⟨g4, 0, none⟩) 32 32, .slice ab b.length cb] 24) = b2 at *
  generalize b1.heap.size = gc at *
  refine wpList_enter (run_call1 enters_sgnum rfl rfl rfl) rfl (CN.out gc _ _ _ HCt.out (HW.out.below hM.out.bl)) (fun b3 hb => ?_); (try simp only [Act.put, List.setIfInBounds_toArray, List.set_cons_zero, List.set_cons_succ]); replace hM := Lib.hid (hM.out.below hb); clear hb
  clear HCt
  refine wpList_val (run_alc (vs := z8 32) rfl (by kernel_rfl)) rfl ?_; (try simp only [Act.put, List.setIfInBounds_toArray, List.set_cons_zero, List.set_cons_succ]); replace hM := Lib.hid (hM.out.new (z8 32) 23); generalize b3.alloc (.cells (z8 32).toArray 23) = b4 at *; generalize b3.heap.size = g6 at *
  refine wpList_skip (run_stM (vs := R.map b8) rfl SR.out rfl rfl (one8s _) (by rw [LR.out]; exact (hM.out.get (i := 0) rfl).there)) rfl rfl ?_; replace hM := Lib.hid (hM.out.put 0 rfl (m := R.map b8) (LR.out))
  refine wpList_end ?_
  replace hM : Hid (Mv w [(g6, R.map b8), (g5, P.map b8), (g4, H.map b8), (g3, A.map b8), (g2, z8 64), (g1, k.map b8)] (b4.setCells g6 0 (R.map b8))) := hM
  generalize b4.setCells g6 0 (R.map b8) = b5 at *
  go_upto_region 4 with fail; refine wp_region_lit ?_
  refine wpList_val (run_ldM (vs := R.map b8) rfl Tryd.underlying23 rfl SR.out rfl ((hM.out.get (i := 0) rfl).range)) rfl ?_; (try simp only [Act.put, List.setIfInBounds_toArray, List.set_cons_zero, List.set_cons_succ])
  refine wpList_enter (run_call1 enters_sgtimes rfl rfl rfl) rfl (CF.out _ (HW.out.below hM.out.bl)) (fun b6 hb => ?_); (try simp only [Act.put, List.setIfInBounds_toArray, List.set_cons_zero, List.set_cons_succ]); replace hM := Lib.hid (hM.out.below hb); clear hb
  refine wpList_val (run_alc (vs := z8 32) rfl (by kernel_rfl)) rfl ?_; (try simp only [Act.put, List.setIfInBounds_toArray, List.set_cons_zero, List.set_cons_succ]); replace hM := Lib.hid (hM.out.new (z8 32) 23); generalize b6.alloc (.cells (z8 32).toArray 23) = b7 at *; generalize b6.heap.size = g7 at *
  refine wpList_skip (run_stM (vs := F0.map b8) rfl SF.out rfl rfl (one8s _) (by rw [LF.out]; exact (hM.out.get (i := 0) rfl).there)) rfl rfl ?_; replace hM := Lib.hid (hM.out.put 0 rfl (m := F0.map b8) (LF.out))
  refine wpList_end ?_
  replace hM : Hid (Mv w [(g7, F0.map b8), (g6, R.map b8), (g5, P.map b8), (g4, H.map b8), (g3, A.map b8), (g2, z8 64), (g1, k.map b8)] (b7.setCells g7 0 (F0.map b8))) := hM
  generalize b7.setCells g7 0 (F0.map b8) = b8' at *
  go_upto_region 5 with fail
  refine wp_region_noPanic ?_; refine wp_region_late (S := Till 10 (fun V => Below b8'.heap.size b8' V)) (by kernel_rfl) (.inr (Below.refl _ _).drew) (fun _ => ?_); have hS : Below b8'.heap.size b8' b8'.drew := (Below.refl _ _).drew
  generalize b8'.drew = c1 at *
  refine wpAnyD_take 0 rfl rfl (by kernel_rfl) (by kernel_rfl) (by kernel_rfl) (by kernel_rfl) (by kernel_rfl) (fun _ _ _ h => h) rfl (fun V hV => run_ldM (vs := F0.map b8) rfl Tryd.underlying23 rfl SF.out rfl ((hM.out.below hV).get (i := 0) rfl).range) hS ?_; (try simp only [Act.put, List.setIfInBounds_toArray, List.set_cons_zero, List.set_cons_succ])
  refine wpAnyD_take 1 rfl rfl (by kernel_rfl) (by kernel_rfl) (by kernel_rfl) (by kernel_rfl) (by kernel_rfl) (fun _ _ _ h => h) rfl (fun V hV => run_slW rfl Tryd.underlying23 (by kernel_rfl) rfl) hS ?_; (try simp only [Act.put, List.setIfInBounds_toArray, List.set_cons_zero, List.set_cons_succ])
  refine wpAnyD_take 2 rfl rfl (by kernel_rfl) (by kernel_rfl) (by kernel_rfl) (by kernel_rfl) (by kernel_rfl) (fun _ _ _ h => h) rfl (fun V hV => run_slW rfl Tryd.underlying23 (by kernel_rfl) rfl) hS ?_; (try simp only [Act.put, List.setIfInBounds_toArray, List.set_cons_zero, List.set_cons_succ])
  refine wpAnyD_take 3 rfl rfl (by kernel_rfl) (by kernel_rfl) (by kernel_rfl) (by kernel_rfl) (by kernel_rfl) (fun _ _ _ h => h) rfl (fun V hV => run_mv (v := .slice _ _ _) rfl rfl) hS ?_; (try simp only [Act.put, List.setIfInBounds_toArray, List.set_cons_zero, List.set_cons_succ])
  refine wpAnyD_take 6 rfl rfl (by kernel_rfl) (by kernel_rfl) (by kernel_rfl) (by kernel_rfl) (by kernel_rfl) (fun _ _ _ h => h) rfl (fun V hV => run_ldM (vs := A.map b8) rfl Tryd.underlying23 rfl SA.out rfl ((hM.out.below hV).get (i := 4) rfl).range) hS ?_; (try simp only [Act.put, List.setIfInBounds_toArray, List.set_cons_zero, List.set_cons_succ])
  refine wpAnyD_take 7 rfl rfl (by kernel_rfl) (by kernel_rfl) (by kernel_rfl) (by kernel_rfl) (by kernel_rfl) (fun _ _ _ h => h) rfl (fun V hV => run_ldM (vs := R.map b8) rfl Tryd.underlying23 rfl SR.out rfl ((hM.out.below hV).get (i := 1) rfl).range) hS ?_; (try simp only [Act.put, List.setIfInBounds_toArray, List.set_cons_zero, List.set_cons_succ])
  replace hM := Lib.hid (hM.out.below hS)
  have HCt : Hid (Cat c1.heap.size [.slice (some ⟨g7, 0, none⟩) 32 32, .slice (some ⟨g5, 0, none⟩) 32 32, .slice ab b.length cb] [F0, P, b] (c1.alloc (.cells #[.slice (some ⟨g7, 0, none⟩) 32 32, .slice (some ⟨g5, 0, none⟩) 32 32, .slice ab b.length cb] 24))) := Lib.hid (cat_row c1 _ [F0, P, b] fun i hi => match i, hi with
    | 0, _ => ⟨_, rfl, sl_own (hM.out.get (i := 0) rfl) lF⟩
    | 1, _ => ⟨_, rfl, sl_own (hM.out.get (i := 2) rfl) lP⟩
    | 2, _ => ⟨_, rfl, HB.out.below hM.out.bl⟩
    | i + 3, hi => absurd hi (by simp))
  refine wpAnyD_val 4 (by kernel_rfl) rfl rfl rfl (run_bsl (cells := #[.slice (some ⟨g7, 0, none⟩) 32 32, .slice (some ⟨g5, 0, none⟩) 32 32, .slice ab b.length cb]) (z := .slice none 0 0) rfl Tryd.underlying67 (by kernel_rfl) (by omega) (by omega) (by kernel_rfl)) (.inr (hS.alloc hS.size _)) ?_; (try simp only [Act.put, List.setIfInBounds_toArray, List.set_cons_zero, List.set_cons_succ])
  have hb := cat_below_alloc c1 #[.slice (some ⟨g7, 0, none⟩) 32 32, .slice (some ⟨g5, 0, none⟩) 32 32, .slice ab b.length cb] 24
  replace hM := Lib.hid (hM.out.below hb)
  replace hS := hS.trans (hb.mono hS.size)
  clear hb
  generalize c1.alloc (.cells #[.slice (some ⟨g7, 0, none⟩) 32 32, .slice (some ⟨g5, 0, none⟩) 32 32, .slice ab b.length cb] 24) = c2 at *
  generalize c1.heap.size = gd at *
  refine wpAnyD_call 5 (by kernel_rfl) rfl rfl rfl (run_call1 enters_sgnum rfl rfl rfl) (CK.out gd _ _ _ _ HCt.out (HW.out.below hM.out.bl)) (fun w hb => hS.trans (hb.mono hS.size)) (fun c3 hb => ?_); (try simp only [Act.put, List.setIfInBounds_toArray, List.set_cons_zero, List.set_cons_succ])
  replace hM := Lib.hid (hM.out.below hb)
  replace hS := hS.trans (hb.mono hS.size)
  clear hb HCt
  refine wpAnyD_call 8 (by kernel_rfl) rfl rfl rfl (run_call3 enters_smad rfl rfl rfl rfl rfl) (CM.out _ (HW.out.below hM.out.bl)) (fun w hb => hS.trans (hb.mono hS.size)) (fun c4 hb => ?_); (try simp only [Act.put, List.setIfInBounds_toArray, List.set_cons_zero, List.set_cons_succ])
  replace hM := Lib.hid (hM.out.below hb)
  replace hS := hS.trans (hb.mono hS.size)
  clear hb
  refine wpAnyD_call 9 (by kernel_rfl) rfl rfl rfl (run_call2 enters_sgjoin rfl rfl rfl rfl) (CJ.out _) (fun w hb => hS.trans (hb.mono hS.size)) (fun c5 hb => ?_); (try simp only [Act.put, List.setIfInBounds_toArray, List.set_cons_zero, List.set_cons_succ])
  replace hM := Lib.hid (hM.out.below hb)
  clear hb
  refine wpAnyL_skip 10 (by kernel_rfl) rfl rfl rfl (run_stM (vs := G.map b8) rfl SG2.out rfl rfl (one8s _) ((hM.out.get (i := 5) rfl).thereM (by rw [LG.out]; omega))) (.inl rfl) ?_
  refine wpAnyL_done (by kernel_rfl) ?_ _; refine NoPanic.normal ?_
  replace hM := Lib.hid (hM.out.put 5 rfl (m := G.map b8) LG.out)
  go_wp2_with fail
  refine bodyPost_ret (v := .agg (G.map b8).toArray) (results_rowB Tryd.results7 rfl Tryd.underlying27 rfl SG2.out (hM.out.get (i := 5) rfl).range) rfl ⟨rfl, hM.out.bl⟩
theorem sigC : SigC := fun k vb b u hk hb hbl hW => sgsign_any k vb b u hk hb hbl hW
end Go.Proofs.YtfdjmdfaidiliaaDoor
namespace Go.Proofs.YtfdjmdfaidiliaaDoor
open Go.RowKit
set_option maxRecDepth 20000

theorem decR_nm (n : Nat) : (decR n).1.Nm := by
  have h0 : Num 0 := num_small (by omega) (by omega)
  have hz : zPt.Nm := ⟨h0, h0⟩
  unfold decR
  split
  · split
    · exact evP_nm (num_emod_pp _)
    · split
      · exact hz
      · exact (negP_ok _).nm
  · exact hz
section
variable {w : World} {ρ : Operand → Value} {o : Oper} {t : TypeId} {x : Operand}
theorem run_notF (ho : o.op = .unOp .not t x) (hx : ρ x = .bool false) : (execOp ρ o).run Tryd.prog w = .ok (.value (.bool true)) w := run_notB ho hx
theorem run_notT (ho : o.op = .unOp .not t x) (hx : ρ x = .bool true) : (execOp ρ o).run Tryd.prog w = .ok (.value (.bool false)) w := run_notB ho hx
end
set_option maxHeartbeats 8000000 in
theorem sgverify_any (p : List (BitVec 8)) (vb : Value) (b s : List (BitVec 8)) (w : World) (hp : p.length = 32) (hs : s.length = 64) (hb : Sl vb b w) (hbl : b.length ≤ 300) (hW : W9 w) : Calls Tryd.prog 13 #[.agg (p.map b8).toArray, vb, .agg (s.map b8).toArray] w fun e w' => e = .returned (.bool (verB p b s)) ∧ Below w.heap.size w w' := by
  have HW := Lib.hid hW; clear hW
  have HB := Lib.hid hb
  obtain ⟨ab, cb, rfl, -, -⟩ := hb
  have lX : (s.take 32).length = 32 := by rw [List.length_take]; omega
  have lY : (s.drop 32).length = 32 := by rw [List.length_drop]; omega
  have lN := nmB_len (s.take 32 ++ p ++ b)
  have EV : Hid (verB p b s = (decide (leB (s.drop 32) < ell) && (decR (leB p)).2 && (decR (leB (s.take 32))).2 && decide (mulP (leB (s.drop 32)) bs = addP (decR (leB (s.take 32))).1 (mulP (leB (nmB (s.take 32 ++ p ++ b))) (decR (leB p)).1)))) := Lib.hid rfl
  have nP := decR_nm (leB p)
  have nQ := decR_nm (leB (s.take 32))
  have nB : bs.Nm := bs_ok.nm
  have n1 : (mulP (leB (s.drop 32)) bs).Nm := (mulP_ok _ _).nm
  have n2 : (mulP (leB (nmB (s.take 32 ++ p ++ b))) (decR (leB p)).1).Nm := (mulP_ok _ _).nm
  have n3 : (addP (decR (leB (s.take 32))).1 (mulP (leB (nmB (s.take 32 ++ p ++ b))) (decR (leB p)).1)).Nm := (addP_ok _ _).nm
  have CS : Hid (∀ u : World, Calls Tryd.prog 34 #[.agg (s.map b8).toArray] u fun e w' => e = .returned (.tuple #[.agg ((s.take 32).map b8).toArray, .agg ((s.drop 32).map b8).toArray]) ∧ Below u.heap.size u w') := Lib.hid fun u => sgsplit_any s u hs
  have CC : Hid (∀ u : World, W9 u → Calls Tryd.prog 10 #[.agg ((s.drop 32).map b8).toArray] u fun e w' => e = .returned (.bool (decide (leB (s.drop 32) < ell))) ∧ Below u.heap.size u w') := Lib.hid fun u h => scanon_any _ u lY h.s
  have CP : Hid (∀ u : World, W9 u → Calls Tryd.prog 12 #[.agg (p.map b8).toArray] u fun e w' => e = .returned (.tuple #[.agg (ptL (decR (leB p)).1).toArray, .bool (decR (leB p)).2]) ∧ Below u.heap.size u w') := Lib.hid fun u h => decode_any p u hp h.e
  have CQ : Hid (∀ u : World, W9 u → Calls Tryd.prog 12 #[.agg ((s.take 32).map b8).toArray] u fun e w' => e = .returned (.tuple #[.agg (ptL (decR (leB (s.take 32))).1).toArray, .bool (decR (leB (s.take 32))).2]) ∧ Below u.heap.size u w') := Lib.hid fun u h => decode_any _ u lX h.e
  have CN : Hid (∀ (g : Nat) (v1 v2 v3 : Value) (u : World), Cat g [v1, v2, v3] [s.take 32, p, b] u → W9 u → Calls Tryd.prog 16 #[.slice (some ⟨g, 0, none⟩) 3 3] u fun e w' => e = .returned (.agg ((nmB (s.take 32 ++ p ++ b)).map b8).toArray) ∧ Below u.heap.size u w') := Lib.hid fun g v1 v2 v3 u h h2 => by
    have h := sgnum_any g [v1, v2, v3] [s.take 32, p, b] 3 u h rfl (by omega) (by rw [flat3g, List.length_append, List.length_append]; omega) h2
    rw [flat3g] at h; exact h
  have CB : Hid (∀ u : World, W9 u → Calls Tryd.prog 36 #[] u fun e w' => e = .returned (.agg (ptL bs).toArray) ∧ Below u.heap.size u w') := Lib.hid fun u h => base_any u h.e
  have C1 : Hid (∀ u : World, W9 u → Calls Tryd.prog 35 #[.agg ((s.drop 32).map b8).toArray, .agg (ptL bs).toArray] u fun e w' => e = .returned (.agg (ptL (mulP (leB (s.drop 32)) bs)).toArray) ∧ Below u.heap.size u w') := Lib.hid fun u h => mulP_any _ _ u lY nB h.e
  have C2 : Hid (∀ u : World, W9 u → Calls Tryd.prog 35 #[.agg ((nmB (s.take 32 ++ p ++ b)).map b8).toArray, .agg (ptL (decR (leB p)).1).toArray] u fun e w' => e = .returned (.agg (ptL (mulP (leB (nmB (s.take 32 ++ p ++ b))) (decR (leB p)).1)).toArray) ∧ Below u.heap.size u w') := Lib.hid fun u h => mulP_any _ _ u lN nP h.e
  have C3 : Hid (∀ u : World, W9 u → Calls Tryd.prog 37 #[.agg (ptL (decR (leB (s.take 32))).1).toArray, .agg (ptL (mulP (leB (nmB (s.take 32 ++ p ++ b))) (decR (leB p)).1)).toArray] u fun e w' => e = .returned (.agg (ptL (addP (decR (leB (s.take 32))).1 (mulP (leB (nmB (s.take 32 ++ p ++ b))) (decR (leB p)).1))).toArray) ∧ Below u.heap.size u w') := Lib.hid fun u h => addP_any _ _ u nQ n2 h.e
  generalize verB p b s = VV at *
  generalize addP (decR (leB (s.take 32))).1 (mulP (leB (nmB (s.take 32 ++ p ++ b))) (decR (leB p)).1) = A3 at *
  generalize mulP (leB (nmB (s.take 32 ++ p ++ b))) (decR (leB p)).1 = A2 at *
  generalize mulP (leB (s.drop 32)) bs = A1' at *
  generalize bs = B at *
  generalize decide (leB (s.drop 32) < ell) = cc at *
  generalize (decR (leB p)).1 = P1 at *
  generalize (decR (leB p)).2 = o1 at *
  generalize (decR (leB (s.take 32))).1 = Q1 at *
  generalize (decR (leB (s.take 32))).2 = o2 at *
  generalize nmB (s.take 32 ++ p ++ b) = N at *
  generalize s.take 32 = X at *
  generalize s.drop 32 = Y at *
  have SP := Lib.hid (szKy hp)
  have SS := Lib.hid (szSg hs)
  have SX := Lib.hid (szKy lX)
  have SY := Lib.hid (szKy lY)
  have SN := Lib.hid (szKy lN)
  have LX : Hid ((X.map b8).length = (z8 32).length) := Lib.hid (by rw [z8_32, List.length_map, lX])
  have LY : Hid ((Y.map b8).length = (z8 32).length) := Lib.hid (by rw [z8_32, List.length_map, lY])
  have LN : Hid ((N.map b8).length = (z8 32).length) := Lib.hid (by rw [z8_32, List.length_map, lN])
  have hM := Lib.hid (Mv.nil w)
  go_enter Tryd.func13, Tryd.ntmps13
  go_upto_region 0 with fail; refine wp_region_lit ?_
  refine wpList_val (run_boxL8 (vs := p.map b8) rfl rfl) rfl ?_; (try simp only [Act.put, List.setIfInBounds_toArray, List.set_cons_zero, List.set_cons_succ]); replace hM := Lib.hid (hM.out.new (p.map b8) 23); generalize w.alloc (.cells (p.map b8).toArray 23) = a1 at *; generalize w.heap.size = g1 at *
  refine wpList_val (run_boxL8 (vs := s.map b8) rfl rfl) rfl ?_; (try simp only [Act.put, List.setIfInBounds_toArray, List.set_cons_zero, List.set_cons_succ]); replace hM := Lib.hid (hM.out.new (s.map b8) 27); generalize a1.alloc (.cells (s.map b8).toArray 27) = a2 at *; generalize a1.heap.size = g2 at *
  refine wpList_val (run_asg (v := .bool false) rfl rfl) rfl ?_; (try simp only [Act.put, List.setIfInBounds_toArray, List.set_cons_zero, List.set_cons_succ])
  refine wpList_end ?_
  go_upto_region 1 with fail; refine wp_region_lit ?_
  refine wpList_val (run_ldM (vs := s.map b8) rfl Tryd.underlying27 rfl SS.out rfl ((hM.out.get (i := 0) rfl).range)) rfl ?_; (try simp only [Act.put, List.setIfInBounds_toArray, List.set_cons_zero, List.set_cons_succ])
  refine wpList_enter (run_call1 enters_sgsplit rfl rfl rfl) rfl (CS.out _) (fun a3 hb => ?_); (try simp only [Act.put, List.setIfInBounds_toArray, List.set_cons_zero, List.set_cons_succ]); replace hM := Lib.hid (hM.out.below hb); clear hb
  refine wpList_val (run_mv (v := .tuple _) rfl rfl) rfl ?_; (try simp only [Act.put, List.setIfInBounds_toArray, List.set_cons_zero, List.set_cons_succ])
  refine wpList_val (run_xtr (v := .agg (X.map b8).toArray) rfl rfl rfl) rfl ?_; (try simp only [Act.put, List.setIfInBounds_toArray, List.set_cons_zero, List.set_cons_succ])
  refine wpList_val (run_xtr (v := .agg (Y.map b8).toArray) rfl rfl rfl) rfl ?_; (try simp only [Act.put, List.setIfInBounds_toArray, List.set_cons_zero, List.set_cons_succ])
  refine wpList_val (run_alc (vs := z8 32) rfl (by kernel_rfl)) rfl ?_; (try simp only [Act.put, List.setIfInBounds_toArray, List.set_cons_zero, List.set_cons_succ]); replace hM := Lib.hid (hM.out.new (z8 32) 23); generalize a3.alloc (.cells (z8 32).toArray 23) = a4 at *; generalize a3.heap.size = g3 at *
  refine wpList_val (run_alc (vs := z8 32) rfl (by kernel_rfl)) rfl ?_; (try simp only [Act.put, List.setIfInBounds_toArray, List.set_cons_zero, List.set_cons_succ]); replace hM := Lib.hid (hM.out.new (z8 32) 23); generalize a4.alloc (.cells (z8 32).toArray 23) = a5 at *; generalize a4.heap.size = g4 at *
  refine wpList_skip (run_stM (vs := X.map b8) rfl SX.out rfl rfl (one8s _) (by rw [LX.out]; exact (hM.out.get (i := 1) rfl).there)) rfl rfl ?_; replace hM := Lib.hid (hM.out.put 1 rfl (m := X.map b8) (LX.out))
  generalize a5.setCells g3 0 (X.map b8) = a6 at *
  refine wpList_skip (run_stM (vs := Y.map b8) rfl SY.out rfl rfl (one8s _) (by rw [LY.out]; exact (hM.out.get (i := 0) rfl).there)) rfl rfl ?_; replace hM := Lib.hid (hM.out.put 0 rfl (m := Y.map b8) (LY.out))
  refine wpList_end ?_
  replace hM : Hid (Mv w [(g4, Y.map b8), (g3, X.map b8), (g2, s.map b8), (g1, p.map b8)] (a6.setCells g4 0 (Y.map b8))) := hM
  generalize a6.setCells g4 0 (Y.map b8) = a7 at *
  go_upto_region 2 with fail; refine wp_region_lit ?_
  refine wpList_val (run_ldM (vs := Y.map b8) rfl Tryd.underlying23 rfl SY.out rfl ((hM.out.get (i := 0) rfl).range)) rfl ?_; (try simp only [Act.put, List.setIfInBounds_toArray, List.set_cons_zero, List.set_cons_succ])
  refine wpList_enter (run_call1 enters_scanon rfl rfl rfl) rfl (CC.out _ (HW.out.below hM.out.bl)) (fun a8 hb => ?_); (try simp only [Act.put, List.setIfInBounds_toArray, List.set_cons_zero, List.set_cons_succ]); replace hM := Lib.hid (hM.out.below hb); clear hb
  cases cc
  · refine wpList_val (run_notF rfl rfl) rfl ?_; (try simp only [Act.put, List.setIfInBounds_toArray, List.set_cons_zero, List.set_cons_succ])
    refine wpList_end ?_
    go_upto_region 3 with fail; refine wp_region_lit ?_
    refine wpList_val (run_asg (v := .bool false) rfl rfl) rfl ?_; (try simp only [Act.put, List.setIfInBounds_toArray, List.set_cons_zero, List.set_cons_succ])
    refine wpList_end ?_
    go_wp2_with fail
    go_ret
    exact ⟨by rw [EV.out]; rfl, hM.out.bl⟩
  · refine wpList_val (run_notT rfl rfl) rfl ?_; (try simp only [Act.put, List.setIfInBounds_toArray, List.set_cons_zero, List.set_cons_succ])
    refine wpList_end ?_
    go_upto_region 4 with fail; refine wp_region_lit ?_
    refine wpList_val (run_ldM (vs := p.map b8) rfl Tryd.underlying23 rfl SP.out rfl ((hM.out.get (i := 3) rfl).range)) rfl ?_; (try simp only [Act.put, List.setIfInBounds_toArray, List.set_cons_zero, List.set_cons_succ])
    refine wpList_enter (run_call1 enters_decode rfl rfl rfl) rfl (CP.out _ (HW.out.below hM.out.bl)) (fun a9 hb => ?_); (try simp only [Act.put, List.setIfInBounds_toArray, List.set_cons_zero, List.set_cons_succ]); replace hM := Lib.hid (hM.out.below hb); clear hb
    refine wpList_val (run_mv (v := .tuple _) rfl rfl) rfl ?_; (try simp only [Act.put, List.setIfInBounds_toArray, List.set_cons_zero, List.set_cons_succ])
    refine wpList_val (run_xtr (v := .agg (ptL P1).toArray) rfl rfl rfl) rfl ?_; (try simp only [Act.put, List.setIfInBounds_toArray, List.set_cons_zero, List.set_cons_succ])
    refine wpList_val (run_xtr (v := .bool o1) rfl rfl rfl) rfl ?_; (try simp only [Act.put, List.setIfInBounds_toArray, List.set_cons_zero, List.set_cons_succ])
    refine wpList_val (run_alc (vs := zq 8) rfl (by kernel_rfl)) rfl ?_; (try simp only [Act.put, List.setIfInBounds_toArray, List.set_cons_zero, List.set_cons_succ]); replace hM := Lib.hid (hM.out.new (zq 8) 33); generalize a9.alloc (.cells (zq 8).toArray 33) = b1 at *; generalize a9.heap.size = g5 at *
    refine wpList_skip (run_stM (vs := ptL P1) rfl (szPt _) rfl rfl (onePt _) ((hM.out.get (i := 0) rfl).there)) rfl rfl ?_; replace hM := Lib.hid (hM.out.put 0 rfl (m := ptL P1) rfl); generalize b1.setCells g5 0 (ptL P1) = b2 at *
    refine wpList_val (run_asg (v := .bool o1) rfl rfl) rfl ?_; (try simp only [Act.put, List.setIfInBounds_toArray, List.set_cons_zero, List.set_cons_succ])
    refine wpList_end ?_
    go_upto_region 5 with fail; refine wp_region_lit ?_
    refine wpList_val (run_ldM (vs := X.map b8) rfl Tryd.underlying23 rfl SX.out rfl ((hM.out.get (i := 2) rfl).range)) rfl ?_; (try simp only [Act.put, List.setIfInBounds_toArray, List.set_cons_zero, List.set_cons_succ])
    refine wpList_enter (run_call1 enters_decode rfl rfl rfl) rfl (CQ.out _ (HW.out.below hM.out.bl)) (fun b3 hb => ?_); (try simp only [Act.put, List.setIfInBounds_toArray, List.set_cons_zero, List.set_cons_succ]); replace hM := Lib.hid (hM.out.below hb); clear hb
    refine wpList_val (run_mv (v := .tuple _) rfl rfl) rfl ?_; (try simp only [Act.put, List.setIfInBounds_toArray, List.set_cons_zero, List.set_cons_succ])
    refine wpList_val (run_xtr (v := .agg (ptL Q1).toArray) rfl rfl rfl) rfl ?_; (try simp only [Act.put, List.setIfInBounds_toArray, List.set_cons_zero, List.set_cons_succ])
    refine wpList_val (run_xtr (v := .bool o2) rfl rfl rfl) rfl ?_; (try simp only [Act.put, List.setIfInBounds_toArray, List.set_cons_zero, List.set_cons_succ])
    refine wpList_val (run_alc (vs := zq 8) rfl (by kernel_rfl)) rfl ?_; (try simp only [Act.put, List.setIfInBounds_toArray, List.set_cons_zero, List.set_cons_succ]); replace hM := Lib.hid (hM.out.new (zq 8) 33); generalize b3.alloc (.cells (zq 8).toArray 33) = b4 at *; generalize b3.heap.size = g6 at *
    refine wpList_skip (run_stM (vs := ptL Q1) rfl (szPt _) rfl rfl (onePt _) ((hM.out.get (i := 0) rfl).there)) rfl rfl ?_; replace hM := Lib.hid (hM.out.put 0 rfl (m := ptL Q1) rfl); generalize b4.setCells g6 0 (ptL Q1) = e1 at *
    refine wpList_val (run_asg (v := .bool o2) rfl rfl) rfl ?_; (try simp only [Act.put, List.setIfInBounds_toArray, List.set_cons_zero, List.set_cons_succ])
    refine wpList_end ?_
    replace hM : Hid (Mv w [(g6, ptL Q1), (g5, ptL P1), (g4, Y.map b8), (g3, X.map b8), (g2, s.map b8), (g1, p.map b8)] e1) := hM
    cases o1
    · go_upto_region 6 with fail; refine wp_region_lit ?_
      refine wpList_val (run_mv (v := .bool false) rfl rfl) rfl ?_; (try simp only [Act.put, List.setIfInBounds_toArray, List.set_cons_zero, List.set_cons_succ])
      refine wpList_val (run_notF rfl rfl) rfl ?_; (try simp only [Act.put, List.setIfInBounds_toArray, List.set_cons_zero, List.set_cons_succ])
      refine wpList_val (run_mv (v := .bool true) rfl rfl) rfl ?_; (try simp only [Act.put, List.setIfInBounds_toArray, List.set_cons_zero, List.set_cons_succ])
      refine wpList_pass rfl ?_; (try simp only [Act.put, List.setIfInBounds_toArray, List.set_cons_zero, List.set_cons_succ])
      refine wpList_pass rfl ?_; (try simp only [Act.put, List.setIfInBounds_toArray, List.set_cons_zero, List.set_cons_succ])
      refine wpList_val (run_pick (b := true) (v := .bool true) rfl rfl rfl) rfl ?_; (try simp only [Act.put, List.setIfInBounds_toArray, List.set_cons_zero, List.set_cons_succ])
      refine wpList_end ?_
      go_upto_region 7 with fail; refine wp_region_lit ?_
      refine wpList_val (run_asg (v := .bool false) rfl rfl) rfl ?_; (try simp only [Act.put, List.setIfInBounds_toArray, List.set_cons_zero, List.set_cons_succ])
      refine wpList_end ?_
      go_wp2_with fail
      go_ret
      exact ⟨by rw [EV.out]; rfl, hM.out.bl⟩
    cases o2
    · go_upto_region 6 with fail; refine wp_region_lit ?_
      refine wpList_val (run_mv (v := .bool true) rfl rfl) rfl ?_; (try simp only [Act.put, List.setIfInBounds_toArray, List.set_cons_zero, List.set_cons_succ])
      refine wpList_val (run_notT rfl rfl) rfl ?_; (try simp only [Act.put, List.setIfInBounds_toArray, List.set_cons_zero, List.set_cons_succ])
      refine wpList_val (run_mv (v := .bool false) rfl rfl) rfl ?_; (try simp only [Act.put, List.setIfInBounds_toArray, List.set_cons_zero, List.set_cons_succ])
      refine wpList_valG (run_mv (v := .bool false) rfl rfl) rfl ?_; (try simp only [Act.put, List.setIfInBounds_toArray, List.set_cons_zero, List.set_cons_succ])
      refine wpList_valG (run_notF rfl rfl) rfl ?_; (try simp only [Act.put, List.setIfInBounds_toArray, List.set_cons_zero, List.set_cons_succ])
      refine wpList_val (run_pick (b := false) (v := .bool true) rfl rfl rfl) rfl ?_; (try simp only [Act.put, List.setIfInBounds_toArray, List.set_cons_zero, List.set_cons_succ])
      refine wpList_end ?_
      go_upto_region 7 with fail; refine wp_region_lit ?_
      refine wpList_val (run_asg (v := .bool false) rfl rfl) rfl ?_; (try simp only [Act.put, List.setIfInBounds_toArray, List.set_cons_zero, List.set_cons_succ])
      refine wpList_end ?_
      go_wp2_with fail
      go_ret
      exact ⟨by rw [EV.out]; rfl, hM.out.bl⟩
    go_upto_region 6 with fail; refine wp_region_lit ?_
    refine wpList_val (run_mv (v := .bool true) rfl rfl) rfl ?_; (try simp only [Act.put, List.setIfInBounds_toArray, List.set_cons_zero, List.set_cons_succ])
    refine wpList_val (run_notT rfl rfl) rfl ?_; (try simp only [Act.put, List.setIfInBounds_toArray, List.set_cons_zero, List.set_cons_succ])
    refine wpList_val (run_mv (v := .bool false) rfl rfl) rfl ?_; (try simp only [Act.put, List.setIfInBounds_toArray, List.set_cons_zero, List.set_cons_succ])
    refine wpList_valG (run_mv (v := .bool true) rfl rfl) rfl ?_; (try simp only [Act.put, List.setIfInBounds_toArray, List.set_cons_zero, List.set_cons_succ])
    refine wpList_valG (run_notT rfl rfl) rfl ?_; (try simp only [Act.put, List.setIfInBounds_toArray, List.set_cons_zero, List.set_cons_succ])
    refine wpList_val (run_pick (b := false) (v := .bool false) rfl rfl rfl) rfl ?_; (try simp only [Act.put, List.setIfInBounds_toArray, List.set_cons_zero, List.set_cons_succ])
    refine wpList_end ?_
    go_upto_region 8 with fail
    have HCat : Hid (∀ V, Below e1.heap.size e1 V → Cat V.heap.size [.slice (some ⟨g3, 0, none⟩) 32 32, .slice (some ⟨g1, 0, none⟩) 32 32, .slice ab b.length cb] [X, p, b] (V.alloc (.cells #[.slice (some ⟨g3, 0, none⟩) 32 32, .slice (some ⟨g1, 0, none⟩) 32 32, .slice ab b.length cb] 24))) := Lib.hid fun V hV => cat_row V _ [X, p, b] fun i hi => match i, hi with
      | 0, _ => ⟨_, rfl, sl_own ((hM.out.below hV).get (i := 3) rfl) lX⟩
      | 1, _ => ⟨_, rfl, sl_own ((hM.out.below hV).get (i := 5) rfl) hp⟩
      | 2, _ => ⟨_, rfl, HB.out.below (hM.out.below hV).bl⟩
      | i + 3, hi => absurd hi (by simp)
    go_cut [13] (fun s13 u => ∃ g, s13 = .pointer (some ⟨g, 0, none⟩) ∧ Mv w [(g, N.map b8), (g6, ptL Q1), (g5, ptL P1), (g4, Y.map b8), (g3, X.map b8), (g2, s.map b8), (g1, p.map b8)] u)
    case first =>
      refine wp_region_noPanic ?_; refine wp_region_late (S := fun _ V => Below e1.heap.size e1 V) (by kernel_rfl) ((Below.refl _ _).drew) (fun hS => ?_)
      generalize e1.drew = e2 at *
      refine wpAnyL_take 0 rfl rfl (by kernel_rfl) (by kernel_rfl) (by kernel_rfl) (fun _ _ _ h => h) rfl (fun V hV => run_slW rfl Tryd.underlying23 (by kernel_rfl) rfl) hS ?_; (try simp only [Act.put, List.setIfInBounds_toArray, List.set_cons_zero, List.set_cons_succ])
      refine wpAnyL_take 1 rfl rfl (by kernel_rfl) (by kernel_rfl) (by kernel_rfl) (fun _ _ _ h => h) rfl (fun V hV => run_slW rfl Tryd.underlying23 (by kernel_rfl) rfl) hS ?_; (try simp only [Act.put, List.setIfInBounds_toArray, List.set_cons_zero, List.set_cons_succ])
      refine wpAnyL_take 2 rfl rfl (by kernel_rfl) (by kernel_rfl) (by kernel_rfl) (fun _ _ _ h => h) rfl (fun V hV => run_mv (v := .slice _ _ _) rfl rfl) hS ?_; (try simp only [Act.put, List.setIfInBounds_toArray, List.set_cons_zero, List.set_cons_succ])
      refine wpAnyL_two 3 5 (by kernel_rfl) ?_ ?_
      · refine wpOp_val 3 rfl rfl rfl (run_bsl (cells := #[.slice (some ⟨g3, 0, none⟩) 32 32, .slice (some ⟨g1, 0, none⟩) 32 32, .slice ab b.length cb]) (z := .slice none 0 0) rfl Tryd.underlying67 (by kernel_rfl) (by omega) (by omega) (by kernel_rfl)) ?_; (try simp only [Act.put, List.setIfInBounds_toArray, List.set_cons_zero, List.set_cons_succ])
        have HCt := Lib.hid (HCat.out _ hS)
        replace hS := hS.alloc hS.size (.cells #[.slice (some ⟨g3, 0, none⟩) 32 32, .slice (some ⟨g1, 0, none⟩) 32 32, .slice ab b.length cb] 24)
        generalize e2.alloc (.cells #[.slice (some ⟨g3, 0, none⟩) 32 32, .slice (some ⟨g1, 0, none⟩) 32 32, .slice ab b.length cb] 24) = f1 at *
        generalize e2.heap.size = gc at *
        refine ⟨hS, ?_⟩
        refine wpAnyL_two 4 5 (by kernel_rfl) ?_ ?_
        · refine wpOp_call 4 rfl rfl rfl (run_call1 enters_sgnum rfl rfl rfl) (calls_eq (CN.out gc _ _ _ _ HCt.out (HW.out.below (hM.out.below hS).bl))) (fun v f2 hR => ?_); (try simp only [Act.put, List.setIfInBounds_toArray, List.set_cons_zero, List.set_cons_succ])
          obtain ⟨rfl, hb⟩ := hR
          replace hS := hS.trans (hb.mono hS.size)
          clear hb HCt
          refine ⟨hS, ?_⟩
          refine wpAnyL_val 5 (by kernel_rfl) rfl rfl rfl (run_alc (vs := z8 32) rfl (by kernel_rfl)) (hS.alloc hS.size _) ?_; (try simp only [Act.put, List.setIfInBounds_toArray, List.set_cons_zero, List.set_cons_succ])
          have hg := hS.size
          have A1 := Lib.hid (Arr.new f2 (z8 32) 23)
          replace hS := hS.alloc hg (.cells (z8 32).toArray 23)
          generalize f2.alloc (.cells (z8 32).toArray 23) = f3 at *
          generalize f2.heap.size = gA at *
          refine wpAnyL_skip 6 (by kernel_rfl) rfl rfl rfl (run_stM (vs := N.map b8) rfl SN.out rfl rfl (one8s _) (A1.out.thereM (by rw [LN.out]; omega))) (below_setCells hg _ _ hS) ?_
          replace hS := below_setCells hg (N.map b8) 0 hS
          replace A1 := Lib.hid (A1.out.put (l' := N.map b8) LN.out)
          generalize f3.setCells gA 0 (N.map b8) = wz at *
          refine wpAnyL_done (by kernel_rfl) ?_ _; refine NoPanic.normal ?_
          go_wp2_with fail
          go_meet
          exact ⟨gA, rfl, hM.out.add hS hg A1.out⟩
        · refine wpOp_val 5 rfl rfl rfl (run_alc (vs := z8 32) rfl (by kernel_rfl)) ?_; (try simp only [Act.put, List.setIfInBounds_toArray, List.set_cons_zero, List.set_cons_succ])
          replace HCt := Lib.hid (HCt.out.below (cat_below_alloc f1 (z8 32).toArray 23))
          have hg := hS.size
          have A1 := Lib.hid (Arr.new f1 (z8 32) 23)
          replace hS := hS.alloc hg (.cells (z8 32).toArray 23)
          generalize f1.alloc (.cells (z8 32).toArray 23) = f2 at *
          generalize f1.heap.size = gA at *
          refine ⟨hS, ?_⟩
          refine wpAnyL_call 4 (by kernel_rfl) rfl rfl rfl (run_call1 enters_sgnum rfl rfl rfl) (calls_eq (CN.out gc _ _ _ _ HCt.out (HW.out.below (hM.out.below hS).bl))) (fun v w h => hS.trans (h.2.mono hS.size)) (fun v f3 hR => ?_); (try simp only [Act.put, List.setIfInBounds_toArray, List.set_cons_zero, List.set_cons_succ])
          obtain ⟨rfl, hb⟩ := hR
          replace hS := hS.trans (hb.mono hS.size)
          replace A1 := Lib.hid (A1.out.below hb)
          clear hb HCt
          refine wpAnyL_skip 6 (by kernel_rfl) rfl rfl rfl (run_stM (vs := N.map b8) rfl SN.out rfl rfl (one8s _) (A1.out.thereM (by rw [LN.out]; omega))) (below_setCells hg _ _ hS) ?_
          replace hS := below_setCells hg (N.map b8) 0 hS
          replace A1 := Lib.hid (A1.out.put (l' := N.map b8) LN.out)
          generalize f3.setCells gA 0 (N.map b8) = wz at *
          refine wpAnyL_done (by kernel_rfl) ?_ _; refine NoPanic.normal ?_
          go_wp2_with fail
          go_meet
          exact ⟨gA, rfl, hM.out.add hS hg A1.out⟩
      · refine wpOp_val 5 rfl rfl rfl (run_alc (vs := z8 32) rfl (by kernel_rfl)) ?_; (try simp only [Act.put, List.setIfInBounds_toArray, List.set_cons_zero, List.set_cons_succ])
        have hg := hS.size
        have A1 := Lib.hid (Arr.new e2 (z8 32) 23)
        replace hS := hS.alloc hg (.cells (z8 32).toArray 23)
        generalize e2.alloc (.cells (z8 32).toArray 23) = f1 at *
        generalize e2.heap.size = gA at *
        refine ⟨hS, ?_⟩
        refine wpAnyL_val 3 (by kernel_rfl) rfl rfl rfl (run_bsl (cells := #[.slice (some ⟨g3, 0, none⟩) 32 32, .slice (some ⟨g1, 0, none⟩) 32 32, .slice ab b.length cb]) (z := .slice none 0 0) rfl Tryd.underlying67 (by kernel_rfl) (by omega) (by omega) (by kernel_rfl)) (hS.alloc hS.size _) ?_; (try simp only [Act.put, List.setIfInBounds_toArray, List.set_cons_zero, List.set_cons_succ])
        have HCt := Lib.hid (HCat.out _ hS)
        replace A1 := Lib.hid (A1.out.below (cat_below_alloc f1 #[.slice (some ⟨g3, 0, none⟩) 32 32, .slice (some ⟨g1, 0, none⟩) 32 32, .slice ab b.length cb] 24))
        replace hS := hS.alloc hS.size (.cells #[.slice (some ⟨g3, 0, none⟩) 32 32, .slice (some ⟨g1, 0, none⟩) 32 32, .slice ab b.length cb] 24)
        generalize f1.alloc (.cells #[.slice (some ⟨g3, 0, none⟩) 32 32, .slice (some ⟨g1, 0, none⟩) 32 32, .slice ab b.length cb] 24) = f2 at *
        generalize f1.heap.size = gc at *
        refine wpAnyL_call 4 (by kernel_rfl) rfl rfl rfl (run_call1 enters_sgnum rfl rfl rfl) (calls_eq (CN.out gc _ _ _ _ HCt.out (HW.out.below (hM.out.below hS).bl))) (fun v w h => hS.trans (h.2.mono hS.size)) (fun v f3 hR => ?_); (try simp only [Act.put, List.setIfInBounds_toArray, List.set_cons_zero, List.set_cons_succ])
        obtain ⟨rfl, hb⟩ := hR
        replace hS := hS.trans (hb.mono hS.size)
        replace A1 := Lib.hid (A1.out.below hb)
        clear hb HCt
        refine wpAnyL_skip 6 (by kernel_rfl) rfl rfl rfl (run_stM (vs := N.map b8) rfl SN.out rfl rfl (one8s _) (A1.out.thereM (by rw [LN.out]; omega))) (below_setCells hg _ _ hS) ?_
        replace hS := below_setCells hg (N.map b8) 0 hS
        replace A1 := Lib.hid (A1.out.put (l' := N.map b8) LN.out)
        generalize f3.setCells gA 0 (N.map b8) = wz at *
        refine wpAnyL_done (by kernel_rfl) ?_ _; refine NoPanic.normal ?_
        go_wp2_with fail
        go_meet
        exact ⟨gA, rfl, hM.out.add hS hg A1.out⟩
    case rest =>
      obtain ⟨g7, rfl, hJ⟩ := hcut
      replace hM := Lib.hid hJ
      clear hJ
      generalize hwz : wc = h1 at *
      clear hwz
      go_upto_region 9 with fail; refine wp_region_calm 9 (by kernel_rfl) (by kernel_rfl) ?_
      refine wpCalm_step _ (fun V hV => calm_run (run_ldM (vs := Y.map b8) rfl Tryd.underlying23 rfl SY.out rfl (((hM.out.below hV).get (i := 3) rfl).range))) ?_; (try simp only [Act.put, List.setIfInBounds_toArray, List.set_cons_zero, List.set_cons_succ])
      refine wpCalm_step _ (fun V hV => calm_enter (run_call0 enters_base rfl rfl) (CB.out V (HW.out.below (hM.out.below hV).bl))) ?_; (try simp only [Act.put, List.setIfInBounds_toArray, List.set_cons_zero, List.set_cons_succ])
      refine wpCalm_step _ (fun V hV => calm_enter (run_call2 enters_mulP rfl rfl rfl rfl) (C1.out V (HW.out.below (hM.out.below hV).bl))) ?_; (try simp only [Act.put, List.setIfInBounds_toArray, List.set_cons_zero, List.set_cons_succ])
      refine wpCalm_step _ (fun V hV => calm_run (run_ldM (vs := ptL Q1) rfl Tryd.underlying33 rfl (szPt _) rfl (((hM.out.below hV).get (i := 1) rfl).range))) ?_; (try simp only [Act.put, List.setIfInBounds_toArray, List.set_cons_zero, List.set_cons_succ])
      refine wpCalm_step _ (fun V hV => calm_run (run_ldM (vs := N.map b8) rfl Tryd.underlying23 rfl SN.out rfl (((hM.out.below hV).get (i := 0) rfl).range))) ?_; (try simp only [Act.put, List.setIfInBounds_toArray, List.set_cons_zero, List.set_cons_succ])
      refine wpCalm_step _ (fun V hV => calm_run (run_ldM (vs := ptL P1) rfl Tryd.underlying33 rfl (szPt _) rfl (((hM.out.below hV).get (i := 2) rfl).range))) ?_; (try simp only [Act.put, List.setIfInBounds_toArray, List.set_cons_zero, List.set_cons_succ])
      refine wpCalm_step _ (fun V hV => calm_enter (run_call2 enters_mulP rfl rfl rfl rfl) (C2.out V (HW.out.below (hM.out.below hV).bl))) ?_; (try simp only [Act.put, List.setIfInBounds_toArray, List.set_cons_zero, List.set_cons_succ])
      refine wpCalm_step _ (fun V hV => calm_enter (run_call2 enters_addP rfl rfl rfl rfl) (C3.out V (HW.out.below (hM.out.below hV).bl))) ?_; (try simp only [Act.put, List.setIfInBounds_toArray, List.set_cons_zero, List.set_cons_succ])
      refine wpCalm_step _ (fun V hV => calm_run (run_eqPt n1 n3 rfl rfl rfl rfl)) ?_; (try simp only [Act.put, List.setIfInBounds_toArray, List.set_cons_zero, List.set_cons_succ])
      refine wpCalm_done ?_; intro h2 hb; simp only [List.drop_succ_cons, List.drop_zero]
      replace hM := Lib.hid (hM.out.below hb)
      clear hb
      refine wpList_val (run_asg (v := .bool _) rfl rfl) rfl ?_; (try simp only [Act.put, List.setIfInBounds_toArray, List.set_cons_zero, List.set_cons_succ])
      refine wpList_end ?_
      go_wp2_with fail
      go_ret
      exact ⟨by rw [EV.out]; rfl, hM.out.bl⟩
theorem verC : VerC := fun p vb b s u hp hs hb hbl hW => sgverify_any p vb b s u hp hs hb hbl hW
end Go.Proofs.YtfdjmdfaidiliaaDoor
