import Derived.Test.YtcgbgmbnagmohaaDoorTy10
import Derived.Laws.StructEq
import Derived.Test.YtcgbgmbnagmohaaDoorSlA
import Derived.Test.YtcgbgmbnagmohaaDoorWrD
import Derived.Test.YtcgbgmbnagmohaaDoorEdRes
namespace Go.Proofs.YtcgbgmbnagmohaaDoor
open Go.RowKit
set_option maxRecDepth 20000
theorem forIn_findS {P : Program} {w : World} {c : Option Bool × Unit} {p : Nat → Bool} {f : Nat → Option Bool × Unit → Sem (ForInStep (Option Bool × Unit))} : ∀ (n s : Nat), (∀ i, s ≤ i → i < s + n → (f i (none, ())).run P w = .ok (if p i then .yield (none, ()) else .done c) w) → (forIn (List.range' s n) (none, ()) f : Sem (Option Bool × Unit)).run P w = .ok (if (List.range' s n).all p then (none, ()) else c) w
 | 0, s, _ => by simp [Sem.run_pure]
 | n + 1, s, h => by
  rw [List.range'_succ, List.forIn_cons, Sem.run_bind, h s (Nat.le_refl _) (by omega), Result.andThen_ok]
  by_cases hp : p s = true
  ·rw [if_pos hp]
   simp only [List.all_cons, hp, Bool.true_and]
   exact forIn_findS n (s + 1) fun i h1 h2 => h i (by omega) (by omega)
  ·rw [if_neg hp]
   simp [hp]
theorem all_eqS {l m : List (BitVec 8)} (n : Nat) (hl : l.length = n) (hm : m.length = n) : ((List.range' 0 n).all fun i => (((l.getD i 0).toNat : Int) == ((m.getD i 0).toNat : Int))) = decide (l = m) := by
 rw [Bool.eq_iff_iff, List.all_eq_true, decide_eq_true_eq]
 constructor
 ·intro h
  refine List.ext_getElem (by omega) fun i h1 h2 => ?_
  have := h i (List.mem_range'_1.2 ⟨Nat.zero_le _, by omega⟩)
  have h3 := BitVec.eq_of_toNat_eq (Int.ofNat.inj (eq_of_beq this))
  simpa [h1, h2] using h3
 ·intro h i _
  rw [h]; simp
set_option maxHeartbeats 2000000 in
theorem eqB_in {t : TypeId} {n d : Nat} (ht : Tryd.prog.underlying t = some (.array n 5)) {l m : List (BitVec 8)} (hl : l.length = n) (hm : m.length = n) (w : World) : (Op.equalIn (d + 2) t (.agg (l.map b8).toArray) (.agg (m.map b8).toArray)).run Tryd.prog w = .ok (decide (l = m)) w := by
 have hu := Tryd.underlying5
 have ha := Tryd.isAgg5
 have hz := Tryd.sizeOf5
 rw [Op.equalIn]
 simp only [Sem.run_bind, run_underlying ht, Result.andThen_ok]
 simp only [Std.Legacy.Range.forIn_eq_forIn_range', Std.Legacy.Range.size, Nat.sub_zero, Nat.add_sub_cancel, Nat.div_one]
 have he : ∀ i, i < n → (l.map b8)[i]? = some (.int .u8 ((l.getD i 0).toNat : Int)) := fun i hi => qbv b8 0 (by omega)
 have he' : ∀ i, i < n → (m.map b8)[i]? = some (.int .u8 ((m.getD i 0).toNat : Int)) := fun i hi => qbv b8 0 (by omega)
 have hA := all_eqS n hl hm
 generalize hvs : l.map b8 = vs at *
 generalize hvt : m.map b8 = vt at *
 clear hvs hvt
 obtain ⟨p, hp⟩ : ∃ p : Nat → Bool, p = fun i => (((l.getD i 0).toNat : Int) == ((m.getD i 0).toNat : Int)) := ⟨_, rfl⟩
 rw [← hp] at hA
 go_simp
 rw [forIn_findS (c := (some false, ())) (p := p)]
 ·rw [hA]
  by_cases h : l = m
  ·simp [h]
  ·simp [h]
 ·intro i _ hi
  have e1 := he i (by omega)
  have e2 := he' i (by omega)
  clear he he'
  have hpi : p i = (((l.getD i 0).toNat : Int) == ((m.getD i 0).toNat : Int)) := by rw [hp]
  obtain ⟨a, ea⟩ : ∃ a : Int, a = ((l.getD i 0).toNat : Int) := ⟨_, rfl⟩
  obtain ⟨b, eb⟩ : ∃ b : Int, b = ((m.getD i 0).toNat : Int) := ⟨_, rfl⟩
  rw [← ea] at e1 hpi
  rw [← eb] at e2 hpi
  rw [hpi]
  clear hpi ea eb hA hp
  by_cases h : a = b <;> go_simp
section
variable {w : World} {xs ys : List Value} {d : Nat}
theorem run_partC {t : TypeId} {D : TypeDesc} {off : Nat} {v : Value} (ht : Tryd.prog.underlying t = some D) (hd : D.isRow = false) (h : xs[off]? = some v) : (part t xs.toArray off).run Tryd.prog w = .ok v w := by
 have hagg : (isAgg t).run Tryd.prog w = .ok false w := by
  unfold isAgg
  rw [Sem.run_bind, run_underlying ht w]
  cases D <;> simp_all
 unfold part
 simp [hagg, h]
theorem run_partR {t : TypeId} {D : TypeDesc} {off n : Nat} {m : List Value} (ht : Tryd.prog.underlying t = some D) (hd : D.isRow = true) (hs : (Tryd.prog.info? t).map (·.size) = some n) (h : (xs.drop off).take n = m) : (part t xs.toArray off).run Tryd.prog w = .ok (.agg m.toArray) w := by
 have hagg : (isAgg t).run Tryd.prog w = .ok true w := by
  unfold isAgg
  rw [Sem.run_bind, run_underlying ht w]
  cases D <;> simp_all
 obtain ⟨inf, h1, h2⟩ := Option.map_eq_some_iff.1 hs
 have hz : (sizeOf t).run Tryd.prog w = .ok n w := by simp [sizeOf, typeInfo, go_sem, h1, h2]
 unfold part
 simp [hagg, hz, h]
theorem eqF_nil : (Op.eqFields d xs.toArray ys.toArray []).run Tryd.prog w = .ok true w := by simp [Op.eqFields]
theorem eqF_cons {f : Field} {fs : List Field} {a b : Value} {r1 r2 : Bool} (hn : f.name ≠ "_") (ha : (part f.type xs.toArray f.offset).run Tryd.prog w = .ok a w) (hb : (part f.type ys.toArray f.offset).run Tryd.prog w = .ok b w) (h1 : (Op.equalIn d f.type a b).run Tryd.prog w = .ok r1 w) (h2 : (Op.eqFields d xs.toArray ys.toArray fs).run Tryd.prog w = .ok r2 w) : (Op.eqFields d xs.toArray ys.toArray (f :: fs)).run Tryd.prog w = .ok (r1 && r2) w := by
 unfold Op.eqFields
 rw [if_pos hn]
 simp only [Sem.run_bind, ha, hb, h1, Result.andThen_ok]
 cases r1
 ·simp
 ·simp [h2]
theorem run_eqlA {ρ : Operand → Value} {o : Oper} {x y : Operand} {t t' : TypeId} {r : Bool} (ho : o.op = .binOp .eql t x y t') (hm : Tryd.prog.eqGuardType Tryd.prog.depth t = false) (hx : ρ x = .agg xs.toArray) (hy : ρ y = .agg ys.toArray) (h : (Op.equalIn 10000 t (.agg xs.toArray) (.agg ys.toArray)).run Tryd.prog w = .ok r w) : (execOp ρ o).run Tryd.prog w = .ok (.value (.bool r)) w := by
 have hg := run_eqGuard_agg (P := Tryd.prog) w .eql t x y xs.toArray ys.toArray hm
 have he := run_eql_struct (P := Tryd.prog) w t xs.toArray ys.toArray
 rw [h] at he
 unfold execOp
 simp only [ho, hx, hy, Sem.run_bind, hg, Result.andThen_ok, he]
 simp
theorem run_neqA {ρ : Operand → Value} {o : Oper} {x y : Operand} {t t' : TypeId} {r : Bool} (ho : o.op = .binOp .neq t x y t') (hm : Tryd.prog.eqGuardType Tryd.prog.depth t = false) (hx : ρ x = .agg xs.toArray) (hy : ρ y = .agg ys.toArray) (h : (Op.equalIn 10000 t (.agg xs.toArray) (.agg ys.toArray)).run Tryd.prog w = .ok r w) : (execOp ρ o).run Tryd.prog w = .ok (.value (.bool (!r))) w := by
 have hg := run_eqGuard_agg (P := Tryd.prog) w .neq t x y xs.toArray ys.toArray hm
 have he := run_neq_struct (P := Tryd.prog) w t xs.toArray ys.toArray
 rw [h] at he
 unfold execOp
 simp only [ho, hx, hy, Sem.run_bind, hg, Result.andThen_ok, he]
 simp
end
theorem eqEn_in {x0 y0 : Int} {x1 y1 : List (BitVec 8)} (h1 : x1.length = 32) (h2 : y1.length = 32) (w : World) : (Op.equalIn 10000 34 (.agg (enR (.int .i64 x0) (x1.map b8)).toArray) (.agg (enR (.int .i64 y0) (y1.map b8)).toArray)).run Tryd.prog w = .ok ((x0 == y0) && (decide (x1 = y1) && true)) w := by
 rw [show (10000 : Nat) = 9999 + 1 from rfl, run_equalIn_struct w 9999 34 _ _ (by kernel_rfl) (by kernel_rfl)]
 refine eqF_cons (by decide) (run_partC Tryd.underlying3 rfl enR_ID) (run_partC Tryd.underlying3 rfl enR_ID) (run_equalIn_int w 9998 _ _ _ _ _ Tryd.underlying3) ?_
 refine eqF_cons (by decide) (run_partR Tryd.underlying24 rfl (by kernel_rfl) (enR_Key (by rw [List.length_map, h1]))) (run_partR Tryd.underlying24 rfl (by kernel_rfl) (enR_Key (by rw [List.length_map, h2]))) (eqB_in (d := 9997) Tryd.underlying24 h1 h2 w) ?_
 exact eqF_nil
end Go.Proofs.YtcgbgmbnagmohaaDoor
namespace Go.Proofs.YtcgbgmbnagmohaaDoor
open Go.RowKit
set_option maxRecDepth 20000
def eqPk (p q : MPk) : Bool := decide (p.id = q.id) && decide (p.key = q.key)
theorem eqPk_iff {p q : MPk} : eqPk p q = true ↔ p = q := by
 cases p; cases q; simp [eqPk]
def eqPs : List MPk → List MPk → Bool
 | [], [] => true
 | p :: l, q :: m => eqPk p q && eqPs l m
 | _, _ => false
theorem eqPs_iff : ∀ {l m : List MPk}, eqPs l m = true ↔ l = m
 | [], [] => by simp [eqPs]
 | [], q :: m => by simp [eqPs]
 | p :: l, [] => by simp [eqPs]
 | p :: l, q :: m => by
  unfold eqPs
  rw [Bool.and_eq_true, eqPk_iff, eqPs_iff (l := l) (m := m)]
  simp
theorem eqPs_len {l m : List MPk} (h : l.length ≠ m.length) : eqPs l m = false := by
 cases e : eqPs l m with
 | false => rfl
 | true => exact absurd (congrArg List.length (eqPs_iff.1 e)) h
theorem eqPs_all {l m : List MPk} (hl : l.length = m.length) (h : ∀ i, i < l.length → l[i]? = m[i]?) : eqPs l m = true := by
 refine eqPs_iff.2 (List.ext_getElem? fun i => ?_)
 rcases Nat.lt_or_ge i l.length with hi | hi
 ·exact h i hi
 ·rw [List.getElem?_eq_none hi, List.getElem?_eq_none (by omega)]
theorem eqPs_not {l m : List MPk} {i : Nat} (h : l[i]? ≠ m[i]?) : eqPs l m = false := by
 cases e : eqPs l m with
 | false => rfl
 | true => exact absurd (by rw [eqPs_iff.1 e]) h
def pfx : List MPk → List MPk → Nat
 | p :: l, q :: m => bif eqPk p q then pfx l m + 1 else 0
 | [], _ => 0
 | _ :: _, [] => 0
theorem pfx_at : ∀ {j : Nat} {l m : List MPk}, (∀ i, i < j → l[i]? = m[i]?) → j ≤ l.length → j ≤ m.length → (j = l.length ∨ j = m.length ∨ l[j]? ≠ m[j]?) → pfx l m = j
 | 0, [], _, _, _, _, _ => by simp [pfx]
 | 0, _ :: _, [], _, _, _, _ => by simp [pfx]
 | 0, p :: l, q :: m, _, _, _, h => by
  rcases h with h | h | h
  ·simp at h
  ·simp at h
  ·have hne : p ≠ q := fun e => h (by rw [e]; rfl)
   have : eqPk p q = false := by
    cases e : eqPk p q with
    | false => rfl
    | true => exact absurd (eqPk_iff.1 e) hne
   simp [pfx, this]
 | j + 1, [], _, _, h, _, _ => by simp at h
 | j + 1, _ :: _, [], _, _, h, _ => by simp at h
 | j + 1, p :: l, q :: m, h, hl, hm, hs => by
  have h0 : p = q := by have := h 0 (by omega); simpa using this
  have ih := pfx_at (j := j) (l := l) (m := m) (fun i hi => by have := h (i + 1) (by omega); simpa using this) (by simpa using hl) (by simpa using hm) (by
   rcases hs with hs | hs | hs
   ·exact .inl (by simpa using hs)
   ·exact .inr (.inl (by simpa using hs))
   ·exact .inr (.inr (by simpa using hs)))
  have e : eqPk p q = true := eqPk_iff.2 h0
  simp [pfx, e, ih]
theorem pfx_le : ∀ (l m : List MPk), pfx l m ≤ l.length ∧ pfx l m ≤ m.length
 | [], m => by simp [pfx]
 | _ :: _, [] => by simp [pfx]
 | p :: l, q :: m => by
  have := pfx_le l m
  unfold pfx
  cases eqPk p q <;> simp <;> omega
def fdN (l : List MPk) (d : Int) : Nat := l.findIdx fun p => decide (p.id = d)
theorem fdN_hit {l : List MPk} {d : Int} {j : Nat} (hj : j < l.length) (h : l[j].id = d) (h2 : ∀ (i : Nat) (p : MPk), i < j → l[i]? = some p → p.id ≠ d) : fdN l d = j := by
 refine (List.findIdx_eq hj).2 ⟨by simpa using h, fun i hi => ?_⟩
 have := h2 i l[i] hi (List.getElem?_eq_getElem (by omega))
 simpa using this
theorem fdN_none {l : List MPk} {d : Int} (h2 : ∀ (i : Nat) (p : MPk), l[i]? = some p → p.id ≠ d) : fdN l d = l.length := by
 refine List.findIdx_eq_length.2 fun p hp => ?_
 obtain ⟨i, hi, rfl⟩ := List.getElem_of_mem hp
 have := h2 i l[i] (List.getElem?_eq_getElem hi)
 simpa using this
def fdI (l : List MPk) (d : Int) : Int := if fdN l d < l.length then (fdN l d : Int) else -1
def k0 : List (BitVec 8) := List.replicate 32 0
def pk0 : MPk := ⟨0, k0⟩
def fdK (l : List MPk) (d : Int) : List (BitVec 8) := (l.getD (fdN l d) pk0).key
def fdB (l : List MPk) (d : Int) : Bool := decide (fdN l d < l.length)
section
variable {w : World} {ρ : Operand → Value} {o : Oper} {x y : Operand} {t t' e : TypeId}
theorem run_mkf1 {fn : Fn} {v : Value} (ho : o.op = .makeFunc fn #[] #[x]) (hx : ρ x = v) : (execOp ρ o).run Tryd.prog w = .ok (.value (.func fn #[] #[v])) w := by
 obtain ⟨dst, op, type, pos, after, guard⟩ := o
 subst ho
 have hmf : ∀ (fn : Fn) (first cap : Array Value) (w : World), (Instr.makeFunc fn first cap).run Tryd.prog w = .ok (.func fn first cap) w := fun _ _ _ _ => rfl
 go_simp
theorem run_box1 {v : Value} (ho : o.op = .box t x) (hx : ρ x = v) (hv : v.cells = #[v]) : (execOp ρ o).run Tryd.prog w = .ok (.value (.pointer (some ⟨w.heap.size, 0, none⟩))) (w.alloc (.cells ([v] : List Value).toArray t)) := by
 unfold execOp
 simp only [ho, hx]
 simp [newVar, go_sem]
 exact congrArg (fun c => w.alloc (Obj.cells c t)) hv
theorem run_callc {f : FuncId} {xs : Array Operand} {ts : Array TypeId} {cap : Array Value} (hE : Enters f) (ho : o.op = .call { callee := .value y, args := xs, argTypes := ts }) (hf : ρ y = .func (.func f) #[] cap) : (execOp ρ o).run Tryd.prog w = .ok (.enter f (xs.map ρ ++ cap)) w := by
 obtain ⟨dst, op, type, pos, after, guard⟩ := o
 subst ho
 have := hE (xs.map ρ ++ cap) w
 go_simp
theorem run_callc1 {f : FuncId} {ts : Array TypeId} {a v : Value} (hE : Enters f) (ho : o.op = .call { callee := .value y, args := #[x], argTypes := ts }) (hf : ρ y = .func (.func f) #[] #[v]) (hx : ρ x = a) : (execOp ρ o).run Tryd.prog w = .ok (.enter f #[a, v]) w := by
 rw [run_callc hE ho hf]
 have e : (#[x] : Array Operand).map ρ ++ #[v] = #[a, v] := by simp [hx]
 rw [e]
theorem run_eqEn {p q : MPk} (h1 : p.key.length = 32) (h2 : q.key.length = 32) {c : Bool} (ho : o.op = .binOp .eql 34 x y t') (hx : ρ x = .agg (pkC p).toArray) (hy : ρ y = .agg (pkC q).toArray) (hc : eqPk p q = c) : (execOp ρ o).run Tryd.prog w = .ok (.value (.bool c)) w := by
 rw [pkC_en] at hx hy
 refine run_eqlA ho (by kernel_rfl) hx hy ?_
 rw [eqEn_in h1 h2, ← hc]
 unfold eqPk
 rw [Bool.and_true]
 rfl
theorem run_neEn {p q : MPk} (h1 : p.key.length = 32) (h2 : q.key.length = 32) {c : Bool} (ho : o.op = .binOp .neq 34 x y t') (hx : ρ x = .agg (pkC p).toArray) (hy : ρ y = .agg (pkC q).toArray) (hc : eqPk p q = c) : (execOp ρ o).run Tryd.prog w = .ok (.value (.bool (!c))) w := by
 rw [pkC_en] at hx hy
 refine run_neqA ho (by kernel_rfl) hx hy ?_
 rw [eqEn_in h1 h2, ← hc]
 unfold eqPk
 rw [Bool.and_true]
 rfl
theorem run_neEnT {p q : MPk} (h1 : p.key.length = 32) (h2 : q.key.length = 32) (ho : o.op = .binOp .neq 34 x y t') (hx : ρ x = .agg (pkC p).toArray) (hy : ρ y = .agg (pkC q).toArray) (hc : eqPk p q = true) : (execOp ρ o).run Tryd.prog w = .ok (.value (.bool false)) w := run_neEn h1 h2 ho hx hy hc
theorem run_neEnF {p q : MPk} (h1 : p.key.length = 32) (h2 : q.key.length = 32) (ho : o.op = .binOp .neq 34 x y t') (hx : ρ x = .agg (pkC p).toArray) (hy : ρ y = .agg (pkC q).toArray) (hc : eqPk p q = false) : (execOp ρ o).run Tryd.prog w = .ok (.value (.bool true)) w := run_neEn h1 h2 ho hx hy hc
theorem run_sloZ {z : Nat} {ao : Option Addr} {n c h : Nat} {k : IntKind} (ho : o.op = .slice t x none (some y) none) (ht : Tryd.prog.underlying t = some (.slice e)) (hs : (Tryd.prog.info? e).map (·.size) = some z) (hx : ρ x = .slice ao n c) (hy : ρ y = .int k (h : Int)) (hc : h ≤ c) : (execOp ρ o).run Tryd.prog w = .ok (.value (.slice ao h c)) w := by
 have el : Tryd.prog.elem t = e := by unfold Program.elem; rw [ht]
 have ht' : Tryd.prog.underlying t = some (.slice (Tryd.prog.elem t)) := by rw [el]; exact ht
 have h1 := run_slice_h (P := Tryd.prog) (w := w) t ao n c ht' k (h : Int) (by omega) (by omega)
 obtain ⟨inf, hi, h2⟩ := Option.map_eq_some_iff.1 hs
 have hz : (sizeOf e).run Tryd.prog w = .ok z w := by simp [sizeOf, typeInfo, go_sem, hi, h2]
 rw [el, hz] at h1
 have h3 := run_sliceAt_slice (P := Tryd.prog) (w := w) t (.slice ao n c) none (some (.int k (h : Int))) none ht'
 unfold execOp
 simp only [ho, hx, hy, Option.map_some, Option.map_none, Sem.run_bind, h3, h1]
 simp [go_sem, Addr.add]
def cutA (z : Nat) (a : Option Addr) (c l : Nat) : Option Addr := a.map fun a => if c = l then a else a.add (l * z)
theorem run_sllZ {z : Nat} {ao : Option Addr} {n c l : Nat} {k : IntKind} (ho : o.op = .slice t x (some y) none none) (ht : Tryd.prog.underlying t = some (.slice e)) (hs : (Tryd.prog.info? e).map (·.size) = some z) (hx : ρ x = .slice ao n c) (hy : ρ y = .int k (l : Int)) (hc : l ≤ n) : (execOp ρ o).run Tryd.prog w = .ok (.value (.slice (cutA z ao c l) (n - l) (c - l))) w := by
 have el : Tryd.prog.elem t = e := by unfold Program.elem; rw [ht]
 have ht' : Tryd.prog.underlying t = some (.slice (Tryd.prog.elem t)) := by rw [el]; exact ht
 have h1 := run_slice_l (P := Tryd.prog) (w := w) t ao n c ht' k (l : Int) (by omega) (by omega)
 obtain ⟨inf, hi, h2⟩ := Option.map_eq_some_iff.1 hs
 have hz : (sizeOf e).run Tryd.prog w = .ok z w := by simp [sizeOf, typeInfo, go_sem, hi, h2]
 rw [el, hz] at h1
 have h3 := run_sliceAt_slice (P := Tryd.prog) (w := w) t (.slice ao n c) (some (.int k (l : Int))) none none ht'
 unfold execOp cutA
 simp only [ho, hx, hy, Option.map_some, Option.map_none, Sem.run_bind, h3, h1]
 cases ao with
 | none => simp [go_sem]
 | some a =>
  simp [go_sem]
  split <;> rfl
end
theorem flat_drop {z : Nat} : ∀ {css : List (List Value)} (k : Nat), (∀ x ∈ css, x.length = z) → css.flatten.drop (k * z) = (css.drop k).flatten
 | css, 0, _ => by simp
 | [], k + 1, _ => by simp
 | x :: css, k + 1, h => by
  have hx := h x (List.mem_cons_self ..)
  rw [List.flatten_cons, List.drop_succ_cons, show (k + 1) * z = x.length + k * z by rw [Nat.add_mul, hx]; omega, List.drop_append, List.drop_of_length_le (by omega), List.nil_append]
  simpa using flat_drop k fun y hy => h y (List.mem_cons_of_mem _ hy)
theorem flat_take {z : Nat} : ∀ {css : List (List Value)} (k : Nat), (∀ x ∈ css, x.length = z) → css.flatten.take (k * z) = (css.take k).flatten
 | css, 0, _ => by simp
 | [], k + 1, _ => by simp
 | x :: css, k + 1, h => by
  have hx := h x (List.mem_cons_self ..)
  rw [List.flatten_cons, List.take_succ_cons, List.flatten_cons, show (k + 1) * z = x.length + k * z by rw [Nat.add_mul, hx]; omega, List.take_append, List.take_of_length_le (by omega)]
  rw [← flat_take k fun y hy => h y (List.mem_cons_of_mem _ hy)]
  simp
section
variable {α : Type} {z : Nat} {At : α → List Value → World → Prop} {l : List α} {a : Option Addr} {c : Nat} {u : World}
theorem slR_take (h : SlR z At l a c u) {n : Nat} (hn : n ≤ l.length) : SlR z At (l.take n) a c u := by
 obtain ⟨h1, css, h2, h3, h4, h5⟩ := h
 refine ⟨by rw [List.length_take]; omega, css.take n, by rw [List.length_take, List.length_take, h2], fun x hx => h3 x (List.mem_of_mem_take hx), fun i m cs q1 q2 => ?_, fun hne => ?_⟩
 ·rw [List.getElem?_take] at q1 q2
  by_cases hi : i < n
  ·rw [if_pos hi] at q1 q2
   exact h4 i m cs q1 q2
  ·rw [if_neg hi] at q1
   cases q1
 ·obtain ⟨g, f, q1, q2, q3⟩ := h5 (fun hn => hne (by rw [hn]; simp))
  exact ⟨g, f, q1, q2, by rw [← flat_take n h3]; exact qcc q3⟩
theorem slR_drop (h : SlR z At l a c u) {n : Nat} (hn : n ≤ l.length) : SlR z At (l.drop n) (cutA z a c n) (c - n) u := by
 obtain ⟨h1, css, h2, h3, h4, h5⟩ := h
 refine ⟨by rw [List.length_drop]; omega, css.drop n, by rw [List.length_drop, List.length_drop, h2], fun x hx => h3 x (List.mem_of_mem_drop hx), fun i m cs q1 q2 => ?_, fun hne => ?_⟩
 ·rw [List.getElem?_drop] at q1 q2
  exact h4 (n + i) m cs q1 q2
 ·have hlt : n < l.length := by
   rcases Nat.lt_or_ge n l.length with q | q
   ·exact q
   ·exact absurd (List.drop_of_length_le q) hne
  obtain ⟨g, f, q1, q2, q3⟩ := h5 (fun hn => by rw [hn] at hlt; simp at hlt)
  subst q1
  refine ⟨g, f + n * z, ?_, q2, by rw [← flat_drop n h3]; exact qcd q3⟩
  unfold cutA
  rw [Option.map_some, if_neg (by omega), Addr.add_mid]
end
theorem pk_at {l : List MPk} {a : Option Addr} {c : Nat} {u : World} (h : SlR 33 pkAt l a c u) {i : Nat} (hi : i < l.length) : ∃ g f, a = some ⟨g, f, none⟩ ∧ g < u.heap.size ∧ u.rangeAt g (f + i * 33) (pkC l[i]) := by
 obtain ⟨g, f, cs, h1, h2, _, h4, h5⟩ := slR_at h hi
 exact ⟨g, f, h1, h2, h5 ▸ h4⟩
theorem pk_at2 {l : List MPk} {g f c : Nat} {u : World} (h : SlR 33 pkAt l (some ⟨g, f, none⟩) c u) {i : Nat} (hi : i < l.length) : u.rangeAt g (f + i * 33) (pkC l[i]) := by
 obtain ⟨g', f', h1, _, h3⟩ := pk_at h hi
 simp only [Option.some.injEq, Addr.mk.injEq] at h1
 obtain ⟨rfl, rfl, _⟩ := h1
 exact h3
def adB (was is : List MPk) : Bool := decide (is.length = was.length + 1) && eqPs was (is.take was.length)
def adP (was is : List MPk) : MPk := if adB was is = true then is.getD was.length pk0 else pk0
def rmB (was is : List MPk) : Bool := decide (was.length = is.length + 1) && eqPs (was.drop (pfx was is + 1)) (is.drop (pfx was is))
def rmP (was is : List MPk) : MPk := if rmB was is = true then was.getD (pfx was is) pk0 else pk0
theorem Ev.froF {w u : World} {L : List (Nat × List Value)} {F H : World → Prop} (e : Ev w L [] F H u) : Fro 0 F u := fun V hV => e.fs V (hV.mono (Nat.le_refl _) fun _ h => by cases h)
theorem cell_fro {w : World} {B j : Nat} {v : Value} (hB : B < w.heap.size) (h : w.cell? ⟨B, j, none⟩ = some v) : Fro 0 (fun V => V.cell? ⟨B, j, none⟩ = some v) w := fun V hV => (World.cell?_of_block (hV.block B (Nat.zero_le _) hB (by simp))).trans h
end Go.Proofs.YtcgbgmbnagmohaaDoor
