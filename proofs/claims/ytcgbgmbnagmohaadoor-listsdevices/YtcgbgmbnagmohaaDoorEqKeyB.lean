import Derived.Test.YtcgbgmbnagmohaaDoorGen
namespace Go.Proofs.YtcgbgmbnagmohaaDoor
open Go.RowKit
set_option maxRecDepth 20000
theorem extB {l m : List (BitVec 8)} (h : l.length = m.length) (hi : ∀ i, i < l.length → l.getD i 0 = m.getD i 0) : l = m := by
 apply List.ext_getElem h
 intro i h1 h2
 have := hi i h1
 rw [List.getD_eq_getElem?_getD, List.getD_eq_getElem?_getD, List.getElem?_eq_getElem h1, List.getElem?_eq_getElem h2] at this
 exact this
theorem all_eqB {l m : List (BitVec 8)} (n : Nat) (hl : l.length = n) (hm : m.length = n) : ((List.range' 0 n).all fun i => (((l.getD i 0).toNat : Int) == ((m.getD i 0).toNat : Int))) = decide (l = m) := by
 rw [Bool.eq_iff_iff, List.all_eq_true, decide_eq_true_eq]
 constructor
 ·intro h
  refine extB (by omega) fun i hi => ?_
  have := h i (List.mem_range'_1.2 ⟨Nat.zero_le _, by omega⟩)
  exact BitVec.eq_of_toNat_eq (Int.ofNat.inj (eq_of_beq this))
 ·intro h i _
  rw [h]; simp
end Go.Proofs.YtcgbgmbnagmohaaDoor
namespace Go.Proofs.YtcgbgmbnagmohaaDoor
open Go.RowKit
set_option maxRecDepth 20000
set_option maxHeartbeats 2000000 in
theorem eqKyB {l m : List (BitVec 8)} (hl : l.length = 32) (hm : m.length = 32) (w : World) : (Op.equalIn 10000 24 (.agg (l.map b8).toArray) (.agg (m.map b8).toArray)).run Tryd.prog w = .ok (decide (l = m)) w := by
 have hu := Tryd.underlying5
 have ha := Tryd.isAgg5
 have hz := Tryd.sizeOf5
 rw [show (10000 : Nat) = 9999 + 1 from rfl, Op.equalIn]
 simp only [Sem.run_bind, run_underlying Tryd.underlying24, Result.andThen_ok]
 simp only [Std.Legacy.Range.forIn_eq_forIn_range', Std.Legacy.Range.size, Nat.sub_zero, Nat.add_sub_cancel, Nat.div_one]
 have he : ∀ i, i < 32 → (l.map b8)[i]? = some (.int .u8 ((l.getD i 0).toNat : Int)) := fun i hi => qbv b8 0 (by omega)
 have he' : ∀ i, i < 32 → (m.map b8)[i]? = some (.int .u8 ((m.getD i 0).toNat : Int)) := fun i hi => qbv b8 0 (by omega)
 have hA := all_eqB 32 hl hm
 generalize hvs : l.map b8 = vs at *
 generalize hvt : m.map b8 = vt at *
 clear hvs hvt
 obtain ⟨p, hp⟩ : ∃ p : Nat → Bool, p = fun i => (((l.getD i 0).toNat : Int) == ((m.getD i 0).toNat : Int)) := ⟨_, rfl⟩
 rw [← hp] at hA
 go_simp
 rw [forIn_find (c := (some false, ())) (p := p)]
 ·rw [hA]
  by_cases h : l = m
  ·simp [h]
  ·simp [h]
 ·intro i _ hi
  have e1 := he i (by omega)
  have e2 := he' i (by omega)
  clear he he'
  have hpi : p i = (((l.getD i 0).toNat : Int) == ((m.getD i 0).toNat : Int)) := by rw [hp]
  obtain ⟨a, ea⟩ : ∃ a : Int, a = ((l.getD i 0).toNat : Int) := ⟨_, rfl⟩
  obtain ⟨b, eb⟩ : ∃ b : Int, b = ((m.getD i 0).toNat : Int) := ⟨_, rfl⟩
  rw [← ea] at e1 hpi
  rw [← eb] at e2 hpi
  rw [hpi]
  clear hpi ea eb hA hp
  by_cases h : a = b <;> go_simp
theorem run_eqKyB {l m : List (BitVec 8)} (hl : l.length = 32) (hm : m.length = 32) {w : World} {ρ : Operand → Value} {o : Oper} {x y : Operand} {t : TypeId} {c : Bool} (ho : o.op = .binOp .eql 24 x y t) (hx : ρ x = .agg (l.map b8).toArray) (hy : ρ y = .agg (m.map b8).toArray) (hc : decide (l = m) = c) : (execOp ρ o).run Tryd.prog w = .ok (.value (.bool c)) w := by
 obtain ⟨dst, op, type, pos, after, guard⟩ := o
 subst ho
 have hE := eqKyB hl hm w
 rw [hc] at hE
 generalize (l.map b8).toArray = vs at *
 generalize (m.map b8).toArray = vt at *
 go_simp
theorem run_neKyB {l m : List (BitVec 8)} (hl : l.length = 32) (hm : m.length = 32) {w : World} {ρ : Operand → Value} {o : Oper} {x y : Operand} {t : TypeId} {c : Bool} (ho : o.op = .binOp .neq 24 x y t) (hx : ρ x = .agg (l.map b8).toArray) (hy : ρ y = .agg (m.map b8).toArray) (hc : (!decide (l = m)) = c) : (execOp ρ o).run Tryd.prog w = .ok (.value (.bool c)) w := by
 obtain ⟨dst, op, type, pos, after, guard⟩ := o
 subst ho
 have hE := eqKyB hl hm w
 generalize decide (l = m) = d at *
 subst hc
 generalize (l.map b8).toArray = vs at *
 generalize (m.map b8).toArray = vt at *
 go_simp
end Go.Proofs.YtcgbgmbnagmohaaDoor
