import Derived.Test.YtfdjmdfaidiliaaGreatDoorEdMul2
namespace Go.Proofs.YtfdjmdfaidiliaaGreatDoor
open Go.RowKit
set_option maxRecDepth 20000
theorem eq4D (d : Nat) (a0 a1 a2 a3 b0 b1 b2 b3 : Int) (w : World) : (Op.equalIn (d + 2) 47 (.agg #[.int .u64 a0, .int .u64 a1, .int .u64 a2, .int .u64 a3]) (.agg #[.int .u64 b0, .int .u64 b1, .int .u64 b2, .int .u64 b3])).run Tryz.prog w = .ok (a0 == b0 && a1 == b1 && a2 == b2 && a3 == b3) w := by
  have hu := Tryz.underlying45
  have ha := Tryz.isAgg45
  have hz := Tryz.sizeOf45
  rw [show d + 2 = (d + 1) + 1 from rfl, Op.equalIn]
  simp only [Sem.run_bind, run_underlying Tryz.underlying47, Result.andThen_ok]
  simp only [Std.Legacy.Range.forIn_eq_forIn_range', Std.Legacy.Range.size, Nat.sub_zero, Nat.add_sub_cancel, Nat.div_one, List.range'_succ, List.range'_zero, List.forIn_cons, List.forIn_nil]
  go_simp
  by_cases h1 : a0 = b0 <;> by_cases h2 : a1 = b1 <;> by_cases h3 : a2 = b2 <;> by_cases h4 : a3 = b3 <;> simp [h1, h2, h3, h4]
theorem eqFeD (d : Nat) {M Z : Int} (hM : Num M) (hZ : Num Z) (w : World) : (Op.equalIn (d + 2) 47 (.agg (feL M).toArray) (.agg (feL Z).toArray)).run Tryz.prog w = .ok (decide (M = Z)) w := by
  rw [eq4D]
  congr 1
  by_cases h : M = Z
  · subst h; simp
  · have hn : ¬ (w0 M = w0 Z ∧ w1 M = w1 Z ∧ w2 M = w2 Z ∧ w3 M = w3 Z) := fun ⟨h0, h1, h2, h3⟩ => h (feV_inj hM hZ h0 h1 h2 h3)
    rw [decide_eq_false h, Bool.eq_false_iff]
    intro ht
    simp only [Bool.and_eq_true, beq_iff_eq] at ht
    exact hn ⟨ht.1.1.1, ht.1.1.2, ht.1.2, ht.2⟩
theorem ext_x (p : Pt) : (ptL p).toArray.extract 0 4 = (feL p.x).toArray := by kernel_rfl
theorem ext_y (p : Pt) : (ptL p).toArray.extract 4 8 = (feL p.y).toArray := by kernel_rfl
theorem pt_dec (p q : Pt) : decide (p = q) = (decide (p.x = q.x) && decide (p.y = q.y)) := by
  rw [Bool.eq_iff_iff]
  simp only [decide_eq_true_eq, Bool.and_eq_true]
  constructor
  · rintro rfl; exact ⟨rfl, rfl⟩
  · rintro ⟨h3, h4⟩
    cases p; cases q
    simp only at h3 h4
    rw [h3, h4]
theorem run_eqPt {p q : Pt} {c : Bool} (hp : p.Nm) (hq : q.Nm) {w : World} {ρ : Operand → Value} {o : Oper} {x y : Operand} {t : TypeId} (ho : o.op = .binOp .eql 49 x y t) (hx : ρ x = .agg (ptL p).toArray) (hy : ρ y = .agg (ptL q).toArray) (hc : decide (p = q) = c) : (execOp ρ o).run Tryz.prog w = .ok (.value (.bool c)) w := by
  obtain ⟨dst, op, type, pos, after, guard⟩ := o
  subst ho
  have h1 : ∀ w, (Op.equalIn 9999 47 (.agg (feL p.x).toArray) (.agg (feL q.x).toArray)).run Tryz.prog w = .ok (decide (p.x = q.x)) w := eqFeD 9997 hp.1 hq.1
  have h2 : ∀ w, (Op.equalIn 9999 47 (.agg (feL p.y).toArray) (.agg (feL q.y).toArray)).run Tryz.prog w = .ok (decide (p.y = q.y)) w := eqFeD 9997 hp.2 hq.2
  rw [pt_dec] at hc
  have p1 := ext_x p
  have p2 := ext_y p
  have q1 := ext_x q
  have q2 := ext_y q
  generalize (ptL p).toArray = vp at *
  generalize (ptL q).toArray = vq at *
  generalize (feL p.x).toArray = v1 at *
  generalize (feL p.y).toArray = v2 at *
  generalize (feL q.x).toArray = v3 at *
  generalize (feL q.y).toArray = v4 at *
  generalize decide (p.x = q.x) = c1 at *
  generalize decide (p.y = q.y) = c2 at *
  subst hc
  cases c1 <;> cases c2 <;> go_simp
end Go.Proofs.YtfdjmdfaidiliaaGreatDoor
