/- Digests held against each other. -/
import Derived.Test.YtkjlaoaaifliaaaDoorEqArr32
namespace Go.Proofs.YtkjlaoaaifliaaaDoor
open Go.RowKit

set_option maxHeartbeats 1000000 in
theorem eqSig_same {l : List (BitVec 8)} (hl : l.length = 64) (w : World) : (Op.equalIn 10000 28 (.agg (l.map b8).toArray) (.agg (l.map b8).toArray)).run Tryd.prog w = .ok true w := by
  have hu := Tryd.underlying5
  have ha := Tryd.isAgg5
  have hz := Tryd.sizeOf5
  rw [show (10000 : Nat) = 9999 + 1 from rfl, Op.equalIn]
  simp only [Sem.run_bind, run_underlying Tryd.underlying28, Result.andThen_ok]
  simp only [Std.Legacy.Range.forIn_eq_forIn_range', Std.Legacy.Range.size, Nat.sub_zero, Nat.add_sub_cancel, Nat.div_one]
  have he : ∀ i, i < 64 → (l.map b8)[i]? = some (.int .u8 ((l.getD i 0).toNat : Int)) := fun i hi => get_map b8 0 (by omega)
  generalize l.map b8 = vs at *
  go_simp
  rw [forIn_none]
  · go_simp
  · intro i _ hi
    have he := he i (by omega)
    go_simp
theorem run_eqSig {l : List (BitVec 8)} (hl : l.length = 64) {w : World} {ρ : Operand → Value} {o : Oper} {x y : Operand} {t : TypeId} (ho : o.op = .binOp .eql 28 x y t) (hx : ρ x = .agg (l.map b8).toArray) (hy : ρ y = .agg (l.map b8).toArray) : (execOp ρ o).run Tryd.prog w = .ok (.value (.bool true)) w := by
  obtain ⟨dst, op, type, pos, after, guard⟩ := o
  subst ho
  have hE := eqSig_same hl w
  generalize (l.map b8).toArray = vs at *
  go_simp
end Go.Proofs.YtkjlaoaaifliaaaDoor
