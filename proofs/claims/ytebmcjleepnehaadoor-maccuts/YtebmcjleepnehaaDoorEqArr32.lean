/- Digests held against each other. -/
import Derived.Test.YtebmcjleepnehaaDoorShaSum32
namespace Go.Proofs.YtebmcjleepnehaaDoor
open Go.RowKit

theorem forIn_none {P : Program} {w : World} {β : Type} {b : β} {f : Nat → β → Sem (ForInStep β)} : ∀ (n s : Nat), (∀ i, s ≤ i → i < s + n → (f i b).run P w = .ok (.yield b) w) → (forIn (List.range' s n) b f : Sem β).run P w = .ok b w
  | 0, s, _ => by simp [Sem.run_pure]
  | n + 1, s, h => by
    rw [List.range'_succ, List.forIn_cons, Sem.run_bind, h s (Nat.le_refl _) (by omega), Result.andThen_ok]
    exact forIn_none n (s + 1) fun i h1 h2 => h i (by omega) (by omega)
set_option maxHeartbeats 1000000 in
theorem eqKey_same {l : List (BitVec 8)} (hl : l.length = 32) (w : World) : (Op.equalIn 10000 28 (.agg (l.map b8).toArray) (.agg (l.map b8).toArray)).run Tryd.prog w = .ok true w := by
  have hu := Tryd.underlying5
  have ha := Tryd.isAgg5
  have hz := Tryd.sizeOf5
  rw [show (10000 : Nat) = 9999 + 1 from rfl, Op.equalIn]
  simp only [Sem.run_bind, run_underlying Tryd.underlying28, Result.andThen_ok]
  simp only [Std.Legacy.Range.forIn_eq_forIn_range', Std.Legacy.Range.size, Nat.sub_zero, Nat.add_sub_cancel, Nat.div_one]
  have he : ∀ i, i < 32 → (l.map b8)[i]? = some (.int .u8 ((l.getD i 0).toNat : Int)) := fun i hi => get_map b8 0 (by omega)
  generalize l.map b8 = vs at *
  go_simp
  rw [forIn_none]
  · go_simp
  · intro i _ hi
    have he := he i (by omega)
    go_simp
theorem run_eqKey {l : List (BitVec 8)} (hl : l.length = 32) {w : World} {ρ : Operand → Value} {o : Oper} {x y : Operand} {t : TypeId} (ho : o.op = .binOp .eql 28 x y t) (hx : ρ x = .agg (l.map b8).toArray) (hy : ρ y = .agg (l.map b8).toArray) : (execOp ρ o).run Tryd.prog w = .ok (.value (.bool true)) w := by
  obtain ⟨dst, op, type, pos, after, guard⟩ := o
  subst ho
  have hE := eqKey_same hl w
  generalize (l.map b8).toArray = vs at *
  go_simp
end Go.Proofs.YtebmcjleepnehaaDoor
