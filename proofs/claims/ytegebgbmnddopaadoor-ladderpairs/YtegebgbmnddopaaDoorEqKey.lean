/- Keys held against each other. -/
import Derived.Test.YtegebgbmnddopaaDoorBase
namespace Go.Proofs.YtegebgbmnddopaaDoor
open Go.RowKit

theorem forIn_none {P : Program} {w : World} {β : Type} {b : β} {f : Nat → β → Sem (ForInStep β)} : ∀ (n s : Nat), (∀ i, s ≤ i → i < s + n → (f i b).run P w = .ok (.yield b) w) → (forIn (List.range' s n) b f : Sem β).run P w = .ok b w
  | 0, s, _ => by simp [Sem.run_pure]
  | n + 1, s, h => by
    rw [List.range'_succ, List.forIn_cons, Sem.run_bind, h s (Nat.le_refl _) (by omega), Result.andThen_ok]
    exact forIn_none n (s + 1) fun i h1 h2 => h i (by omega) (by omega)
set_option maxHeartbeats 1000000 in
theorem eqKey_same {l : List Int} (hl : l.length = 32) (w : World) : (Op.equalIn 10000 23 (kV l) (kV l)).run Tryd.prog w = .ok true w := by
  have hu := Tryd.underlying5
  have ha := Tryd.isAgg5
  have hz := Tryd.sizeOf5
  rw [show (10000 : Nat) = 9999 + 1 from rfl, Op.equalIn]
  simp only [Sem.run_bind, run_underlying Tryd.underlying23, Result.andThen_ok]
  simp only [Std.Legacy.Range.forIn_eq_forIn_range', Std.Legacy.Range.size, Nat.sub_zero, Nat.add_sub_cancel, Nat.div_one]
  go_simp
  rw [forIn_none]
  · go_simp
  · intro i _ hi
    have he := map_getElem? (l := l) (i := i) (by omega)
    go_simp
theorem eqKey_true {l m : List Int} (hl : l.length = 32) (h : l = m) : ∀ v, (Op.equalIn 10000 23 (kV l) (kV m)).run Tryd.prog v = .ok true v := fun v => by subst h; exact eqKey_same hl v
end Go.Proofs.YtegebgbmnddopaaDoor
