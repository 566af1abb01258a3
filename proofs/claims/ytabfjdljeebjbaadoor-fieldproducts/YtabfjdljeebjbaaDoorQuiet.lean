/- Regions that only read and call, walked once: the cells of numbers in every world that such a region may come to. -/
import Derived.Test.YtabfjdljeebjbaaDoorKnown
import Derived.Lib.QuietBelow
namespace Go.Proofs.YtabfjdljeebjbaaDoor
open Go.RowKit Go.Sort

theorem cells_regrown {b : Nat} {N : Int} {u : World} (h : Cells4 b N u) : ∀ d os, (grow (redrawn u d) os).cell? ⟨b, 0, none⟩ = some (.int .u64 (w0 N)) ∧ (grow (redrawn u d) os).cell? ⟨b, 1, none⟩ = some (.int .u64 (w1 N)) ∧ (grow (redrawn u d) os).cell? ⟨b, 2, none⟩ = some (.int .u64 (w2 N)) ∧ (grow (redrawn u d) os).cell? ⟨b, 3, none⟩ = some (.int .u64 (w3 N)) :=
  fun d os => ⟨cell_regrown h.1 d os, cell_regrown h.2.1 d os, cell_regrown h.2.2.1 d os, cell_regrown h.2.2.2 d os⟩
theorem known_regrown {u : World} (hG : Globs u) : ∀ d os, Calls Tryd.prog 12 #[] (grow (redrawn u d) os) fun e w'' => e = .returned (.bool true) ∧ ∃ p : Regrown, w'' = grow (redrawn u p.d) p.os := fun d os => Calls.regrown_of (known_any _ (hG.below (below_regrown u d os)))
theorem canon_regrown {u : World} (hG : Globs u) {X : Int} (hX : Num X) : ∀ d os, Calls Tryd.prog 19 #[feV X] (grow (redrawn u d) os) fun e w'' => e = .returned (feV (X % pp)) ∧ ∃ p : Regrown, w'' = grow (redrawn u p.d) p.os := fun d os => Calls.regrown_of (canon_any X _ hX (hG.below (below_regrown u d os)).O)
theorem mul_regrown {u : World} (hG : Globs u) {X Y : Int} (hX : Num X) (hY : Num Y) : ∀ d os, Calls Tryd.prog 15 #[feV X, feV Y] (grow (redrawn u d) os) fun e w'' => e = .returned (feV (X * Y % pp)) ∧ ∃ p : Regrown, w'' = grow (redrawn u p.d) p.os := fun d os => Calls.regrown_of (mul_any X Y _ hX hY (hG.below (below_regrown u d os)).O)
end Go.Proofs.YtabfjdljeebjbaaDoor
