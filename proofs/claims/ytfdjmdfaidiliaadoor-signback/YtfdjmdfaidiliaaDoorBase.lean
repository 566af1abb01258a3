/- Blocks stored into whole; small numbers. -/
import Derived.Test.YtfdjmdfaidiliaaDoorEqFe
import Derived.Test.YtfdjmdfaidiliaaDoorInv
import Derived.Test.YtfdjmdfaidiliaaDoorBytes
namespace Go.Proofs.YtfdjmdfaidiliaaDoor
open Go.RowKit
set_option maxRecDepth 20000

theorem num_small {n : Int} (h0 : 0 ≤ n) (h1 : n < 4294967296) : Num n := by unfold Num; omega

theorem frozen_setCellsF (b : Nat) : ∀ (vs : List Value) (o : Nat) (w : World) (x : Addr), (w.setCells b o vs).frozen? x = w.frozen? x
  | [], _, _, _ => rfl
  | v :: r, o, w, x => by
    show ((w.setCell ⟨b, o, none⟩ v).setCells b (o + 1) r).frozen? x = _
    rw [frozen_setCellsF b r]; simp [go_sem]
theorem size_setCellsF (b : Nat) : ∀ (vs : List Value) (o : Nat) (w : World), (w.setCells b o vs).heap.size = w.heap.size
  | [], _, _ => rfl
  | v :: r, o, w => by
    show ((w.setCell ⟨b, o, none⟩ v).setCells b (o + 1) r).heap.size = _
    rw [size_setCellsF b r]; simp
theorem Row.storeAll {b : Nat} {l l' : List Int} {u : World} (h : Row b l u) (hl : l'.length = l.length) : Row b l' (u.setCells b 0 (l'.map (Value.int .u8))) := by
  refine ⟨by rw [size_setCellsF]; exact h.lt, fun i hi => ?_, fun i => by rw [frozen_setCellsF]; exact h.f i⟩
  have hT := World.rangeAt_setCells_same u b 0 (l'.map (Value.int .u8)) (by simpa [hl] using h.thereAt) i _ (map_getElem? hi)
  rwa [Nat.zero_add] at hT
theorem fe_word {n : Int} (hn : Word n) : Value.agg #[.int .u64 n, .int .u64 0, .int .u64 0, .int .u64 0] = feV n := by
  have h := feV_val hn word0 word0 word0
  rw [show val n 0 0 0 = n by unfold val; omega] at h
  exact h.symm
theorem Word.num {n : Int} (h : Word n) : Num n := by unfold Word Num at *; omega
theorem eq_word {M n : Int} (hM : Num M) (hn : Word n) (h : M = n) : ∀ v, (Op.equalIn 10000 31 (feV M) (.agg #[.int .u64 n, .int .u64 0, .int .u64 0, .int .u64 0])).run Tryd.prog v = .ok true v := fun v => by
  rw [fe_word hn, run_eqFe hM hn.num, decide_eq_true h]
theorem mulmodr (a b : Int) : a * (b % pp) % pp = a * b % pp := by rw [Int.mul_comm, mulmodl, Int.mul_comm]
end Go.Proofs.YtfdjmdfaidiliaaDoor
