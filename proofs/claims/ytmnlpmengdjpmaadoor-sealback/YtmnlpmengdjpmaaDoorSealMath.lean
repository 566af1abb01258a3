/- What is sealed is opened; what is bent at its end is not. -/
import Derived.Test.YtmnlpmengdjpmaaDoorSealKnum
namespace Go.Proofs.YtmnlpmengdjpmaaDoor
open Go.RowKit
set_option maxRecDepth 20000

theorem seal_take (k : List (BitVec 8)) (n : BitVec 64) (wi b : List (BitVec 8)) : (sealB k n wi b).take b.length = hidB k n b := by
  rw [← hid_len k n b]; exact List.take_left
theorem seal_drop (k : List (BitVec 8)) (n : BitVec 64) (wi b : List (BitVec 8)) : (sealB k n wi b).drop b.length = tagB (bindK k) n wi (hidB k n b) := by
  rw [← hid_len k n b]; exact List.drop_left
theorem open_sealB (k : List (BitVec 8)) (n : BitVec 64) (wi b : List (BitVec 8)) : openE k n wi (sealB k n wi b) = 0 ∧ openB k n wi (sealB k n wi b) = b := by
  have hl := seal_len k n wi b
  have e : (sealB k n wi b).length - 32 = b.length := by omega
  have ho : opensB k n wi (sealB k n wi b) := by unfold opensB; rw [e, seal_take, seal_drop]
  have h32 : ¬ (sealB k n wi b).length < 32 := by omega
  unfold openE openB
  rw [if_neg h32, if_neg h32, if_pos ho, if_pos ho, e, seal_take]
  exact ⟨rfl, ctr_ctr _ _ _⟩
theorem bent_sealB (k : List (BitVec 8)) (n : BitVec 64) (wi b x : List (BitVec 8)) (hx : x.length = b.length + 32) (h1 : x.take b.length = hidB k n b) (h2 : x.drop b.length ≠ tagB (bindK k) n wi (hidB k n b)) : openE k n wi x = 21 ∧ openB k n wi x = [] := by
  have e : x.length - 32 = b.length := by omega
  have ho : ¬ opensB k n wi x := by unfold opensB; rw [e, h1]; exact fun h => h2 h.symm
  have h32 : ¬ x.length < 32 := by omega
  unfold openE openB
  rw [if_neg h32, if_neg h32, if_neg ho, if_neg ho]
  exact ⟨rfl, rfl⟩
theorem short_openB (k : List (BitVec 8)) (n : BitVec 64) (wi x : List (BitVec 8)) (hx : x.length < 32) : openE k n wi x = 10 ∧ openB k n wi x = [] := by
  unfold openE openB
  rw [if_pos hx, if_pos hx]
  exact ⟨rfl, rfl⟩
/-- One byte of the last 32 another one. -/
theorem bent_at (k : List (BitVec 8)) (n : BitVec 64) (wi b : List (BitVec 8)) (a : Nat) (ha : a < 32) (v : BitVec 8) (hv : v ≠ 0) :
    openE k n wi ((sealB k n wi b).set (b.length + a) ((sealB k n wi b).getD (b.length + a) 0 ^^^ v)) = 21 ∧ openB k n wi ((sealB k n wi b).set (b.length + a) ((sealB k n wi b).getD (b.length + a) 0 ^^^ v)) = [] := by
  have hl := seal_len k n wi b
  have h1 : ((sealB k n wi b).set (b.length + a) ((sealB k n wi b).getD (b.length + a) 0 ^^^ v)).take b.length = hidB k n b := by
    rw [List.take_set, List.set_eq_of_length_le (by rw [List.length_take]; omega), seal_take]
  refine bent_sealB k n wi b _ (by rw [List.length_set, hl]) h1 fun h2 => ?_
  have e : (sealB k n wi b).set (b.length + a) ((sealB k n wi b).getD (b.length + a) 0 ^^^ v) = sealB k n wi b := by
    rw [← List.take_append_drop b.length ((sealB k n wi b).set (b.length + a) ((sealB k n wi b).getD (b.length + a) 0 ^^^ v)), h1, h2]; rfl
  have e2 := congrArg (fun l => l.getD (b.length + a) 0) e
  generalize sealB k n wi b = x at *
  have hlt : b.length + a < x.length := by omega
  simp only [List.getD_eq_getElem?_getD, List.getElem?_set_self hlt, Option.getD_some] at e2
  apply hv
  generalize x[b.length + a]?.getD 0 = y at *
  have := congrArg (y ^^^ ·) e2
  simpa [← BitVec.xor_assoc] using this
theorem known_open2 : openE kk6 2 ky6 (sealB kk6 2 kx6 kab6) = 21 ∧ openB kk6 2 ky6 (sealB kk6 2 kx6 kab6) = [] := by
  refine bent_sealB kk6 2 ky6 kab6 _ (seal_len _ _ _ _) (seal_take _ _ _ _) ?_
  rw [seal_drop, kBind, kHidden, kTagx, kTagy]
  decide
end Go.Proofs.YtmnlpmengdjpmaaDoor
