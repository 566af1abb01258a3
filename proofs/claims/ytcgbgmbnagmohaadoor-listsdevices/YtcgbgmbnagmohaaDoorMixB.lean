import Derived.Test.YtcgbgmbnagmohaaDoorGen
namespace Go.Proofs.YtcgbgmbnagmohaaDoor
open Go.RowKit
set_option maxRecDepth 20000
def flB (kb : List (BitVec 8)) (n : Nat) : List (BitVec 8) := kb.take n ++ List.replicate (32 - n) 0
theorem flB_len {kb : List (BitVec 8)} (h : kb.length = 32) {n : Nat} (hn : n ≤ 32) : (flB kb n).length = 32 := by unfold flB; rw [List.length_append, List.length_take, List.length_replicate]; omega
theorem flB_zero (kb : List (BitVec 8)) : (flB kb 0).map b8 = z8 32 := by unfold flB; rw [List.take_zero, List.nil_append]; rfl
theorem flB_all {kb : List (BitVec 8)} (h : kb.length = 32) : flB kb 32 = kb := by unfold flB; rw [List.take_of_length_le (by omega)]; simp
theorem flB_set {kb : List (BitVec 8)} (h : kb.length = 32) {n : Nat} (hn : n < 32) : ((flB kb n).map b8).set n (b8 (kb.getD n 0)) = (flB kb (n + 1)).map b8 := by
 rw [qc3]
 congr 1
 unfold flB
 have e : List.replicate (32 - n) (0 : BitVec 8) = 0 :: List.replicate (32 - (n + 1)) 0 := by rw [show 32 - n = (32 - (n + 1)) + 1 by omega, List.replicate_succ]
 rw [e, List.set_append_right _ _ (by rw [List.length_take]; omega), List.length_take, Nat.min_eq_left (by omega), Nat.sub_self, List.set_cons_zero, List.take_succ_eq_append_getElem (by omega), List.append_assoc]
 simp [show n < kb.length by omega]
theorem szKy {l : List (BitVec 8)} (h : l.length = 32) : (Tryd.prog.info? 24).map (·.size) = some (l.map b8).length := by rw [List.length_map, h]; kernel_rfl
theorem one8s (l : List (BitVec 8)) : (l.map b8).toArray.all (·.oneCell') = true := all_oneCell_toArray fun v hv => by rw [List.mem_map] at hv; obtain ⟨x, _, rfl⟩ := hv; rfl
theorem z8_32 : (z8 32).length = 32 := by unfold z8; rw [List.length_map, List.length_replicate]
end Go.Proofs.YtcgbgmbnagmohaaDoor
namespace Go.Proofs.YtcgbgmbnagmohaaDoor
open Go.RowKit
set_option maxRecDepth 20000
theorem szSg {l : List (BitVec 8)} (h : l.length = 64) : (Tryd.prog.info? 27).map (·.size) = some (l.map b8).length := by rw [List.length_map, h]; kernel_rfl
end Go.Proofs.YtcgbgmbnagmohaaDoor
