/- Words of 64 bits made of bytes. -/
import Derived.Test.YtfdjmdfaidiliaaGreatDoorRef064
namespace Go.Proofs.YtfdjmdfaidiliaaGreatDoor
open Go.RowKit
set_option maxRecDepth 20000

/-- A word of bytes, the greatest first. -/
def wk64 (l : List (BitVec 8)) : Nat → BitVec 64
  | 0 => 0
  | k + 1 => wk64 l k <<< 8 ||| (l.getD k 0).setWidth 64
theorem wk_lt64 (l : List (BitVec 8)) : ∀ k, k ≤ 8 → (wk64 l k).toNat < 256 ^ k
  | 0, _ => by simp [wk64]
  | k + 1, h => by
    have h1 := wk_lt64 l k (by omega)
    have h2 := (l.getD k 0).isLt
    rw [wk64, BitVec.toNat_or]
    have h3 : (wk64 l k <<< 8).toNat < 2 ^ (8 * (k + 1)) := by
      rw [BitVec.toNat_shiftLeft, Nat.shiftLeft_eq]
      refine Nat.lt_of_le_of_lt (Nat.mod_le _ _) ?_
      rw [show 2 ^ (8 * (k + 1)) = 256 ^ k * 2 ^ 8 by rw [Nat.pow_mul, Nat.pow_succ]]
      exact Nat.mul_lt_mul_of_pos_right h1 (by omega)
    have h4 : ((l.getD k 0).setWidth 64).toNat < 2 ^ (8 * (k + 1)) := by
      rw [BitVec.toNat_setWidth]
      refine Nat.lt_of_le_of_lt (Nat.mod_le _ _) (Nat.lt_of_lt_of_le h2 (Nat.pow_le_pow_right (by omega) (by omega)))
    have := Nat.or_lt_two_pow h3 h4
    rwa [Nat.pow_mul] at this
theorem pow256x64 (k : Nat) (h : k < 8) : 256 ^ k * 256 ≤ 2 ^ 64 := by
  rw [← Nat.pow_succ, show (256 : Nat) = 2 ^ 8 from rfl, ← Nat.pow_mul]
  exact Nat.pow_le_pow_right (by omega) (by omega)
theorem wk_step64 (l : List (BitVec 8)) (k : Nat) (h : k < 8) : up64 (wk64 l k) <<< 8 + (l.getD k 0).setWidth 64 = up64 (wk64 l (k + 1)) := by
  have h1 := wk_lt64 l k (by omega)
  have h2 := (l.getD k 0).isLt
  have h3 := pow256x64 k h
  rw [wk64]
  unfold up64
  apply BitVec.eq_of_toNat_eq
  generalize wk64 l k = x at *
  generalize l.getD k 0 = b at *
  have hx : x.toNat * 256 + b.toNat < 2 ^ 64 := by
    have : x.toNat * 256 + 256 ≤ 256 ^ k * 256 := by
      have := Nat.mul_le_mul_right 256 (Nat.succ_le_of_lt h1)
      rw [Nat.succ_mul] at this
      exact this
    omega
  rw [BitVec.toNat_add, BitVec.toNat_shiftLeft, BitVec.toNat_setWidth, BitVec.toNat_setWidth, BitVec.toNat_setWidth, BitVec.toNat_or, BitVec.toNat_shiftLeft, BitVec.toNat_setWidth]
  have e0 : x.toNat <<< 8 = x.toNat * 256 := Nat.shiftLeft_eq x.toNat 8
  have e3 : x.toNat <<< 8 ||| b.toNat = x.toNat * 256 + b.toNat := (Nat.shiftLeft_add_eq_or_of_lt (i := 8) h2 x.toNat).symm.trans (congrArg (· + b.toNat) e0)
  have hM : (2 : Nat) ^ 64 = 18446744073709551616 := by decide
  have hM2 : (2 : Nat) ^ 64 = 18446744073709551616 := by decide
  have hx1 := x.isLt
  rw [hM] at hx hx1
  clear h1 h3 h
  have e1 : x.toNat <<< 8 % 2 ^ 64 = x.toNat <<< 8 := by rw [hM, e0]; exact Nat.mod_eq_of_lt (Nat.lt_of_le_of_lt (Nat.le_add_right _ _) hx)
  have e2 : b.toNat % 2 ^ 64 = b.toNat := by rw [hM]; exact Nat.mod_eq_of_lt (Nat.lt_of_le_of_lt (Nat.le_add_left _ _) hx)
  have e4 : x.toNat % 2 ^ 64 = x.toNat := by rw [hM2]; exact Nat.mod_eq_of_lt (by omega)
  rw [e1, e2, e3, e4, e0, hM2]
  omega
end Go.Proofs.YtfdjmdfaidiliaaGreatDoor
