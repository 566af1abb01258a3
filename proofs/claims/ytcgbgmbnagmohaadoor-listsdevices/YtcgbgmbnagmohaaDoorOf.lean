import Derived.Test.YtcgbgmbnagmohaaDoorPw
import Derived.Test.YtcgbgmbnagmohaaDoorPow
namespace Go.Proofs.YtcgbgmbnagmohaaDoor
open Go.RowKit
set_option maxRecDepth 20000
def le : List Int → Int
 | [] => 0
 | b :: t => b + 256 * le t
def Bytes8 (l : List Int) : Prop := ∀ b ∈ l, 0 ≤ b ∧ b ≤ 255
def nth (l : List Int) (i : Nat) : Int := l[i]?.getD 0
theorem le_append (a : List Int) (b : Int) : le (a ++ [b]) = le a + 256 ^ a.length * b := by
 induction a with
 | nil => simp [le]
 | cons x t ih =>
  rw [List.cons_append, le, le, ih, List.length_cons, Int.pow_succ, Int.mul_add, Int.mul_comm (256 ^ t.length) 256, Int.mul_assoc, Int.add_assoc]
theorem nth_mem {l : List Int} {i : Nat} (h : i < l.length) : nth l i ∈ l := by
 unfold nth; rw [List.getElem?_eq_getElem h, Option.getD_some]; exact List.getElem_mem _
theorem le_take_succ {l : List Int} {k : Nat} (h : k < l.length) : le (l.take (k + 1)) = le (l.take k) + 256 ^ k * nth l k := by
 rw [List.take_succ_eq_append_getElem h, le_append, List.length_take, Nat.min_eq_left (by omega)]
 unfold nth; rw [List.getElem?_eq_getElem h, Option.getD_some]
theorem le_bound {l : List Int} (hB : Bytes8 l) : 0 ≤ le l ∧ le l < 256 ^ l.length := by
 induction l with
 | nil => simp [le]
 | cons x t ih =>
  have hx := hB x (by simp)
  have ht := ih fun b hb => hB b (by simp [hb])
  rw [le, List.length_cons, Int.pow_succ]
  omega
theorem Bytes8.take {l : List Int} (h : Bytes8 l) (k : Nat) : Bytes8 (l.take k) := fun b hb => h b (List.mem_of_mem_take hb)
theorem Bytes8.nth {l : List Int} (h : Bytes8 l) {k : Nat} (hk : k < l.length) : 0 ≤ nth l k ∧ nth l k ≤ 255 := h _ (nth_mem hk)
theorem le_take_bound {l : List Int} (hB : Bytes8 l) {k : Nat} (hk : k ≤ l.length) : 0 ≤ le (l.take k) ∧ le (l.take k) < 256 ^ k := by
 have h := le_bound (hB.take k)
 rwa [List.length_take, Nat.min_eq_left hk] at h
theorem qb3 {a b : Int} (i : Nat) (ha : 0 ≤ a) (ha1 : a.toNat < 2 ^ i) (hb : 0 ≤ b) (hb0 : b.toNat % 2 ^ i = 0) (hb1 : b < 18446744073709551616) (ha2 : a < 18446744073709551616) : bits .or .u64 a b = a + b := by
 rw [u64_or _ _ ha ha2 hb hb1, Nat.or_comm, nat_join i _ _ hb0 ha1]; omega
theorem or_word0 {T v : Int} {k : Nat} (hq : (k : Int) / 8 = 0) (h0 : 0 ≤ T) (h1 : T < 256 ^ k) (v0 : 0 ≤ v) (v1 : v ≤ 255) :
  bits .or .u64 (w0 T) (IntKind.u64.wrap (IntKind.u64.wrap v * 2 ^ (k % 8 * 8))) = w0 (T + 256 ^ k * v) ∧ w1 T = w1 (T + 256 ^ k * v) ∧ w2 T = w2 (T + 256 ^ k * v) ∧ w3 T = w3 (T + 256 ^ k * v) := by
 rcases (show k = 0 ∨ k = 1 ∨ k = 2 ∨ k = 3 ∨ k = 4 ∨ k = 5 ∨ k = 6 ∨ k = 7 by omega) with rfl | rfl | rfl | rfl | rfl | rfl | rfl | rfl
 ·rw [show (256 : Int) ^ 0 = 1 by decide] at *
  rw [show (2 : Int) ^ (0 % 8 * 8) = 1 by decide, IntKind.wrap_u64, IntKind.wrap_u64]
  refine ⟨?_, by unfold w1; omega, by unfold w2; omega, by unfold w3; omega⟩
  rw [qb3 0 (by unfold w0; omega) (by rw [show (2 : Nat) ^ 0 = 1 by decide]; unfold w0; omega) (by omega) (by rw [show (2 : Nat) ^ 0 = 1 by decide]; omega) (by omega) (by unfold w0; omega)]
  unfold w0; omega
 ·rw [show (256 : Int) ^ 1 = 256 by decide] at *
  rw [show (2 : Int) ^ (1 % 8 * 8) = 256 by decide, IntKind.wrap_u64, IntKind.wrap_u64]
  refine ⟨?_, by unfold w1; omega, by unfold w2; omega, by unfold w3; omega⟩
  rw [qb3 8 (by unfold w0; omega) (by rw [show (2 : Nat) ^ 8 = 256 by decide]; unfold w0; omega) (by omega) (by rw [show (2 : Nat) ^ 8 = 256 by decide]; omega) (by omega) (by unfold w0; omega)]
  unfold w0; omega
 ·rw [show (256 : Int) ^ 2 = 65536 by decide] at *
  rw [show (2 : Int) ^ (2 % 8 * 8) = 65536 by decide, IntKind.wrap_u64, IntKind.wrap_u64]
  refine ⟨?_, by unfold w1; omega, by unfold w2; omega, by unfold w3; omega⟩
  rw [qb3 16 (by unfold w0; omega) (by rw [show (2 : Nat) ^ 16 = 65536 by decide]; unfold w0; omega) (by omega) (by rw [show (2 : Nat) ^ 16 = 65536 by decide]; omega) (by omega) (by unfold w0; omega)]
  unfold w0; omega
 ·rw [show (256 : Int) ^ 3 = 16777216 by decide] at *
  rw [show (2 : Int) ^ (3 % 8 * 8) = 16777216 by decide, IntKind.wrap_u64, IntKind.wrap_u64]
  refine ⟨?_, by unfold w1; omega, by unfold w2; omega, by unfold w3; omega⟩
  rw [qb3 24 (by unfold w0; omega) (by rw [show (2 : Nat) ^ 24 = 16777216 by decide]; unfold w0; omega) (by omega) (by rw [show (2 : Nat) ^ 24 = 16777216 by decide]; omega) (by omega) (by unfold w0; omega)]
  unfold w0; omega
 ·rw [show (256 : Int) ^ 4 = 4294967296 by decide] at *
  rw [show (2 : Int) ^ (4 % 8 * 8) = 4294967296 by decide, IntKind.wrap_u64, IntKind.wrap_u64]
  refine ⟨?_, by unfold w1; omega, by unfold w2; omega, by unfold w3; omega⟩
  rw [qb3 32 (by unfold w0; omega) (by rw [show (2 : Nat) ^ 32 = 4294967296 by decide]; unfold w0; omega) (by omega) (by rw [show (2 : Nat) ^ 32 = 4294967296 by decide]; omega) (by omega) (by unfold w0; omega)]
  unfold w0; omega
 ·rw [show (256 : Int) ^ 5 = 1099511627776 by decide] at *
  rw [show (2 : Int) ^ (5 % 8 * 8) = 1099511627776 by decide, IntKind.wrap_u64, IntKind.wrap_u64]
  refine ⟨?_, by unfold w1; omega, by unfold w2; omega, by unfold w3; omega⟩
  rw [qb3 40 (by unfold w0; omega) (by rw [show (2 : Nat) ^ 40 = 1099511627776 by decide]; unfold w0; omega) (by omega) (by rw [show (2 : Nat) ^ 40 = 1099511627776 by decide]; omega) (by omega) (by unfold w0; omega)]
  unfold w0; omega
 ·rw [show (256 : Int) ^ 6 = 281474976710656 by decide] at *
  rw [show (2 : Int) ^ (6 % 8 * 8) = 281474976710656 by decide, IntKind.wrap_u64, IntKind.wrap_u64]
  refine ⟨?_, by unfold w1; omega, by unfold w2; omega, by unfold w3; omega⟩
  rw [qb3 48 (by unfold w0; omega) (by rw [show (2 : Nat) ^ 48 = 281474976710656 by decide]; unfold w0; omega) (by omega) (by rw [show (2 : Nat) ^ 48 = 281474976710656 by decide]; omega) (by omega) (by unfold w0; omega)]
  unfold w0; omega
 ·rw [show (256 : Int) ^ 7 = 72057594037927936 by decide] at *
  rw [show (2 : Int) ^ (7 % 8 * 8) = 72057594037927936 by decide, IntKind.wrap_u64, IntKind.wrap_u64]
  refine ⟨?_, by unfold w1; omega, by unfold w2; omega, by unfold w3; omega⟩
  rw [qb3 56 (by unfold w0; omega) (by rw [show (2 : Nat) ^ 56 = 72057594037927936 by decide]; unfold w0; omega) (by omega) (by rw [show (2 : Nat) ^ 56 = 72057594037927936 by decide]; omega) (by omega) (by unfold w0; omega)]
  unfold w0; omega
theorem or_word1 {T v : Int} {k : Nat} (hq : (k : Int) / 8 = 1) (h0 : 0 ≤ T) (h1 : T < 256 ^ k) (v0 : 0 ≤ v) (v1 : v ≤ 255) :
  bits .or .u64 (w1 T) (IntKind.u64.wrap (IntKind.u64.wrap v * 2 ^ (k % 8 * 8))) = w1 (T + 256 ^ k * v) ∧ w0 T = w0 (T + 256 ^ k * v) ∧ w2 T = w2 (T + 256 ^ k * v) ∧ w3 T = w3 (T + 256 ^ k * v) := by
 rcases (show k = 8 ∨ k = 9 ∨ k = 10 ∨ k = 11 ∨ k = 12 ∨ k = 13 ∨ k = 14 ∨ k = 15 by omega) with rfl | rfl | rfl | rfl | rfl | rfl | rfl | rfl
 ·rw [show (256 : Int) ^ 8 = 18446744073709551616 by decide] at *
  rw [show (2 : Int) ^ (8 % 8 * 8) = 1 by decide, IntKind.wrap_u64, IntKind.wrap_u64]
  refine ⟨?_, by unfold w0; omega, by unfold w2; omega, by unfold w3; omega⟩
  rw [qb3 0 (by unfold w1; omega) (by rw [show (2 : Nat) ^ 0 = 1 by decide]; unfold w1; omega) (by omega) (by rw [show (2 : Nat) ^ 0 = 1 by decide]; omega) (by omega) (by unfold w1; omega)]
  unfold w1; omega
 ·rw [show (256 : Int) ^ 9 = 4722366482869645213696 by decide] at *
  rw [show (2 : Int) ^ (9 % 8 * 8) = 256 by decide, IntKind.wrap_u64, IntKind.wrap_u64]
  refine ⟨?_, by unfold w0; omega, by unfold w2; omega, by unfold w3; omega⟩
  rw [qb3 8 (by unfold w1; omega) (by rw [show (2 : Nat) ^ 8 = 256 by decide]; unfold w1; omega) (by omega) (by rw [show (2 : Nat) ^ 8 = 256 by decide]; omega) (by omega) (by unfold w1; omega)]
  unfold w1; omega
 ·rw [show (256 : Int) ^ 10 = 1208925819614629174706176 by decide] at *
  rw [show (2 : Int) ^ (10 % 8 * 8) = 65536 by decide, IntKind.wrap_u64, IntKind.wrap_u64]
  refine ⟨?_, by unfold w0; omega, by unfold w2; omega, by unfold w3; omega⟩
  rw [qb3 16 (by unfold w1; omega) (by rw [show (2 : Nat) ^ 16 = 65536 by decide]; unfold w1; omega) (by omega) (by rw [show (2 : Nat) ^ 16 = 65536 by decide]; omega) (by omega) (by unfold w1; omega)]
  unfold w1; omega
 ·rw [show (256 : Int) ^ 11 = 309485009821345068724781056 by decide] at *
  rw [show (2 : Int) ^ (11 % 8 * 8) = 16777216 by decide, IntKind.wrap_u64, IntKind.wrap_u64]
  refine ⟨?_, by unfold w0; omega, by unfold w2; omega, by unfold w3; omega⟩
  rw [qb3 24 (by unfold w1; omega) (by rw [show (2 : Nat) ^ 24 = 16777216 by decide]; unfold w1; omega) (by omega) (by rw [show (2 : Nat) ^ 24 = 16777216 by decide]; omega) (by omega) (by unfold w1; omega)]
  unfold w1; omega
 ·rw [show (256 : Int) ^ 12 = 79228162514264337593543950336 by decide] at *
  rw [show (2 : Int) ^ (12 % 8 * 8) = 4294967296 by decide, IntKind.wrap_u64, IntKind.wrap_u64]
  refine ⟨?_, by unfold w0; omega, by unfold w2; omega, by unfold w3; omega⟩
  rw [qb3 32 (by unfold w1; omega) (by rw [show (2 : Nat) ^ 32 = 4294967296 by decide]; unfold w1; omega) (by omega) (by rw [show (2 : Nat) ^ 32 = 4294967296 by decide]; omega) (by omega) (by unfold w1; omega)]
  unfold w1; omega
 ·rw [show (256 : Int) ^ 13 = 20282409603651670423947251286016 by decide] at *
  rw [show (2 : Int) ^ (13 % 8 * 8) = 1099511627776 by decide, IntKind.wrap_u64, IntKind.wrap_u64]
  refine ⟨?_, by unfold w0; omega, by unfold w2; omega, by unfold w3; omega⟩
  rw [qb3 40 (by unfold w1; omega) (by rw [show (2 : Nat) ^ 40 = 1099511627776 by decide]; unfold w1; omega) (by omega) (by rw [show (2 : Nat) ^ 40 = 1099511627776 by decide]; omega) (by omega) (by unfold w1; omega)]
  unfold w1; omega
 ·rw [show (256 : Int) ^ 14 = 5192296858534827628530496329220096 by decide] at *
  rw [show (2 : Int) ^ (14 % 8 * 8) = 281474976710656 by decide, IntKind.wrap_u64, IntKind.wrap_u64]
  refine ⟨?_, by unfold w0; omega, by unfold w2; omega, by unfold w3; omega⟩
  rw [qb3 48 (by unfold w1; omega) (by rw [show (2 : Nat) ^ 48 = 281474976710656 by decide]; unfold w1; omega) (by omega) (by rw [show (2 : Nat) ^ 48 = 281474976710656 by decide]; omega) (by omega) (by unfold w1; omega)]
  unfold w1; omega
 ·rw [show (256 : Int) ^ 15 = 1329227995784915872903807060280344576 by decide] at *
  rw [show (2 : Int) ^ (15 % 8 * 8) = 72057594037927936 by decide, IntKind.wrap_u64, IntKind.wrap_u64]
  refine ⟨?_, by unfold w0; omega, by unfold w2; omega, by unfold w3; omega⟩
  rw [qb3 56 (by unfold w1; omega) (by rw [show (2 : Nat) ^ 56 = 72057594037927936 by decide]; unfold w1; omega) (by omega) (by rw [show (2 : Nat) ^ 56 = 72057594037927936 by decide]; omega) (by omega) (by unfold w1; omega)]
  unfold w1; omega
theorem or_word2 {T v : Int} {k : Nat} (hq : (k : Int) / 8 = 2) (h0 : 0 ≤ T) (h1 : T < 256 ^ k) (v0 : 0 ≤ v) (v1 : v ≤ 255) :
  bits .or .u64 (w2 T) (IntKind.u64.wrap (IntKind.u64.wrap v * 2 ^ (k % 8 * 8))) = w2 (T + 256 ^ k * v) ∧ w0 T = w0 (T + 256 ^ k * v) ∧ w1 T = w1 (T + 256 ^ k * v) ∧ w3 T = w3 (T + 256 ^ k * v) := by
 rcases (show k = 16 ∨ k = 17 ∨ k = 18 ∨ k = 19 ∨ k = 20 ∨ k = 21 ∨ k = 22 ∨ k = 23 by omega) with rfl | rfl | rfl | rfl | rfl | rfl | rfl | rfl
 ·rw [show (256 : Int) ^ 16 = 340282366920938463463374607431768211456 by decide] at *
  rw [show (2 : Int) ^ (16 % 8 * 8) = 1 by decide, IntKind.wrap_u64, IntKind.wrap_u64]
  refine ⟨?_, by unfold w0; omega, by unfold w1; omega, by unfold w3; omega⟩
  rw [qb3 0 (by unfold w2; omega) (by rw [show (2 : Nat) ^ 0 = 1 by decide]; unfold w2; omega) (by omega) (by rw [show (2 : Nat) ^ 0 = 1 by decide]; omega) (by omega) (by unfold w2; omega)]
  unfold w2; omega
 ·rw [show (256 : Int) ^ 17 = 87112285931760246646623899502532662132736 by decide] at *
  rw [show (2 : Int) ^ (17 % 8 * 8) = 256 by decide, IntKind.wrap_u64, IntKind.wrap_u64]
  refine ⟨?_, by unfold w0; omega, by unfold w1; omega, by unfold w3; omega⟩
  rw [qb3 8 (by unfold w2; omega) (by rw [show (2 : Nat) ^ 8 = 256 by decide]; unfold w2; omega) (by omega) (by rw [show (2 : Nat) ^ 8 = 256 by decide]; omega) (by omega) (by unfold w2; omega)]
  unfold w2; omega
 ·rw [show (256 : Int) ^ 18 = 22300745198530623141535718272648361505980416 by decide] at *
  rw [show (2 : Int) ^ (18 % 8 * 8) = 65536 by decide, IntKind.wrap_u64, IntKind.wrap_u64]
  refine ⟨?_, by unfold w0; omega, by unfold w1; omega, by unfold w3; omega⟩
  rw [qb3 16 (by unfold w2; omega) (by rw [show (2 : Nat) ^ 16 = 65536 by decide]; unfold w2; omega) (by omega) (by rw [show (2 : Nat) ^ 16 = 65536 by decide]; omega) (by omega) (by unfold w2; omega)]
  unfold w2; omega
 ·rw [show (256 : Int) ^ 19 = 5708990770823839524233143877797980545530986496 by decide] at *
  rw [show (2 : Int) ^ (19 % 8 * 8) = 16777216 by decide, IntKind.wrap_u64, IntKind.wrap_u64]
  refine ⟨?_, by unfold w0; omega, by unfold w1; omega, by unfold w3; omega⟩
  rw [qb3 24 (by unfold w2; omega) (by rw [show (2 : Nat) ^ 24 = 16777216 by decide]; unfold w2; omega) (by omega) (by rw [show (2 : Nat) ^ 24 = 16777216 by decide]; omega) (by omega) (by unfold w2; omega)]
  unfold w2; omega
 ·rw [show (256 : Int) ^ 20 = 1461501637330902918203684832716283019655932542976 by decide] at *
  rw [show (2 : Int) ^ (20 % 8 * 8) = 4294967296 by decide, IntKind.wrap_u64, IntKind.wrap_u64]
  refine ⟨?_, by unfold w0; omega, by unfold w1; omega, by unfold w3; omega⟩
  rw [qb3 32 (by unfold w2; omega) (by rw [show (2 : Nat) ^ 32 = 4294967296 by decide]; unfold w2; omega) (by omega) (by rw [show (2 : Nat) ^ 32 = 4294967296 by decide]; omega) (by omega) (by unfold w2; omega)]
  unfold w2; omega
 ·rw [show (256 : Int) ^ 21 = 374144419156711147060143317175368453031918731001856 by decide] at *
  rw [show (2 : Int) ^ (21 % 8 * 8) = 1099511627776 by decide, IntKind.wrap_u64, IntKind.wrap_u64]
  refine ⟨?_, by unfold w0; omega, by unfold w1; omega, by unfold w3; omega⟩
  rw [qb3 40 (by unfold w2; omega) (by rw [show (2 : Nat) ^ 40 = 1099511627776 by decide]; unfold w2; omega) (by omega) (by rw [show (2 : Nat) ^ 40 = 1099511627776 by decide]; omega) (by omega) (by unfold w2; omega)]
  unfold w2; omega
 ·rw [show (256 : Int) ^ 22 = 95780971304118053647396689196894323976171195136475136 by decide] at *
  rw [show (2 : Int) ^ (22 % 8 * 8) = 281474976710656 by decide, IntKind.wrap_u64, IntKind.wrap_u64]
  refine ⟨?_, by unfold w0; omega, by unfold w1; omega, by unfold w3; omega⟩
  rw [qb3 48 (by unfold w2; omega) (by rw [show (2 : Nat) ^ 48 = 281474976710656 by decide]; unfold w2; omega) (by omega) (by rw [show (2 : Nat) ^ 48 = 281474976710656 by decide]; omega) (by omega) (by unfold w2; omega)]
  unfold w2; omega
 ·rw [show (256 : Int) ^ 23 = 24519928653854221733733552434404946937899825954937634816 by decide] at *
  rw [show (2 : Int) ^ (23 % 8 * 8) = 72057594037927936 by decide, IntKind.wrap_u64, IntKind.wrap_u64]
  refine ⟨?_, by unfold w0; omega, by unfold w1; omega, by unfold w3; omega⟩
  rw [qb3 56 (by unfold w2; omega) (by rw [show (2 : Nat) ^ 56 = 72057594037927936 by decide]; unfold w2; omega) (by omega) (by rw [show (2 : Nat) ^ 56 = 72057594037927936 by decide]; omega) (by omega) (by unfold w2; omega)]
  unfold w2; omega
theorem or_word3 {T v : Int} {k : Nat} (hq : (k : Int) / 8 = 3) (h0 : 0 ≤ T) (h1 : T < 256 ^ k) (_v0 : 0 ≤ v) (_v1 : v ≤ 255) :
  bits .or .u64 (w3 T) (IntKind.u64.wrap (IntKind.u64.wrap v * 2 ^ (k % 8 * 8))) = w3 (T + 256 ^ k * v) ∧ w0 T = w0 (T + 256 ^ k * v) ∧ w1 T = w1 (T + 256 ^ k * v) ∧ w2 T = w2 (T + 256 ^ k * v) := by
 rcases (show k = 24 ∨ k = 25 ∨ k = 26 ∨ k = 27 ∨ k = 28 ∨ k = 29 ∨ k = 30 ∨ k = 31 by omega) with rfl | rfl | rfl | rfl | rfl | rfl | rfl | rfl
 ·rw [show (256 : Int) ^ 24 = 6277101735386680763835789423207666416102355444464034512896 by decide] at *
  rw [show (2 : Int) ^ (24 % 8 * 8) = 1 by decide, IntKind.wrap_u64, IntKind.wrap_u64]
  refine ⟨?_, by unfold w0; omega, by unfold w1; omega, by unfold w2; omega⟩
  rw [qb3 0 (by unfold w3; omega) (by rw [show (2 : Nat) ^ 0 = 1 by decide]; unfold w3; omega) (by omega) (by rw [show (2 : Nat) ^ 0 = 1 by decide]; omega) (by omega) (by unfold w3; omega)]
  unfold w3; omega
 ·rw [show (256 : Int) ^ 25 = 1606938044258990275541962092341162602522202993782792835301376 by decide] at *
  rw [show (2 : Int) ^ (25 % 8 * 8) = 256 by decide, IntKind.wrap_u64, IntKind.wrap_u64]
  refine ⟨?_, by unfold w0; omega, by unfold w1; omega, by unfold w2; omega⟩
  rw [qb3 8 (by unfold w3; omega) (by rw [show (2 : Nat) ^ 8 = 256 by decide]; unfold w3; omega) (by omega) (by rw [show (2 : Nat) ^ 8 = 256 by decide]; omega) (by omega) (by unfold w3; omega)]
  unfold w3; omega
 ·rw [show (256 : Int) ^ 26 = 411376139330301510538742295639337626245683966408394965837152256 by decide] at *
  rw [show (2 : Int) ^ (26 % 8 * 8) = 65536 by decide, IntKind.wrap_u64, IntKind.wrap_u64]
  refine ⟨?_, by unfold w0; omega, by unfold w1; omega, by unfold w2; omega⟩
  rw [qb3 16 (by unfold w3; omega) (by rw [show (2 : Nat) ^ 16 = 65536 by decide]; unfold w3; omega) (by omega) (by rw [show (2 : Nat) ^ 16 = 65536 by decide]; omega) (by omega) (by unfold w3; omega)]
  unfold w3; omega
 ·rw [show (256 : Int) ^ 27 = 105312291668557186697918027683670432318895095400549111254310977536 by decide] at *
  rw [show (2 : Int) ^ (27 % 8 * 8) = 16777216 by decide, IntKind.wrap_u64, IntKind.wrap_u64]
  refine ⟨?_, by unfold w0; omega, by unfold w1; omega, by unfold w2; omega⟩
  rw [qb3 24 (by unfold w3; omega) (by rw [show (2 : Nat) ^ 24 = 16777216 by decide]; unfold w3; omega) (by omega) (by rw [show (2 : Nat) ^ 24 = 16777216 by decide]; omega) (by omega) (by unfold w3; omega)]
  unfold w3; omega
 ·rw [show (256 : Int) ^ 28 = 26959946667150639794667015087019630673637144422540572481103610249216 by decide] at *
  rw [show (2 : Int) ^ (28 % 8 * 8) = 4294967296 by decide, IntKind.wrap_u64, IntKind.wrap_u64]
  refine ⟨?_, by unfold w0; omega, by unfold w1; omega, by unfold w2; omega⟩
  rw [qb3 32 (by unfold w3; omega) (by rw [show (2 : Nat) ^ 32 = 4294967296 by decide]; unfold w3; omega) (by omega) (by rw [show (2 : Nat) ^ 32 = 4294967296 by decide]; omega) (by omega) (by unfold w3; omega)]
  unfold w3; omega
 ·rw [show (256 : Int) ^ 29 = 6901746346790563787434755862277025452451108972170386555162524223799296 by decide] at *
  rw [show (2 : Int) ^ (29 % 8 * 8) = 1099511627776 by decide, IntKind.wrap_u64, IntKind.wrap_u64]
  refine ⟨?_, by unfold w0; omega, by unfold w1; omega, by unfold w2; omega⟩
  rw [qb3 40 (by unfold w3; omega) (by rw [show (2 : Nat) ^ 40 = 1099511627776 by decide]; unfold w3; omega) (by omega) (by rw [show (2 : Nat) ^ 40 = 1099511627776 by decide]; omega) (by omega) (by unfold w3; omega)]
  unfold w3; omega
 ·rw [show (256 : Int) ^ 30 = 1766847064778384329583297500742918515827483896875618958121606201292619776 by decide] at *
  rw [show (2 : Int) ^ (30 % 8 * 8) = 281474976710656 by decide, IntKind.wrap_u64, IntKind.wrap_u64]
  refine ⟨?_, by unfold w0; omega, by unfold w1; omega, by unfold w2; omega⟩
  rw [qb3 48 (by unfold w3; omega) (by rw [show (2 : Nat) ^ 48 = 281474976710656 by decide]; unfold w3; omega) (by omega) (by rw [show (2 : Nat) ^ 48 = 281474976710656 by decide]; omega) (by omega) (by unfold w3; omega)]
  unfold w3; omega
 ·rw [show (256 : Int) ^ 31 = 452312848583266388373324160190187140051835877600158453279131187530910662656 by decide] at *
  rw [show (2 : Int) ^ (31 % 8 * 8) = 72057594037927936 by decide, IntKind.wrap_u64, IntKind.wrap_u64]
  refine ⟨?_, by unfold w0; omega, by unfold w1; omega, by unfold w2; omega⟩
  rw [qb3 56 (by unfold w3; omega) (by rw [show (2 : Nat) ^ 56 = 72057594037927936 by decide]; unfold w3; omega) (by omega) (by rw [show (2 : Nat) ^ 56 = 72057594037927936 by decide]; omega) (by omega) (by unfold w3; omega)]
  unfold w3; omega
end Go.Proofs.YtcgbgmbnagmohaaDoor
namespace Go.Proofs.YtcgbgmbnagmohaaDoor
open Go.RowKit
set_option maxRecDepth 20000
abbrev kV (l : List Int) : Value := .agg (l.map (Value.int .u8)).toArray
theorem kV_size {l : List Int} (h : l.length = 32) : (Tryd.prog.info? 24).map (·.size) = some (l.map (Value.int .u8)).length := by
 rw [List.length_map, h]; kernel_rfl
theorem map_getElem? {l : List Int} {i : Nat} (h : i < l.length) : (l.map (Value.int .u8))[i]? = some (.int .u8 (nth l i)) := by
 unfold nth; rw [List.getElem?_map, List.getElem?_eq_getElem h, Option.map_some, Option.getD_some]
theorem run_index_key {l : List Int} (hl : l.length = 32) {k : Nat} (hk : k < 32) (w : World) : (Instr.index 24 (kV l) (.int .i64 (k : Int))).run Tryd.prog w = .ok (.int .u8 (nth l k)) w := by
 have hu := Tryd.underlying5
 have ha := Tryd.isAgg5
 have hz := Tryd.sizeOf5
 have hk1 : (k : Int) < 32 := by omega
 have hk0 : (0 : Int) ≤ (k : Int) := by omega
 have he := map_getElem? (l := l) (i := k) (by omega)
 unfold Instr.index
 simp only [Sem.run_bind, run_underlying Tryd.underlying24, Result.andThen_ok]
 go_simp
 simp [nth, hl, hk]
structure Row (b : Nat) (l : List Int) (u : World) : Prop where
 lt : b < u.heap.size
 c : ∀ i, i < l.length → u.cell? ⟨b, i, none⟩ = some (.int .u8 (nth l i))
 f : ∀ i, u.frozen? ⟨b, i, none⟩ = false
theorem Row.new (w : World) (l : List Int) : Row w.heap.size l (w.alloc (.cells (l.map (Value.int .u8)).toArray 24)) := by
 refine ⟨by simp, fun i hi => ?_, fun i => by simp [go_sem]⟩
 rw [World.cell?_alloc_new]
 simp [hi, nth]
theorem Row.below {b : Nat} {l : List Int} {u u' : World} (h : Row b l u) (hb : Below u.heap.size u u') : Row b l u' :=
 ⟨Nat.lt_of_lt_of_le h.lt hb.size, fun i hi => by rw [hb.cell (p := ⟨b, i, none⟩) h.lt]; exact h.c i hi, fun i => by rw [hb.frozen (p := ⟨b, i, none⟩) h.lt]; exact h.f i⟩
theorem Row.set {b : Nat} {l : List Int} {u : World} (h : Row b l u) {i : Nat} (hi : i < l.length) (v : Int) : Row b (l.set i v) (u.setCell ⟨b, i, none⟩ (.int .u8 v)) := by
 refine ⟨by simpa using h.lt, fun j hj => ?_, fun j => by simpa [go_sem] using h.f j⟩
 rw [List.length_set] at hj
 by_cases e : i = j
 ·subst e
  rw [World.cell?_setCell_same' _ _ _ (by rw [h.c i hi]; rfl)]
  simp [nth, hi]
 ·rw [World.cell?_setCell_other _ _ _ _ (by intro he; injection he; contradiction), h.c j hj]
  simp [nth, List.getElem?_set_ne e]
theorem Row.range {b : Nat} {l : List Int} {u : World} (h : Row b l u) : u.rangeAt b 0 (l.map (Value.int .u8)) := fun j v hv => by
 rw [Nat.zero_add]
 have hj : j < l.length := by
  rcases Nat.lt_or_ge j l.length with h1 | h1
  ·exact h1
  ·rw [List.getElem?_eq_none (by simpa using h1)] at hv; cases hv
 rw [map_getElem? hj] at hv
 cases hv
 exact h.c j hj
theorem Row.far {b c : Nat} {l : List Int} {u : World} (h : Row b l u) (hne : c ≠ b) (o : Nat) (v : Value) : Row b l (u.setCell ⟨c, o, none⟩ v) :=
 ⟨by simpa using h.lt, fun i hi => by rw [World.cell?_setCell_far _ ⟨c, _, none⟩ ⟨b, _, none⟩ _ hne]; exact h.c i hi, fun i => by simpa [go_sem] using h.f i⟩
theorem Var4.far {g c : Nat} {Z : Int} {u : World} (h : Var4 g Z u) (hne : c ≠ g) (o : Nat) (v : Value) : Var4 g Z (u.setCell ⟨c, o, none⟩ v) := by
 obtain ⟨l, c0, c1, c2, c3, f0, f1, f2, f3⟩ := h
 constructor
 ·simpa using l
 ·rw [World.cell?_setCell_far _ ⟨c, _, none⟩ ⟨g, _, none⟩ _ hne]; exact c0
 ·rw [World.cell?_setCell_far _ ⟨c, _, none⟩ ⟨g, _, none⟩ _ hne]; exact c1
 ·rw [World.cell?_setCell_far _ ⟨c, _, none⟩ ⟨g, _, none⟩ _ hne]; exact c2
 ·rw [World.cell?_setCell_far _ ⟨c, _, none⟩ ⟨g, _, none⟩ _ hne]; exact c3
 ·simpa [go_sem] using f0
 ·simpa [go_sem] using f1
 ·simpa [go_sem] using f2
 ·simpa [go_sem] using f3
theorem Var4.zero (u : World) : Var4 u.heap.size 0 (u.alloc (.cells #[.int .u64 0, .int .u64 0, .int .u64 0, .int .u64 0] 66)) := Var4.new u 0
theorem GCell.far {b c : Nat} {N : Int} {u : World} (h : GCell b N u) (hne : c ≠ b) (o : Nat) (v : Value) : GCell b N (u.setCell ⟨c, o, none⟩ v) := by
 obtain ⟨l, c0, c1, c2, c3⟩ := h
 constructor
 ·simpa using l
 ·rw [World.cell?_setCell_far _ ⟨c, _, none⟩ ⟨b, _, none⟩ _ hne]; exact c0
 ·rw [World.cell?_setCell_far _ ⟨c, _, none⟩ ⟨b, _, none⟩ _ hne]; exact c1
 ·rw [World.cell?_setCell_far _ ⟨c, _, none⟩ ⟨b, _, none⟩ _ hne]; exact c2
 ·rw [World.cell?_setCell_far _ ⟨c, _, none⟩ ⟨b, _, none⟩ _ hne]; exact c3
structure OfI (w : World) (l : List Int) (g1 g2 k : Nat) (u : World) : Prop where
 bl : Below w.heap.size w u
 G : GCell 5 pp u
 V : Var4 g2 (le (l.take k)) u
 R : Var4 g1 0 u
theorem Var4.put0 {g : Nat} {Z Z' : Int} {u : World} (h : Var4 g Z u) (e1 : w1 Z = w1 Z') (e2 : w2 Z = w2 Z') (e3 : w3 Z = w3 Z') : Var4 g Z' (u.setCell ⟨g, 0, none⟩ (.int .u64 (w0 Z'))) := by
 obtain ⟨l, c0, c1, c2, c3, f0, f1, f2, f3⟩ := h
 constructor
 ·simpa using l
 ·exact World.cell?_setCell_same' _ _ _ (by rw [c0]; rfl)
 ·rw [World.cell?_setCell_other _ _ _ _ (by simp), c1, e1]
 ·rw [World.cell?_setCell_other _ _ _ _ (by simp), c2, e2]
 ·rw [World.cell?_setCell_other _ _ _ _ (by simp), c3, e3]
 ·simpa [go_sem] using f0
 ·simpa [go_sem] using f1
 ·simpa [go_sem] using f2
 ·simpa [go_sem] using f3
theorem Var4.put1 {g : Nat} {Z Z' : Int} {u : World} (h : Var4 g Z u) (e0 : w0 Z = w0 Z') (e2 : w2 Z = w2 Z') (e3 : w3 Z = w3 Z') : Var4 g Z' (u.setCell ⟨g, 1, none⟩ (.int .u64 (w1 Z'))) := by
 obtain ⟨l, c0, c1, c2, c3, f0, f1, f2, f3⟩ := h
 constructor
 ·simpa using l
 ·rw [World.cell?_setCell_other _ _ _ _ (by simp), c0, e0]
 ·exact World.cell?_setCell_same' _ _ _ (by rw [c1]; rfl)
 ·rw [World.cell?_setCell_other _ _ _ _ (by simp), c2, e2]
 ·rw [World.cell?_setCell_other _ _ _ _ (by simp), c3, e3]
 ·simpa [go_sem] using f0
 ·simpa [go_sem] using f1
 ·simpa [go_sem] using f2
 ·simpa [go_sem] using f3
theorem Var4.put2 {g : Nat} {Z Z' : Int} {u : World} (h : Var4 g Z u) (e0 : w0 Z = w0 Z') (e1 : w1 Z = w1 Z') (e3 : w3 Z = w3 Z') : Var4 g Z' (u.setCell ⟨g, 2, none⟩ (.int .u64 (w2 Z'))) := by
 obtain ⟨l, c0, c1, c2, c3, f0, f1, f2, f3⟩ := h
 constructor
 ·simpa using l
 ·rw [World.cell?_setCell_other _ _ _ _ (by simp), c0, e0]
 ·rw [World.cell?_setCell_other _ _ _ _ (by simp), c1, e1]
 ·exact World.cell?_setCell_same' _ _ _ (by rw [c2]; rfl)
 ·rw [World.cell?_setCell_other _ _ _ _ (by simp), c3, e3]
 ·simpa [go_sem] using f0
 ·simpa [go_sem] using f1
 ·simpa [go_sem] using f2
 ·simpa [go_sem] using f3
theorem Var4.put3 {g : Nat} {Z Z' : Int} {u : World} (h : Var4 g Z u) (e0 : w0 Z = w0 Z') (e1 : w1 Z = w1 Z') (e2 : w2 Z = w2 Z') : Var4 g Z' (u.setCell ⟨g, 3, none⟩ (.int .u64 (w3 Z'))) := by
 obtain ⟨l, c0, c1, c2, c3, f0, f1, f2, f3⟩ := h
 constructor
 ·simpa using l
 ·rw [World.cell?_setCell_other _ _ _ _ (by simp), c0, e0]
 ·rw [World.cell?_setCell_other _ _ _ _ (by simp), c1, e1]
 ·rw [World.cell?_setCell_other _ _ _ _ (by simp), c2, e2]
 ·exact World.cell?_setCell_same' _ _ _ (by rw [c3]; rfl)
 ·simpa [go_sem] using f0
 ·simpa [go_sem] using f1
 ·simpa [go_sem] using f2
 ·simpa [go_sem] using f3
theorem Var4.drew {g : Nat} {Z : Int} {u : World} (h : Var4 g Z u) : Var4 g Z u.drew := h.below (Below.refl _ _).drew
theorem OfI.put {w u u' : World} {l : List Int} {g1 g2 k : Nat} (h : OfI w l g1 g2 k u) (hw : w.heap.size ≤ g2) (h12 : g1 ≠ g2) (hg : g2 ≠ 5) {o : Nat} {v : Value} (hu : u' = (u.setCell ⟨g2, o, none⟩ v).drew) (hV : Var4 g2 (le (l.take (k + 1))) (u.setCell ⟨g2, o, none⟩ v)) : OfI w l g1 g2 (k + 1) u' := by
 subst hu
 exact ⟨(h.bl.setCell hw _).drew, (h.G.far hg _ _).drew, hV.drew, (h.R.far (Ne.symm h12) _ _).drew⟩
theorem mask_eq {l : List Int} (hB : Bytes8 l) (hl : l.length = 32) : bits .and .u8 (nth l 31) 127 = nth l 31 % 128 := by
 have h : 0 ≤ nth l 31 ∧ nth l 31 ≤ 255 := by
  unfold nth; rw [List.getElem?_eq_getElem (by omega), Option.getD_some]
  exact hB _ (List.getElem_mem _)
 rw [u8_and _ _ h.1 (by omega) (by omega) (by omega)]
 have e : (nth l 31).toNat &&& (127 : Int).toNat = (nth l 31).toNat % 128 := Nat.and_two_pow_sub_one_eq_mod _ 7
 rw [e]; omega
def mask (l : List Int) : List Int := l.set 31 (nth l 31 % 128)
theorem mask_bytes {l : List Int} (hB : Bytes8 l) (hl : l.length = 32) : Bytes8 (mask l) := by
 have h := hB.nth (k := 31) (by omega)
 intro b hb
 rcases List.mem_or_eq_of_mem_set hb with h1 | h1
 ·exact hB b h1
 ·subst h1; omega
theorem mask_len (l : List Int) : (mask l).length = l.length := List.length_set
set_option maxHeartbeats 400000 in
theorem of_any (l : List Int) (w : World) (hl : l.length = 32) (hB : Bytes8 l) (hG : GCell 5 pp w) :
  Calls Tryd.prog 55 #[kV l] w fun e w' => e = .returned (feV (le (mask l) % pp)) ∧ Below w.heap.size w w' := by
 have HL := Lib.hid hl; clear hl
 have GO : Hid (5 < w.heap.size) := Lib.hid hG.lt
 have b1 : Below w.heap.size w (w.alloc (.cells (l.map (Value.int .u8)).toArray 24)) := (Below.refl _ _).alloc (Nat.le_refl _) _
 have R1 := Row.new w l
 go_enter Tryd.func55, Tryd.ntmps55
 go_upto_region 1 with fail
 have hs : w.heap.size + 1 = (w.alloc (.cells (l.map (Value.int .u8)).toArray 24)).heap.size := by simp
 rw [hs]
 have l0 := R1.lt
 generalize w.alloc (.cells (l.map (Value.int .u8)).toArray 24) = u0 at *
 clear hs
 have hR := Var4.zero u0
 have b2 : Below u0.heap.size u0 (u0.alloc (.cells #[.int .u64 0, .int .u64 0, .int .u64 0, .int .u64 0] 66)) := (Below.refl _ _).alloc (Nat.le_refl _) _
 replace R1 := R1.below b2
 replace b1 := b1.trans (b2.mono b1.size)
 generalize u0.alloc (.cells #[.int .u64 0, .int .u64 0, .int .u64 0, .int .u64 0] 66) = u1 at *
 generalize u0.heap.size = g1 at *
 clear b2 u0
 have k31 := R1.c 31 (by rw [HL.out]; omega)
 have f31 := R1.f 31
 have hm := mask_eq hB HL.out
 go_upto_region 3 with fail
 replace R1 : Row w.heap.size (mask l) (u1.setCell ⟨w.heap.size, 31, none⟩ (.int .u8 (nth l 31 % 128))) := R1.set (by rw [HL.out]; omega) _
 replace hR := hR.far (c := w.heap.size) (by omega) 31 (.int .u8 (nth l 31 % 128))
 replace b1 := b1.setCell (p := ⟨w.heap.size, 31, none⟩) (Nat.le_refl _) (.int .u8 (nth l 31 % 128))
 clear k31 f31 hm
 rw [show u1.heap.size = (u1.setCell ⟨w.heap.size, 31, none⟩ (.int .u8 (nth l 31 % 128))).heap.size by simp]
 generalize u1.setCell ⟨w.heap.size, 31, none⟩ (.int .u8 (nth l 31 % 128)) = u0 at *
 clear u1
 have hV := Var4.zero u0
 have b2 : Below u0.heap.size u0 (u0.alloc (.cells #[.int .u64 0, .int .u64 0, .int .u64 0, .int .u64 0] 66)) := (Below.refl _ _).alloc (Nat.le_refl _) _
 replace R1 := R1.below b2
 have l1 := hR.lt
 replace hR := hR.below b2
 replace b1 := b1.trans (b2.mono b1.size)
 generalize u0.alloc (.cells #[.int .u64 0, .int .u64 0, .int .u64 0, .int .u64 0] 66) = u1 at *
 generalize u0.heap.size = g2 at *
 clear b2 u0
 have HM : Hid ((mask l).length = 32) := Lib.hid (by rw [mask_len, HL.out])
 replace hG := hG.below b1
 go_wp2_with (refine wpList_load_mid rfl 24 (.tmp 1) rfl w.heap.size 0 rfl ((mask l).map (Value.int .u8)) (.array 32 5) R1.range Tryd.underlying24 rfl (kV_size HM.out) ?_)
 clear R1
 go_loopw [11] (fun s u => ∃ k : Nat, k ≤ 32 ∧ s = .int .i64 (k : Int) ∧ OfI w (mask l) g1 g2 k u) (fun s _ => (32 - intOf s).toNat)
 case atStart => exact ⟨0, by omega, rfl, b1, hG, hV, hR⟩
 case round =>
  obtain ⟨k, hk, rfl, hI⟩ := hrel
  clear b1 hG hV hR
  obtain ⟨b1, hG, hV, hR⟩ := id hI
  obtain ⟨vl, v0, v1, v2, v3, vf0, vf1, vf2, vf3⟩ := id hV
  by_cases hlt : k = 32
  ·subst hlt
   have E : Hid (le ((mask l).take 32) = le (mask l)) := Lib.hid (by rw [List.take_of_length_le (by rw [HM.out]; omega)])
   have hN : Num (le ((mask l).take 32)) := by
    have h := le_take_bound (mask_bytes hB HL.out) (k := 32) (by rw [HM.out]; omega)
    rw [show (256 : Int) ^ 32 = 115792089237316195423570985008687907853269984665640564039457584007913129639936 by decide] at h
    exact h
   have hk1 : ¬ (((32 : Nat) : Int) < 32) := by omega
   go_wp2_with fail
   refine (canon_any _ _ hN hG).mono ?_
   rintro e u ⟨rfl, hb⟩
   rw [E.out]
   clear vl v0 v1 v2 v3 vf0 vf1 vf2 vf3
   replace hR := hR.below hb
   obtain ⟨vl, v0, v1, v2, v3, vf0, vf1, vf2, vf3⟩ := hR
   go_wp2_with fail
   refine bodyPost_ret (v := feV (le (mask l) % pp)) (by simp [results, Tryd.results55, go_sem, v0, v1, v2, v3]) rfl ⟨rfl, ?_⟩
   have hw1 : w.heap.size ≤ g1 := by omega
   have b3 := b1.trans (hb.mono b1.size)
   exact (((b3.setCell hw1 _).setCell hw1 _).setCell hw1 _).setCell hw1 _
  ·have hk1 : (k : Int) < 32 := by omega
   have hk0 : (0 : Int) ≤ (k : Int) := by omega
   have hk2 : k < 32 := by omega
   have hk3 : k < (mask l).length := by rw [HM.out]; omega
   have hix := run_index_key HM.out hk2
   have ht := le_take_bound (mask_bytes hB HL.out) (k := k) (by omega)
   have hn := (mask_bytes hB HL.out).nth hk3
   have HE := Lib.hid (le_take_succ hk3)
   rcases (show (k : Int) / 8 = 0 ∨ (k : Int) / 8 = 1 ∨ (k : Int) / 8 = 2 ∨ (k : Int) / 8 = 3 by omega) with hq | hq | hq | hq
   ·obtain ⟨p0, p1, p2, p3⟩ := or_word0 hq ht.1 ht.2 hn.1 hn.2
    rw [← HE.out] at p0 p1 p2 p3
    have P1 := Lib.hid p1; clear p1
    have P2 := Lib.hid p2; clear p2
    have P3 := Lib.hid p3; clear p3
    clear ht hn
    go_wp2_with fail
    go_region
    go_wp2_with fail
    exact ⟨⟨k + 1, by omega, by go_num, hI.put (by omega) (by omega) (by have := GO.out; omega) rfl (hV.put0 P1.out P2.out P3.out)⟩, by simp [intOf]; omega⟩
   ·obtain ⟨p0, p1, p2, p3⟩ := or_word1 hq ht.1 ht.2 hn.1 hn.2
    rw [← HE.out] at p0 p1 p2 p3
    have P1 := Lib.hid p1; clear p1
    have P2 := Lib.hid p2; clear p2
    have P3 := Lib.hid p3; clear p3
    clear ht hn
    go_wp2_with fail
    go_region
    go_wp2_with fail
    exact ⟨⟨k + 1, by omega, by go_num, hI.put (by omega) (by omega) (by have := GO.out; omega) rfl (hV.put1 P1.out P2.out P3.out)⟩, by simp [intOf]; omega⟩
   ·obtain ⟨p0, p1, p2, p3⟩ := or_word2 hq ht.1 ht.2 hn.1 hn.2
    rw [← HE.out] at p0 p1 p2 p3
    have P1 := Lib.hid p1; clear p1
    have P2 := Lib.hid p2; clear p2
    have P3 := Lib.hid p3; clear p3
    clear ht hn
    go_wp2_with fail
    go_region
    go_wp2_with fail
    exact ⟨⟨k + 1, by omega, by go_num, hI.put (by omega) (by omega) (by have := GO.out; omega) rfl (hV.put2 P1.out P2.out P3.out)⟩, by simp [intOf]; omega⟩
   ·obtain ⟨p0, p1, p2, p3⟩ := or_word3 hq ht.1 ht.2 hn.1 hn.2
    rw [← HE.out] at p0 p1 p2 p3
    have P1 := Lib.hid p1; clear p1
    have P2 := Lib.hid p2; clear p2
    have P3 := Lib.hid p3; clear p3
    clear ht hn
    go_wp2_with fail
    go_region
    go_wp2_with fail
    exact ⟨⟨k + 1, by omega, by go_num, hI.put (by omega) (by omega) (by have := GO.out; omega) rfl (hV.put3 P1.out P2.out P3.out)⟩, by simp [intOf]; omega⟩
end Go.Proofs.YtcgbgmbnagmohaaDoor
