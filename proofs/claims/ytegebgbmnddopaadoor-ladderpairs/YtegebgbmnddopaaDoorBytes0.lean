/- Bytes put into words one by one: plain facts on integers. -/
import Derived.Test.YtegebgbmnddopaaDoorNums
namespace Go.Proofs.YtegebgbmnddopaaDoor
open Go.RowKit

/-- A number of bytes, the least first. -/
def le : List Int → Int
  | [] => 0
  | b :: t => b + 256 * le t
def Bytes8 (l : List Int) : Prop := ∀ b ∈ l, 0 ≤ b ∧ b ≤ 255
/-- The i-th. -/
def nth (l : List Int) (i : Nat) : Int := l[i]?.getD 0
theorem le_append (a : List Int) (b : Int) : le (a ++ [b]) = le a + 256 ^ a.length * b := by
  induction a with
  | nil => simp [le]
  | cons x t ih =>
    rw [List.cons_append, le, le, ih, List.length_cons, Int.pow_succ, Int.mul_add, Int.mul_comm (256 ^ t.length) 256, Int.mul_assoc, Int.add_assoc]
theorem nth_mem {l : List Int} {i : Nat} (h : i < l.length) : nth l i ∈ l := by
  unfold nth; rw [List.getElem?_eq_getElem h, Option.getD_some]; exact List.getElem_mem _
theorem le_take_succ {l : List Int} {k : Nat} (h : k < l.length) : le (l.take (k + 1)) = le (l.take k) + 256 ^ k * nth l k := by
  rw [List.take_succ_eq_append_getElem h, le_append, List.length_take, Nat.min_eq_left (by omega)]
  unfold nth; rw [List.getElem?_eq_getElem h, Option.getD_some]
theorem le_bound {l : List Int} (hB : Bytes8 l) : 0 ≤ le l ∧ le l < 256 ^ l.length := by
  induction l with
  | nil => simp [le]
  | cons x t ih =>
    have hx := hB x (by simp)
    have ht := ih fun b hb => hB b (by simp [hb])
    rw [le, List.length_cons, Int.pow_succ]
    omega
theorem Bytes8.take {l : List Int} (h : Bytes8 l) (k : Nat) : Bytes8 (l.take k) := fun b hb => h b (List.mem_of_mem_take hb)
theorem Bytes8.nth {l : List Int} (h : Bytes8 l) {k : Nat} (hk : k < l.length) : 0 ≤ nth l k ∧ nth l k ≤ 255 := h _ (nth_mem hk)
theorem le_take_bound {l : List Int} (hB : Bytes8 l) {k : Nat} (hk : k ≤ l.length) : 0 ≤ le (l.take k) ∧ le (l.take k) < 256 ^ k := by
  have h := le_bound (hB.take k)
  rwa [List.length_take, Nat.min_eq_left hk] at h

theorem or_join {a b : Int} (i : Nat) (ha : 0 ≤ a) (ha1 : a.toNat < 2 ^ i) (hb : 0 ≤ b) (hb0 : b.toNat % 2 ^ i = 0) (hb1 : b < 18446744073709551616) (ha2 : a < 18446744073709551616) : bits .or .u64 a b = a + b := by
  rw [u64_or _ _ ha ha2 hb hb1, Nat.or_comm, nat_join i _ _ hb0 ha1]; omega

theorem or_word0 {T v : Int} {k : Nat} (hq : (k : Int) / 8 = 0) (h0 : 0 ≤ T) (h1 : T < 256 ^ k) (v0 : 0 ≤ v) (v1 : v ≤ 255) :
    bits .or .u64 (w0 T) (IntKind.u64.wrap (IntKind.u64.wrap v * 2 ^ (k % 8 * 8))) = w0 (T + 256 ^ k * v) ∧ w1 T = w1 (T + 256 ^ k * v) ∧ w2 T = w2 (T + 256 ^ k * v) ∧ w3 T = w3 (T + 256 ^ k * v) := by
  rcases (show k = 0 ∨ k = 1 ∨ k = 2 ∨ k = 3 ∨ k = 4 ∨ k = 5 ∨ k = 6 ∨ k = 7 by omega) with rfl | rfl | rfl | rfl | rfl | rfl | rfl | rfl
  · rw [show (256 : Int) ^ 0 = 1 by decide] at *
    rw [show (2 : Int) ^ (0 % 8 * 8) = 1 by decide, IntKind.wrap_u64, IntKind.wrap_u64]
    refine ⟨?_, by unfold w1; omega, by unfold w2; omega, by unfold w3; omega⟩
    rw [or_join 0 (by unfold w0; omega) (by rw [show (2 : Nat) ^ 0 = 1 by decide]; unfold w0; omega) (by omega) (by rw [show (2 : Nat) ^ 0 = 1 by decide]; omega) (by omega) (by unfold w0; omega)]
    unfold w0; omega
  · rw [show (256 : Int) ^ 1 = 256 by decide] at *
    rw [show (2 : Int) ^ (1 % 8 * 8) = 256 by decide, IntKind.wrap_u64, IntKind.wrap_u64]
    refine ⟨?_, by unfold w1; omega, by unfold w2; omega, by unfold w3; omega⟩
    rw [or_join 8 (by unfold w0; omega) (by rw [show (2 : Nat) ^ 8 = 256 by decide]; unfold w0; omega) (by omega) (by rw [show (2 : Nat) ^ 8 = 256 by decide]; omega) (by omega) (by unfold w0; omega)]
    unfold w0; omega
  · rw [show (256 : Int) ^ 2 = 65536 by decide] at *
    rw [show (2 : Int) ^ (2 % 8 * 8) = 65536 by decide, IntKind.wrap_u64, IntKind.wrap_u64]
    refine ⟨?_, by unfold w1; omega, by unfold w2; omega, by unfold w3; omega⟩
    rw [or_join 16 (by unfold w0; omega) (by rw [show (2 : Nat) ^ 16 = 65536 by decide]; unfold w0; omega) (by omega) (by rw [show (2 : Nat) ^ 16 = 65536 by decide]; omega) (by omega) (by unfold w0; omega)]
    unfold w0; omega
  · rw [show (256 : Int) ^ 3 = 16777216 by decide] at *
    rw [show (2 : Int) ^ (3 % 8 * 8) = 16777216 by decide, IntKind.wrap_u64, IntKind.wrap_u64]
    refine ⟨?_, by unfold w1; omega, by unfold w2; omega, by unfold w3; omega⟩
    rw [or_join 24 (by unfold w0; omega) (by rw [show (2 : Nat) ^ 24 = 16777216 by decide]; unfold w0; omega) (by omega) (by rw [show (2 : Nat) ^ 24 = 16777216 by decide]; omega) (by omega) (by unfold w0; omega)]
    unfold w0; omega
  · rw [show (256 : Int) ^ 4 = 4294967296 by decide] at *
    rw [show (2 : Int) ^ (4 % 8 * 8) = 4294967296 by decide, IntKind.wrap_u64, IntKind.wrap_u64]
    refine ⟨?_, by unfold w1; omega, by unfold w2; omega, by unfold w3; omega⟩
    rw [or_join 32 (by unfold w0; omega) (by rw [show (2 : Nat) ^ 32 = 4294967296 by decide]; unfold w0; omega) (by omega) (by rw [show (2 : Nat) ^ 32 = 4294967296 by decide]; omega) (by omega) (by unfold w0; omega)]
    unfold w0; omega
  · rw [show (256 : Int) ^ 5 = 1099511627776 by decide] at *
    rw [show (2 : Int) ^ (5 % 8 * 8) = 1099511627776 by decide, IntKind.wrap_u64, IntKind.wrap_u64]
    refine ⟨?_, by unfold w1; omega, by unfold w2; omega, by unfold w3; omega⟩
    rw [or_join 40 (by unfold w0; omega) (by rw [show (2 : Nat) ^ 40 = 1099511627776 by decide]; unfold w0; omega) (by omega) (by rw [show (2 : Nat) ^ 40 = 1099511627776 by decide]; omega) (by omega) (by unfold w0; omega)]
    unfold w0; omega
  · rw [show (256 : Int) ^ 6 = 281474976710656 by decide] at *
    rw [show (2 : Int) ^ (6 % 8 * 8) = 281474976710656 by decide, IntKind.wrap_u64, IntKind.wrap_u64]
    refine ⟨?_, by unfold w1; omega, by unfold w2; omega, by unfold w3; omega⟩
    rw [or_join 48 (by unfold w0; omega) (by rw [show (2 : Nat) ^ 48 = 281474976710656 by decide]; unfold w0; omega) (by omega) (by rw [show (2 : Nat) ^ 48 = 281474976710656 by decide]; omega) (by omega) (by unfold w0; omega)]
    unfold w0; omega
  · rw [show (256 : Int) ^ 7 = 72057594037927936 by decide] at *
    rw [show (2 : Int) ^ (7 % 8 * 8) = 72057594037927936 by decide, IntKind.wrap_u64, IntKind.wrap_u64]
    refine ⟨?_, by unfold w1; omega, by unfold w2; omega, by unfold w3; omega⟩
    rw [or_join 56 (by unfold w0; omega) (by rw [show (2 : Nat) ^ 56 = 72057594037927936 by decide]; unfold w0; omega) (by omega) (by rw [show (2 : Nat) ^ 56 = 72057594037927936 by decide]; omega) (by omega) (by unfold w0; omega)]
    unfold w0; omega
theorem or_word1 {T v : Int} {k : Nat} (hq : (k : Int) / 8 = 1) (h0 : 0 ≤ T) (h1 : T < 256 ^ k) (v0 : 0 ≤ v) (v1 : v ≤ 255) :
    bits .or .u64 (w1 T) (IntKind.u64.wrap (IntKind.u64.wrap v * 2 ^ (k % 8 * 8))) = w1 (T + 256 ^ k * v) ∧ w0 T = w0 (T + 256 ^ k * v) ∧ w2 T = w2 (T + 256 ^ k * v) ∧ w3 T = w3 (T + 256 ^ k * v) := by
  rcases (show k = 8 ∨ k = 9 ∨ k = 10 ∨ k = 11 ∨ k = 12 ∨ k = 13 ∨ k = 14 ∨ k = 15 by omega) with rfl | rfl | rfl | rfl | rfl | rfl | rfl | rfl
  · rw [show (256 : Int) ^ 8 = 18446744073709551616 by decide] at *
    rw [show (2 : Int) ^ (8 % 8 * 8) = 1 by decide, IntKind.wrap_u64, IntKind.wrap_u64]
    refine ⟨?_, by unfold w0; omega, by unfold w2; omega, by unfold w3; omega⟩
    rw [or_join 0 (by unfold w1; omega) (by rw [show (2 : Nat) ^ 0 = 1 by decide]; unfold w1; omega) (by omega) (by rw [show (2 : Nat) ^ 0 = 1 by decide]; omega) (by omega) (by unfold w1; omega)]
    unfold w1; omega
  · rw [show (256 : Int) ^ 9 = 4722366482869645213696 by decide] at *
    rw [show (2 : Int) ^ (9 % 8 * 8) = 256 by decide, IntKind.wrap_u64, IntKind.wrap_u64]
    refine ⟨?_, by unfold w0; omega, by unfold w2; omega, by unfold w3; omega⟩
    rw [or_join 8 (by unfold w1; omega) (by rw [show (2 : Nat) ^ 8 = 256 by decide]; unfold w1; omega) (by omega) (by rw [show (2 : Nat) ^ 8 = 256 by decide]; omega) (by omega) (by unfold w1; omega)]
    unfold w1; omega
  · rw [show (256 : Int) ^ 10 = 1208925819614629174706176 by decide] at *
    rw [show (2 : Int) ^ (10 % 8 * 8) = 65536 by decide, IntKind.wrap_u64, IntKind.wrap_u64]
    refine ⟨?_, by unfold w0; omega, by unfold w2; omega, by unfold w3; omega⟩
    rw [or_join 16 (by unfold w1; omega) (by rw [show (2 : Nat) ^ 16 = 65536 by decide]; unfold w1; omega) (by omega) (by rw [show (2 : Nat) ^ 16 = 65536 by decide]; omega) (by omega) (by unfold w1; omega)]
    unfold w1; omega
  · rw [show (256 : Int) ^ 11 = 309485009821345068724781056 by decide] at *
    rw [show (2 : Int) ^ (11 % 8 * 8) = 16777216 by decide, IntKind.wrap_u64, IntKind.wrap_u64]
    refine ⟨?_, by unfold w0; omega, by unfold w2; omega, by unfold w3; omega⟩
    rw [or_join 24 (by unfold w1; omega) (by rw [show (2 : Nat) ^ 24 = 16777216 by decide]; unfold w1; omega) (by omega) (by rw [show (2 : Nat) ^ 24 = 16777216 by decide]; omega) (by omega) (by unfold w1; omega)]
    unfold w1; omega
  · rw [show (256 : Int) ^ 12 = 79228162514264337593543950336 by decide] at *
    rw [show (2 : Int) ^ (12 % 8 * 8) = 4294967296 by decide, IntKind.wrap_u64, IntKind.wrap_u64]
    refine ⟨?_, by unfold w0; omega, by unfold w2; omega, by unfold w3; omega⟩
    rw [or_join 32 (by unfold w1; omega) (by rw [show (2 : Nat) ^ 32 = 4294967296 by decide]; unfold w1; omega) (by omega) (by rw [show (2 : Nat) ^ 32 = 4294967296 by decide]; omega) (by omega) (by unfold w1; omega)]
    unfold w1; omega
  · rw [show (256 : Int) ^ 13 = 20282409603651670423947251286016 by decide] at *
    rw [show (2 : Int) ^ (13 % 8 * 8) = 1099511627776 by decide, IntKind.wrap_u64, IntKind.wrap_u64]
    refine ⟨?_, by unfold w0; omega, by unfold w2; omega, by unfold w3; omega⟩
    rw [or_join 40 (by unfold w1; omega) (by rw [show (2 : Nat) ^ 40 = 1099511627776 by decide]; unfold w1; omega) (by omega) (by rw [show (2 : Nat) ^ 40 = 1099511627776 by decide]; omega) (by omega) (by unfold w1; omega)]
    unfold w1; omega
  · rw [show (256 : Int) ^ 14 = 5192296858534827628530496329220096 by decide] at *
    rw [show (2 : Int) ^ (14 % 8 * 8) = 281474976710656 by decide, IntKind.wrap_u64, IntKind.wrap_u64]
    refine ⟨?_, by unfold w0; omega, by unfold w2; omega, by unfold w3; omega⟩
    rw [or_join 48 (by unfold w1; omega) (by rw [show (2 : Nat) ^ 48 = 281474976710656 by decide]; unfold w1; omega) (by omega) (by rw [show (2 : Nat) ^ 48 = 281474976710656 by decide]; omega) (by omega) (by unfold w1; omega)]
    unfold w1; omega
  · rw [show (256 : Int) ^ 15 = 1329227995784915872903807060280344576 by decide] at *
    rw [show (2 : Int) ^ (15 % 8 * 8) = 72057594037927936 by decide, IntKind.wrap_u64, IntKind.wrap_u64]
    refine ⟨?_, by unfold w0; omega, by unfold w2; omega, by unfold w3; omega⟩
    rw [or_join 56 (by unfold w1; omega) (by rw [show (2 : Nat) ^ 56 = 72057594037927936 by decide]; unfold w1; omega) (by omega) (by rw [show (2 : Nat) ^ 56 = 72057594037927936 by decide]; omega) (by omega) (by unfold w1; omega)]
    unfold w1; omega
theorem or_word2 {T v : Int} {k : Nat} (hq : (k : Int) / 8 = 2) (h0 : 0 ≤ T) (h1 : T < 256 ^ k) (v0 : 0 ≤ v) (v1 : v ≤ 255) :
    bits .or .u64 (w2 T) (IntKind.u64.wrap (IntKind.u64.wrap v * 2 ^ (k % 8 * 8))) = w2 (T + 256 ^ k * v) ∧ w0 T = w0 (T + 256 ^ k * v) ∧ w1 T = w1 (T + 256 ^ k * v) ∧ w3 T = w3 (T + 256 ^ k * v) := by
  rcases (show k = 16 ∨ k = 17 ∨ k = 18 ∨ k = 19 ∨ k = 20 ∨ k = 21 ∨ k = 22 ∨ k = 23 by omega) with rfl | rfl | rfl | rfl | rfl | rfl | rfl | rfl
  · rw [show (256 : Int) ^ 16 = 340282366920938463463374607431768211456 by decide] at *
    rw [show (2 : Int) ^ (16 % 8 * 8) = 1 by decide, IntKind.wrap_u64, IntKind.wrap_u64]
    refine ⟨?_, by unfold w0; omega, by unfold w1; omega, by unfold w3; omega⟩
    rw [or_join 0 (by unfold w2; omega) (by rw [show (2 : Nat) ^ 0 = 1 by decide]; unfold w2; omega) (by omega) (by rw [show (2 : Nat) ^ 0 = 1 by decide]; omega) (by omega) (by unfold w2; omega)]
    unfold w2; omega
  · rw [show (256 : Int) ^ 17 = 87112285931760246646623899502532662132736 by decide] at *
    rw [show (2 : Int) ^ (17 % 8 * 8) = 256 by decide, IntKind.wrap_u64, IntKind.wrap_u64]
    refine ⟨?_, by unfold w0; omega, by unfold w1; omega, by unfold w3; omega⟩
    rw [or_join 8 (by unfold w2; omega) (by rw [show (2 : Nat) ^ 8 = 256 by decide]; unfold w2; omega) (by omega) (by rw [show (2 : Nat) ^ 8 = 256 by decide]; omega) (by omega) (by unfold w2; omega)]
    unfold w2; omega
  · rw [show (256 : Int) ^ 18 = 22300745198530623141535718272648361505980416 by decide] at *
    rw [show (2 : Int) ^ (18 % 8 * 8) = 65536 by decide, IntKind.wrap_u64, IntKind.wrap_u64]
    refine ⟨?_, by unfold w0; omega, by unfold w1; omega, by unfold w3; omega⟩
    rw [or_join 16 (by unfold w2; omega) (by rw [show (2 : Nat) ^ 16 = 65536 by decide]; unfold w2; omega) (by omega) (by rw [show (2 : Nat) ^ 16 = 65536 by decide]; omega) (by omega) (by unfold w2; omega)]
    unfold w2; omega
  · rw [show (256 : Int) ^ 19 = 5708990770823839524233143877797980545530986496 by decide] at *
    rw [show (2 : Int) ^ (19 % 8 * 8) = 16777216 by decide, IntKind.wrap_u64, IntKind.wrap_u64]
    refine ⟨?_, by unfold w0; omega, by unfold w1; omega, by unfold w3; omega⟩
    rw [or_join 24 (by unfold w2; omega) (by rw [show (2 : Nat) ^ 24 = 16777216 by decide]; unfold w2; omega) (by omega) (by rw [show (2 : Nat) ^ 24 = 16777216 by decide]; omega) (by omega) (by unfold w2; omega)]
    unfold w2; omega
  · rw [show (256 : Int) ^ 20 = 1461501637330902918203684832716283019655932542976 by decide] at *
    rw [show (2 : Int) ^ (20 % 8 * 8) = 4294967296 by decide, IntKind.wrap_u64, IntKind.wrap_u64]
    refine ⟨?_, by unfold w0; omega, by unfold w1; omega, by unfold w3; omega⟩
    rw [or_join 32 (by unfold w2; omega) (by rw [show (2 : Nat) ^ 32 = 4294967296 by decide]; unfold w2; omega) (by omega) (by rw [show (2 : Nat) ^ 32 = 4294967296 by decide]; omega) (by omega) (by unfold w2; omega)]
    unfold w2; omega
  · rw [show (256 : Int) ^ 21 = 374144419156711147060143317175368453031918731001856 by decide] at *
    rw [show (2 : Int) ^ (21 % 8 * 8) = 1099511627776 by decide, IntKind.wrap_u64, IntKind.wrap_u64]
    refine ⟨?_, by unfold w0; omega, by unfold w1; omega, by unfold w3; omega⟩
    rw [or_join 40 (by unfold w2; omega) (by rw [show (2 : Nat) ^ 40 = 1099511627776 by decide]; unfold w2; omega) (by omega) (by rw [show (2 : Nat) ^ 40 = 1099511627776 by decide]; omega) (by omega) (by unfold w2; omega)]
    unfold w2; omega
  · rw [show (256 : Int) ^ 22 = 95780971304118053647396689196894323976171195136475136 by decide] at *
    rw [show (2 : Int) ^ (22 % 8 * 8) = 281474976710656 by decide, IntKind.wrap_u64, IntKind.wrap_u64]
    refine ⟨?_, by unfold w0; omega, by unfold w1; omega, by unfold w3; omega⟩
    rw [or_join 48 (by unfold w2; omega) (by rw [show (2 : Nat) ^ 48 = 281474976710656 by decide]; unfold w2; omega) (by omega) (by rw [show (2 : Nat) ^ 48 = 281474976710656 by decide]; omega) (by omega) (by unfold w2; omega)]
    unfold w2; omega
  · rw [show (256 : Int) ^ 23 = 24519928653854221733733552434404946937899825954937634816 by decide] at *
    rw [show (2 : Int) ^ (23 % 8 * 8) = 72057594037927936 by decide, IntKind.wrap_u64, IntKind.wrap_u64]
    refine ⟨?_, by unfold w0; omega, by unfold w1; omega, by unfold w3; omega⟩
    rw [or_join 56 (by unfold w2; omega) (by rw [show (2 : Nat) ^ 56 = 72057594037927936 by decide]; unfold w2; omega) (by omega) (by rw [show (2 : Nat) ^ 56 = 72057594037927936 by decide]; omega) (by omega) (by unfold w2; omega)]
    unfold w2; omega
theorem or_word3 {T v : Int} {k : Nat} (hq : (k : Int) / 8 = 3) (h0 : 0 ≤ T) (h1 : T < 256 ^ k) (_v0 : 0 ≤ v) (_v1 : v ≤ 255) :
    bits .or .u64 (w3 T) (IntKind.u64.wrap (IntKind.u64.wrap v * 2 ^ (k % 8 * 8))) = w3 (T + 256 ^ k * v) ∧ w0 T = w0 (T + 256 ^ k * v) ∧ w1 T = w1 (T + 256 ^ k * v) ∧ w2 T = w2 (T + 256 ^ k * v) := by
  rcases (show k = 24 ∨ k = 25 ∨ k = 26 ∨ k = 27 ∨ k = 28 ∨ k = 29 ∨ k = 30 ∨ k = 31 by omega) with rfl | rfl | rfl | rfl | rfl | rfl | rfl | rfl
  · rw [show (256 : Int) ^ 24 = 6277101735386680763835789423207666416102355444464034512896 by decide] at *
    rw [show (2 : Int) ^ (24 % 8 * 8) = 1 by decide, IntKind.wrap_u64, IntKind.wrap_u64]
    refine ⟨?_, by unfold w0; omega, by unfold w1; omega, by unfold w2; omega⟩
    rw [or_join 0 (by unfold w3; omega) (by rw [show (2 : Nat) ^ 0 = 1 by decide]; unfold w3; omega) (by omega) (by rw [show (2 : Nat) ^ 0 = 1 by decide]; omega) (by omega) (by unfold w3; omega)]
    unfold w3; omega
  · rw [show (256 : Int) ^ 25 = 1606938044258990275541962092341162602522202993782792835301376 by decide] at *
    rw [show (2 : Int) ^ (25 % 8 * 8) = 256 by decide, IntKind.wrap_u64, IntKind.wrap_u64]
    refine ⟨?_, by unfold w0; omega, by unfold w1; omega, by unfold w2; omega⟩
    rw [or_join 8 (by unfold w3; omega) (by rw [show (2 : Nat) ^ 8 = 256 by decide]; unfold w3; omega) (by omega) (by rw [show (2 : Nat) ^ 8 = 256 by decide]; omega) (by omega) (by unfold w3; omega)]
    unfold w3; omega
  · rw [show (256 : Int) ^ 26 = 411376139330301510538742295639337626245683966408394965837152256 by decide] at *
    rw [show (2 : Int) ^ (26 % 8 * 8) = 65536 by decide, IntKind.wrap_u64, IntKind.wrap_u64]
    refine ⟨?_, by unfold w0; omega, by unfold w1; omega, by unfold w2; omega⟩
    rw [or_join 16 (by unfold w3; omega) (by rw [show (2 : Nat) ^ 16 = 65536 by decide]; unfold w3; omega) (by omega) (by rw [show (2 : Nat) ^ 16 = 65536 by decide]; omega) (by omega) (by unfold w3; omega)]
    unfold w3; omega
  · rw [show (256 : Int) ^ 27 = 105312291668557186697918027683670432318895095400549111254310977536 by decide] at *
    rw [show (2 : Int) ^ (27 % 8 * 8) = 16777216 by decide, IntKind.wrap_u64, IntKind.wrap_u64]
    refine ⟨?_, by unfold w0; omega, by unfold w1; omega, by unfold w2; omega⟩
    rw [or_join 24 (by unfold w3; omega) (by rw [show (2 : Nat) ^ 24 = 16777216 by decide]; unfold w3; omega) (by omega) (by rw [show (2 : Nat) ^ 24 = 16777216 by decide]; omega) (by omega) (by unfold w3; omega)]
    unfold w3; omega
  · rw [show (256 : Int) ^ 28 = 26959946667150639794667015087019630673637144422540572481103610249216 by decide] at *
    rw [show (2 : Int) ^ (28 % 8 * 8) = 4294967296 by decide, IntKind.wrap_u64, IntKind.wrap_u64]
    refine ⟨?_, by unfold w0; omega, by unfold w1; omega, by unfold w2; omega⟩
    rw [or_join 32 (by unfold w3; omega) (by rw [show (2 : Nat) ^ 32 = 4294967296 by decide]; unfold w3; omega) (by omega) (by rw [show (2 : Nat) ^ 32 = 4294967296 by decide]; omega) (by omega) (by unfold w3; omega)]
    unfold w3; omega
  · rw [show (256 : Int) ^ 29 = 6901746346790563787434755862277025452451108972170386555162524223799296 by decide] at *
    rw [show (2 : Int) ^ (29 % 8 * 8) = 1099511627776 by decide, IntKind.wrap_u64, IntKind.wrap_u64]
    refine ⟨?_, by unfold w0; omega, by unfold w1; omega, by unfold w2; omega⟩
    rw [or_join 40 (by unfold w3; omega) (by rw [show (2 : Nat) ^ 40 = 1099511627776 by decide]; unfold w3; omega) (by omega) (by rw [show (2 : Nat) ^ 40 = 1099511627776 by decide]; omega) (by omega) (by unfold w3; omega)]
    unfold w3; omega
  · rw [show (256 : Int) ^ 30 = 1766847064778384329583297500742918515827483896875618958121606201292619776 by decide] at *
    rw [show (2 : Int) ^ (30 % 8 * 8) = 281474976710656 by decide, IntKind.wrap_u64, IntKind.wrap_u64]
    refine ⟨?_, by unfold w0; omega, by unfold w1; omega, by unfold w2; omega⟩
    rw [or_join 48 (by unfold w3; omega) (by rw [show (2 : Nat) ^ 48 = 281474976710656 by decide]; unfold w3; omega) (by omega) (by rw [show (2 : Nat) ^ 48 = 281474976710656 by decide]; omega) (by omega) (by unfold w3; omega)]
    unfold w3; omega
  · rw [show (256 : Int) ^ 31 = 452312848583266388373324160190187140051835877600158453279131187530910662656 by decide] at *
    rw [show (2 : Int) ^ (31 % 8 * 8) = 72057594037927936 by decide, IntKind.wrap_u64, IntKind.wrap_u64]
    refine ⟨?_, by unfold w0; omega, by unfold w1; omega, by unfold w2; omega⟩
    rw [or_join 56 (by unfold w3; omega) (by rw [show (2 : Nat) ^ 56 = 72057594037927936 by decide]; unfold w3; omega) (by omega) (by rw [show (2 : Nat) ^ 56 = 72057594037927936 by decide]; omega) (by omega) (by unfold w3; omega)]
    unfold w3; omega
end Go.Proofs.YtegebgbmnddopaaDoor
