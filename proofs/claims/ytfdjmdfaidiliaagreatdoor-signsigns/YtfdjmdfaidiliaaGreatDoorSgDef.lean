import Derived.Test.YtfdjmdfaidiliaaGreatDoorClampB
import Derived.Test.YtfdjmdfaidiliaaGreatDoorEdBack
import Derived.Test.YtfdjmdfaidiliaaGreatDoorShaSum64
namespace Go.Proofs.YtfdjmdfaidiliaaGreatDoor
open Go.RowKit
set_option maxRecDepth 20000
theorem enc_arith {y M x : Nat} (h : y < M) (hx : x ≤ 1) : y + M * x < M * 2 := by
  have : M * x ≤ M * 1 := Nat.mul_le_mul_left _ hx
  omega
theorem toNat_lt {a P : Int} {M : Nat} (h0 : 0 ≤ a) (h1 : a < P) (h2 : P.toNat < M) : a.toNat < M := by omega
theorem pp_lt : pp.toNat < 2 ^ 255 := by decide +kernel
theorem bit_le (x : Int) : (x % 2).toNat ≤ 1 := by omega
theorem encN_lt (p : Pt) : encN p < 256 ^ 32 := by
  have h1 := qbp p.y
  have h := enc_arith (toNat_lt h1.1 h1.2 pp_lt) (bit_le (p.x % pp))
  have e : (256 : Nat) ^ 32 = 2 ^ 255 * 2 := by decide +kernel
  rw [e]
  exact h
def tmB (n : Nat) : List (BitVec 8) := sk (encN (pmul bs n))
theorem tmB_len (n : Nat) : (tmB n).length = 32 := qcz _
def nmB (b : List (BitVec 8)) : List (BitVec 8) := sk (leB (sum64 b) % ell)
theorem nmB_len (b : List (BitVec 8)) : (nmB b).length = 32 := qcz _
theorem qdb (b : List (BitVec 8)) : (sum64 b).length = 64 := by unfold sum64; exact qda _ _
def secA (s : List (BitVec 8)) : List (BitVec 8) := clB ((sum64 s).take 32)
theorem secA_len (s : List (BitVec 8)) : (secA s).length = 32 := by rw [secA, clB_len, List.length_take, qdb]; rfl
def pubB (s : List (BitVec 8)) : List (BitVec 8) := tmB (leB (secA s))
theorem pubB_len (s : List (BitVec 8)) : (pubB s).length = 32 := tmB_len _
def sgR (s b : List (BitVec 8)) : List (BitVec 8) := nmB ((sum64 s).drop 32 ++ b)
def sgF (s b : List (BitVec 8)) : List (BitVec 8) := tmB (leB (sgR s b))
def sgK (s b : List (BitVec 8)) : List (BitVec 8) := nmB (sgF s b ++ pubB s ++ b)
def sgS (s b : List (BitVec 8)) : List (BitVec 8) := sk ((leB (sgK s b) * leB (secA s) + leB (sgR s b)) % ell)
def sigB (s b : List (BitVec 8)) : List (BitVec 8) := sgF s b ++ sgS s b
theorem sgR_len (s b : List (BitVec 8)) : (sgR s b).length = 32 := nmB_len _
theorem sgF_len (s b : List (BitVec 8)) : (sgF s b).length = 32 := tmB_len _
theorem sgK_len (s b : List (BitVec 8)) : (sgK s b).length = 32 := nmB_len _
theorem sgS_len (s b : List (BitVec 8)) : (sgS s b).length = 32 := qcz _
theorem sigB_len (s b : List (BitVec 8)) : (sigB s b).length = 64 := by rw [sigB, List.length_append, sgF_len, sgS_len]
def verB (p b s : List (BitVec 8)) : Bool :=
  decide (leB (s.drop 32) < ell) && (decR (leB p)).2 && (decR (leB (s.take 32))).2 &&
    decide (mulP (leB (s.drop 32)) bs = addP (decR (leB (s.take 32))).1 (mulP (leB (nmB (s.take 32 ++ p ++ b))) (decR (leB p)).1))
theorem mul_bs (n : Nat) : mulP n bs = pmul bs n := mulP_on bs_on bs_ok n
theorem dec_tmB (n : Nat) : decR (leB (tmB n)) = (pmul bs n, true) := by
  have h : leB (tmB n) = encN (pmul bs n) := by
    rw [tmB, leB_sk, Nat.mod_eq_of_lt (encN_lt (pmul bs n))]
  rw [h, dec_enc (qdi _ _) (qdh bs_on _)]
end Go.Proofs.YtfdjmdfaidiliaaGreatDoor
