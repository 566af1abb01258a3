import Derived.Test.YtcgbgmbnagmohaaDoorNums
namespace Go.Proofs.YtcgbgmbnagmohaaDoor
set_option maxRecDepth 20000
def pw (b m : Nat) : List Bool → Nat → Nat
  | [], acc => acc
  | c :: t, acc => pw b m t (cond c (acc * acc % m * b % m) (acc * acc % m))
def bn : List Bool → Nat → Nat
  | [], acc => acc
  | c :: t, acc => bn t (cond c (2 * acc + 1) (2 * acc))
theorem pw_eq (b m : Nat) : ∀ (l : List Bool) (acc k : Nat), acc = b ^ k % m → pw b m l acc = b ^ bn l k % m
  | [], _, _, h => h
  | c :: t, acc, k, h => by
    unfold pw bn
    apply pw_eq b m t
    have e : acc * acc % m = b ^ (2 * k) % m := by rw [h, ← Nat.mul_mod, ← Nat.pow_add]; congr 2; omega
    cases c with
    | true =>
      show acc * acc % m * b % m = b ^ (2 * k + 1) % m
      rw [e, Nat.mod_mul_mod, Nat.pow_succ]
    | false => exact e
theorem ipow_eval (b m n : Nat) (l : List Bool) (hn : bn l 0 = n) : ((b : Int) ^ n) % (m : Int) = ((pw b m l (1 % m) : Nat) : Int) := by
  rw [pw_eq b m l (1 % m) 0 (by rw [Nat.pow_zero]), hn, Int.natCast_emod, Int.natCast_pow]
def ones (n : Nat) : List Bool := List.replicate n true
theorem pp_nat : pp = ((57896044618658097711785492504343953926634992332820282019728792003956564819949 : Nat) : Int) := rfl
end Go.Proofs.YtcgbgmbnagmohaaDoor
