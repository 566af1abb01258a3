/- Powers by a modulus, reckoned by halves: plain facts on numbers; and the numbers of the chapter's examples. -/
import Derived.Test.YtabfjdljeebjbaaDoorRoot2
namespace Go.Proofs.YtabfjdljeebjbaaDoor

/-- A power, its number's bits the highest first. -/
def pw (b m : Nat) : List Bool → Nat → Nat
  | [], acc => acc
  | c :: t, acc => pw b m t (cond c (acc * acc % m * b % m) (acc * acc % m))
/-- The number of such bits. -/
def bn : List Bool → Nat → Nat
  | [], acc => acc
  | c :: t, acc => bn t (cond c (2 * acc + 1) (2 * acc))
theorem pw_eq (b m : Nat) : ∀ (l : List Bool) (acc k : Nat), acc = b ^ k % m → pw b m l acc = b ^ bn l k % m
  | [], _, _, h => h
  | c :: t, acc, k, h => by
    unfold pw bn
    apply pw_eq b m t
    have e : acc * acc % m = b ^ (2 * k) % m := by rw [h, ← Nat.mul_mod, ← Nat.pow_add]; congr 2; omega
    cases c with
    | true =>
      show acc * acc % m * b % m = b ^ (2 * k + 1) % m
      rw [e, Nat.mod_mul_mod, Nat.pow_succ]
    | false => exact e
theorem ipow_eval (b m n : Nat) (l : List Bool) (hn : bn l 0 = n) : ((b : Int) ^ n) % (m : Int) = ((pw b m l (1 % m) : Nat) : Int) := by
  rw [pw_eq b m l (1 % m) 0 (by rw [Nat.pow_zero]), hn, Int.natCast_emod, Int.natCast_pow]

/-- A bit with ones before and behind: 2^n - k has such ones. -/
def ones (n : Nat) : List Bool := List.replicate n true
def rpBits : List Bool := ones 250 ++ [false, true]
def mpBits : List Bool := ones 250 ++ [false, true, true]
theorem rpBits_num : bn rpBits 0 = rp.toNat := by decide +kernel
theorem mpBits_num : bn mpBits 0 = mp.toNat := by decide +kernel
theorem pp_nat : pp = ((57896044618658097711785492504343953926634992332820282019728792003956564819949 : Nat) : Int) := rfl

theorem near_41 : nearOf 4 1 = 39362322753415011913614158609977084030892133031847780325488042146247659569504 := by
  have h1 : cubeOf 1 = 1 := by unfold cubeOf pp; decide +kernel
  have h2 : sevOf 1 = 1 := by unfold sevOf; rw [h1]; unfold pp; decide +kernel
  have h3 : (4 : Int) ^ rp.toNat % pp = 9840580688353752978403539652494271007723033257961945081372010536561914892376 := by
    rw [pp_nat]
    have h := ipow_eval 4 57896044618658097711785492504343953926634992332820282019728792003956564819949 rp.toNat rpBits rpBits_num
    exact h.trans (by decide +kernel)
  unfold nearOf
  rw [h1, h2, show (4 : Int) * 1 % pp = 4 by unfold pp; decide +kernel, h3]
  unfold pp; decide +kernel
theorem two_mp : (2 : Int) ^ mp.toNat % pp = 19681161376707505956807079304988542015446066515923890162744021073123829784752 := by
  rw [pp_nat]
  have h := ipow_eval 2 57896044618658097711785492504343953926634992332820282019728792003956564819949 mp.toNat mpBits mpBits_num
  exact h.trans (by decide +kernel)
theorem rootB_41 : rootB 4 1 = true := by
  unfold rootB; rw [near_41]; unfold pp; decide +kernel
theorem rootN_41 : rootN 4 1 = 2 := by
  unfold rootN
  rw [near_41, two_mp, if_neg (by unfold pp; decide +kernel), if_pos (by unfold pp; decide +kernel)]
  unfold evn pp; decide +kernel
end Go.Proofs.YtabfjdljeebjbaaDoor
