import Derived.Test.YtcgbgmbnagmohaaDoorPw
import Derived.Test.YtcgbgmbnagmohaaDoorBase
namespace Go.Proofs.YtcgbgmbnagmohaaDoor
set_option maxRecDepth 20000
def Pr (p : Nat) : Prop := 1 < p ∧ ∀ m, m ∣ p → m = 1 ∨ m = p
theorem php : ∀ (n : Nat) (f : Nat → Nat), (∀ i, i ≤ n → f i < n) → ∃ i j, i < j ∧ j ≤ n ∧ f i = f j
 | 0, f, h => absurd (h 0 (Nat.le_refl _)) (by omega)
 | n + 1, f, h => by
  by_cases hx : ∃ i, i < n + 1 ∧ f i = f (n + 1)
  ·obtain ⟨i, hi, e⟩ := hx
   exact ⟨i, n + 1, hi, Nat.le_refl _, e⟩
  ·have hl := h (n + 1) (Nat.le_refl _)
   obtain ⟨i, j, hij, hj, e⟩ := php n (fun i => if f i = n then f (n + 1) else f i) (fun i hi => by
    have h1 := h i (by omega)
    show (if f i = n then f (n + 1) else f i) < n
    split
    ·rename_i e
     have : f (n + 1) ≠ n := fun e' => hx ⟨i, by omega, by rw [e, e']⟩
     omega
    ·omega)
   refine ⟨i, j, hij, by omega, ?_⟩
   have e' : (if f i = n then f (n + 1) else f i) = (if f j = n then f (n + 1) else f j) := e
   split at e' <;> split at e'
   ·omega
   ·exact absurd ⟨j, by omega, e'.symm⟩ hx
   ·exact absurd ⟨i, by omega, e'⟩ hx
   ·exact e'
theorem pow_one_pow {g n a : Nat} (hn : 1 < n) (h : g ^ a % n = 1) (k : Nat) : g ^ (a * k) % n = 1 := by
 rw [Nat.pow_mul, Nat.pow_mod, h, Nat.one_pow, Nat.mod_eq_of_lt hn]
theorem pow_one_rest {g n a b : Nat} (hn : 1 < n) (ha : g ^ a % n = 1) (hb : g ^ b % n = 1) : g ^ (b % a) % n = 1 := by
 have e : g ^ b = g ^ (a * (b / a)) * g ^ (b % a) := by rw [← Nat.pow_add, Nat.div_add_mod]
 rw [e, Nat.mul_mod, pow_one_pow hn ha, Nat.one_mul, Nat.mod_mod] at hb
 exact hb
theorem pow_gcd {g n : Nat} (hn : 1 < n) (a b : Nat) : g ^ a % n = 1 → g ^ b % n = 1 → g ^ Nat.gcd a b % n = 1 := by
 refine Nat.gcd.induction (P := fun a b => g ^ a % n = 1 → g ^ b % n = 1 → g ^ Nat.gcd a b % n = 1) a b ?_ ?_
 ·intro b _ h
  rw [Nat.gcd_zero_left]; exact h
 ·intro a b _ ih ha hb
  rw [Nat.gcd_rec]
  exact ih (pow_one_rest hn ha hb) ha
def prodL : List Nat → Nat
 | [] => 1
 | q :: t => q * prodL t
theorem Pr.coprime {q m : Nat} (hq : Pr q) (h : ¬ q ∣ m) : Nat.Coprime q m := by
 rcases hq.2 _ (Nat.gcd_dvd_left q m) with e | e
 ·exact e
 ·exact absurd (e ▸ Nat.gcd_dvd_right q m) h
theorem Pr.mul {p a b : Nat} (hp : Pr p) (h : p ∣ a * b) : p ∣ a ∨ p ∣ b := by
 by_cases ha : p ∣ a
 ·exact .inl ha
 ·exact .inr ((hp.coprime ha).dvd_of_dvd_mul_left h)
theorem prime_of_prod : ∀ (L : List Nat) (m : Nat), (∀ q ∈ L, Pr q) → m ∣ prodL L → 1 < m → ∃ q ∈ L, q ∣ m
 | [], m, _, h, h1 => by
  have := Nat.le_of_dvd (by omega) (show m ∣ 1 from h)
  omega
 | q :: t, m, hL, h, h1 => by
  by_cases hq : q ∣ m
  ·exact ⟨q, by simp, hq⟩
  ·have hc := (hL q (by simp)).coprime hq
   obtain ⟨r, hr, hd⟩ := prime_of_prod t m (fun x hx => hL x (by simp [hx])) (hc.symm.dvd_of_dvd_mul_left h) h1
   exact ⟨r, by simp [hr], hd⟩
theorem all_powers {n g : Nat} {L : List Nat} (hn : 1 < n) (hL : prodL L = n - 1) (hpr : ∀ q ∈ L, Pr q) (h1 : g ^ (n - 1) % n = 1) (hq : ∀ q ∈ L, g ^ ((n - 1) / q) % n ≠ 1) :
  ∀ x, 0 < x → x < n → ∃ k, g ^ k % n = x := by
 have order : ∀ d, 0 < d → d < n - 1 → g ^ d % n ≠ 1 := by
  intro d h0 hd hd1
  have he := pow_gcd hn d (n - 1) hd1 h1
  have hle := Nat.le_of_dvd h0 (Nat.gcd_dvd_left d (n - 1))
  obtain ⟨m, hm⟩ := Nat.gcd_dvd_right d (n - 1)
  generalize Nat.gcd d (n - 1) = e at *
  have hm1 : 1 < m := by
   rcases Nat.lt_or_ge 1 m with h | h
   ·exact h
   ·have h2 := Nat.mul_le_mul_left e h; omega
  obtain ⟨q, hqL, m', hqm⟩ := prime_of_prod L m hpr (by rw [hL, hm]; exact Nat.dvd_mul_left m e) hm1
  have hq0 : 0 < q := by have := (hpr q hqL).1; omega
  have e2 : (n - 1) / q = e * m' := by
   rw [hm, hqm, Nat.mul_left_comm, Nat.mul_div_cancel_left _ hq0]
  exact hq q hqL (by rw [e2]; exact pow_one_pow hn he m')
 have nonzero : ∀ i, i ≤ n - 1 → g ^ i % n ≠ 0 := by
  intro i hi h0
  have hd : n ∣ g ^ (n - 1) := Nat.dvd_trans (Nat.dvd_of_mod_eq_zero h0) (Nat.pow_dvd_pow g hi)
  rw [Nat.mod_eq_zero_of_dvd hd] at h1
  omega
 intro x hx0 hxn
 obtain ⟨i, j, hij, hj, e⟩ := php (n - 1) (fun i => if i < n - 1 then g ^ i % n - 1 else x - 1) (fun i hi => by
  show (if i < n - 1 then g ^ i % n - 1 else x - 1) < n - 1
  split
  ·have := Nat.mod_lt (g ^ i) (show n > 0 by omega); have := nonzero i hi; omega
  ·omega)
 have e' : (if i < n - 1 then g ^ i % n - 1 else x - 1) = (if j < n - 1 then g ^ j % n - 1 else x - 1) := e
 rw [if_pos (by omega)] at e'
 have hi0 := nonzero i (by omega)
 by_cases hj1 : j < n - 1
 ·rw [if_pos hj1] at e'
  have hj0 := nonzero j (by omega)
  have ee : g ^ i % n = g ^ j % n := by omega
  have l1 : g ^ i * g ^ (n - 1 - i) % n = 1 := by rw [← Nat.pow_add, show i + (n - 1 - i) = n - 1 by omega, h1]
  have l2 : g ^ j * g ^ (n - 1 - i) % n = g ^ (j - i) % n := by
   rw [← Nat.pow_add, show j + (n - 1 - i) = (n - 1) + (j - i) by omega, Nat.pow_add, Nat.mul_mod, h1, Nat.one_mul, Nat.mod_mod]
  rw [Nat.mul_mod, ee, ← Nat.mul_mod, l2] at l1
  exact absurd l1 (order (j - i) (by omega) (by omega))
 ·rw [if_neg hj1] at e'
  exact ⟨i, by omega⟩
theorem pr_of_powers {n g : Nat} (hn : 1 < n) (h1 : g ^ (n - 1) % n = 1) (h : ∀ x, 0 < x → x < n → ∃ k, g ^ k % n = x) : Pr n := by
 refine ⟨hn, fun m hm => ?_⟩
 by_cases hm1 : m = 1
 ·exact .inl hm1
 ·refine .inr ?_
  have hle := Nat.le_of_dvd (by omega) hm
  rcases Nat.lt_or_ge m n with hlt | hge
  ·exfalso
   have hpos : 0 < m := Nat.pos_of_ne_zero fun e => by rw [e] at hm; have := Nat.eq_zero_of_zero_dvd hm; omega
   obtain ⟨k, hk⟩ := h m hpos hlt
   have hkk : k ≤ k * (n - 1) := Nat.le_mul_of_pos_right k (by omega)
   have e : g ^ k * g ^ (k * (n - 1) - k) % n = 1 := by
    rw [← Nat.pow_add, show k + (k * (n - 1) - k) = (n - 1) * k by rw [Nat.mul_comm (n - 1) k]; omega]
    exact pow_one_pow hn h1 k
   rw [Nat.mul_mod, hk, ← Nat.mod_eq_of_lt hlt, ← Nat.mul_mod] at e
   have hd : m ∣ m * g ^ (k * (n - 1) - k) % n := (Nat.dvd_mod_iff hm).2 (Nat.dvd_mul_right _ _)
   rw [e] at hd
   have := Nat.le_of_dvd (by omega) hd
   omega
  ·omega
theorem power_one {n g x : Nat} (hn : 1 < n) (h1 : g ^ (n - 1) % n = 1) (h : ∀ x, 0 < x → x < n → ∃ k, g ^ k % n = x) (h0 : 0 < x) (hx : x < n) : x ^ (n - 1) % n = 1 := by
 obtain ⟨k, hk⟩ := h x h0 hx
 rw [← hk, ← Nat.pow_mod, ← Nat.pow_mul, Nat.mul_comm]
 exact pow_one_pow hn h1 k
def bitsF : Nat → Nat → List Bool → List Bool
 | 0, _, acc => acc
 | f + 1, n, acc => bitsF f (n / 2) ((n % 2 == 1) :: acc)
theorem bn_bitsF : ∀ (f n : Nat) (acc : List Bool), n < 2 ^ f → bn (bitsF f n acc) 0 = bn acc n
 | 0, n, acc, h => by rw [Nat.pow_zero] at h; rw [show n = 0 by omega]; rfl
 | f + 1, n, acc, h => by
  rw [Nat.pow_succ] at h
  unfold bitsF
  rw [bn_bitsF f (n / 2) _ (by omega)]
  show bn acc (cond (n % 2 == 1) (2 * (n / 2) + 1) (2 * (n / 2))) = bn acc n
  congr 1
  rcases (show n % 2 = 0 ∨ n % 2 = 1 by omega) with h2 | h2
  ·rw [h2]; show 2 * (n / 2) = n; omega
  ·rw [h2]; show 2 * (n / 2) + 1 = n; omega
theorem pow_eval (b m e : Nat) (he : e < 2 ^ 256) : b ^ e % m = pw b m (bitsF 256 e []) (1 % m) := by
 rw [pw_eq b m _ (1 % m) 0 (by rw [Nat.pow_zero]), bn_bitsF 256 e [] he]
 rfl
theorem root_step {n g : Nat} (L : List Nat) (hn : 1 < n) (hL : prodL L = n - 1) (hpr : ∀ q ∈ L, Pr q) (hb : n < 2 ^ 256)
  (h1 : pw g n (bitsF 256 (n - 1) []) (1 % n) = 1) (hq : L.all (fun q => !(pw g n (bitsF 256 ((n - 1) / q) []) (1 % n) == 1)) = true) :
  g ^ (n - 1) % n = 1 ∧ ∀ x, 0 < x → x < n → ∃ k, g ^ k % n = x := by
 have e1 : g ^ (n - 1) % n = 1 := by rw [pow_eval _ _ _ (by omega)]; exact h1
 refine ⟨e1, all_powers hn hL hpr e1 fun q hqL hc => ?_⟩
 rw [List.all_eq_true] at hq
 have h := hq q hqL
 have hle : (n - 1) / q ≤ n - 1 := Nat.div_le_self _ _
 rw [pow_eval _ _ _ (by omega)] at hc
 rw [hc] at h
 exact absurd h (by decide)
theorem qbl {n g : Nat} (L : List Nat) (hn : 1 < n) (hL : prodL L = n - 1) (hpr : ∀ q ∈ L, Pr q) (hb : n < 2 ^ 256)
  (h1 : pw g n (bitsF 256 (n - 1) []) (1 % n) = 1) (hq : L.all (fun q => !(pw g n (bitsF 256 ((n - 1) / q) []) (1 % n) == 1)) = true) : Pr n :=
 have h := root_step L hn hL hpr hb h1 hq
 pr_of_powers hn h.1 h.2
theorem pr2 : Pr 2 := ⟨by omega, fun m hm => by have := Nat.le_of_dvd (by omega) hm; have : m ≠ 0 := fun e => by rw [e] at hm; have := Nat.eq_zero_of_zero_dvd hm; omega
                                                omega⟩
theorem pr3 : Pr 3 := qbl (g := 2) [2] (by decide) (by decide +kernel) (fun q hq => by
 simp only [List.mem_cons, List.not_mem_nil, or_false] at hq
 rcases hq with rfl
 ·exact pr2) (by decide +kernel) (by decide +kernel) (by decide +kernel)
theorem pr17 : Pr 17 := qbl (g := 3) [2, 2, 2, 2] (by decide) (by decide +kernel) (fun q hq => by
 simp only [List.mem_cons, List.not_mem_nil, or_false] at hq
 rcases hq with rfl | rfl | rfl | rfl
 ·exact pr2
 ·exact pr2
 ·exact pr2
 ·exact pr2) (by decide +kernel) (by decide +kernel) (by decide +kernel)
theorem pr7 : Pr 7 := qbl (g := 3) [2, 3] (by decide) (by decide +kernel) (fun q hq => by
 simp only [List.mem_cons, List.not_mem_nil, or_false] at hq
 rcases hq with rfl | rfl
 ·exact pr2
 ·exact pr3) (by decide +kernel) (by decide +kernel) (by decide +kernel)
theorem pr239 : Pr 239 := qbl (g := 7) [2, 7, 17] (by decide) (by decide +kernel) (fun q hq => by
 simp only [List.mem_cons, List.not_mem_nil, or_false] at hq
 rcases hq with rfl | rfl | rfl
 ·exact pr2
 ·exact pr7
 ·exact pr17) (by decide +kernel) (by decide +kernel) (by decide +kernel)
theorem pr479 : Pr 479 := qbl (g := 13) [2, 239] (by decide) (by decide +kernel) (fun q hq => by
 simp only [List.mem_cons, List.not_mem_nil, or_false] at hq
 rcases hq with rfl | rfl
 ·exact pr2
 ·exact pr239) (by decide +kernel) (by decide +kernel) (by decide +kernel)
theorem pr32573 : Pr 32573 := qbl (g := 2) [2, 2, 17, 479] (by decide) (by decide +kernel) (fun q hq => by
 simp only [List.mem_cons, List.not_mem_nil, or_false] at hq
 rcases hq with rfl | rfl | rfl | rfl
 ·exact pr2
 ·exact pr2
 ·exact pr17
 ·exact pr479) (by decide +kernel) (by decide +kernel) (by decide +kernel)
theorem pr65147 : Pr 65147 := qbl (g := 2) [2, 32573] (by decide) (by decide +kernel) (fun q hq => by
 simp only [List.mem_cons, List.not_mem_nil, or_false] at hq
 rcases hq with rfl | rfl
 ·exact pr2
 ·exact pr32573) (by decide +kernel) (by decide +kernel) (by decide +kernel)
theorem pr5 : Pr 5 := qbl (g := 2) [2, 2] (by decide) (by decide +kernel) (fun q hq => by
 simp only [List.mem_cons, List.not_mem_nil, or_false] at hq
 rcases hq with rfl | rfl
 ·exact pr2
 ·exact pr2) (by decide +kernel) (by decide +kernel) (by decide +kernel)
theorem pr11 : Pr 11 := qbl (g := 2) [2, 5] (by decide) (by decide +kernel) (fun q hq => by
 simp only [List.mem_cons, List.not_mem_nil, or_false] at hq
 rcases hq with rfl | rfl
 ·exact pr2
 ·exact pr5) (by decide +kernel) (by decide +kernel) (by decide +kernel)
theorem pr353 : Pr 353 := qbl (g := 3) [2, 2, 2, 2, 2, 11] (by decide) (by decide +kernel) (fun q hq => by
 simp only [List.mem_cons, List.not_mem_nil, or_false] at hq
 rcases hq with rfl | rfl | rfl | rfl | rfl | rfl
 ·exact pr2
 ·exact pr2
 ·exact pr2
 ·exact pr2
 ·exact pr2
 ·exact pr11) (by decide +kernel) (by decide +kernel) (by decide +kernel)
theorem pr29 : Pr 29 := qbl (g := 2) [2, 2, 7] (by decide) (by decide +kernel) (fun q hq => by
 simp only [List.mem_cons, List.not_mem_nil, or_false] at hq
 rcases hq with rfl | rfl | rfl
 ·exact pr2
 ·exact pr2
 ·exact pr7) (by decide +kernel) (by decide +kernel) (by decide +kernel)
theorem pr59 : Pr 59 := qbl (g := 2) [2, 29] (by decide) (by decide +kernel) (fun q hq => by
 simp only [List.mem_cons, List.not_mem_nil, or_false] at hq
 rcases hq with rfl | rfl
 ·exact pr2
 ·exact pr29) (by decide +kernel) (by decide +kernel) (by decide +kernel)
theorem pr487 : Pr 487 := qbl (g := 3) [2, 3, 3, 3, 3, 3] (by decide) (by decide +kernel) (fun q hq => by
 simp only [List.mem_cons, List.not_mem_nil, or_false] at hq
 rcases hq with rfl | rfl | rfl | rfl | rfl | rfl
 ·exact pr2
 ·exact pr3
 ·exact pr3
 ·exact pr3
 ·exact pr3
 ·exact pr3) (by decide +kernel) (by decide +kernel) (by decide +kernel)
theorem pr57467 : Pr 57467 := qbl (g := 2) [2, 59, 487] (by decide) (by decide +kernel) (fun q hq => by
 simp only [List.mem_cons, List.not_mem_nil, or_false] at hq
 rcases hq with rfl | rfl | rfl
 ·exact pr2
 ·exact pr59
 ·exact pr487) (by decide +kernel) (by decide +kernel) (by decide +kernel)
theorem pr13 : Pr 13 := qbl (g := 2) [2, 2, 3] (by decide) (by decide +kernel) (fun q hq => by
 simp only [List.mem_cons, List.not_mem_nil, or_false] at hq
 rcases hq with rfl | rfl | rfl
 ·exact pr2
 ·exact pr2
 ·exact pr3) (by decide +kernel) (by decide +kernel) (by decide +kernel)
theorem pr131 : Pr 131 := qbl (g := 2) [2, 5, 13] (by decide) (by decide +kernel) (fun q hq => by
 simp only [List.mem_cons, List.not_mem_nil, or_false] at hq
 rcases hq with rfl | rfl | rfl
 ·exact pr2
 ·exact pr5
 ·exact pr13) (by decide +kernel) (by decide +kernel) (by decide +kernel)
theorem pr132049 : Pr 132049 := qbl (g := 26) [2, 2, 2, 2, 3, 3, 7, 131] (by decide) (by decide +kernel) (fun q hq => by
 simp only [List.mem_cons, List.not_mem_nil, or_false] at hq
 rcases hq with rfl | rfl | rfl | rfl | rfl | rfl | rfl | rfl
 ·exact pr2
 ·exact pr2
 ·exact pr2
 ·exact pr2
 ·exact pr3
 ·exact pr3
 ·exact pr7
 ·exact pr131) (by decide +kernel) (by decide +kernel) (by decide +kernel)
theorem pr43 : Pr 43 := qbl (g := 3) [2, 3, 7] (by decide) (by decide +kernel) (fun q hq => by
 simp only [List.mem_cons, List.not_mem_nil, or_false] at hq
 rcases hq with rfl | rfl | rfl
 ·exact pr2
 ·exact pr3
 ·exact pr7) (by decide +kernel) (by decide +kernel) (by decide +kernel)
theorem pr23 : Pr 23 := qbl (g := 5) [2, 11] (by decide) (by decide +kernel) (fun q hq => by
 simp only [List.mem_cons, List.not_mem_nil, or_false] at hq
 rcases hq with rfl | rfl
 ·exact pr2
 ·exact pr11) (by decide +kernel) (by decide +kernel) (by decide +kernel)
theorem pr3727 : Pr 3727 := qbl (g := 3) [2, 3, 3, 3, 3, 23] (by decide) (by decide +kernel) (fun q hq => by
 simp only [List.mem_cons, List.not_mem_nil, or_false] at hq
 rcases hq with rfl | rfl | rfl | rfl | rfl | rfl
 ·exact pr2
 ·exact pr3
 ·exact pr3
 ·exact pr3
 ·exact pr3
 ·exact pr23) (by decide +kernel) (by decide +kernel) (by decide +kernel)
theorem pr1923133 : Pr 1923133 := qbl (g := 2) [2, 2, 3, 43, 3727] (by decide) (by decide +kernel) (fun q hq => by
 simp only [List.mem_cons, List.not_mem_nil, or_false] at hq
 rcases hq with rfl | rfl | rfl | rfl | rfl
 ·exact pr2
 ·exact pr2
 ·exact pr3
 ·exact pr43
 ·exact pr3727) (by decide +kernel) (by decide +kernel) (by decide +kernel)
theorem pr31 : Pr 31 := qbl (g := 3) [2, 3, 5] (by decide) (by decide +kernel) (fun q hq => by
 simp only [List.mem_cons, List.not_mem_nil, or_false] at hq
 rcases hq with rfl | rfl | rfl
 ·exact pr2
 ·exact pr3
 ·exact pr5) (by decide +kernel) (by decide +kernel) (by decide +kernel)
theorem pr53 : Pr 53 := qbl (g := 2) [2, 2, 13] (by decide) (by decide +kernel) (fun q hq => by
 simp only [List.mem_cons, List.not_mem_nil, or_false] at hq
 rcases hq with rfl | rfl | rfl
 ·exact pr2
 ·exact pr2
 ·exact pr13) (by decide +kernel) (by decide +kernel) (by decide +kernel)
theorem pr107 : Pr 107 := qbl (g := 2) [2, 53] (by decide) (by decide +kernel) (fun q hq => by
 simp only [List.mem_cons, List.not_mem_nil, or_false] at hq
 rcases hq with rfl | rfl
 ·exact pr2
 ·exact pr53) (by decide +kernel) (by decide +kernel) (by decide +kernel)
theorem pr37 : Pr 37 := qbl (g := 2) [2, 2, 3, 3] (by decide) (by decide +kernel) (fun q hq => by
 simp only [List.mem_cons, List.not_mem_nil, or_false] at hq
 rcases hq with rfl | rfl | rfl | rfl
 ·exact pr2
 ·exact pr2
 ·exact pr3
 ·exact pr3) (by decide +kernel) (by decide +kernel) (by decide +kernel)
theorem pr223 : Pr 223 := qbl (g := 3) [2, 3, 37] (by decide) (by decide +kernel) (fun q hq => by
 simp only [List.mem_cons, List.not_mem_nil, or_false] at hq
 rcases hq with rfl | rfl | rfl
 ·exact pr2
 ·exact pr3
 ·exact pr37) (by decide +kernel) (by decide +kernel) (by decide +kernel)
theorem pr173 : Pr 173 := qbl (g := 2) [2, 2, 43] (by decide) (by decide +kernel) (fun q hq => by
 simp only [List.mem_cons, List.not_mem_nil, or_false] at hq
 rcases hq with rfl | rfl | rfl
 ·exact pr2
 ·exact pr2
 ·exact pr43) (by decide +kernel) (by decide +kernel) (by decide +kernel)
theorem pr4153 : Pr 4153 := qbl (g := 5) [2, 2, 2, 3, 173] (by decide) (by decide +kernel) (fun q hq => by
 simp only [List.mem_cons, List.not_mem_nil, or_false] at hq
 rcases hq with rfl | rfl | rfl | rfl | rfl
 ·exact pr2
 ·exact pr2
 ·exact pr2
 ·exact pr3
 ·exact pr173) (by decide +kernel) (by decide +kernel) (by decide +kernel)
theorem pr41 : Pr 41 := qbl (g := 6) [2, 2, 2, 5] (by decide) (by decide +kernel) (fun q hq => by
 simp only [List.mem_cons, List.not_mem_nil, or_false] at hq
 rcases hq with rfl | rfl | rfl | rfl
 ·exact pr2
 ·exact pr2
 ·exact pr2
 ·exact pr5) (by decide +kernel) (by decide +kernel) (by decide +kernel)
theorem pr1723 : Pr 1723 := qbl (g := 3) [2, 3, 7, 41] (by decide) (by decide +kernel) (fun q hq => by
 simp only [List.mem_cons, List.not_mem_nil, or_false] at hq
 rcases hq with rfl | rfl | rfl | rfl
 ·exact pr2
 ·exact pr3
 ·exact pr7
 ·exact pr41) (by decide +kernel) (by decide +kernel) (by decide +kernel)
theorem pr430751 : Pr 430751 := qbl (g := 17) [2, 5, 5, 5, 1723] (by decide) (by decide +kernel) (fun q hq => by
 simp only [List.mem_cons, List.not_mem_nil, or_false] at hq
 rcases hq with rfl | rfl | rfl | rfl | rfl
 ·exact pr2
 ·exact pr5
 ·exact pr5
 ·exact pr5
 ·exact pr1723) (by decide +kernel) (by decide +kernel) (by decide +kernel)
theorem prBig32 : Pr 31757755568855353 := qbl (g := 10) [2, 2, 2, 3, 31, 107, 223, 4153, 430751] (by decide) (by decide +kernel) (fun q hq => by
 simp only [List.mem_cons, List.not_mem_nil, or_false] at hq
 rcases hq with rfl | rfl | rfl | rfl | rfl | rfl | rfl | rfl | rfl
 ·exact pr2
 ·exact pr2
 ·exact pr2
 ·exact pr3
 ·exact pr31
 ·exact pr107
 ·exact pr223
 ·exact pr4153
 ·exact pr430751) (by decide +kernel) (by decide +kernel) (by decide +kernel)
theorem pr19 : Pr 19 := qbl (g := 2) [2, 3, 3] (by decide) (by decide +kernel) (fun q hq => by
 simp only [List.mem_cons, List.not_mem_nil, or_false] at hq
 rcases hq with rfl | rfl | rfl
 ·exact pr2
 ·exact pr3
 ·exact pr3) (by decide +kernel) (by decide +kernel) (by decide +kernel)
theorem pr83 : Pr 83 := qbl (g := 2) [2, 41] (by decide) (by decide +kernel) (fun q hq => by
 simp only [List.mem_cons, List.not_mem_nil, or_false] at hq
 rcases hq with rfl | rfl
 ·exact pr2
 ·exact pr41) (by decide +kernel) (by decide +kernel) (by decide +kernel)
theorem pr9463 : Pr 9463 := qbl (g := 3) [2, 3, 19, 83] (by decide) (by decide +kernel) (fun q hq => by
 simp only [List.mem_cons, List.not_mem_nil, or_false] at hq
 rcases hq with rfl | rfl | rfl | rfl
 ·exact pr2
 ·exact pr3
 ·exact pr19
 ·exact pr83) (by decide +kernel) (by decide +kernel) (by decide +kernel)
theorem pr37853 : Pr 37853 := qbl (g := 2) [2, 2, 9463] (by decide) (by decide +kernel) (fun q hq => by
 simp only [List.mem_cons, List.not_mem_nil, or_false] at hq
 rcases hq with rfl | rfl | rfl
 ·exact pr2
 ·exact pr2
 ·exact pr9463) (by decide +kernel) (by decide +kernel) (by decide +kernel)
theorem pr75707 : Pr 75707 := qbl (g := 2) [2, 37853] (by decide) (by decide +kernel) (fun q hq => by
 simp only [List.mem_cons, List.not_mem_nil, or_false] at hq
 rcases hq with rfl | rfl
 ·exact pr2
 ·exact pr37853) (by decide +kernel) (by decide +kernel) (by decide +kernel)
theorem pr2437 : Pr 2437 := qbl (g := 2) [2, 2, 3, 7, 29] (by decide) (by decide +kernel) (fun q hq => by
 simp only [List.mem_cons, List.not_mem_nil, or_false] at hq
 rcases hq with rfl | rfl | rfl | rfl | rfl
 ·exact pr2
 ·exact pr2
 ·exact pr3
 ·exact pr7
 ·exact pr29) (by decide +kernel) (by decide +kernel) (by decide +kernel)
theorem pr97 : Pr 97 := qbl (g := 5) [2, 2, 2, 2, 2, 3] (by decide) (by decide +kernel) (fun q hq => by
 simp only [List.mem_cons, List.not_mem_nil, or_false] at hq
 rcases hq with rfl | rfl | rfl | rfl | rfl | rfl
 ·exact pr2
 ·exact pr2
 ·exact pr2
 ·exact pr2
 ·exact pr2
 ·exact pr3) (by decide +kernel) (by decide +kernel) (by decide +kernel)
theorem pr419 : Pr 419 := qbl (g := 2) [2, 11, 19] (by decide) (by decide +kernel) (fun q hq => by
 simp only [List.mem_cons, List.not_mem_nil, or_false] at hq
 rcases hq with rfl | rfl | rfl
 ·exact pr2
 ·exact pr11
 ·exact pr19) (by decide +kernel) (by decide +kernel) (by decide +kernel)
theorem pr569003 : Pr 569003 := qbl (g := 2) [2, 7, 97, 419] (by decide) (by decide +kernel) (fun q hq => by
 simp only [List.mem_cons, List.not_mem_nil, or_false] at hq
 rcases hq with rfl | rfl | rfl | rfl
 ·exact pr2
 ·exact pr7
 ·exact pr97
 ·exact pr419) (by decide +kernel) (by decide +kernel) (by decide +kernel)
theorem pr2773320623 : Pr 2773320623 := qbl (g := 5) [2, 2437, 569003] (by decide) (by decide +kernel) (fun q hq => by
 simp only [List.mem_cons, List.not_mem_nil, or_false] at hq
 rcases hq with rfl | rfl | rfl
 ·exact pr2
 ·exact pr2437
 ·exact pr569003) (by decide +kernel) (by decide +kernel) (by decide +kernel)
theorem pr72106336199 : Pr 72106336199 := qbl (g := 7) [2, 13, 2773320623] (by decide) (by decide +kernel) (fun q hq => by
 simp only [List.mem_cons, List.not_mem_nil, or_false] at hq
 rcases hq with rfl | rfl | rfl
 ·exact pr2
 ·exact pr13
 ·exact pr2773320623) (by decide +kernel) (by decide +kernel) (by decide +kernel)
theorem pr47 : Pr 47 := qbl (g := 5) [2, 23] (by decide) (by decide +kernel) (fun q hq => by
 simp only [List.mem_cons, List.not_mem_nil, or_false] at hq
 rcases hq with rfl | rfl
 ·exact pr2
 ·exact pr23) (by decide +kernel) (by decide +kernel) (by decide +kernel)
theorem pr127 : Pr 127 := qbl (g := 3) [2, 3, 3, 7] (by decide) (by decide +kernel) (fun q hq => by
 simp only [List.mem_cons, List.not_mem_nil, or_false] at hq
 rcases hq with rfl | rfl | rfl | rfl
 ·exact pr2
 ·exact pr3
 ·exact pr3
 ·exact pr7) (by decide +kernel) (by decide +kernel) (by decide +kernel)
theorem pr103 : Pr 103 := qbl (g := 5) [2, 3, 17] (by decide) (by decide +kernel) (fun q hq => by
 simp only [List.mem_cons, List.not_mem_nil, or_false] at hq
 rcases hq with rfl | rfl | rfl
 ·exact pr2
 ·exact pr3
 ·exact pr17) (by decide +kernel) (by decide +kernel) (by decide +kernel)
theorem pr991 : Pr 991 := qbl (g := 6) [2, 3, 3, 5, 11] (by decide) (by decide +kernel) (fun q hq => by
 simp only [List.mem_cons, List.not_mem_nil, or_false] at hq
 rcases hq with rfl | rfl | rfl | rfl | rfl
 ·exact pr2
 ·exact pr3
 ·exact pr3
 ·exact pr5
 ·exact pr11) (by decide +kernel) (by decide +kernel) (by decide +kernel)
theorem pr8574133 : Pr 8574133 := qbl (g := 2) [2, 2, 3, 7, 103, 991] (by decide) (by decide +kernel) (fun q hq => by
 simp only [List.mem_cons, List.not_mem_nil, or_false] at hq
 rcases hq with rfl | rfl | rfl | rfl | rfl | rfl
 ·exact pr2
 ·exact pr2
 ·exact pr3
 ·exact pr7
 ·exact pr103
 ·exact pr991) (by decide +kernel) (by decide +kernel) (by decide +kernel)
theorem prBig49 : Pr 1919519569386763 := qbl (g := 2) [2, 3, 7, 19, 47, 47, 127, 8574133] (by decide) (by decide +kernel) (fun q hq => by
 simp only [List.mem_cons, List.not_mem_nil, or_false] at hq
 rcases hq with rfl | rfl | rfl | rfl | rfl | rfl | rfl | rfl
 ·exact pr2
 ·exact pr3
 ·exact pr7
 ·exact pr19
 ·exact pr47
 ·exact pr47
 ·exact pr127
 ·exact pr8574133) (by decide +kernel) (by decide +kernel) (by decide +kernel)
theorem prBig50 : Pr 75445702479781427272750846543864801 := qbl (g := 7) [2, 2, 2, 2, 2, 3, 3, 5, 5, 75707, 72106336199, 1919519569386763] (by decide) (by decide +kernel) (fun q hq => by
 simp only [List.mem_cons, List.not_mem_nil, or_false] at hq
 rcases hq with rfl | rfl | rfl | rfl | rfl | rfl | rfl | rfl | rfl | rfl | rfl | rfl
 ·exact pr2
 ·exact pr2
 ·exact pr2
 ·exact pr2
 ·exact pr2
 ·exact pr3
 ·exact pr3
 ·exact pr5
 ·exact pr5
 ·exact pr75707
 ·exact pr72106336199
 ·exact prBig49) (by decide +kernel) (by decide +kernel) (by decide +kernel)
theorem prBig51 : Pr 74058212732561358302231226437062788676166966415465897661863160754340907 := qbl (g := 2) [2, 3, 353, 57467, 132049, 1923133, 31757755568855353, 75445702479781427272750846543864801] (by decide) (by decide +kernel) (fun q hq => by
 simp only [List.mem_cons, List.not_mem_nil, or_false] at hq
 rcases hq with rfl | rfl | rfl | rfl | rfl | rfl | rfl | rfl
 ·exact pr2
 ·exact pr3
 ·exact pr353
 ·exact pr57467
 ·exact pr132049
 ·exact pr1923133
 ·exact prBig32
 ·exact prBig50) (by decide +kernel) (by decide +kernel) (by decide +kernel)
def pN : Nat := 57896044618658097711785492504343953926634992332820282019728792003956564819949
theorem fs_p : ∀ q ∈ [2, 2, 3, 65147, 74058212732561358302231226437062788676166966415465897661863160754340907], Pr q := fun q hq => by
 simp only [List.mem_cons, List.not_mem_nil, or_false] at hq
 rcases hq with rfl | rfl | rfl | rfl | rfl
 ·exact pr2
 ·exact pr2
 ·exact pr3
 ·exact pr65147
 ·exact prBig51
theorem pN_gt : 1 < pN := by unfold pN; decide
theorem root_p : 2 ^ (pN - 1) % pN = 1 ∧ ∀ x, 0 < x → x < pN → ∃ k, 2 ^ k % pN = x :=
 root_step [2, 2, 3, 65147, 74058212732561358302231226437062788676166966415465897661863160754340907] pN_gt (by decide +kernel) fs_p (by decide +kernel) (by decide +kernel) (by decide +kernel)
theorem prP : Pr pN := pr_of_powers pN_gt root_p.1 root_p.2
theorem fermat {x : Nat} (h0 : 0 < x) (hx : x < pN) : x ^ (pN - 1) % pN = 1 := power_one pN_gt root_p.1 root_p.2 h0 hx
end Go.Proofs.YtcgbgmbnagmohaaDoor
namespace Go.Proofs.YtcgbgmbnagmohaaDoor
set_option maxRecDepth 20000
theorem pow_rest (a : Int) : ∀ n : Nat, (a % pp) ^ n % pp = a ^ n % pp
 | 0 => by rw [Int.pow_zero, Int.pow_zero]
 | n + 1 => by rw [Int.pow_succ, Int.pow_succ, ← mulmodl, pow_rest a n, mulmod]
theorem pp_pN : pp = (pN : Int) := rfl
theorem fermat_int {X : Int} (h : X % pp ≠ 0) : X ^ (pN - 1) % pp = 1 := by
 obtain ⟨h0, h1⟩ := qca X
 rw [← pow_rest]
 obtain ⟨x, hx⟩ := Int.eq_ofNat_of_zero_le h0
 rw [hx] at h h1 ⊢
 rw [pp_pN] at h1 ⊢
 have h2 := fermat (x := x) (by omega) (by omega)
 have h3 : ((x ^ (pN - 1) % pN : Nat) : Int) = 1 := by rw [h2]; rfl
 rwa [Int.natCast_emod, Int.natCast_pow] at h3
theorem inv_step (X : Int) : X * (X ^ (pp - 2).toNat % pp) % pp = X ^ (pN - 1) % pp := by
 rw [mulmodr, Int.mul_comm, ← Int.pow_succ, show (pp - 2).toNat.succ = pN - 1 by decide +kernel]
theorem inv_one {X : Int} (h : X % pp ≠ 0) : X * (X ^ (pp - 2).toNat % pp) % pp = 1 := by rw [inv_step, fermat_int h]
end Go.Proofs.YtcgbgmbnagmohaaDoor
namespace Go.Proofs.YtcgbgmbnagmohaaDoor
set_option maxRecDepth 20000
def E (a b : Int) : Prop := a % pp = b % pp
theorem E.rfl' (a : Int) : E a a := rfl
theorem E.symm {a b : Int} (h : E a b) : E b a := Eq.symm h
theorem E.trans {a b c : Int} (h : E a b) (k : E b c) : E a c := Eq.trans h k
theorem E.rest (a : Int) : E (a % pp) a := Int.emod_emod_of_dvd _ (Int.dvd_refl _)
theorem E.mul {a b c d : Int} (h : E a b) (k : E c d) : E (a * c) (b * d) := by
 show a * c % pp = b * d % pp
 rw [← mulmod a c, ← mulmod b d, h, k]
theorem E.pow {a b : Int} (h : E a b) (n : Nat) : E (a ^ n) (b ^ n) := by
 show a ^ n % pp = b ^ n % pp
 rw [← pow_rest a, ← pow_rest b, h]
theorem E.neg {a b : Int} (h : E a b) : E (-a) (-b) := by
 have := E.mul (E.rfl' (-1)) h
 simpa using this
theorem E.of_eq {a b : Int} (h : a = b) : E a b := by rw [h]; exact rfl
theorem no_zero {a b : Int} (h : a * b % pp = 0) : a % pp = 0 ∨ b % pp = 0 := by
 have hd : (pN : Int) ∣ a * b := Int.dvd_of_emod_eq_zero h
 have hn : pN ∣ a.natAbs * b.natAbs := by rw [← Int.natAbs_mul]; exact Int.ofNat_dvd_left.1 hd
 rcases prP.mul hn with h1 | h1
 ·exact .inl (Int.emod_eq_zero_of_dvd (Int.ofNat_dvd_left.2 h1))
 ·exact .inr (Int.emod_eq_zero_of_dvd (Int.ofNat_dvd_left.2 h1))
theorem pow_zero_of {a : Int} : ∀ n : Nat, a ^ n % pp = 0 → a % pp = 0
 | 0, h => by rw [Int.pow_zero] at h; exact absurd h (by unfold pp; decide +kernel)
 | n + 1, h => by
  rw [Int.pow_succ] at h
  rcases no_zero h with h1 | h1
  ·exact pow_zero_of n h1
  ·exact h1
end Go.Proofs.YtcgbgmbnagmohaaDoor
