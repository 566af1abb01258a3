import Derived.KernelRfl
namespace Go.Proofs.YtcgbgmbnagmohaaDoor
set_option maxRecDepth 20000
def dv : List Nat → Nat
 | [] => 0
 | a :: l => a + 256 * dv l
def Dg (l : List Nat) : Prop := ∀ a ∈ l, a < 256
theorem dv_append : ∀ a b : List Nat, dv (a ++ b) = dv a + 256 ^ a.length * dv b
 | [], b => by simp [dv]
 | x :: a, b => by rw [List.cons_append, dv, dv, dv_append a b, List.length_cons, Nat.pow_succ, Nat.mul_add, ← Nat.mul_assoc, Nat.mul_comm 256 (256 ^ a.length)]; omega
theorem dv_lt : ∀ l : List Nat, Dg l → dv l < 256 ^ l.length
 | [], _ => by simp [dv]
 | a :: l, h => by
  have h1 := dv_lt l fun x hx => h x (by simp [hx])
  have h2 := h a (by simp)
  rw [dv, List.length_cons, Nat.pow_succ]
  omega
theorem dv_inj : ∀ l m : List Nat, Dg l → Dg m → l.length = m.length → dv l = dv m → l = m
 | [], [], _, _, _, _ => rfl
 | [], _ :: _, _, _, h, _ => by cases h
 | _ :: _, [], _, _, h, _ => by cases h
 | a :: l, b :: m, hl, hm, h, e => by
  have h1 := hl a (by simp)
  have h2 := hm b (by simp)
  rw [dv, dv] at e
  have e1 : a = b := by omega
  have e2 : dv l = dv m := by omega
  rw [e1, dv_inj l m (fun x hx => hl x (by simp [hx])) (fun x hx => hm x (by simp [hx])) (by simpa using h) e2]
theorem dv_split (l : List Nat) (i : Nat) (h : i ≤ l.length) : dv l = dv (l.take i) + 256 ^ i * dv (l.drop i) := by
 have := dv_append (l.take i) (l.drop i)
 rw [List.take_append_drop, List.length_take, Nat.min_eq_left h] at this
 exact this
theorem dv_take (l : List Nat) (i : Nat) (h : i < l.length) : dv (l.take (i + 1)) = dv (l.take i) + 256 ^ i * l.getD i 0 := by
 rw [List.take_succ_eq_append_getElem h, dv_append, List.length_take, Nat.min_eq_left (by omega)]
 simp [dv, h]
theorem Dg.take {l : List Nat} (h : Dg l) (i : Nat) : Dg (l.take i) := fun a ha => h a (List.mem_of_mem_take ha)
theorem Dg.get {l : List Nat} (h : Dg l) (i : Nat) : l.getD i 0 < 256 := by
 by_cases hi : i < l.length
 ·rw [List.getD_eq_getElem?_getD, List.getElem?_eq_getElem hi]
  exact h _ (List.getElem_mem hi)
 ·rw [List.getD_eq_getElem?_getD, List.getElem?_eq_none (by omega)]
  decide
theorem dv_set : ∀ (l : List Nat) (i v : Nat), i < l.length → dv (l.set i v) + 256 ^ i * l.getD i 0 = dv l + 256 ^ i * v
 | [], i, v, h => by cases h
 | a :: l, 0, v, _ => by simp [dv]; omega
 | a :: l, i + 1, v, h => by
  have ih := dv_set l i v (by simpa using h)
  rw [List.set_cons_succ, dv, dv, Nat.pow_succ, List.getD_cons_succ]
  have e1 : 256 ^ i * 256 * l.getD i 0 = 256 * (256 ^ i * l.getD i 0) := by rw [Nat.mul_comm (256 ^ i) 256, Nat.mul_assoc]
  have e2 : 256 ^ i * 256 * v = 256 * (256 ^ i * v) := by rw [Nat.mul_comm (256 ^ i) 256, Nat.mul_assoc]
  rw [e1, e2]
  omega
theorem Dg.set {l : List Nat} (h : Dg l) {i v : Nat} (hv : v < 256) : Dg (l.set i v) := fun a ha => by
 rcases List.mem_or_eq_of_mem_set ha with h1 | h1
 ·exact h a h1
 ·rw [h1]; exact hv
def ell : Nat := 7237005577332262213973186563042994240857116359379907606001950938285454250989
def skD (n : Nat) : Nat → List Nat
 | 0 => []
 | k + 1 => n % 256 :: skD (n / 256) k
theorem skD_len (n : Nat) : ∀ k, (skD n k).length = k := fun k => by
 induction k generalizing n with
 | zero => rfl
 | succ k ih => rw [skD, List.length_cons, ih]
theorem skD_dg (n : Nat) : ∀ k, Dg (skD n k) := fun k => by
 induction k generalizing n with
 | zero => intro a ha; cases ha
 | succ k ih =>
  intro a ha
  rw [skD] at ha
  rcases List.mem_cons.1 ha with h | h
  ·rw [h]; omega
  ·exact ih _ a h
theorem skD_dv (n : Nat) : ∀ k, dv (skD n k) = n % 256 ^ k := fun k => by
 induction k generalizing n with
 | zero => rw [skD, dv, Nat.pow_zero, Nat.mod_one]
 | succ k ih =>
  rw [skD, dv, ih, Nat.pow_succ, Nat.mul_comm (256 ^ k) 256, Nat.mod_mul]
theorem left_step (n i : Nat) {x y : Nat} (hx : x = n / 2 ^ (i + 1) % ell) (hy : y = 2 * x + n / 2 ^ i % 2) : (if y < ell then y else y - ell) = n / 2 ^ i % ell := by
 have e : n / 2 ^ i = 2 * (n / 2 ^ (i + 1)) + n / 2 ^ i % 2 := by
  rw [Nat.pow_succ, ← Nat.div_div_eq_div_mul]; omega
 generalize n / 2 ^ (i + 1) = q at *
 generalize n / 2 ^ i = r at *
 have hb : r % 2 < 2 := Nat.mod_lt _ (by omega)
 generalize r % 2 = b at *
 subst e
 have hlt : x < ell := by rw [hx]; exact Nat.mod_lt _ (by unfold ell; omega)
 have e2 : (2 * q + b) % ell = y % ell := by
  have e4 := Nat.div_add_mod q ell
  have e3 : 2 * q + b = 2 * (q % ell) + b + ell * (2 * (q / ell)) := by rw [Nat.mul_left_comm]; omega
  rw [hy, hx, e3, Nat.add_mul_mod_self_left]
 rw [e2]
 split
 ·rename_i h; rw [Nat.mod_eq_of_lt h]
 ·rename_i h
  rw [Nat.mod_eq_sub_mod (by omega), Nat.mod_eq_of_lt (by unfold ell at *; omega)]
def leB : List (BitVec 8) → Nat
 | [] => 0
 | b :: l => b.toNat + 256 * leB l
theorem leB_lt : ∀ l : List (BitVec 8), leB l < 256 ^ l.length
 | [] => by simp [leB]
 | b :: l => by
  have h := leB_lt l
  have hb := b.isLt
  rw [leB, List.length_cons, Nat.pow_succ]
  omega
theorem leB_dv : ∀ l : List (BitVec 8), leB l = dv (l.map (·.toNat))
 | [] => rfl
 | b :: l => by rw [leB, List.map_cons, dv, leB_dv l]
theorem dg_bytes (l : List (BitVec 8)) : Dg (l.map (·.toNat)) := fun a ha => by
 rw [List.mem_map] at ha
 obtain ⟨b, _, rfl⟩ := ha
 exact b.isLt
def sk (n : Nat) : List (BitVec 8) := (skD n 32).map (BitVec.ofNat 8)
theorem sk_len (n : Nat) : (sk n).length = 32 := by unfold sk; rw [List.length_map, skD_len]
theorem sk_nat (n : Nat) : (sk n).map (·.toNat) = skD n 32 := by
 unfold sk
 rw [List.map_map]
 have h := skD_dg n 32
 conv => rhs; rw [← List.map_id (skD n 32)]
 refine List.map_congr_left fun a ha => ?_
 show (BitVec.ofNat 8 a).toNat = a
 rw [BitVec.toNat_ofNat, Nat.mod_eq_of_lt (h a ha)]
theorem leB_sk (n : Nat) : leB (sk n) = n % 256 ^ 32 := by rw [leB_dv, sk_nat, skD_dv]
theorem map_ofNat_toNat (l : List (BitVec 8)) : (l.map (·.toNat)).map (BitVec.ofNat 8) = l := by
 rw [List.map_map]
 conv => rhs; rw [← List.map_id l]
 exact List.map_congr_left fun a _ => by show BitVec.ofNat 8 a.toNat = a; simp
theorem leB_inj {l m : List (BitVec 8)} (h : l.length = m.length) (e : leB l = leB m) : l = m := by
 rw [leB_dv, leB_dv] at e
 have := dv_inj _ _ (dg_bytes l) (dg_bytes m) (by rw [List.length_map, List.length_map, h]) e
 rw [← map_ofNat_toNat l, ← map_ofNat_toNat m, this]
theorem ell_lt : ell < 256 ^ 32 := by decide +kernel
theorem ell_pos : 0 < ell := by unfold ell; omega
structure DbI (l : List Nat) (bit k c : Nat) (l' : List Nat) : Prop where
 len : l'.length = 33
 dg : Dg l'
 c1 : c ≤ 1
 eq : dv (l'.take k) + 256 ^ k * c = 2 * dv (l.take k) + bit
 rest : l'.drop k = l.drop k
theorem DbI.get {l l' : List Nat} {bit k c : Nat} (h : DbI l bit k c l') : l'.getD k 0 = l.getD k 0 := by
 have e := congrArg (fun x : List Nat => x[0]?) h.rest
 simp only [List.getElem?_drop, Nat.add_zero] at e
 rw [List.getD_eq_getElem?_getD, List.getD_eq_getElem?_getD, e]
theorem DbI.step {l l' : List Nat} {bit k c : Nat} (h : DbI l bit k c l') (hl : l.length = 33) (hk : k < 33) : DbI l bit (k + 1) ((c + 2 * l'.getD k 0) / 256) (l'.set k ((c + 2 * l'.getD k 0) % 256)) := by
 have h1 := h.c1
 have h2 := h.dg.get k
 have hlen := h.len
 have hg := h.get
 refine ⟨by rw [List.length_set, h.len], h.dg.set (Nat.mod_lt _ (by omega)), by omega, ?_, ?_⟩
 ·have e1 : (l'.set k ((c + 2 * l'.getD k 0) % 256)).getD k 0 = (c + 2 * l'.getD k 0) % 256 := by
   rw [List.getD_eq_getElem?_getD, List.getElem?_set_self (by omega)]; rfl
  rw [dv_take _ k (by rw [List.length_set]; omega), e1, List.take_set_of_le (Nat.le_refl k), dv_take l k (by omega), ← hg, Nat.pow_succ]
  have e := h.eq
  generalize l'.getD k 0 = x at *
  generalize 256 ^ k = p at *
  have e2 : p * (256 * ((c + 2 * x) / 256) + (c + 2 * x) % 256) = p * (c + 2 * x) := by rw [Nat.div_add_mod]
  rw [Nat.mul_add, Nat.mul_add, ← Nat.mul_assoc, Nat.mul_left_comm p 2 x] at e2
  omega
 ·rw [List.drop_set_of_lt (by omega)]
  have := congrArg (List.drop 1) h.rest
  rwa [List.drop_drop, List.drop_drop] at this
theorem DbI.done {l l' : List Nat} {bit c : Nat} (h : DbI l bit 33 c l') (hl : l.length = 33) (hb : bit ≤ 1) (hlt : dv l < ell) : dv l' = 2 * dv l + bit := by
 have e := h.eq
 have h1 := h.len
 rw [List.take_of_length_le (by omega), List.take_of_length_le (by omega)] at e
 have h2 : 2 * ell + 1 < 256 ^ 33 := by decide +kernel
 have h3 := h.c1
 generalize 256 ^ 33 = p at *
 rcases (show c = 0 ∨ c = 1 by omega) with rfl | rfl <;> omega
theorem DbI.start {l : List Nat} (hl : l.length = 33) (hd : Dg l) {bit : Nat} (hb : bit ≤ 1) : DbI l bit 0 bit l := ⟨hl, hd, hb, by simp [dv], rfl⟩
end Go.Proofs.YtcgbgmbnagmohaaDoor
