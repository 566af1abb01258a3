import Derived.Test.YtcgbgmbnagmohaaPrC
import Derived.Test.YtcgbgmbnagmohaaPw6
namespace Go.Proofs.Ytcgbgmbnagmohaa
open Go.RowKit
set_option maxRecDepth 20000
theorem getD_at (pre : List (BitVec 8)) (x : BitVec 8) (post : List (BitVec 8)) : (pre ++ x :: post).getD pre.length 0 = x := by simp
theorem gnL_viF {most : Int} : ∀ (k m n t : Nat) (pre post : List (BitVec 8)), m < 128 ^ (k + 1) → (0 < m ∨ k = 5) → ((n + m * t : Nat) : Int) ≤ most → gnL (pre ++ (viF k m ++ post)) most (k + 1) pre.length n t = (pre.length + (viF k m).length, 0, ((n + m * t : Nat) : Int))
  | 0, m, n, t, pre, post, hm, h0, hN => by
    have hm' : m < 128 := by simpa using hm
    have hb : (BitVec.ofNat 8 m).toNat = m := by simp; omega
    rw [viF, gnL, if_neg (by simp), show pre ++ ([BitVec.ofNat 8 m] ++ post) = pre ++ BitVec.ofNat 8 m :: post from rfl, getD_at, hb, if_pos hm', Nat.mod_eq_of_lt hm', if_neg (fun h => h.elim (fun h => by omega) (fun h => by omega))]
    rfl
  | k + 1, m, n, t, pre, post, hm, h0, hN => by
    rw [viF]
    by_cases h1 : m ≤ 127
    · have hb : (BitVec.ofNat 8 m).toNat = m := by simp; omega
      rw [if_pos h1, gnL, if_neg (by simp), show pre ++ ([BitVec.ofNat 8 m] ++ post) = pre ++ BitVec.ofNat 8 m :: post from rfl, getD_at, hb, if_pos (by omega), Nat.mod_eq_of_lt (by omega), if_neg (fun h => h.elim (fun h => by omega) (fun h => by omega))]
      rfl
    · have hb : (BitVec.ofNat 8 (m % 128 + 128)).toNat = m % 128 + 128 := by simp; omega
      rw [if_neg h1, gnL, if_neg (by simp), show pre ++ (BitVec.ofNat 8 (m % 128 + 128) :: viF k (m / 128) ++ post) = pre ++ BitVec.ofNat 8 (m % 128 + 128) :: (viF k (m / 128) ++ post) from rfl, getD_at, hb, if_neg (by omega)]
      have hd : m / 128 < 128 ^ (k + 1) := by rw [Nat.pow_succ] at hm; exact Nat.div_lt_of_lt_mul (by rwa [Nat.mul_comm] at hm)
      have hs : n + (m % 128 + 128) % 128 * t + m / 128 * (t * 128) = n + m * t := by
        rw [Nat.add_mod_right, Nat.mod_mod, ← Nat.mul_assoc, Nat.mul_right_comm, Nat.add_assoc, ← Nat.add_mul]
        congr 2
        omega
      have ih := gnL_viF k (m / 128) (n + (m % 128 + 128) % 128 * t) (t * 128) (pre ++ [BitVec.ofNat 8 (m % 128 + 128)]) post hd (.inl (by omega)) (by rw [hs]; exact hN)
      rw [hs, List.append_assoc, List.length_append] at ih
      rw [show (pre ++ BitVec.ofNat 8 (m % 128 + 128) :: (viF k (m / 128) ++ post)) = pre ++ ([BitVec.ofNat 8 (m % 128 + 128)] ++ (viF k (m / 128) ++ post)) from rfl]
      rw [show pre.length + 1 = pre.length + [BitVec.ofNat 8 (m % 128 + 128)].length from rfl, ih]
      simp only [List.length_cons, List.length_nil]
      congr 1
      omega
def Rds {α : Type} (m : List (BitVec 8) → Nat × Int → (Nat × Int) × α) (l : List (BitVec 8)) (x : α) : Prop := ∀ pre post : List (BitVec 8), m (pre ++ (l ++ post)) (pre.length, 0) = ((pre.length + l.length, 0), x)
def Cut {α : Type} (m : List (BitVec 8) → Nat × Int → (Nat × Int) × α) (l : List (BitVec 8)) : Prop := ∀ (pre t u : List (BitVec 8)), l = t ++ u → u ≠ [] → (m (pre ++ t) (pre.length, 0)).1.2 = 10
def Stay {α : Type} (m : List (BitVec 8) → Nat × Int → (Nat × Int) × α) : Prop := ∀ (b : List (BitVec 8)) (i : Nat) (e : Int), e ≠ 0 → (m b (i, e)).1 = (i, e)
theorem rds_n {n most : Int} (h0 : 0 ≤ n) (h1 : n ≤ most) (h2 : most ≤ 1099511627776) : Rds (fun b => nM b most) (viB n) n := fun pre post => by
  have hc : ((clN n : Nat) : Int) = n := by unfold clN; omega
  have hl := clN_le n
  have h := gnL_viF (most := most) 5 (clN n) 0 1 pre post (Nat.lt_of_le_of_lt hl (by decide)) (.inr rfl) (by rw [Nat.zero_add, Nat.mul_one, hc]; exact h1)
  rw [Nat.zero_add, Nat.mul_one, hc] at h
  simp only [nM, gn, if_pos]
  unfold viB
  rw [h]
theorem tk_all {m i n : Nat} (h : i + n ≤ m) : tkE m i 0 n = 0 := by
  unfold tkE
  rw [if_neg (fun h2 => by omega)]
theorem rds_k {n : Nat} {k : List (BitVec 8)} (hk : k.length = n) : Rds (kM n) k k := fun pre post => by
  have h := tk_all (m := (pre ++ (k ++ post)).length) (i := pre.length) (n := n) (by simp only [List.length_append]; omega)
  simp only [kM, tkI, gkX, h, if_pos]
  rw [List.drop_left, List.take_append_of_le_length (by omega), List.take_of_length_le (by omega), hk]
theorem rds_tr (b : Bool) : Rds trM (trB b) b := fun pre post => by
  have h := tk_all (m := (pre ++ (trB b ++ post)).length) (i := pre.length) (n := 1) (by simp only [List.length_append, trB, List.length_cons, List.length_nil]; omega)
  simp only [trM, h, if_pos]
  rw [show pre ++ (trB b ++ post) = pre ++ (if b then 1 else 0) :: post from rfl, getD_at]
  cases b <;> rfl
theorem qbs {l : List (BitVec 8)} (hl : l.length ≤ 60000) : Rds byM (txB l) l := fun pre post => by
  have h1 := rds_n (n := (l.length : Int)) (most := 60000) (by omega) (by omega) (by omega) pre (l ++ post)
  have h2 := tk_all (m := (pre ++ (viB (l.length : Int) ++ (l ++ post))).length) (i := pre.length + (viB (l.length : Int)).length) (n := l.length) (by simp only [List.length_append]; omega)
  have e : pre ++ (txB l ++ post) = pre ++ (viB (l.length : Int) ++ (l ++ post)) := by unfold txB; rw [List.append_assoc]
  rw [e]
  simp only [byM, h1, Int.toNat_natCast, tkI, h2, if_pos]
  rw [show pre ++ (viB (l.length : Int) ++ (l ++ post)) = (pre ++ viB (l.length : Int)) ++ (l ++ post) by rw [List.append_assoc], show pre.length + (viB (l.length : Int)).length = (pre ++ viB (l.length : Int)).length by rw [List.length_append], List.drop_left, List.take_left]
  unfold txB
  simp only [List.length_append, Nat.add_assoc]
section
variable {α β γ : Type} {m1 : List (BitVec 8) → Nat × Int → (Nat × Int) × α} {m2 : List (BitVec 8) → Nat × Int → (Nat × Int) × β} {l1 l2 : List (BitVec 8)} {x1 : α} {x2 : β}
def seqM (m1 : List (BitVec 8) → Nat × Int → (Nat × Int) × α) (m2 : List (BitVec 8) → Nat × Int → (Nat × Int) × β) (f : α → β → γ) (b : List (BitVec 8)) (s : Nat × Int) : (Nat × Int) × γ := ((m2 b (m1 b s).1).1, f (m1 b s).2 (m2 b (m1 b s).1).2)
theorem Rds.seq (h1 : Rds m1 l1 x1) (h2 : Rds m2 l2 x2) (f : α → β → γ) : Rds (seqM m1 m2 f) (l1 ++ l2) (f x1 x2) := fun pre post => by
  have e1 := h1 pre (l2 ++ post)
  have e2 := h2 (pre ++ l1) post
  rw [List.length_append, List.append_assoc] at e2
  unfold seqM
  rw [List.append_assoc, e1, e2, List.length_append, Nat.add_assoc]
theorem Cut.seq (h1 : Cut m1 l1) (r1 : Rds m1 l1 x1) (h2 : Cut m2 l2) (s2 : Stay m2) (f : α → β → γ) : Cut (seqM m1 m2 f) (l1 ++ l2) := fun pre t u he hu => by
  unfold seqM
  rcases List.append_eq_append_iff.1 he with ⟨a, ha, hb⟩ | ⟨a, ha, hb⟩
  · -- t = l1 ++ a, l2 = a ++ u
    subst ha
    have e1 := r1 pre a
    have e2 := h2 (pre ++ l1) a u hb hu
    rw [List.length_append, List.append_assoc] at e2
    rw [e1]
    exact e2
  · -- l1 = t ++ a, u = a ++ l2
    by_cases h0 : a = []
    · subst h0
      rw [List.append_nil] at ha
      subst ha
      have e1 := r1 pre []
      rw [List.append_nil] at e1
      have e2 := h2 (pre ++ l1) [] l2 rfl (by rw [List.nil_append] at hb; rw [← hb]; exact hu)
      rw [List.length_append, List.append_nil] at e2
      rw [e1]
      exact e2
    · have e1 := h1 pre t a ha h0
      have h10 : (m1 (pre ++ t) (pre.length, 0)).1.2 ≠ 0 := by rw [e1]; decide
      have e2 := s2 (pre ++ t) (m1 (pre ++ t) (pre.length, 0)).1.1 _ h10
      rw [show (m1 (pre ++ t) (pre.length, 0)).1 = ((m1 (pre ++ t) (pre.length, 0)).1.1, (m1 (pre ++ t) (pre.length, 0)).1.2) from rfl, e2]
      exact e1
theorem Rds.as {m m' : List (BitVec 8) → Nat × Int → (Nat × Int) × α} {l l' : List (BitVec 8)} {x x' : α} (h : Rds m l x) (hm : ∀ b s, m' b s = m b s) (hl : l' = l) (hx : x' = x) : Rds m' l' x' := fun pre post => by rw [hl, hx, hm]; exact h pre post
theorem Cut.as {m m' : List (BitVec 8) → Nat × Int → (Nat × Int) × α} {l l' : List (BitVec 8)} (h : Cut m l) (hm : ∀ b s, m' b s = m b s) (hl : l' = l) : Cut m' l' := fun pre t u he hu => by rw [hm]; rw [hl] at he; exact h pre t u he hu
end
theorem rds_rows {α : Type} {g : List (BitVec 8) → Nat × Int → (Nat × Int) × α} {enc : α → List (BitVec 8)} : ∀ (ms : List α), (∀ m ∈ ms, Rds g (enc m) m) → Rds (fun b s => rowsM (g b) ms.length s) (ms.flatMap enc) ms
  | [], _ => fun pre post => by simp [qcq]
  | m :: ms, h => fun pre post => by
    have e1 := h m (List.mem_cons_self ..) pre (ms.flatMap enc ++ post)
    have e2 := rds_rows ms (fun x hx => h x (List.mem_cons_of_mem _ hx)) (pre ++ enc m) post
    rw [List.flatMap_cons, List.append_assoc, List.length_cons]
    show rowsM _ _ _ = _
    rw [qck _ _ rfl, e1]
    simp only [List.append_assoc, List.length_append] at e2 ⊢
    rw [e2, Nat.add_assoc]
theorem rds_al {α : Type} {g : List (BitVec 8) → Nat × Int → (Nat × Int) × α} {enc : α → List (BitVec 8)} {ms : List α} (hl : ms.length ≤ 60000) (h : ∀ m ∈ ms, Rds g (enc m) m) : Rds (fun b s => rowsM (g b) (nM b 60000 s).2.toNat (nM b 60000 s).1) (alB enc ms) ms := fun pre post => by
  have e1 := rds_n (n := (ms.length : Int)) (most := 60000) (by omega) (by omega) (by omega) pre (ms.flatMap enc ++ post)
  simp only at e1
  have e2 := rds_rows ms h (pre ++ viB (ms.length : Int)) post
  unfold alB
  rw [List.append_assoc]
  show rowsM _ _ _ = _
  rw [e1, Int.toNat_natCast]
  simp only [List.append_assoc, List.length_append] at e2 ⊢
  rw [e2, Nat.add_assoc]
end Go.Proofs.Ytcgbgmbnagmohaa
