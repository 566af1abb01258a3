import Derived.Test.YtgioojahadlmhaaPu1
namespace Go.Proofs.Ytgioojahadlmhaa
open Go.RowKit
set_option maxRecDepth 20000
theorem gnL_cut {most : Int} : ∀ (t : List (BitVec 8)) (k m n q : Nat) (pre u : List (BitVec 8)), viF k m = t ++ u → u ≠ [] → m < 128 ^ (k + 1) → (gnL (pre ++ t) most (k + 1) pre.length n q).2.1 = 10
  | [], k, m, n, q, pre, u, _, _, _ => by rw [gnL, if_pos (by simp)]
  | x :: t, k, m, n, q, pre, u, he, hu, hm => by
    cases k with
    | zero =>
      rw [viF] at he
      have h2 := congrArg List.length he
      have h3 := List.length_pos_iff.2 hu
      simp only [List.length_cons, List.length_nil, List.cons_append, List.length_append] at h2
      omega
    | succ k =>
      rw [viF] at he
      by_cases h1 : m ≤ 127
      · rw [if_pos h1] at he
        have h2 := congrArg List.length he
        have h3 := List.length_pos_iff.2 hu
        simp only [List.length_cons, List.length_nil, List.cons_append, List.length_append] at h2
        omega
      · rw [if_neg h1] at he
        simp only [List.cons_append, List.cons.injEq] at he
        obtain ⟨hx, he⟩ := he
        have hb : x.toNat = m % 128 + 128 := by rw [← hx]; simp; omega
        have hd : m / 128 < 128 ^ (k + 1) := by rw [Nat.pow_succ] at hm; exact Nat.div_lt_of_lt_mul (by rwa [Nat.mul_comm] at hm)
        have ih := gnL_cut (most := most) t k (m / 128) (n + x.toNat % 128 * q) (q * 128) (pre ++ [x]) u he hu hd
        rw [List.append_assoc, List.length_append] at ih
        rw [gnL, if_neg (by simp), getD_at, if_neg (by omega)]
        exact ih
theorem cut_n (n most : Int) : Cut (fun b => nM b most) (viB n) := fun pre t u he hu => by
  have h := gnL_cut (most := most) t 5 (clN n) 0 1 pre u he hu (Nat.lt_of_le_of_lt (clN_le n) (by decide))
  simp only [nM, gn, if_pos]
  exact h
section
variable {α β : Type} {m1 : List (BitVec 8) → Nat × Int → (Nat × Int) × α} {k : α → List (BitVec 8) → Nat × Int → (Nat × Int) × β} {l1 l2 : List (BitVec 8)} {x1 : α}
def bindM (m1 : List (BitVec 8) → Nat × Int → (Nat × Int) × α) (k : α → List (BitVec 8) → Nat × Int → (Nat × Int) × β) (b : List (BitVec 8)) (s : Nat × Int) : (Nat × Int) × β := k (m1 b s).2 b (m1 b s).1
theorem Cut.bind (h1 : Cut m1 l1) (r1 : Rds m1 l1 x1) (h2 : Cut (k x1) l2) (s2 : ∀ x, Stay (k x)) : Cut (bindM m1 k) (l1 ++ l2) := fun pre t u he hu => by
  unfold bindM
  rcases List.append_eq_append_iff.1 he with ⟨a, ha, hb⟩ | ⟨a, ha, hb⟩
  · subst ha
    have e1 := r1 pre a
    have e2 := h2 (pre ++ l1) a u hb hu
    rw [List.length_append, List.append_assoc] at e2
    rw [e1]
    exact e2
  · by_cases h0 : a = []
    · subst h0
      rw [List.append_nil] at ha
      subst ha
      have e1 := r1 pre []
      rw [List.append_nil] at e1
      have e2 := h2 (pre ++ l1) [] l2 rfl (by rw [List.nil_append] at hb; rw [← hb]; exact hu)
      rw [List.length_append, List.append_nil] at e2
      rw [e1]
      exact e2
    · have e1 := h1 pre t a ha h0
      have h10 : (m1 (pre ++ t) (pre.length, 0)).1.2 ≠ 0 := by rw [e1]; decide
      have e2 := s2 (m1 (pre ++ t) (pre.length, 0)).2 (pre ++ t) (m1 (pre ++ t) (pre.length, 0)).1.1 _ h10
      rw [show (m1 (pre ++ t) (pre.length, 0)).1 = ((m1 (pre ++ t) (pre.length, 0)).1.1, (m1 (pre ++ t) (pre.length, 0)).1.2) from rfl, e2]
      exact e1
end
theorem tk_stay {m i n : Nat} {e : Int} (h : e ≠ 0) : (tkI m i e n, tkE m i e n) = (i, e) := by
  have e1 : tkE m i e n = e := by unfold tkE; rw [if_neg (fun h2 => h h2.1)]
  unfold tkI
  rw [e1, if_neg h]
def Num (n : Int) : Prop := 0 ≤ n ∧ n ≤ 1099511627776
structure MPk.Can (m : MPk) : Prop where
  id : Num m.id
  key : m.key.length = 32
structure MHd.Can (m : MHd) : Prop where
  r : m.r.length = 32
  prev : Num m.prev
  n : Num m.n
structure MEv.Can (m : MEv) : Prop where
  fr : Num m.fr
  dev : Num m.dev
  eph : m.eph.length = 32
  signed : Num m.signed
  one : -1 ≤ m.one ∧ m.one ≤ 1099511627775
  head : m.head.Can
  body : m.body.length ≤ 60000
structure MLs.Can (m : MLs) : Prop where
  acc : Num m.acc
  ver : Num m.ver
  ident : m.ident.length = 32
  devs : ∀ p ∈ m.devs, p.Can
  many : m.devs.length ≤ 60000
  sig : m.sig.length = 64
structure MBu.Can (m : MBu) : Prop where
  acc : Num m.acc
  dev : Num m.dev
  ident : m.ident.length = 32
  key : m.key.length = 32
  signed : m.signed.Can
  sig : m.sig.length = 64
  ones : ∀ p ∈ m.ones, p.Can
  many : m.ones.length ≤ 60000
structure MSlot.Can (m : MSlot) : Prop where
  dev : Num m.dev
  signed : m.signed.Can
  sig : m.sig.length = 64
  ones : ∀ p ∈ m.ones, p.Can
  many : m.ones.length ≤ 60000
  last : Num m.last
  mail : ∀ p ∈ m.mail, p.Can
  much : m.mail.length ≤ 60000
structure MRq.Can (m : MRq) : Prop where
  kind : 0 ≤ m.kind ∧ m.kind ≤ 255
  acc : Num m.acc
  dev : Num m.dev
  pin : m.pin.length ≤ 60000
  next : m.next.length ≤ 60000
  name : m.name.length ≤ 60000
  ls : m.ls.Can
  token : m.token.length = 32
  signed : m.signed.Can
  sig : m.sig.length = 64
  ones : ∀ p ∈ m.ones, p.Can
  many : m.ones.length ≤ 60000
  ver : Num m.ver
  items : ∀ p ∈ m.items, Num p.1 ∧ p.2.Can
  much : m.items.length ≤ 60000
structure MRp.Can (m : MRp) : Prop where
  err : 0 ≤ m.err ∧ m.err ≤ 255
  ls : m.ls.Can
  bu : m.bu.Can
  mail : ∀ p ∈ m.mail, p.Can
  much : m.mail.length ≤ 60000
structure MAc.Can (m : MAc) : Prop where
  id : Num m.id
  pin : m.pin.length ≤ 60000
  wrong : Num m.wrong
  till : Num m.till
  ls : m.ls.Can
  slots : ∀ p ∈ m.slots, p.Can
  many : m.slots.length ≤ 60000
  tokens : ∀ p ∈ m.tokens, p.length = 32
  much : m.tokens.length ≤ 60000
theorem oneN_can {n : Int} (h : -1 ≤ n ∧ n ≤ 1099511627775) : oneN n = n + 1 := by unfold oneN; split <;> omega
end Go.Proofs.Ytgioojahadlmhaa
