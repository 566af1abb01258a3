import Derived.Test.YtcgbgmbnagmohaaPu1
namespace Go.Proofs.Ytcgbgmbnagmohaa
open Go.RowKit
set_option maxRecDepth 20000
theorem gnL_cut {most : Int} : ∀ (t : List (BitVec 8)) (k m n q : Nat) (pre u : List (BitVec 8)), viF k m = t ++ u → u ≠ [] → m < 128 ^ (k + 1) → (gnL (pre ++ t) most (k + 1) pre.length n q).2.1 = 10
  | [], k, m, n, q, pre, u, _, _, _ => by rw [gnL, if_pos (by simp)]
  | x :: t, k, m, n, q, pre, u, he, hu, hm => by
    cases k with
    | zero =>
      rw [viF] at he
      have h2 := congrArg List.length he
      have h3 := List.length_pos_iff.2 hu
      simp only [List.length_cons, List.length_nil, List.cons_append, List.length_append] at h2
      omega
    | succ k =>
      rw [viF] at he
      by_cases h1 : m ≤ 127
      · rw [if_pos h1] at he
        have h2 := congrArg List.length he
        have h3 := List.length_pos_iff.2 hu
        simp only [List.length_cons, List.length_nil, List.cons_append, List.length_append] at h2
        omega
      · rw [if_neg h1] at he
        simp only [List.cons_append, List.cons.injEq] at he
        obtain ⟨hx, he⟩ := he
        have hb : x.toNat = m % 128 + 128 := by rw [← hx]; simp; omega
        have hd : m / 128 < 128 ^ (k + 1) := by rw [Nat.pow_succ] at hm; exact Nat.div_lt_of_lt_mul (by rwa [Nat.mul_comm] at hm)
        have ih := gnL_cut (most := most) t k (m / 128) (n + x.toNat % 128 * q) (q * 128) (pre ++ [x]) u he hu hd
        rw [List.append_assoc, List.length_append] at ih
        rw [gnL, if_neg (by simp), getD_at, if_neg (by omega)]
        exact ih
theorem cut_n (n most : Int) : Cut (fun b => nM b most) (viB n) := fun pre t u he hu => by
  have h := gnL_cut (most := most) t 5 (clN n) 0 1 pre u he hu (Nat.lt_of_le_of_lt (clN_le n) (by decide))
  simp only [nM, gn, if_pos]
  exact h
theorem tk_short {m i n : Nat} (h : m < i + n) : tkE m i 0 n = 10 := by
  unfold tkE
  rw [if_pos ⟨rfl, by omega⟩]
theorem cut_k {n : Nat} {k : List (BitVec 8)} (hk : k.length = n) : Cut (kM n) k := fun pre t u he hu => by
  have h2 := congrArg List.length he
  have h3 := List.length_pos_iff.2 hu
  rw [List.length_append] at h2
  exact tk_short (by rw [List.length_append]; omega)
theorem cut_tr (b : Bool) : Cut trM (trB b) := fun pre t u he hu => by
  have h2 := congrArg List.length he
  have h3 := List.length_pos_iff.2 hu
  rw [List.length_append] at h2
  have h4 : (trB b).length = 1 := rfl
  have h := tk_short (m := (pre ++ t).length) (i := pre.length) (n := 1) (by rw [List.length_append]; omega)
  simp only [trM, h, if_neg nz10]
section
variable {α β : Type} {m1 : List (BitVec 8) → Nat × Int → (Nat × Int) × α} {k : α → List (BitVec 8) → Nat × Int → (Nat × Int) × β} {l1 l2 : List (BitVec 8)} {x1 : α}
def bindM (m1 : List (BitVec 8) → Nat × Int → (Nat × Int) × α) (k : α → List (BitVec 8) → Nat × Int → (Nat × Int) × β) (b : List (BitVec 8)) (s : Nat × Int) : (Nat × Int) × β := k (m1 b s).2 b (m1 b s).1
theorem Cut.bind (h1 : Cut m1 l1) (r1 : Rds m1 l1 x1) (h2 : Cut (k x1) l2) (s2 : ∀ x, Stay (k x)) : Cut (bindM m1 k) (l1 ++ l2) := fun pre t u he hu => by
  unfold bindM
  rcases List.append_eq_append_iff.1 he with ⟨a, ha, hb⟩ | ⟨a, ha, hb⟩
  · subst ha
    have e1 := r1 pre a
    have e2 := h2 (pre ++ l1) a u hb hu
    rw [List.length_append, List.append_assoc] at e2
    rw [e1]
    exact e2
  · by_cases h0 : a = []
    · subst h0
      rw [List.append_nil] at ha
      subst ha
      have e1 := r1 pre []
      rw [List.append_nil] at e1
      have e2 := h2 (pre ++ l1) [] l2 rfl (by rw [List.nil_append] at hb; rw [← hb]; exact hu)
      rw [List.length_append, List.append_nil] at e2
      rw [e1]
      exact e2
    · have e1 := h1 pre t a ha h0
      have h10 : (m1 (pre ++ t) (pre.length, 0)).1.2 ≠ 0 := by rw [e1]; decide
      have e2 := s2 (m1 (pre ++ t) (pre.length, 0)).2 (pre ++ t) (m1 (pre ++ t) (pre.length, 0)).1.1 _ h10
      rw [show (m1 (pre ++ t) (pre.length, 0)).1 = ((m1 (pre ++ t) (pre.length, 0)).1.1, (m1 (pre ++ t) (pre.length, 0)).1.2) from rfl, e2]
      exact e1
end
theorem tk_stay {m i n : Nat} {e : Int} (h : e ≠ 0) : (tkI m i e n, tkE m i e n) = (i, e) := by
  have e1 : tkE m i e n = e := by unfold tkE; rw [if_neg (fun h2 => h h2.1)]
  unfold tkI
  rw [e1, if_neg h]
theorem cut_by {l : List (BitVec 8)} (hl : l.length ≤ 60000) : Cut byM (txB l) := by
  have h : Cut (bindM (fun b => nM b 60000) (fun N b s => ((tkI b.length s.1 s.2 N.toNat, tkE b.length s.1 s.2 N.toNat), if tkE b.length s.1 s.2 N.toNat = 0 then (b.drop s.1).take N.toNat else []))) (viB (l.length : Int) ++ l) :=
    (cut_n _ _).bind (rds_n (n := (l.length : Int)) (by omega) (by omega) (by omega)) (fun pre t u he hu => by
      have h2 := congrArg List.length he
      have h3 := List.length_pos_iff.2 hu
      rw [List.length_append] at h2
      exact tk_short (by rw [List.length_append, Int.toNat_natCast]; omega)) fun x b i e h => tk_stay h
  exact h.as (fun _ _ => rfl) rfl
theorem cut_rows {α : Type} {g : List (BitVec 8) → Nat × Int → (Nat × Int) × α} {enc : α → List (BitVec 8)} : ∀ (ms : List α), (∀ m ∈ ms, Rds g (enc m) m) → (∀ m ∈ ms, Cut g (enc m)) → Cut (fun b s => rowsM (g b) ms.length s) (ms.flatMap enc)
  | [], _, _ => fun pre t u he hu => by
    have h2 := congrArg List.length he
    have h3 := List.length_pos_iff.2 hu
    simp only [List.flatMap_nil, List.length_nil, List.length_append] at h2
    omega
  | m :: ms, h, hc => fun pre t u he hu => by
    have h1 := (hc m (List.mem_cons_self ..)).seq (h m (List.mem_cons_self ..)) (cut_rows ms (fun x hx => h x (List.mem_cons_of_mem _ hx)) fun x hx => hc x (List.mem_cons_of_mem _ hx)) (fun b i e h => by show (rowsM _ _ (i, e)).1 = _; rw [qbr _ _ h]) (fun a l => a :: l)
    have h2 := h1 pre t u (by rw [List.flatMap_cons] at he; exact he) hu
    show (rowsM _ _ _).1.2 = 10
    rw [List.length_cons, qck _ _ rfl]
    exact h2
theorem cut_al {α : Type} {g : List (BitVec 8) → Nat × Int → (Nat × Int) × α} {enc : α → List (BitVec 8)} {ms : List α} (hl : ms.length ≤ 60000) (h : ∀ m ∈ ms, Rds g (enc m) m) (hc : ∀ m ∈ ms, Cut g (enc m)) : Cut (fun b s => rowsM (g b) (nM b 60000 s).2.toNat (nM b 60000 s).1) (alB enc ms) := by
  have e : Cut (bindM (fun b => nM b 60000) (fun N b s => rowsM (g b) N.toNat s)) (viB (ms.length : Int) ++ ms.flatMap enc) :=
    (cut_n _ _).bind (rds_n (n := (ms.length : Int)) (by omega) (by omega) (by omega)) (by rw [Int.toNat_natCast]; exact cut_rows ms h hc) fun x b i e h => by show (rowsM _ _ (i, e)).1 = _; rw [qbr _ _ h]
  exact e.as (fun _ _ => rfl) rfl
def Num (n : Int) : Prop := 0 ≤ n ∧ n ≤ 1099511627776
theorem rds_N {n : Int} (h : Num n) : Rds (fun b => nM b 1099511627776) (viB n) n := rds_n h.1 h.2 (by omega)
structure MPk.Can (m : MPk) : Prop where
  id : Num m.id
  key : m.key.length = 32
structure MHd.Can (m : MHd) : Prop where
  r : m.r.length = 32
  prev : Num m.prev
  n : Num m.n
structure MEv.Can (m : MEv) : Prop where
  fr : Num m.fr
  dev : Num m.dev
  eph : m.eph.length = 32
  signed : Num m.signed
  one : -1 ≤ m.one ∧ m.one ≤ 1099511627775
  head : m.head.Can
  body : m.body.length ≤ 60000
structure MLs.Can (m : MLs) : Prop where
  acc : Num m.acc
  ver : Num m.ver
  ident : m.ident.length = 32
  devs : ∀ p ∈ m.devs, p.Can
  many : m.devs.length ≤ 60000
  sig : m.sig.length = 64
structure MBu.Can (m : MBu) : Prop where
  acc : Num m.acc
  dev : Num m.dev
  ident : m.ident.length = 32
  key : m.key.length = 32
  signed : m.signed.Can
  sig : m.sig.length = 64
  ones : ∀ p ∈ m.ones, p.Can
  many : m.ones.length ≤ 60000
structure MSlot.Can (m : MSlot) : Prop where
  dev : Num m.dev
  signed : m.signed.Can
  sig : m.sig.length = 64
  ones : ∀ p ∈ m.ones, p.Can
  many : m.ones.length ≤ 60000
  last : Num m.last
  mail : ∀ p ∈ m.mail, p.Can
  much : m.mail.length ≤ 60000
structure MRq.Can (m : MRq) : Prop where
  kind : 0 ≤ m.kind ∧ m.kind ≤ 255
  acc : Num m.acc
  dev : Num m.dev
  pin : m.pin.length ≤ 60000
  next : m.next.length ≤ 60000
  name : m.name.length ≤ 60000
  ls : m.ls.Can
  token : m.token.length = 32
  signed : m.signed.Can
  sig : m.sig.length = 64
  ones : ∀ p ∈ m.ones, p.Can
  many : m.ones.length ≤ 60000
  ver : Num m.ver
  items : ∀ p ∈ m.items, Num p.1 ∧ p.2.Can
  much : m.items.length ≤ 60000
structure MRp.Can (m : MRp) : Prop where
  err : 0 ≤ m.err ∧ m.err ≤ 255
  ls : m.ls.Can
  bu : m.bu.Can
  mail : ∀ p ∈ m.mail, p.Can
  much : m.mail.length ≤ 60000
structure MAc.Can (m : MAc) : Prop where
  id : Num m.id
  pin : m.pin.length ≤ 60000
  wrong : Num m.wrong
  till : Num m.till
  ls : m.ls.Can
  slots : ∀ p ∈ m.slots, p.Can
  many : m.slots.length ≤ 60000
  tokens : ∀ p ∈ m.tokens, p.length = 32
  much : m.tokens.length ≤ 60000
theorem rds_pk {m : MPk} (h : m.Can) : Rds pkM (pkB m) m :=
  (((rds_N h.id)).seq (rds_k h.key) (fun p q => (⟨p, q⟩ : MPk))).as (fun _ _ => rfl) rfl rfl
theorem cut_pk {m : MPk} (h : m.Can) : Cut pkM (pkB m) :=
  (((cut_n m.id _)).seq ((rds_N h.id)) (cut_k h.key) (fun _ _ _ h => qb3 h) (fun p q => (⟨p, q⟩ : MPk))).as (fun _ _ => rfl) rfl
theorem rds_hd {m : MHd} (h : m.Can) : Rds hdM (hdB m) m :=
  ((((rds_k h.r)).seq (rds_N h.prev) Prod.mk).seq (rds_N h.n) (fun p q => (⟨p.1, p.2, q⟩ : MHd))).as (fun _ _ => rfl) rfl rfl
theorem cut_hd {m : MHd} (h : m.Can) : Cut hdM (hdB m) :=
  ((((cut_k h.r)).seq ((rds_k h.r)) (cut_n m.prev _) (fun _ _ _ h => qa6 h) Prod.mk).seq (((rds_k h.r)).seq (rds_N h.prev) Prod.mk) (cut_n m.n _) (fun _ _ _ h => qa6 h) (fun p q => (⟨p.1, p.2, q⟩ : MHd))).as (fun _ _ => rfl) rfl
theorem rds_ps {ms : List MPk} (hl : ms.length ≤ 60000) (h : ∀ p ∈ ms, p.Can) : Rds psM (alB pkB ms) ms := rds_al hl fun p hp => rds_pk (h p hp)
theorem cut_ps {ms : List MPk} (hl : ms.length ≤ 60000) (h : ∀ p ∈ ms, p.Can) : Cut psM (alB pkB ms) := cut_al hl (fun p hp => rds_pk (h p hp)) fun p hp => cut_pk (h p hp)
theorem rds_en {ms : List MPk} (hl : ms.length ≤ 60000) (h : ∀ p ∈ ms, p.Can) : Rds enM (alB pkB ms) ms := rds_al hl fun p hp => rds_pk (h p hp)
theorem cut_en {ms : List MPk} (hl : ms.length ≤ 60000) (h : ∀ p ∈ ms, p.Can) : Cut enM (alB pkB ms) := cut_al hl (fun p hp => rds_pk (h p hp)) fun p hp => cut_pk (h p hp)
theorem rds_ls {m : MLs} (h : m.Can) : Rds lsM (lsB m) m :=
  ((((((rds_N h.acc)).seq (rds_N h.ver) Prod.mk).seq (rds_k h.ident) Prod.mk).seq (rds_en h.many h.devs) Prod.mk).seq (rds_k h.sig) (fun p q => (⟨p.1.1.1, p.1.1.2, p.1.2, p.2, q⟩ : MLs))).as (fun _ _ => rfl) (lsB_al m) rfl
theorem cut_ls {m : MLs} (h : m.Can) : Cut lsM (lsB m) :=
  ((((((cut_n m.acc _)).seq ((rds_N h.acc)) (cut_n m.ver _) (fun _ _ _ h => qa6 h) Prod.mk).seq (((rds_N h.acc)).seq (rds_N h.ver) Prod.mk) (cut_k h.ident) (fun _ _ _ h => qb3 h) Prod.mk).seq ((((rds_N h.acc)).seq (rds_N h.ver) Prod.mk).seq (rds_k h.ident) Prod.mk) (cut_en h.many h.devs) (fun _ _ _ h => enM_stay h) Prod.mk).seq (((((rds_N h.acc)).seq (rds_N h.ver) Prod.mk).seq (rds_k h.ident) Prod.mk).seq (rds_en h.many h.devs) Prod.mk) (cut_k h.sig) (fun _ _ _ h => qb3 h) (fun p q => (⟨p.1.1.1, p.1.1.2, p.1.2, p.2, q⟩ : MLs))).as (fun _ _ => rfl) (lsB_al m)
theorem oneN_can {n : Int} (h : -1 ≤ n ∧ n ≤ 1099511627775) : oneN n = n + 1 := by unfold oneN; split <;> omega
theorem rds_1 {n : Int} (h : -1 ≤ n ∧ n ≤ 1099511627775) : Rds (fun b => nM b 1099511627776) (viB (oneN n)) (n + 1) := by rw [oneN_can h]; exact rds_n (by omega) (by omega) (by omega)
theorem cut_1 (n : Int) : Cut (fun b => nM b 1099511627776) (viB (oneN n)) := cut_n _ _
theorem rds_ev {m : MEv} (h : m.Can) : Rds evM (evB m) m :=
  (((((((((rds_N h.fr)).seq (rds_N h.dev) Prod.mk).seq (rds_tr m.first) Prod.mk).seq (rds_k h.eph) Prod.mk).seq (rds_N h.signed) Prod.mk).seq (rds_1 h.one) Prod.mk).seq (rds_hd h.head) Prod.mk).seq (qbs h.body) (fun p q => (⟨p.1.1.1.1.1.1, p.1.1.1.1.1.2, p.1.1.1.1.2, p.1.1.1.2, p.1.1.2, p.1.2 - 1, p.2, q⟩ : MEv))).as (fun _ _ => rfl) rfl (by simp)
theorem cut_ev {m : MEv} (h : m.Can) : Cut evM (evB m) :=
  (((((((((cut_n m.fr _)).seq ((rds_N h.fr)) (cut_n m.dev _) (fun _ _ _ h => qa6 h) Prod.mk).seq (((rds_N h.fr)).seq (rds_N h.dev) Prod.mk) (cut_tr m.first) (fun _ _ _ h => trM_stay h) Prod.mk).seq ((((rds_N h.fr)).seq (rds_N h.dev) Prod.mk).seq (rds_tr m.first) Prod.mk) (cut_k h.eph) (fun _ _ _ h => qb3 h) Prod.mk).seq (((((rds_N h.fr)).seq (rds_N h.dev) Prod.mk).seq (rds_tr m.first) Prod.mk).seq (rds_k h.eph) Prod.mk) (cut_n m.signed _) (fun _ _ _ h => qa6 h) Prod.mk).seq ((((((rds_N h.fr)).seq (rds_N h.dev) Prod.mk).seq (rds_tr m.first) Prod.mk).seq (rds_k h.eph) Prod.mk).seq (rds_N h.signed) Prod.mk) (cut_1 m.one) (fun _ _ _ h => qa6 h) Prod.mk).seq (((((((rds_N h.fr)).seq (rds_N h.dev) Prod.mk).seq (rds_tr m.first) Prod.mk).seq (rds_k h.eph) Prod.mk).seq (rds_N h.signed) Prod.mk).seq (rds_1 h.one) Prod.mk) (cut_hd h.head) (fun _ _ _ h => hdM_stay h) Prod.mk).seq ((((((((rds_N h.fr)).seq (rds_N h.dev) Prod.mk).seq (rds_tr m.first) Prod.mk).seq (rds_k h.eph) Prod.mk).seq (rds_N h.signed) Prod.mk).seq (rds_1 h.one) Prod.mk).seq (rds_hd h.head) Prod.mk) (cut_by h.body) (fun _ _ _ h => qca h) (fun p q => (⟨p.1.1.1.1.1.1, p.1.1.1.1.1.2, p.1.1.1.1.2, p.1.1.1.2, p.1.1.2, p.1.2 - 1, p.2, q⟩ : MEv))).as (fun _ _ => rfl) rfl
theorem rds_evs {ms : List MEv} (hl : ms.length ≤ 60000) (h : ∀ p ∈ ms, p.Can) : Rds evsM (alB evB ms) ms := rds_al hl fun p hp => rds_ev (h p hp)
theorem cut_evs {ms : List MEv} (hl : ms.length ≤ 60000) (h : ∀ p ∈ ms, p.Can) : Cut evsM (alB evB ms) := cut_al hl (fun p hp => rds_ev (h p hp)) fun p hp => cut_ev (h p hp)
theorem rds_it {m : (Int × MEv)} (h : Num m.1 ∧ m.2.Can) : Rds itM (itB m) m :=
  (((rds_N h.1)).seq (rds_ev h.2) (fun p q => ((p, q)))).as (fun _ _ => rfl) rfl rfl
theorem cut_it {m : (Int × MEv)} (h : Num m.1 ∧ m.2.Can) : Cut itM (itB m) :=
  (((cut_n m.1 _)).seq ((rds_N h.1)) (cut_ev h.2) (fun _ _ _ h => evM_stay h) (fun p q => ((p, q)))).as (fun _ _ => rfl) rfl
theorem rds_its {ms : List (Int × MEv)} (hl : ms.length ≤ 60000) (h : ∀ p ∈ ms, Num p.1 ∧ p.2.Can) : Rds itsM (alB itB ms) ms := rds_al hl fun p hp => rds_it (h p hp)
theorem cut_its {ms : List (Int × MEv)} (hl : ms.length ≤ 60000) (h : ∀ p ∈ ms, Num p.1 ∧ p.2.Can) : Cut itsM (alB itB ms) := cut_al hl (fun p hp => rds_it (h p hp)) fun p hp => cut_it (h p hp)
theorem rds_sl {m : MSlot} (h : m.Can) : Rds slM (slB m) m :=
  (((((((rds_N h.dev)).seq (rds_pk h.signed) Prod.mk).seq (rds_k h.sig) Prod.mk).seq (rds_ps h.many h.ones) Prod.mk).seq (rds_N h.last) Prod.mk).seq (rds_evs h.much h.mail) (fun p q => (⟨p.1.1.1.1, p.1.1.1.2, p.1.1.2, p.1.2, p.2, q⟩ : MSlot))).as (fun _ _ => rfl) (slB_al m) rfl
theorem cut_sl {m : MSlot} (h : m.Can) : Cut slM (slB m) :=
  (((((((cut_n m.dev _)).seq ((rds_N h.dev)) (cut_pk h.signed) (fun _ _ _ h => pkM_stay h) Prod.mk).seq (((rds_N h.dev)).seq (rds_pk h.signed) Prod.mk) (cut_k h.sig) (fun _ _ _ h => qb3 h) Prod.mk).seq ((((rds_N h.dev)).seq (rds_pk h.signed) Prod.mk).seq (rds_k h.sig) Prod.mk) (cut_ps h.many h.ones) (fun _ _ _ h => psM_stay h) Prod.mk).seq (((((rds_N h.dev)).seq (rds_pk h.signed) Prod.mk).seq (rds_k h.sig) Prod.mk).seq (rds_ps h.many h.ones) Prod.mk) (cut_n m.last _) (fun _ _ _ h => qa6 h) Prod.mk).seq ((((((rds_N h.dev)).seq (rds_pk h.signed) Prod.mk).seq (rds_k h.sig) Prod.mk).seq (rds_ps h.many h.ones) Prod.mk).seq (rds_N h.last) Prod.mk) (cut_evs h.much h.mail) (fun _ _ _ h => evsM_stay h) (fun p q => (⟨p.1.1.1.1, p.1.1.1.2, p.1.1.2, p.1.2, p.2, q⟩ : MSlot))).as (fun _ _ => rfl) (slB_al m)
theorem rds_sls {ms : List MSlot} (hl : ms.length ≤ 60000) (h : ∀ p ∈ ms, p.Can) : Rds slsM (alB slB ms) ms := rds_al hl fun p hp => rds_sl (h p hp)
theorem cut_sls {ms : List MSlot} (hl : ms.length ≤ 60000) (h : ∀ p ∈ ms, p.Can) : Cut slsM (alB slB ms) := cut_al hl (fun p hp => rds_sl (h p hp)) fun p hp => cut_sl (h p hp)
theorem rds_tk {ms : List (List (BitVec 8))} (hl : ms.length ≤ 60000) (h : ∀ p ∈ ms, p.length = 32) : Rds tkM (alB (fun k => k) ms) ms := rds_al hl fun p hp => rds_k (h p hp)
theorem cut_tk {ms : List (List (BitVec 8))} (hl : ms.length ≤ 60000) (h : ∀ p ∈ ms, p.length = 32) : Cut tkM (alB (fun k => k) ms) := cut_al hl (fun p hp => rds_k (h p hp)) fun p hp => cut_k (h p hp)
theorem rds_s {n : Int} (h : 0 ≤ n ∧ n ≤ 255) : Rds (fun b => nM b 255) (viB n) n := rds_n h.1 h.2 (by omega)
theorem rds_rq {m : MRq} (h : m.Can) : Rds rdRqA (rqB m) m :=
  ((((((((((((((rds_s h.kind)).seq (rds_N h.acc) Prod.mk).seq (rds_N h.dev) Prod.mk).seq (qbs h.pin) Prod.mk).seq (qbs h.next) Prod.mk).seq (qbs h.name) Prod.mk).seq (rds_ls h.ls) Prod.mk).seq (rds_k h.token) Prod.mk).seq (rds_pk h.signed) Prod.mk).seq (rds_k h.sig) Prod.mk).seq (rds_ps h.many h.ones) Prod.mk).seq (rds_N h.ver) Prod.mk).seq (rds_its h.much h.items) (fun p q => (⟨p.1.1.1.1.1.1.1.1.1.1.1, p.1.1.1.1.1.1.1.1.1.1.2, p.1.1.1.1.1.1.1.1.1.2, p.1.1.1.1.1.1.1.1.2, p.1.1.1.1.1.1.1.2, p.1.1.1.1.1.1.2, p.1.1.1.1.1.2, p.1.1.1.1.2, p.1.1.1.2, p.1.1.2, p.1.2, p.2, q⟩ : MRq))).as (fun _ _ => rfl) (rqB_al m) rfl
theorem cut_rq {m : MRq} (h : m.Can) : Cut rdRqA (rqB m) :=
  ((((((((((((((cut_n m.kind _)).seq ((rds_s h.kind)) (cut_n m.acc _) (fun _ _ _ h => qa6 h) Prod.mk).seq (((rds_s h.kind)).seq (rds_N h.acc) Prod.mk) (cut_n m.dev _) (fun _ _ _ h => qa6 h) Prod.mk).seq ((((rds_s h.kind)).seq (rds_N h.acc) Prod.mk).seq (rds_N h.dev) Prod.mk) (cut_by h.pin) (fun _ _ _ h => qca h) Prod.mk).seq (((((rds_s h.kind)).seq (rds_N h.acc) Prod.mk).seq (rds_N h.dev) Prod.mk).seq (qbs h.pin) Prod.mk) (cut_by h.next) (fun _ _ _ h => qca h) Prod.mk).seq ((((((rds_s h.kind)).seq (rds_N h.acc) Prod.mk).seq (rds_N h.dev) Prod.mk).seq (qbs h.pin) Prod.mk).seq (qbs h.next) Prod.mk) (cut_by h.name) (fun _ _ _ h => qca h) Prod.mk).seq (((((((rds_s h.kind)).seq (rds_N h.acc) Prod.mk).seq (rds_N h.dev) Prod.mk).seq (qbs h.pin) Prod.mk).seq (qbs h.next) Prod.mk).seq (qbs h.name) Prod.mk) (cut_ls h.ls) (fun _ _ _ h => lsM_stay h) Prod.mk).seq ((((((((rds_s h.kind)).seq (rds_N h.acc) Prod.mk).seq (rds_N h.dev) Prod.mk).seq (qbs h.pin) Prod.mk).seq (qbs h.next) Prod.mk).seq (qbs h.name) Prod.mk).seq (rds_ls h.ls) Prod.mk) (cut_k h.token) (fun _ _ _ h => qb3 h) Prod.mk).seq (((((((((rds_s h.kind)).seq (rds_N h.acc) Prod.mk).seq (rds_N h.dev) Prod.mk).seq (qbs h.pin) Prod.mk).seq (qbs h.next) Prod.mk).seq (qbs h.name) Prod.mk).seq (rds_ls h.ls) Prod.mk).seq (rds_k h.token) Prod.mk) (cut_pk h.signed) (fun _ _ _ h => pkM_stay h) Prod.mk).seq ((((((((((rds_s h.kind)).seq (rds_N h.acc) Prod.mk).seq (rds_N h.dev) Prod.mk).seq (qbs h.pin) Prod.mk).seq (qbs h.next) Prod.mk).seq (qbs h.name) Prod.mk).seq (rds_ls h.ls) Prod.mk).seq (rds_k h.token) Prod.mk).seq (rds_pk h.signed) Prod.mk) (cut_k h.sig) (fun _ _ _ h => qb3 h) Prod.mk).seq (((((((((((rds_s h.kind)).seq (rds_N h.acc) Prod.mk).seq (rds_N h.dev) Prod.mk).seq (qbs h.pin) Prod.mk).seq (qbs h.next) Prod.mk).seq (qbs h.name) Prod.mk).seq (rds_ls h.ls) Prod.mk).seq (rds_k h.token) Prod.mk).seq (rds_pk h.signed) Prod.mk).seq (rds_k h.sig) Prod.mk) (cut_ps h.many h.ones) (fun _ _ _ h => psM_stay h) Prod.mk).seq ((((((((((((rds_s h.kind)).seq (rds_N h.acc) Prod.mk).seq (rds_N h.dev) Prod.mk).seq (qbs h.pin) Prod.mk).seq (qbs h.next) Prod.mk).seq (qbs h.name) Prod.mk).seq (rds_ls h.ls) Prod.mk).seq (rds_k h.token) Prod.mk).seq (rds_pk h.signed) Prod.mk).seq (rds_k h.sig) Prod.mk).seq (rds_ps h.many h.ones) Prod.mk) (cut_n m.ver _) (fun _ _ _ h => qa6 h) Prod.mk).seq (((((((((((((rds_s h.kind)).seq (rds_N h.acc) Prod.mk).seq (rds_N h.dev) Prod.mk).seq (qbs h.pin) Prod.mk).seq (qbs h.next) Prod.mk).seq (qbs h.name) Prod.mk).seq (rds_ls h.ls) Prod.mk).seq (rds_k h.token) Prod.mk).seq (rds_pk h.signed) Prod.mk).seq (rds_k h.sig) Prod.mk).seq (rds_ps h.many h.ones) Prod.mk).seq (rds_N h.ver) Prod.mk) (cut_its h.much h.items) (fun _ _ _ h => itsM_stay h) (fun p q => (⟨p.1.1.1.1.1.1.1.1.1.1.1, p.1.1.1.1.1.1.1.1.1.1.2, p.1.1.1.1.1.1.1.1.1.2, p.1.1.1.1.1.1.1.1.2, p.1.1.1.1.1.1.1.2, p.1.1.1.1.1.1.2, p.1.1.1.1.1.2, p.1.1.1.1.2, p.1.1.1.2, p.1.1.2, p.1.2, p.2, q⟩ : MRq))).as (fun _ _ => rfl) (rqB_al m)
theorem rds_ac {m : MAc} (h : m.Can) : Rds rdAcA (acB m) m :=
  ((((((((rds_N h.id)).seq (qbs h.pin) Prod.mk).seq (rds_N h.wrong) Prod.mk).seq (rds_N h.till) Prod.mk).seq (rds_ls h.ls) Prod.mk).seq (rds_sls h.many h.slots) Prod.mk).seq (rds_tk h.much h.tokens) (fun p q => (⟨p.1.1.1.1.1, p.1.1.1.1.2, p.1.1.1.2, p.1.1.2, p.1.2, p.2, q⟩ : MAc))).as (fun _ _ => rfl) (acB_al m) rfl
theorem cut_ac {m : MAc} (h : m.Can) : Cut rdAcA (acB m) :=
  ((((((((cut_n m.id _)).seq ((rds_N h.id)) (cut_by h.pin) (fun _ _ _ h => qca h) Prod.mk).seq (((rds_N h.id)).seq (qbs h.pin) Prod.mk) (cut_n m.wrong _) (fun _ _ _ h => qa6 h) Prod.mk).seq ((((rds_N h.id)).seq (qbs h.pin) Prod.mk).seq (rds_N h.wrong) Prod.mk) (cut_n m.till _) (fun _ _ _ h => qa6 h) Prod.mk).seq (((((rds_N h.id)).seq (qbs h.pin) Prod.mk).seq (rds_N h.wrong) Prod.mk).seq (rds_N h.till) Prod.mk) (cut_ls h.ls) (fun _ _ _ h => lsM_stay h) Prod.mk).seq ((((((rds_N h.id)).seq (qbs h.pin) Prod.mk).seq (rds_N h.wrong) Prod.mk).seq (rds_N h.till) Prod.mk).seq (rds_ls h.ls) Prod.mk) (cut_sls h.many h.slots) (fun _ _ _ h => slsM_stay h) Prod.mk).seq (((((((rds_N h.id)).seq (qbs h.pin) Prod.mk).seq (rds_N h.wrong) Prod.mk).seq (rds_N h.till) Prod.mk).seq (rds_ls h.ls) Prod.mk).seq (rds_sls h.many h.slots) Prod.mk) (cut_tk h.much h.tokens) (fun _ _ _ h => tkM_stay h) (fun p q => (⟨p.1.1.1.1.1, p.1.1.1.1.2, p.1.1.1.2, p.1.1.2, p.1.2, p.2, q⟩ : MAc))).as (fun _ _ => rfl) (acB_al m)
end Go.Proofs.Ytcgbgmbnagmohaa
