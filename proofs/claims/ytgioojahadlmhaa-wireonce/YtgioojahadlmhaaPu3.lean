import Derived.Test.YtgioojahadlmhaaPu2
import Derived.Test.YtgioojahadlmhaaPrQ
namespace Go.Proofs.Ytgioojahadlmhaa
open Go.RowKit
set_option maxRecDepth 20000
theorem ofNat_toNat8 (x : BitVec 8) : BitVec.ofNat 8 x.toNat = x := by simp
theorem viF_small {k m : Nat} (h : m ≤ 127) : viF k m = [BitVec.ofNat 8 m] := by
  cases k with
  | zero => rw [viF]
  | succ k => rw [viF, if_pos h]
theorem gnL_back {most : Int} : ∀ (rest : List (BitVec 8)) (k n t : Nat) (pre : List (BitVec 8)), k ≤ 5 → (gnL (pre ++ rest) most (k + 1) pre.length n t).2.1 = 0 → ∃ (m : Nat) (s : List (BitVec 8)), rest = viF k m ++ s ∧ m < 128 ^ (k + 1) ∧ (0 < m ∨ k = 5) ∧ ((n + m * t : Nat) : Int) ≤ most
  | [], k, n, t, pre, _, h => by
    rw [gnL, if_pos (by simp)] at h
    simp at h
  | x :: s, k, n, t, pre, hk, h => by
    rw [gnL, if_neg (by simp), getD_at] at h
    by_cases hx : x.toNat < 128
    · rw [if_pos hx] at h
      by_cases hc : (x.toNat = 0 ∧ k < 5) ∨ most < ((n + x.toNat % 128 * t : Nat) : Int)
      · rw [if_pos hc] at h
        simp at h
      · rw [Nat.mod_eq_of_lt hx] at hc
        refine ⟨x.toNat, s, by rw [viF_small (by omega), ofNat_toNat8]; rfl, Nat.lt_of_lt_of_le hx (Nat.le_self_pow (by omega) 128), ?_, ?_⟩
        · rcases Nat.eq_zero_or_pos x.toNat with h0 | h0
          · exact .inr (by have h5 : ¬ k < 5 := fun h5 => hc (.inl ⟨h0, h5⟩); omega)
          · exact .inl h0
        · exact Int.not_lt.1 fun h9 => hc (.inr h9)
    · rw [if_neg hx] at h
      cases k with
      | zero => rw [gnL] at h; simp at h
      | succ k =>
        have e : pre ++ x :: s = (pre ++ [x]) ++ s := by simp
        have e2 : pre.length + 1 = (pre ++ [x]).length := by simp
        rw [e, e2] at h
        obtain ⟨m, s', h1, h2, h3, h4⟩ := gnL_back s k _ _ (pre ++ [x]) (by omega) h
        have hm : 0 < m := by omega
        have hx2 := x.isLt
        refine ⟨x.toNat % 128 + 128 * m, s', ?_, ?_, .inl (by omega), ?_⟩
        · rw [viF, if_neg (by omega), show (x.toNat % 128 + 128 * m) % 128 + 128 = x.toNat by omega, show (x.toNat % 128 + 128 * m) / 128 = m by omega, ofNat_toNat8, h1]
          rfl
        · rw [Nat.pow_succ]
          omega
        · rw [show n + (x.toNat % 128 + 128 * m) * t = n + x.toNat % 128 * t + m * (t * 128) by rw [Nat.add_mul, Nat.mul_comm 128 m, Nat.mul_assoc m 128 t, Nat.mul_comm 128 t]; omega]
          exact h4
def Onc {α : Type} (m : List (BitVec 8) → Nat × Int → (Nat × Int) × α) (enc : α → List (BitVec 8)) (G : α → Prop) : Prop := ∀ pre rest : List (BitVec 8), (m (pre ++ rest) (pre.length, 0)).1.2 = 0 → ∃ x t, rest = enc x ++ t ∧ m (pre ++ rest) (pre.length, 0) = ((pre.length + (enc x).length, 0), x) ∧ G x
theorem Onc.of {α : Type} {m : List (BitVec 8) → Nat × Int → (Nat × Int) × α} {enc : α → List (BitVec 8)} {G : α → Prop} (h : ∀ pre rest : List (BitVec 8), (m (pre ++ rest) (pre.length, 0)).1.2 = 0 → ∃ x t, rest = enc x ++ t ∧ G x) (hr : ∀ x, G x → Rds m (enc x) x) : Onc m enc G := fun pre rest h0 => by
  obtain ⟨x, t, rfl, hG⟩ := h pre rest h0
  exact ⟨x, t, rfl, hr x hG pre t, hG⟩
theorem onc_n {most : Int} (h2 : most ≤ 1099511627776) : Onc (fun b => nM b most) viB (fun n => 0 ≤ n ∧ n ≤ most) := Onc.of (fun pre rest h => by
  simp only [nM, gn, if_pos] at h
  obtain ⟨m, s, h1, h3, h4, h5⟩ := gnL_back rest 5 0 1 pre (by omega) h
  have hN : ((m : Nat) : Int) ≤ most := by have := h5; omega
  refine ⟨(m : Int), s, ?_, by omega, hN⟩
  unfold viB
  rw [show clN (m : Int) = m by unfold clN; omega]
  exact h1) fun x hx => rds_n hx.1 hx.2 h2
theorem onc_N : Onc (fun b => nM b 1099511627776) viB Num := onc_n (by omega)
theorem onc_k (n : Nat) : Onc (kM n) (fun k => k) (fun k => k.length = n) := Onc.of (fun pre rest h => by
  have h1 : tkE (pre ++ rest).length pre.length 0 n = 0 := h
  have h3 := tk_room (by simp) h1
  rw [List.length_append] at h3
  exact ⟨rest.take n, rest.drop n, (List.take_append_drop _ _).symm, by rw [List.length_take]; omega⟩) fun x hx => rds_k hx
theorem onc_tr : Onc trM trB (fun _ => True) := Onc.of (fun pre rest h => by
  by_cases he : tkE (pre ++ rest).length pre.length 0 1 = 0
  · have h3 := tk_room (by simp) he
    rw [List.length_append] at h3
    cases rest with
    | nil => simp only [List.length_nil] at h3; omega
    | cons x s =>
      unfold trM at h
      simp only [he, if_pos, getD_at] at h
      by_cases hx : 1 < x.toNat
      · simp only [if_pos hx] at h
        exact absurd h (by decide)
      · refine ⟨decide (x.toNat = 1), s, ?_, trivial⟩
        have : x = 0 ∨ x = 1 := by
          rcases Nat.lt_or_ge x.toNat 1 with h1 | h1
          · exact .inl (BitVec.eq_of_toNat_eq (by show x.toNat = 0; omega))
          · exact .inr (BitVec.eq_of_toNat_eq (by show x.toNat = 1; omega))
        rcases this with rfl | rfl <;> rfl
  · unfold trM at h
    simp only [if_neg he] at h
    exact absurd h he) fun x _ => rds_tr x
theorem onc_by : Onc byM txB (fun l => l.length ≤ 60000) := Onc.of (fun pre rest h => by
  have hN : (nM (pre ++ rest) 60000 (pre.length, 0)).1.2 = 0 := by
    by_cases h0 : (nM (pre ++ rest) 60000 (pre.length, 0)).1.2 = 0
    · exact h0
    · have h1 : tkE (pre ++ rest).length (nM (pre ++ rest) 60000 (pre.length, 0)).1.1 (nM (pre ++ rest) 60000 (pre.length, 0)).1.2 (nM (pre ++ rest) 60000 (pre.length, 0)).2.toNat = 0 := h
      rw [show tkE (pre ++ rest).length (nM (pre ++ rest) 60000 (pre.length, 0)).1.1 (nM (pre ++ rest) 60000 (pre.length, 0)).1.2 (nM (pre ++ rest) 60000 (pre.length, 0)).2.toNat = (nM (pre ++ rest) 60000 (pre.length, 0)).1.2 from congrArg Prod.snd (tk_stay h0)] at h1
      exact h1
  obtain ⟨n, t, rfl, e, g1, g2⟩ := onc_n (most := 60000) (by omega) pre rest hN
  have h1 : tkE (pre ++ (viB n ++ t)).length (nM (pre ++ (viB n ++ t)) 60000 (pre.length, 0)).1.1 (nM (pre ++ (viB n ++ t)) 60000 (pre.length, 0)).1.2 (nM (pre ++ (viB n ++ t)) 60000 (pre.length, 0)).2.toNat = 0 := h
  simp only at e
  rw [e] at h1
  have h3 := tk_room (by simp) h1
  simp only [List.length_append] at h3
  obtain ⟨N, rfl⟩ := Int.eq_ofNat_of_zero_le g1
  rw [Int.toNat_natCast] at h3
  have hl : (t.take N).length = N := by rw [List.length_take]; omega
  refine ⟨t.take N, t.drop N, ?_, by rw [hl]; omega⟩
  unfold txB
  rw [hl, List.append_assoc, List.take_append_drop]) fun x hx => rds_by hx
section
variable {α β γ : Type} {m1 : List (BitVec 8) → Nat × Int → (Nat × Int) × α} {m2 : List (BitVec 8) → Nat × Int → (Nat × Int) × β} {e1 : α → List (BitVec 8)} {e2 : β → List (BitVec 8)} {G1 : α → Prop} {G2 : β → Prop}
theorem Onc.pair (h1 : Onc m1 e1 G1) (h2 : Onc m2 e2 G2) (s2 : Stay m2) : Onc (seqM m1 m2 Prod.mk) (fun p => e1 p.1 ++ e2 p.2) (fun p => G1 p.1 ∧ G2 p.2) := fun pre rest h => by
  unfold seqM at h ⊢
  have h0 : (m1 (pre ++ rest) (pre.length, 0)).1.2 = 0 := by
    by_cases h9 : (m1 (pre ++ rest) (pre.length, 0)).1.2 = 0
    · exact h9
    · have q := s2 (pre ++ rest) (m1 (pre ++ rest) (pre.length, 0)).1.1 _ h9
      rw [show (m2 (pre ++ rest) (m1 (pre ++ rest) (pre.length, 0)).1).1 = _ from q] at h
      exact h
  obtain ⟨x, t, rfl, e, g⟩ := h1 pre rest h0
  rw [e] at h ⊢
  have hb : pre ++ (e1 x ++ t) = (pre ++ e1 x) ++ t := by rw [List.append_assoc]
  have hl : pre.length + (e1 x).length = (pre ++ e1 x).length := by rw [List.length_append]
  rw [hb, hl] at h ⊢
  obtain ⟨y, s, rfl, e', g'⟩ := h2 (pre ++ e1 x) t h
  refine ⟨(x, y), s, by rw [List.append_assoc], ?_, g, g'⟩
  rw [e']
  simp only [List.length_append, Nat.add_assoc]
theorem Onc.to {m' : List (BitVec 8) → Nat × Int → (Nat × Int) × β} {enc : β → List (BitVec 8)} {G : β → Prop} (h : Onc m1 e1 G1) (f : α → β) (hm : ∀ b i, m' b (i, 0) = ((m1 b (i, 0)).1, f (m1 b (i, 0)).2)) (he : ∀ x, G1 x → enc (f x) = e1 x) (hG : ∀ x, G1 x → G (f x)) : Onc m' enc G := fun pre rest h0 => by
  rw [hm] at h0
  obtain ⟨x, t, h1, h2, h3⟩ := h pre rest h0
  refine ⟨f x, t, by rw [he x h3]; exact h1, ?_, hG x h3⟩
  rw [hm, h2, he x h3]
theorem stay_rows {g : List (BitVec 8) → Nat × Int → (Nat × Int) × α} (k : Nat) : Stay (fun b s => rowsM (g b) k s) := fun b i e h => by
  show (rowsM (g b) k (i, e)).1 = _
  rw [qb8 (g b) k (s := (i, e)) h]
theorem onc_rows (h : Onc m1 e1 G1) : ∀ k, Onc (fun b s => rowsM (m1 b) k s) (fun l => l.flatMap e1) (fun l => l.length = k ∧ ∀ p ∈ l, G1 p)
  | 0 => fun pre rest _ => ⟨[], rest, rfl, by simp [rowsM_zero], rfl, fun _ h => by cases h⟩
  | k + 1 => (Onc.pair h (onc_rows h k) (stay_rows k)).to (fun p => p.1 :: p.2) (fun b i => rowsM_step (m1 b) k (s := (i, 0)) rfl) (fun p _ => by simp) (fun p hp => ⟨by simp [hp.2.1], fun q hq => by
      rcases List.mem_cons.1 hq with rfl | hq
      · exact hp.1
      · exact hp.2.2 q hq⟩)
theorem onc_al (h : Onc m1 e1 G1) : Onc (fun b s => rowsM (m1 b) (nM b 60000 s).2.toNat (nM b 60000 s).1) (alB e1) (fun l => l.length ≤ 60000 ∧ ∀ p ∈ l, G1 p) := fun pre rest h0 => by
  have hN : (nM (pre ++ rest) 60000 (pre.length, 0)).1.2 = 0 := by
    by_cases h9 : (nM (pre ++ rest) 60000 (pre.length, 0)).1.2 = 0
    · exact h9
    · have q := stay_rows (g := m1) (nM (pre ++ rest) 60000 (pre.length, 0)).2.toNat (pre ++ rest) (nM (pre ++ rest) 60000 (pre.length, 0)).1.1 _ h9
      have h1 : (rowsM (m1 (pre ++ rest)) (nM (pre ++ rest) 60000 (pre.length, 0)).2.toNat (nM (pre ++ rest) 60000 (pre.length, 0)).1).1.2 = 0 := h0
      rw [show (rowsM (m1 (pre ++ rest)) (nM (pre ++ rest) 60000 (pre.length, 0)).2.toNat (nM (pre ++ rest) 60000 (pre.length, 0)).1).1 = _ from q] at h1
      exact h1
  obtain ⟨n, t, rfl, e, g1, g2⟩ := onc_n (most := 60000) (by omega) pre rest hN
  simp only at e
  simp only [e] at h0 ⊢
  obtain ⟨N, rfl⟩ := Int.eq_ofNat_of_zero_le g1
  rw [Int.toNat_natCast] at h0 ⊢
  have hb : pre ++ (viB (N : Int) ++ t) = (pre ++ viB (N : Int)) ++ t := by rw [List.append_assoc]
  have hl : pre.length + (viB (N : Int)).length = (pre ++ viB (N : Int)).length := by rw [List.length_append]
  rw [hb, hl] at h0 ⊢
  obtain ⟨l, s, rfl, e', hn, hg⟩ := onc_rows h N (pre ++ viB (N : Int)) t h0
  subst hn
  refine ⟨l, s, by unfold alB; rw [List.append_assoc], ?_, by omega, hg⟩
  simp only at e'
  rw [e']
  unfold alB
  simp only [List.length_append, Nat.add_assoc]
end
theorem onc_pk : Onc pkM pkB MPk.Can := (onc_N.pair (onc_k 32) fun _ _ _ h => qb3 h).to (fun p => ⟨p.1, p.2⟩) (fun _ _ => rfl) (fun _ _ => rfl) fun _ h => ⟨h.1, h.2⟩
theorem onc_hd : Onc hdM hdB MHd.Can := (((onc_k 32).pair onc_N fun _ _ _ h => qbb h).pair onc_N fun _ _ _ h => qbb h).to (fun p => ⟨p.1.1, p.1.2, p.2⟩) (fun _ _ => rfl) (fun _ _ => rfl) fun _ h => ⟨h.1.1, h.1.2, h.2⟩
theorem onc_ps : Onc psM (alB pkB) (fun l => l.length ≤ 60000 ∧ ∀ p ∈ l, p.Can) := onc_al onc_pk
theorem onc_en : Onc enM (alB pkB) (fun l => l.length ≤ 60000 ∧ ∀ p ∈ l, p.Can) := onc_al onc_pk
theorem onc_us : Onc usM usB (fun m => m.name.length ≤ 60000 ∧ 0 ≤ m.acc ∧ m.acc ≤ 1099511627776) := ((onc_by.pair onc_N fun _ _ _ h => qbb h).pair onc_tr fun _ _ _ h => trM_stay h).to (fun p => ⟨p.1.1, p.1.2, p.2⟩) (fun _ _ => rfl) (fun _ _ => rfl) fun _ h => ⟨h.1.1, h.1.2.1, h.1.2.2⟩
theorem onc_uss : Onc ussM (alB usB) (fun l => l.length ≤ 60000 ∧ ∀ m ∈ l, m.name.length ≤ 60000 ∧ 0 ≤ m.acc ∧ m.acc ≤ 1099511627776) := onc_al onc_us
theorem onc_ls : Onc lsM lsB MLs.Can := ((((onc_N.pair onc_N fun _ _ _ h => qbb h).pair (onc_k 32) fun _ _ _ h => qb3 h).pair onc_en fun _ _ _ h => enM_stay h).pair (onc_k 64) fun _ _ _ h => qb3 h).to (fun p => (⟨p.1.1.1.1, p.1.1.1.2, p.1.1.2, p.1.2, p.2⟩ : MLs)) (fun _ _ => rfl) (fun _ _ => lsB_al _) fun _ h => ⟨h.1.1.1.1, h.1.1.1.2, h.1.1.2, h.1.2.2, h.1.2.1, h.2⟩
theorem onc_ev : Onc evM evB MEv.Can := ((((((((onc_N.pair onc_N fun _ _ _ h => qbb h).pair onc_tr fun _ _ _ h => trM_stay h).pair (onc_k 32) fun _ _ _ h => qb3 h).pair onc_N fun _ _ _ h => qbb h).pair onc_N fun _ _ _ h => qbb h).pair onc_hd fun _ _ _ h => hdM_stay h).pair onc_by fun _ _ _ h => qch h)).to (fun p => (⟨p.1.1.1.1.1.1.1, p.1.1.1.1.1.1.2, p.1.1.1.1.1.2, p.1.1.1.1.2, p.1.1.1.2, p.1.1.2 - 1, p.1.2, p.2⟩ : MEv)) (fun _ _ => rfl) (fun p h => by
    have h1 : oneN (p.1.1.2 - 1) = p.1.1.2 := by
      have := h.1.1.2
      rw [oneN_can ⟨by have := this.1; omega, by have := this.2; omega⟩]
      omega
    unfold evB
    simp only [h1]
    rfl) fun _ h => ⟨h.1.1.1.1.1.1.1, h.1.1.1.1.1.1.2, h.1.1.1.1.2, h.1.1.1.2, by have := h.1.1.2; exact ⟨by have := this.1; show -1 ≤ _ - 1; omega, by have := this.2; show _ - 1 ≤ _; omega⟩, h.1.2, h.2⟩
theorem onc_it : Onc itM itB (fun m => Num m.1 ∧ m.2.Can) := (onc_N.pair onc_ev fun _ _ _ h => evM_stay h).to (fun p => (p.1, p.2)) (fun _ _ => rfl) (fun _ _ => rfl) fun _ h => ⟨h.1, h.2⟩
theorem onc_its : Onc itsM (alB itB) (fun l => l.length ≤ 60000 ∧ ∀ p ∈ l, Num p.1 ∧ p.2.Can) := onc_al onc_it
theorem onc_rq : Onc rdRqA rqB MRq.Can := (((((((((((((onc_n (most := 255) (by omega)).pair onc_N fun _ _ _ h => qbb h).pair onc_N fun _ _ _ h => qbb h).pair onc_by fun _ _ _ h => qch h).pair onc_by fun _ _ _ h => qch h).pair onc_by fun _ _ _ h => qch h).pair onc_ls fun _ _ _ h => lsM_stay h).pair (onc_k 32) fun _ _ _ h => qb3 h).pair onc_pk fun _ _ _ h => pkM_stay h).pair (onc_k 64) fun _ _ _ h => qb3 h).pair onc_ps fun _ _ _ h => psM_stay h).pair onc_N fun _ _ _ h => qbb h).pair onc_its fun _ _ _ h => itsM_stay h).to
  (fun p => (⟨p.1.1.1.1.1.1.1.1.1.1.1.1, p.1.1.1.1.1.1.1.1.1.1.1.2, p.1.1.1.1.1.1.1.1.1.1.2, p.1.1.1.1.1.1.1.1.1.2, p.1.1.1.1.1.1.1.1.2, p.1.1.1.1.1.1.1.2, p.1.1.1.1.1.1.2, p.1.1.1.1.1.2, p.1.1.1.1.2, p.1.1.1.2, p.1.1.2, p.1.2, p.2⟩ : MRq)) (fun _ _ => rfl) (fun _ _ => rqB_al _)
  fun _ h => ⟨h.1.1.1.1.1.1.1.1.1.1.1.1, h.1.1.1.1.1.1.1.1.1.1.1.2, h.1.1.1.1.1.1.1.1.1.1.2, h.1.1.1.1.1.1.1.1.1.2, h.1.1.1.1.1.1.1.1.2, h.1.1.1.1.1.1.1.2, h.1.1.1.1.1.1.2, h.1.1.1.1.1.2, h.1.1.1.1.2, h.1.1.1.2, h.1.1.2.2, h.1.1.2.1, h.1.2, h.2.2, h.2.1⟩
theorem ussM_stay {b : List (BitVec 8)} {i : Nat} {e : Int} (h : e ≠ 0) : (ussM b (i, e)).1 = (i, e) := by
  have h1 := qbb (most := 60000) (b := b) (i := i) h
  show (rowsM (usM b) (nM b 60000 (i, e)).2.toNat (nM b 60000 (i, e)).1).1 = _
  rw [h1, qb8 (usM b) _ (s := (i, e)) h]
theorem onc_whole {α : Type} {m : List (BitVec 8) → Nat × Int → (Nat × Int) × α} {enc : α → List (BitVec 8)} {G : α → Prop} (h : Onc m enc G) (hs : Stay m) {b : List (BitVec 8)} (h0 : endM (qbr b).1.length (m (qbr b).1 (0, (qbr b).2)).1.1 (m (qbr b).1 (0, (qbr b).2)).1.2 = 0) : b.length ≤ 60000 ∧ b = enc (m (qbr b).1 (0, (qbr b).2)).2 ∧ G (m (qbr b).1 (0, (qbr b).2)).2 := by
  by_cases hl : 60000 < b.length
  · have hb : qbr b = ([], 3) := by unfold qbr; rw [if_pos hl]
    rw [hb] at h0
    have q := hs [] 0 3 (by decide)
    simp only [q] at h0
    exact absurd h0 (by decide)
  · have hb : qbr b = (b, 0) := by unfold qbr; rw [if_neg hl]
    rw [hb] at h0 ⊢
    simp only at h0 ⊢
    have he : (m b (0, 0)).1.2 = 0 := by
      by_cases h9 : (m b (0, 0)).1.2 = 0
      · exact h9
      · unfold endM at h0
        rw [if_neg fun q => h9 q.1] at h0
        exact h0
    obtain ⟨x, t, h1, h2, h3⟩ := h [] b he
    rw [List.nil_append, List.length_nil, Nat.zero_add] at h2
    rw [h2] at h0 ⊢
    unfold endM at h0
    have hn : ¬ (enc x).length < b.length := fun q => by
      rw [if_pos ⟨rfl, q⟩] at h0
      exact absurd h0 (by decide)
    have ht : t = [] := by
      rw [h1, List.length_append] at hn
      exact List.length_eq_zero_iff.1 (by omega)
    rw [ht, List.append_nil] at h1
    exact ⟨by omega, h1, h3⟩
theorem rdLs_once {b : List (BitVec 8)} {x : MLs} (h : rdLs b = (x, 0)) : b.length ≤ 60000 ∧ b = lsB x ∧ x.Can := by
  unfold rdLs at h
  simp only at h
  split at h
  case isTrue h0 =>
    have q := onc_whole onc_ls (fun _ _ _ h => lsM_stay h) h0
    obtain ⟨rfl, -⟩ := Prod.mk.inj h
    exact q
  case isFalse h0 => exact absurd (Prod.mk.inj h).2 h0
theorem rdRq_once {b : List (BitVec 8)} {x : MRq} (h : rdRq b = (x, 0)) : b.length ≤ 60000 ∧ b = rqB x ∧ x.Can := by
  unfold rdRq at h
  simp only at h
  split at h
  case isTrue h0 =>
    have q := onc_whole onc_rq (fun _ _ _ h => rdRqA_stay h) h0
    obtain ⟨rfl, -⟩ := Prod.mk.inj h
    exact q
  case isFalse h0 => exact absurd (Prod.mk.inj h).2 h0
theorem rdUs_once {b : List (BitVec 8)} {x : List MUs} (h : rdUs b = (x, 0)) : b.length ≤ 60000 ∧ b = alB usB x ∧ x.length ≤ 60000 ∧ ∀ m ∈ x, m.name.length ≤ 60000 ∧ 0 ≤ m.acc ∧ m.acc ≤ 1099511627776 := by
  unfold rdUs at h
  simp only at h
  split at h
  case isTrue h0 =>
    have q := onc_whole onc_uss (fun _ _ _ h => ussM_stay h) h0
    obtain ⟨rfl, -⟩ := Prod.mk.inj h
    exact q
  case isFalse h0 => exact absurd (Prod.mk.inj h).2 h0
end Go.Proofs.Ytgioojahadlmhaa
