/- What keywardlaw10's WireFields answers: true. -/
import Derived.Test.YtgioojahadlmhaaPrC
import Derived.Test.YtgioojahadlmhaaPw6
import Derived.Test.YtgioojahadlmhaaKn10
import Derived.Test.YtgioojahadlmhaaEqS
import Derived.Test.YtgioojahadlmhaaPw3
import Derived.Test.YtgioojahadlmhaaRdC
import Derived.Deep.CutBlock
namespace Go.Proofs.Ytgioojahadlmhaa
open Go.RowKit
set_option maxRecDepth 20000

theorem getD_at (pre : List (BitVec 8)) (x : BitVec 8) (post : List (BitVec 8)) : (pre ++ x :: post).getD pre.length 0 = x := by simp
theorem gnL_viF {most : Int} : ∀ (k m n t : Nat) (pre post : List (BitVec 8)), m < 128 ^ (k + 1) → (0 < m ∨ k = 5) → ((n + m * t : Nat) : Int) ≤ most → gnL (pre ++ (viF k m ++ post)) most (k + 1) pre.length n t = (pre.length + (viF k m).length, 0, ((n + m * t : Nat) : Int))
  | 0, m, n, t, pre, post, hm, h0, hN => by
    have hm' : m < 128 := by simpa using hm
    have hb : (BitVec.ofNat 8 m).toNat = m := by simp; omega
    rw [viF, gnL, if_neg (by simp), show pre ++ ([BitVec.ofNat 8 m] ++ post) = pre ++ BitVec.ofNat 8 m :: post from rfl, getD_at, hb, if_pos hm', Nat.mod_eq_of_lt hm', if_neg (fun h => h.elim (fun h => by omega) (fun h => by omega))]
    rfl
  | k + 1, m, n, t, pre, post, hm, h0, hN => by
    rw [viF]
    by_cases h1 : m ≤ 127
    · have hb : (BitVec.ofNat 8 m).toNat = m := by simp; omega
      rw [if_pos h1, gnL, if_neg (by simp), show pre ++ ([BitVec.ofNat 8 m] ++ post) = pre ++ BitVec.ofNat 8 m :: post from rfl, getD_at, hb, if_pos (by omega), Nat.mod_eq_of_lt (by omega), if_neg (fun h => h.elim (fun h => by omega) (fun h => by omega))]
      rfl
    · have hb : (BitVec.ofNat 8 (m % 128 + 128)).toNat = m % 128 + 128 := by simp; omega
      rw [if_neg h1, gnL, if_neg (by simp), show pre ++ (BitVec.ofNat 8 (m % 128 + 128) :: viF k (m / 128) ++ post) = pre ++ BitVec.ofNat 8 (m % 128 + 128) :: (viF k (m / 128) ++ post) from rfl, getD_at, hb, if_neg (by omega)]
      have hd : m / 128 < 128 ^ (k + 1) := by rw [Nat.pow_succ] at hm; exact Nat.div_lt_of_lt_mul (by rwa [Nat.mul_comm] at hm)
      have hs : n + (m % 128 + 128) % 128 * t + m / 128 * (t * 128) = n + m * t := by
        rw [Nat.add_mod_right, Nat.mod_mod, ← Nat.mul_assoc, Nat.mul_right_comm, Nat.add_assoc, ← Nat.add_mul]
        congr 2
        omega
      have ih := gnL_viF k (m / 128) (n + (m % 128 + 128) % 128 * t) (t * 128) (pre ++ [BitVec.ofNat 8 (m % 128 + 128)]) post hd (.inl (by omega)) (by rw [hs]; exact hN)
      rw [hs, List.append_assoc, List.length_append] at ih
      rw [show (pre ++ BitVec.ofNat 8 (m % 128 + 128) :: (viF k (m / 128) ++ post)) = pre ++ ([BitVec.ofNat 8 (m % 128 + 128)] ++ (viF k (m / 128) ++ post)) from rfl]
      rw [show pre.length + 1 = pre.length + [BitVec.ofNat 8 (m % 128 + 128)].length from rfl, ih]
      simp only [List.length_cons, List.length_nil]
      congr 1
      omega
/-- Bytes that are read as x, whatever stands before and behind. -/
def Rds {α : Type} (m : List (BitVec 8) → Nat × Int → (Nat × Int) × α) (l : List (BitVec 8)) (x : α) : Prop := ∀ pre post : List (BitVec 8), m (pre ++ (l ++ post)) (pre.length, 0) = ((pre.length + l.length, 0), x)
/-- Bytes that are too short wherever they are cut. -/
def Cut {α : Type} (m : List (BitVec 8) → Nat × Int → (Nat × Int) × α) (l : List (BitVec 8)) : Prop := ∀ (pre t u : List (BitVec 8)), l = t ++ u → u ≠ [] → (m (pre ++ t) (pre.length, 0)).1.2 = 10
/-- Behind an error all stays. -/
def Stay {α : Type} (m : List (BitVec 8) → Nat × Int → (Nat × Int) × α) : Prop := ∀ (b : List (BitVec 8)) (i : Nat) (e : Int), e ≠ 0 → (m b (i, e)).1 = (i, e)
theorem rds_n {n most : Int} (h0 : 0 ≤ n) (h1 : n ≤ most) (h2 : most ≤ 1099511627776) : Rds (fun b => nM b most) (viB n) n := fun pre post => by
  have hc : ((clN n : Nat) : Int) = n := by unfold clN; omega
  have hl := clN_le n
  have h := gnL_viF (most := most) 5 (clN n) 0 1 pre post (Nat.lt_of_le_of_lt hl (by decide)) (.inr rfl) (by rw [Nat.zero_add, Nat.mul_one, hc]; exact h1)
  rw [Nat.zero_add, Nat.mul_one, hc] at h
  simp only [nM, gn, if_pos]
  unfold viB
  rw [h]
theorem tk_all {m i n : Nat} (h : i + n ≤ m) : tkE m i 0 n = 0 := by
  unfold tkE
  rw [if_neg (fun h2 => by omega)]
theorem rds_k {n : Nat} {k : List (BitVec 8)} (hk : k.length = n) : Rds (kM n) k k := fun pre post => by
  have h := tk_all (m := (pre ++ (k ++ post)).length) (i := pre.length) (n := n) (by simp only [List.length_append]; omega)
  simp only [kM, tkI, gkX, h, if_pos]
  rw [List.drop_left, List.take_append_of_le_length (by omega), List.take_of_length_le (by omega), hk]
theorem rds_tr (b : Bool) : Rds trM (trB b) b := fun pre post => by
  have h := tk_all (m := (pre ++ (trB b ++ post)).length) (i := pre.length) (n := 1) (by simp only [List.length_append, trB, List.length_cons, List.length_nil]; omega)
  simp only [trM, h, if_pos]
  rw [show pre ++ (trB b ++ post) = pre ++ (if b then 1 else 0) :: post from rfl, getD_at]
  cases b <;> rfl
theorem rds_by {l : List (BitVec 8)} (hl : l.length ≤ 60000) : Rds byM (txB l) l := fun pre post => by
  have h1 := rds_n (n := (l.length : Int)) (most := 60000) (by omega) (by omega) (by omega) pre (l ++ post)
  have h2 := tk_all (m := (pre ++ (viB (l.length : Int) ++ (l ++ post))).length) (i := pre.length + (viB (l.length : Int)).length) (n := l.length) (by simp only [List.length_append]; omega)
  have e : pre ++ (txB l ++ post) = pre ++ (viB (l.length : Int) ++ (l ++ post)) := by unfold txB; rw [List.append_assoc]
  rw [e]
  simp only [byM, h1, Int.toNat_natCast, tkI, h2, if_pos]
  rw [show pre ++ (viB (l.length : Int) ++ (l ++ post)) = (pre ++ viB (l.length : Int)) ++ (l ++ post) by rw [List.append_assoc], show pre.length + (viB (l.length : Int)).length = (pre ++ viB (l.length : Int)).length by rw [List.length_append], List.drop_left, List.take_left]
  unfold txB
  simp only [List.length_append, Nat.add_assoc]
section
variable {α β γ : Type} {m1 : List (BitVec 8) → Nat × Int → (Nat × Int) × α} {m2 : List (BitVec 8) → Nat × Int → (Nat × Int) × β} {l1 l2 : List (BitVec 8)} {x1 : α} {x2 : β}
/-- One behind the other. -/
def seqM (m1 : List (BitVec 8) → Nat × Int → (Nat × Int) × α) (m2 : List (BitVec 8) → Nat × Int → (Nat × Int) × β) (f : α → β → γ) (b : List (BitVec 8)) (s : Nat × Int) : (Nat × Int) × γ := ((m2 b (m1 b s).1).1, f (m1 b s).2 (m2 b (m1 b s).1).2)
theorem Rds.seq (h1 : Rds m1 l1 x1) (h2 : Rds m2 l2 x2) (f : α → β → γ) : Rds (seqM m1 m2 f) (l1 ++ l2) (f x1 x2) := fun pre post => by
  have e1 := h1 pre (l2 ++ post)
  have e2 := h2 (pre ++ l1) post
  rw [List.length_append, List.append_assoc] at e2
  unfold seqM
  rw [List.append_assoc, e1, e2, List.length_append, Nat.add_assoc]
theorem Cut.seq (h1 : Cut m1 l1) (r1 : Rds m1 l1 x1) (h2 : Cut m2 l2) (s2 : Stay m2) (f : α → β → γ) : Cut (seqM m1 m2 f) (l1 ++ l2) := fun pre t u he hu => by
  unfold seqM
  rcases List.append_eq_append_iff.1 he with ⟨a, ha, hb⟩ | ⟨a, ha, hb⟩
  · -- t = l1 ++ a, l2 = a ++ u
    subst ha
    have e1 := r1 pre a
    have e2 := h2 (pre ++ l1) a u hb hu
    rw [List.length_append, List.append_assoc] at e2
    rw [e1]
    exact e2
  · -- l1 = t ++ a, u = a ++ l2
    by_cases h0 : a = []
    · subst h0
      rw [List.append_nil] at ha
      subst ha
      have e1 := r1 pre []
      rw [List.append_nil] at e1
      have e2 := h2 (pre ++ l1) [] l2 rfl (by rw [List.nil_append] at hb; rw [← hb]; exact hu)
      rw [List.length_append, List.append_nil] at e2
      rw [e1]
      exact e2
    · have e1 := h1 pre t a ha h0
      have h10 : (m1 (pre ++ t) (pre.length, 0)).1.2 ≠ 0 := by rw [e1]; decide
      have e2 := s2 (pre ++ t) (m1 (pre ++ t) (pre.length, 0)).1.1 _ h10
      rw [show (m1 (pre ++ t) (pre.length, 0)).1 = ((m1 (pre ++ t) (pre.length, 0)).1.1, (m1 (pre ++ t) (pre.length, 0)).1.2) from rfl, e2]
      exact e1
theorem Rds.as {m m' : List (BitVec 8) → Nat × Int → (Nat × Int) × α} {l l' : List (BitVec 8)} {x x' : α} (h : Rds m l x) (hm : ∀ b s, m' b s = m b s) (hl : l' = l) (hx : x' = x) : Rds m' l' x' := fun pre post => by rw [hl, hx, hm]; exact h pre post
theorem Cut.as {m m' : List (BitVec 8) → Nat × Int → (Nat × Int) × α} {l l' : List (BitVec 8)} (h : Cut m l) (hm : ∀ b s, m' b s = m b s) (hl : l' = l) : Cut m' l' := fun pre t u he hu => by rw [hm]; rw [hl] at he; exact h pre t u he hu
end
/-- Rows that are read one behind the other. -/
theorem rds_rows {α : Type} {g : List (BitVec 8) → Nat × Int → (Nat × Int) × α} {enc : α → List (BitVec 8)} : ∀ (ms : List α), (∀ m ∈ ms, Rds g (enc m) m) → Rds (fun b s => rowsM (g b) ms.length s) (ms.flatMap enc) ms
  | [], _ => fun pre post => by simp [rowsM_zero]
  | m :: ms, h => fun pre post => by
    have e1 := h m (List.mem_cons_self ..) pre (ms.flatMap enc ++ post)
    have e2 := rds_rows ms (fun x hx => h x (List.mem_cons_of_mem _ hx)) (pre ++ enc m) post
    rw [List.flatMap_cons, List.append_assoc, List.length_cons]
    show rowsM _ _ _ = _
    rw [rowsM_step _ _ rfl, e1]
    simp only [List.append_assoc, List.length_append] at e2 ⊢
    rw [e2, Nat.add_assoc]
theorem rds_al {α : Type} {g : List (BitVec 8) → Nat × Int → (Nat × Int) × α} {enc : α → List (BitVec 8)} {ms : List α} (hl : ms.length ≤ 60000) (h : ∀ m ∈ ms, Rds g (enc m) m) : Rds (fun b s => rowsM (g b) (nM b 60000 s).2.toNat (nM b 60000 s).1) (alB enc ms) ms := fun pre post => by
  have e1 := rds_n (n := (ms.length : Int)) (most := 60000) (by omega) (by omega) (by omega) pre (ms.flatMap enc ++ post)
  simp only at e1
  have e2 := rds_rows ms h (pre ++ viB (ms.length : Int)) post
  unfold alB
  rw [List.append_assoc]
  show rowsM _ _ _ = _
  rw [e1, Int.toNat_natCast]
  simp only [List.append_assoc, List.length_append] at e2 ⊢
  rw [e2, Nat.add_assoc]
theorem rds_us {m : MUs} (h0 : 0 ≤ m.acc) (h1 : m.acc ≤ 1099511627776) (hn : m.name.length ≤ 60000) : Rds usM (usB m) m :=
  (((rds_by hn).seq (rds_n h0 h1 (by omega)) Prod.mk).seq (rds_tr m.sure) (fun p s => (⟨p.1, p.2, s⟩ : MUs))).as (fun _ _ => rfl) rfl rfl
theorem rds_uss {ms : List MUs} (hl : ms.length ≤ 60000) (h : ∀ m ∈ ms, 0 ≤ m.acc ∧ m.acc ≤ 1099511627776 ∧ m.name.length ≤ 60000) : Rds ussM (alB usB ms) ms := rds_al hl fun m hm => rds_us (h m hm).1 (h m hm).2.1 (h m hm).2.2
/-- The whole is read. -/
theorem rdUs_back {ms : List MUs} (hl : ms.length ≤ 60000) (h : ∀ m ∈ ms, 0 ≤ m.acc ∧ m.acc ≤ 1099511627776 ∧ m.name.length ≤ 60000) (hb : (alB usB ms).length ≤ 60000) : rdUs (alB usB ms) = (ms, 0) := by
  have e := rds_uss hl h [] []
  rw [List.nil_append, List.append_nil, List.length_nil, Nat.zero_add] at e
  have hs : (alB usB ms, (0 : Int)) = beginM (alB usB ms) := by unfold beginM; rw [if_neg (by omega)]
  unfold rdUs
  rw [← hs]
  have hE : endM (alB usB ms).length (alB usB ms).length 0 = 0 := by unfold endM; rw [if_neg (fun h => absurd h.2 (Nat.lt_irrefl _))]
  simp only [e, hE, if_pos]
end Go.Proofs.Ytgioojahadlmhaa
namespace Go.Proofs.Ytgioojahadlmhaa
open Go.RowKit
set_option maxRecDepth 20000
attribute [local irreducible] wpList

section
variable {w : World} {ρ : Operand → Value} {o : Oper} {t t' : TypeId} {x y : Operand}
theorem run_remT {a b : Int} (ho : o.op = .binOp .rem t x y t') (hx : ρ x = .int .i64 a) (hy : ρ y = .int .i64 b) (h0 : ¬ b = 0) : (execOp ρ o).run Try.prog w = .ok (.value (.int .i64 (a.tmod b))) w := by
  obtain ⟨dst, op, type, pos, after, guard⟩ := o
  subst ho
  generalize hr : a.tmod b = r at *
  go_simp
  try exact hr
theorem run_rem8k {a b : Nat} (ho : o.op = .binOp .rem t x y t') (hx : ρ x = .int .u8 (a : Int)) (hy : ρ y = .int .u8 (b : Int)) (h2 : 0 < b) : (execOp ρ o).run Try.prog w = .ok (.value (.int .u8 ((a % b : Nat) : Int))) w := by
  obtain ⟨dst, op, type, pos, after, guard⟩ := o
  subst ho
  have hb : ¬ (b : Int) = 0 := by omega
  have e : ((a % b : Nat) : Int) = (a : Int).tmod (b : Int) := by rw [Int.tmod_eq_emod_of_nonneg (by omega)]; omega
  rw [e]
  generalize (a : Int) = a at *
  generalize (b : Int) = b at *
  go_simp
theorem run_shrN {k : IntKind} {n s : Nat} (ho : o.op = .binOp .shr t x y t') (hx : ρ x = .int .i64 (n : Int)) (hy : ρ y = .int k (s : Int)) (hs : s ≤ 64) : (execOp ρ o).run Try.prog w = .ok (.value (.int .i64 ((n / 2 ^ s : Nat) : Int))) w := by
  obtain ⟨dst, op, type, pos, after, guard⟩ := o
  subst ho
  have e : (n : Int) / 2 ^ s = ((n / 2 ^ s : Nat) : Int) := by simp
  have hk0 : (0 : Int) ≤ (s : Int) := by omega
  generalize n / 2 ^ s = z at *
  go_simp
  try exact e
end
theorem enters_wn10 : Enters 3 := enters_of Try.func3 (by kernel_rfl) rfl
set_option maxHeartbeats 8000000 in
theorem wireNumbers_any (n : Int) (k : Nat) (w : World) : Calls Try.prog 3 #[.int .i64 n, .int .u8 (k : Int)] w fun e w' => e = .returned (.bool true) ∧ Below w.heap.size w w' := by
  have E := Lib.hid (Ev.start (w := w) (F := fun _ => True) fun _ _ => trivial)
  obtain ⟨r, hr⟩ : ∃ r, r = n.tmod 1099511627777 := ⟨_, rfl⟩
  have hr0 : r.natAbs < 1099511627777 := by
    rw [hr, Int.natAbs_tmod]
    exact Nat.mod_lt _ (by decide)
  have hr1 : -1099511627777 < r ∧ r < 1099511627777 := by omega
  obtain ⟨a, ha⟩ : ∃ a : Nat, a = r.natAbs := ⟨_, rfl⟩
  have hal : a ≤ 1099511627776 := by omega
  obtain ⟨x, hx⟩ : ∃ x : Nat, x = a / 2 ^ (k % 41) := ⟨_, rfl⟩
  have hxl : x ≤ 1099511627776 := by rw [hx]; exact Nat.le_trans (Nat.div_le_self _ _) hal
  have HR := Lib.hid hr
  have HX := Lib.hid hx
  obtain ⟨us, hus⟩ : ∃ us : List MUs, us = [⟨[], (x : Int), false⟩] := ⟨_, rfl⟩
  obtain ⟨B, hB⟩ : ∃ B : List (BitVec 8), B = alB usB us := ⟨_, rfl⟩
  have hul : us.length = 1 := by rw [hus]; rfl
  have hBe : B = [1, 0] ++ (viB (x : Int) ++ [0]) := by
    have e1 : viB ((1 : Nat) : Int) = [1] := by decide +kernel
    have e0 : viB ((0 : Nat) : Int) = [0] := by decide +kernel
    rw [hB, hus]
    show viB ((1 : Nat) : Int) ++ ((((viB ((0 : Nat) : Int) ++ []) ++ viB (x : Int)) ++ [0]) ++ []) = _
    rw [e1, e0]
    simp
  have hBl : B.length = 3 + (viB (x : Int)).length := by rw [hBe]; simp only [List.length_append, List.length_cons, List.length_nil]; omega
  have hvl := viB_len (x : Int)
  have K2 : Hid (rdUs B = (us, 0)) := Lib.hid (by
    rw [hB]
    refine rdUs_back (by omega) (fun m hm => ?_) (by rw [← hB]; omega)
    rw [hus, List.mem_singleton] at hm
    rw [hm]
    exact ⟨by show (0 : Int) ≤ (x : Int); omega, by show (x : Int) ≤ _; omega, by show (0 : Nat) ≤ _; omega⟩)
  have K1 := Lib.hid hB
  have HU := Lib.hid hus
  have hcl : clN (x : Int) = x := by unfold clN; omega
  have N0 : Hid (NuI x [] x) := Lib.hid (NuI.start hxl)
  have NL : Hid (∀ pre m, NuI x pre m → m ≤ 127 → B.length = 3 + (pre.length + 1)) := Lib.hid fun pre m h hm => by
    have := h.done hm
    rw [hBl]
    unfold viB
    rw [hcl, this, List.length_append]
    rfl
  clear hB hBe hus hx hr hcl
  go_enter Try.func3, Try.ntmps3
  go_upto_region 0 with fail; refine wp_region_lit ?_
  refine wpList_val (run_asg (v := .bool false) rfl rfl) rfl ?_; (try simp only [Act.put, List.setIfInBounds_toArray, List.set_cons_zero, List.set_cons_succ])
  refine wpList_end ?_
  go_upto_region 1 with fail; refine wp_region_lit ?_
  refine wpList_val (run_mv (v := .int .i64 n) rfl rfl) rfl ?_; (try simp only [Act.put, List.setIfInBounds_toArray, List.set_cons_zero, List.set_cons_succ])
  refine wpList_val (run_remT (a := n) (b := 1099511627777) rfl rfl rfl (by omega)) rfl ?_; (try simp only [Act.put, List.setIfInBounds_toArray, List.set_cons_zero, List.set_cons_succ])
  rw [← HR.out]
  refine wpList_val (run_asg (v := .int .i64 r) rfl rfl) rfl ?_; (try simp only [Act.put, List.setIfInBounds_toArray, List.set_cons_zero, List.set_cons_succ])
  refine wpList_end ?_
  go_upto_region 2 with fail; refine wp_region_lit ?_
  refine wpList_val (run_mv (v := .int .i64 r) rfl rfl) rfl ?_; (try simp only [Act.put, List.setIfInBounds_toArray, List.set_cons_zero, List.set_cons_succ])
  refine wpList_val (run_lssb (a := r) (b := 0) (c := decide (r < 0)) rfl rfl rfl rfl) rfl ?_; (try simp only [Act.put, List.setIfInBounds_toArray, List.set_cons_zero, List.set_cons_succ])
  refine wpList_end ?_
  go_upto_if 14 with fail
  go_cut [5] (fun s5 u => s5 = .int .i64 (a : Int) ∧ u = w)
  case first =>
    by_cases hneg : r < 0
    · rw [decide_eq_true hneg]
      go_upto_region 3 with fail; refine wp_region_lit ?_
      refine wpList_val (run_mv (v := .int .i64 r) rfl rfl) rfl ?_; (try simp only [Act.put, List.setIfInBounds_toArray, List.set_cons_zero, List.set_cons_succ])
      refine wpList_val (run_neg (a := r) rfl rfl (by omega) (by omega)) rfl ?_; (try simp only [Act.put, List.setIfInBounds_toArray, List.set_cons_zero, List.set_cons_succ])
      rw [show -r = (a : Int) by omega]
      refine wpList_val (run_asg (v := .int .i64 (a : Int)) rfl rfl) rfl ?_; (try simp only [Act.put, List.setIfInBounds_toArray, List.set_cons_zero, List.set_cons_succ])
      refine wpList_end ?_
      go_wp2_with fail
      go_meet
      exact ⟨by first | rfl | rw [ha], rfl⟩
    · rw [decide_eq_false hneg]
      go_wp2_with fail
      go_meet
      exact ⟨by rw [show r = (a : Int) by omega], rfl⟩
  case rest =>
    obtain ⟨rfl, rfl⟩ := hcut
    go_upto_region 4 with fail; refine wp_region_lit ?_
    refine wpList_val (run_mv (v := .int .i64 (a : Int)) rfl rfl) rfl ?_; (try simp only [Act.put, List.setIfInBounds_toArray, List.set_cons_zero, List.set_cons_succ])
    refine wpList_val (run_mv (v := .int .u8 (k : Int)) rfl rfl) rfl ?_; (try simp only [Act.put, List.setIfInBounds_toArray, List.set_cons_zero, List.set_cons_succ])
    refine wpList_val (run_rem8k (a := k) (b := 41) rfl rfl rfl (by omega)) rfl ?_; (try simp only [Act.put, List.setIfInBounds_toArray, List.set_cons_zero, List.set_cons_succ])
    refine wpList_val (run_shrN (n := a) (s := k % 41) rfl rfl rfl (by omega)) rfl ?_; (try simp only [Act.put, List.setIfInBounds_toArray, List.set_cons_zero, List.set_cons_succ])
    rw [← HX.out]
    refine wpList_val (run_asg (v := .int .i64 (x : Int)) rfl rfl) rfl ?_; (try simp only [Act.put, List.setIfInBounds_toArray, List.set_cons_zero, List.set_cons_succ])
    refine wpList_end ?_
    go_upto_region 5 with fail; refine wp_region_lit ?_
    refine wpList_val (run_mv (v := .int .i64 (x : Int)) rfl rfl) rfl ?_; (try simp only [Act.put, List.setIfInBounds_toArray, List.set_cons_zero, List.set_cons_succ])
    refine wpList_val (run_bldP (cells := (usR (.string ⟨#[]⟩) (.int .i64 (x : Int)) (.bool false)).toArray) (ps := [(1, .int .i64 (x : Int))]) rfl rfl (by unfold usR; kernel_rfl)) rfl ?_; (try simp only [Act.put, List.setIfInBounds_toArray, List.set_cons_zero, List.set_cons_succ])
    refine wpList_val (run_bsl1 (m := usR (.string ⟨#[]⟩) (.int .i64 (x : Int)) (.bool false)) (z := 3) (zv := .agg ([.string ⟨#[]⟩, .int .i64 0, .bool false] : List Value).toArray) rfl Try.underlying26 (by kernel_rfl) rfl usR_len (by omega) (by omega)) rfl ?_; (try simp only [Act.put, List.setIfInBounds_toArray, List.set_cons_zero, List.set_cons_succ])
    have HA := Lib.hid (Arr.new wc (usR (.string ⟨#[]⟩) (.int .i64 (x : Int)) (.bool false)) 25)
    replace E := Lib.hid (E.out.new (usR (.string ⟨#[]⟩) (.int .i64 (x : Int)) (.bool false)) 25)
    generalize wc.alloc (.cells (usR (.string ⟨#[]⟩) (.int .i64 (x : Int)) (.bool false)).toArray 25) = a1 at *
    obtain ⟨g1, hg1⟩ : ∃ k, k = wc.heap.size := ⟨_, rfl⟩
    rw [← hg1] at E HA ⊢
    clear hg1
    have HS : Hid (Fro 0 (SlR 3 usAt us (some ⟨g1, 0, none⟩) 1) a1) := Lib.hid (by rw [HU.out]; exact slR_sole HA.out usR_len fun _ _ => rfl)
    have HC : Hid (Calls Try.prog 8 #[.slice (some ⟨g1, 0, none⟩) 1 1] a1 fun e w' => ∃ v', e = .returned v' ∧ S5 a1 v' B w') := Lib.hid (by
      have h := xUss_any a1 us (some ⟨g1, 0, none⟩) 1 (by omega) HS.out (by rw [← K1.out]; omega)
      rw [← K1.out, hul] at h
      exact h)
    refine wpList_callR (run_call1 enters_xUss rfl rfl rfl) rfl HC.out (fun v2 a2 hR => ?_); (try simp only [Act.put, List.setIfInBounds_toArray, List.set_cons_zero, List.set_cons_succ])
    have hs9 := hR.sl
    obtain ⟨ax, cx, rfl, -, -⟩ := id hs9
    replace E := Lib.hid (E.out.call hR.bl (fro_sl hR.O))
    clear hR hs9 HS HC HA
    refine wpList_val (run_asg (v := .slice ax B.length cx) rfl rfl) rfl ?_; (try simp only [Act.put, List.setIfInBounds_toArray, List.set_cons_zero, List.set_cons_succ])
    refine wpList_end ?_
    go_upto_region 6 with fail; refine wp_region_lit ?_
    refine wpList_val (run_mv (v := .slice ax B.length cx) rfl rfl) rfl ?_; (try simp only [Act.put, List.setIfInBounds_toArray, List.set_cons_zero, List.set_cons_succ])
    refine wpList_callR (run_call1 enters_ryUs rfl rfl rfl) rfl (ryUs_any ax B cx us 0 K2.out _ E.out.h.1) (fun v3 a3 hR => ?_); (try simp only [Act.put, List.setIfInBounds_toArray, List.set_cons_zero, List.set_cons_succ])
    obtain ⟨⟨ay, cy, rfl, fy⟩, hb⟩ := hR
    rw [hul]
    replace E := Lib.hid (E.out.call hb fy)
    clear hb fy
    refine wpList_val (run_mv (v := .tuple #[.slice ay 1 cy, .int .u16 0]) rfl rfl) rfl ?_; (try simp only [Act.put, List.setIfInBounds_toArray, List.set_cons_zero, List.set_cons_succ])
    refine wpList_val (run_xtrR (v := .slice ay 1 cy) rfl rfl rfl) rfl ?_; (try simp only [Act.put, List.setIfInBounds_toArray, List.set_cons_zero, List.set_cons_succ])
    refine wpList_val (run_xtrR (v := .int .u16 0) rfl rfl rfl) rfl ?_; (try simp only [Act.put, List.setIfInBounds_toArray, List.set_cons_zero, List.set_cons_succ])
    refine wpList_val (run_asg (v := .slice ay 1 cy) rfl rfl) rfl ?_; (try simp only [Act.put, List.setIfInBounds_toArray, List.set_cons_zero, List.set_cons_succ])
    refine wpList_val (run_asg (v := .int .u16 0) rfl rfl) rfl ?_; (try simp only [Act.put, List.setIfInBounds_toArray, List.set_cons_zero, List.set_cons_succ])
    refine wpList_end ?_
    generalize hBL : B.length = bl at *
    go_upto_region 7 with fail; refine wp_region_lit ?_
    refine wpList_val (run_asg (v := .int .i64 1) rfl rfl) rfl ?_; (try simp only [Act.put, List.setIfInBounds_toArray, List.set_cons_zero, List.set_cons_succ])
    refine wpList_end ?_
    go_upto_region 8 with fail; refine wp_region_lit ?_
    refine wpList_val (run_mv (v := .int .i64 (x : Int)) rfl rfl) rfl ?_; (try simp only [Act.put, List.setIfInBounds_toArray, List.set_cons_zero, List.set_cons_succ])
    refine wpList_val (run_asg (v := .int .i64 (x : Int)) rfl rfl) rfl ?_; (try simp only [Act.put, List.setIfInBounds_toArray, List.set_cons_zero, List.set_cons_succ])
    refine wpList_end ?_
    go_wp2_with fail
    go_loopw [9, 10] (fun s9 s10 u => ∃ (m : Nat) (pre : List (BitVec 8)), s9 = .int .i64 ((pre.length + 1 : Nat) : Int) ∧ s10 = .int .i64 (m : Int) ∧ NuI x pre m ∧ u = a3) (fun _ s10 _ => (intOf s10).toNat)
    case atStart => exact ⟨x, [], rfl, rfl, N0.out, rfl⟩
    case round =>
      obtain ⟨m, pre, rfl, rfl, hN, rfl⟩ := hrel
      have HN := Lib.hid hN
      have hpl := hN.len
      have hml := hN.le
      clear hN
      by_cases hlt : 127 < m
      · have NX := Lib.hid (HN.out.step hlt)
        go_upto_region 9 with fail; refine wp_region_lit ?_
        refine wpList_val (run_mv (v := .int .i64 (m : Int)) rfl rfl) rfl ?_; (try simp only [Act.put, List.setIfInBounds_toArray, List.set_cons_zero, List.set_cons_succ])
        refine wpList_val (run_gtrb (c := true) rfl rfl rfl (decide_eq_true (by omega))) rfl ?_; (try simp only [Act.put, List.setIfInBounds_toArray, List.set_cons_zero, List.set_cons_succ])
        refine wpList_end ?_
        go_upto_region 11 with fail; refine wp_region_lit ?_
        refine wpList_val (run_mv (v := .int .i64 ((pre.length + 1 : Nat) : Int)) rfl rfl) rfl ?_; (try simp only [Act.put, List.setIfInBounds_toArray, List.set_cons_zero, List.set_cons_succ])
        refine wpList_val (run_addN (a := pre.length + 1) (b := 1) rfl rfl rfl (by omega)) rfl ?_; (try simp only [Act.put, List.setIfInBounds_toArray, List.set_cons_zero, List.set_cons_succ])
        refine wpList_val (run_asg (v := .int .i64 ((pre.length + 1 + 1 : Nat) : Int)) rfl rfl) rfl ?_; (try simp only [Act.put, List.setIfInBounds_toArray, List.set_cons_zero, List.set_cons_succ])
        refine wpList_end ?_
        go_upto_region 10 with fail; refine wp_region_lit ?_
        refine wpList_val (run_mv (v := .int .i64 (m : Int)) rfl rfl) rfl ?_; (try simp only [Act.put, List.setIfInBounds_toArray, List.set_cons_zero, List.set_cons_succ])
        refine wpList_val (run_quoN (a := m) (b := 128) rfl rfl rfl (by omega) (by omega)) rfl ?_; (try simp only [Act.put, List.setIfInBounds_toArray, List.set_cons_zero, List.set_cons_succ])
        refine wpList_val (run_asg (v := .int .i64 ((m / 128 : Nat) : Int)) rfl rfl) rfl ?_; (try simp only [Act.put, List.setIfInBounds_toArray, List.set_cons_zero, List.set_cons_succ])
        refine wpList_end ?_
        go_wp2_with fail
        exact ⟨⟨m / 128, pre ++ [BitVec.ofNat 8 (m % 128 + 128)], by rw [List.length_append]; rfl, rfl, NX.out, by first | rfl | trivial⟩, by simp [intOf]; omega⟩
      · have hEnd := NL.out pre m HN.out (by omega)
        have hY := E.out.h.1
        obtain ⟨g, f, cs, rfl, hgl, hcl, hcr, hct⟩ := slR_at hY (i := 0) (by omega)
        have hcs : cs = usR (.string ⟨#[]⟩) (.int .i64 (x : Int)) (.bool false) := by
          have h := hct
          have e : us[0]'(by omega) = ⟨[], (x : Int), false⟩ := by simp only [HU.out, List.getElem_cons_zero]
          rw [e] at h
          exact h
        subst hcs
        have HCR : Hid (wr.cell? ⟨g, f + 0 * 3 + 1, none⟩ = some (.int .i64 (x : Int))) := Lib.hid (hcr 1 _ usR_Account)
        have HE := Lib.hid hEnd
        clear hcr hct hY hcl
        go_upto_region 9 with fail; refine wp_region_lit ?_
        refine wpList_val (run_mv (v := .int .i64 (m : Int)) rfl rfl) rfl ?_; (try simp only [Act.put, List.setIfInBounds_toArray, List.set_cons_zero, List.set_cons_succ])
        refine wpList_val (run_gtrb (c := false) rfl rfl rfl (decide_eq_false (by omega))) rfl ?_; (try simp only [Act.put, List.setIfInBounds_toArray, List.set_cons_zero, List.set_cons_succ])
        refine wpList_end ?_
        go_upto_region 12 with fail; refine wp_region_lit ?_
        refine wpList_enter (run_call0 enters_kn10 rfl rfl) rfl (known10_any _) (fun a4 hb => ?_); (try simp only [Act.put, List.setIfInBounds_toArray, List.set_cons_zero, List.set_cons_succ])
        have HBl := Lib.hid (E.out.bl.trans (hb.mono E.out.bl.size))
        have HCR2 : Hid (a4.cell? ⟨g, f + 0 * 3 + 1, none⟩ = some (.int .i64 (x : Int))) := Lib.hid ((hb.cell (p := ⟨g, f + 0 * 3 + 1, none⟩) hgl).trans HCR.out)
        clear hb HCR
        refine wpList_val (run_mv (v := .bool true) rfl rfl) rfl ?_; (try simp only [Act.put, List.setIfInBounds_toArray, List.set_cons_zero, List.set_cons_succ])
        refine wpList_valG (run_mv (v := .int .u16 0) rfl rfl) rfl ?_; (try simp only [Act.put, List.setIfInBounds_toArray, List.set_cons_zero, List.set_cons_succ])
        refine wpList_valG (run_eqlb (c := true) rfl rfl rfl rfl) rfl ?_; (try simp only [Act.put, List.setIfInBounds_toArray, List.set_cons_zero, List.set_cons_succ])
        refine wpList_val (run_pick (b := true) (v := .bool true) rfl rfl rfl) rfl ?_; (try simp only [Act.put, List.setIfInBounds_toArray, List.set_cons_zero, List.set_cons_succ])
        refine wpList_val (run_mv (v := .bool true) rfl rfl) rfl ?_; (try simp only [Act.put, List.setIfInBounds_toArray, List.set_cons_zero, List.set_cons_succ])
        refine wpList_valG (run_mv (v := .slice (some _) 1 cy) rfl rfl) rfl ?_; (try simp only [Act.put, List.setIfInBounds_toArray, List.set_cons_zero, List.set_cons_succ])
        refine wpList_valG (run_len rfl Try.underlying26 rfl) rfl ?_; (try simp only [Act.put, List.setIfInBounds_toArray, List.set_cons_zero, List.set_cons_succ])
        refine wpList_valG (run_eqlb (c := true) rfl rfl rfl rfl) rfl ?_; (try simp only [Act.put, List.setIfInBounds_toArray, List.set_cons_zero, List.set_cons_succ])
        refine wpList_val (run_pick (b := true) (v := .bool true) rfl rfl rfl) rfl ?_; (try simp only [Act.put, List.setIfInBounds_toArray, List.set_cons_zero, List.set_cons_succ])
        refine wpList_val (run_mv (v := .bool true) rfl rfl) rfl ?_; (try simp only [Act.put, List.setIfInBounds_toArray, List.set_cons_zero, List.set_cons_succ])
        refine wpList_valG (run_mv (v := .slice (some ⟨g, f, none⟩) 1 cy) rfl rfl) rfl ?_; (try simp only [Act.put, List.setIfInBounds_toArray, List.set_cons_zero, List.set_cons_succ])
        refine wpList_valG (run_ixZ (z := 3) (i := 0) rfl Try.underlying26 (by kernel_rfl) rfl rfl (by omega)) rfl ?_; (try simp only [Act.put, List.setIfInBounds_toArray, List.set_cons_zero, List.set_cons_succ])
        refine wpList_valG (run_fad (s := 0) (k := 1) rfl Try.underlying25 rfl (by kernel_rfl) rfl rfl) rfl ?_; (try simp only [Act.put, List.setIfInBounds_toArray, List.set_cons_zero, List.set_cons_succ])
        refine wpList_valG (run_ldc (v := .int .i64 (x : Int)) rfl Try.underlying3 rfl rfl HCR2.out) rfl ?_; (try simp only [Act.put, List.setIfInBounds_toArray, List.set_cons_zero, List.set_cons_succ])
        refine wpList_valG (run_mv (v := .int .i64 (x : Int)) rfl rfl) rfl ?_; (try simp only [Act.put, List.setIfInBounds_toArray, List.set_cons_zero, List.set_cons_succ])
        refine wpList_valG (run_eqlb (c := true) rfl rfl rfl (by simp)) rfl ?_; (try simp only [Act.put, List.setIfInBounds_toArray, List.set_cons_zero, List.set_cons_succ])
        refine wpList_val (run_pick (b := true) (v := .bool true) rfl rfl rfl) rfl ?_; (try simp only [Act.put, List.setIfInBounds_toArray, List.set_cons_zero, List.set_cons_succ])
        refine wpList_val (run_mv (v := .bool true) rfl rfl) rfl ?_; (try simp only [Act.put, List.setIfInBounds_toArray, List.set_cons_zero, List.set_cons_succ])
        refine wpList_valG (run_mv (v := .slice ax bl cx) rfl rfl) rfl ?_; (try simp only [Act.put, List.setIfInBounds_toArray, List.set_cons_zero, List.set_cons_succ])
        refine wpList_valG (run_len rfl Try.underlying22 rfl) rfl ?_; (try simp only [Act.put, List.setIfInBounds_toArray, List.set_cons_zero, List.set_cons_succ])
        refine wpList_valG (run_mv (v := .int .i64 ((pre.length + 1 : Nat) : Int)) rfl rfl) rfl ?_; (try simp only [Act.put, List.setIfInBounds_toArray, List.set_cons_zero, List.set_cons_succ])
        refine wpList_valG (run_addN (a := 3) (b := pre.length + 1) rfl rfl rfl (by omega)) rfl ?_; (try simp only [Act.put, List.setIfInBounds_toArray, List.set_cons_zero, List.set_cons_succ])
        refine wpList_valG (run_eqlb (c := true) rfl rfl rfl (by rw [HE.out]; simp)) rfl ?_; (try simp only [Act.put, List.setIfInBounds_toArray, List.set_cons_zero, List.set_cons_succ])
        refine wpList_val (run_pick (b := true) (v := .bool true) rfl rfl rfl) rfl ?_; (try simp only [Act.put, List.setIfInBounds_toArray, List.set_cons_zero, List.set_cons_succ])
        refine wpList_val (run_asg (v := .bool true) rfl rfl) rfl ?_; (try simp only [Act.put, List.setIfInBounds_toArray, List.set_cons_zero, List.set_cons_succ])
        refine wpList_end ?_
        go_wp2_with fail
        go_ret
        exact ⟨rfl, HBl.out⟩
end Go.Proofs.Ytgioojahadlmhaa
namespace Go.Proofs.Ytgioojahadlmhaa
open Go.RowKit
set_option maxRecDepth 20000
attribute [local irreducible] wpList

/-- A truth that is told. -/
def Tells (v : Value) (P : Prop) : Prop := ∃ r : Bool, v = .bool r ∧ (r = true ↔ P)
theorem run_eqBool {w : World} {ρ : Operand → Value} {o : Oper} {x y : Operand} {t t' : TypeId} {a b : Bool} (ho : o.op = .binOp .eql t x y t') (ht : Try.prog.underlying t = some .bool) (hx : ρ x = .bool a) (hy : ρ y = .bool b) : (execOp ρ o).run Try.prog w = .ok (.value (.bool (a == b))) w := by
  obtain ⟨dst, op, type, pos, after, guard⟩ := o
  subst ho
  have h := run_equalIn_bool' (P := Try.prog) w 9999 t a b ht
  have h2 : (binOp .eql t (.bool a) (.bool b)).run Try.prog w = .ok (.bool (a == b)) w := by
    simp only [binOp]
    simp [Op.equal, Op.maxDepth, h]
  go_simp
theorem run_eqStr {w : World} {ρ : Operand → Value} {o : Oper} {x y : Operand} {t t' : TypeId} {l m : List (BitVec 8)} (ho : o.op = .binOp .eql t x y t') (hx : ρ x = .string (strOf l)) (hy : ρ y = .string (strOf m)) : (execOp ρ o).run Try.prog w = .ok (.value (.bool (decide (l = m)))) w := by
  rw [← strOf_beq]
  exact run_eqstrG ho hx hy
theorem run_neqStr {w : World} {ρ : Operand → Value} {o : Oper} {x y : Operand} {t t' : TypeId} {l m : List (BitVec 8)} (ho : o.op = .binOp .neq t x y t') (hx : ρ x = .string (strOf l)) (hy : ρ y = .string (strOf m)) : (execOp ρ o).run Try.prog w = .ok (.value (.bool (!decide (l = m)))) w := by
  rw [← strOf_beq]
  obtain ⟨dst, op, type, pos, after, guard⟩ := o
  subst ho
  go_simp
section
variable {ops : Array Oper} {Q : Exit → Act → World → Prop} {rest : List Oper} {o : Oper} {a : Act} {w : World} {r : Bool} {v : Value}
/-- An operation that is wanted just if r holds. -/
theorem wpList_valI (hw : Region.wanted o (yielded ops a.tmps) = r) (hr : r = true → (execOp a.eval o).run Try.prog w = .ok (.value v) w) (h : wpList Try.prog ops Q rest (a.put o.dst (bif r then v else undef)) w) : wpList Try.prog ops Q (o :: rest) a w := by
  cases r
  · exact wpList_pass hw h
  · exact wpList_valG (hr rfl) hw h
theorem wpList_valO (hw : Region.wanted o (yielded ops a.tmps) = !r) (hr : r = false → (execOp a.eval o).run Try.prog w = .ok (.value v) w) (h : wpList Try.prog ops Q rest (a.put o.dst (bif r then undef else v)) w) : wpList Try.prog ops Q (o :: rest) a w := by
  cases r
  · exact wpList_valG (hr rfl) hw h
  · exact wpList_pass hw h
end
theorem enters_smE : Enters 20 := enters_of Try.func20 (by kernel_rfl) rfl
theorem mev_eq (x y : MEv) : x = y ↔ x.fr = y.fr ∧ x.dev = y.dev ∧ x.first = y.first ∧ x.eph = y.eph ∧ x.signed = y.signed ∧ x.one = y.one ∧ (x.head.r = y.head.r ∧ x.head.prev = y.head.prev ∧ x.head.n = y.head.n) ∧ x.body = y.body := by
  obtain ⟨a1, a2, a3, a4, a5, a6, ⟨a7, a8, a9⟩, a10⟩ := x
  obtain ⟨b1, b2, b3, b4, b5, b6, ⟨b7, b8, b9⟩, b10⟩ := y
  simp only [MEv.mk.injEq, MHd.mk.injEq]
set_option maxHeartbeats 8000000 in
theorem smE_any (x y : MEv) (X Y : List Value) (w : World) (hx : x.Ok) (hy : y.Ok) (hX : Fro 0 (evAt x X) w) (hY : Fro 0 (evAt y Y) w) : Calls Try.prog 20 #[.agg X.toArray, .agg Y.toArray] w fun e w' => ∃ v', e = .returned v' ∧ (Tells v' (x = y) ∧ Below w.heap.size w w') := by
  obtain ⟨ax, cx, rfl, fx⟩ := evAt_fix hx hX
  obtain ⟨ay, cy, rfl, fy⟩ := evAt_fix hy hY
  clear hX hY
  obtain ⟨kx1, kx2, kx3⟩ := hx
  obtain ⟨ky1, ky2, ky3⟩ := hy
  have FX := Lib.hid fx
  have FY := Lib.hid fy
  clear fx fy
  rw [evC_row, evC_row]
  have E := Lib.hid (Ev.start (w := w) (F := fun _ => True) fun _ _ => trivial)
  go_enter Try.func20, Try.ntmps20
  go_upto_region 0 with fail; refine wp_region_lit ?_
  refine wpList_val (run_boxL8 (vs := evR (.int .i64 x.fr) (.int .i64 x.dev) (.bool x.first) (x.eph.map b8) (.int .i64 x.signed) (.int .i64 x.one) (hdC x.head) (.slice ax x.body.length cx)) rfl rfl) rfl ?_; (try simp only [Act.put, List.setIfInBounds_toArray, List.set_cons_zero, List.set_cons_succ])
  replace E := Lib.hid (E.out.new (evR (.int .i64 x.fr) (.int .i64 x.dev) (.bool x.first) (x.eph.map b8) (.int .i64 x.signed) (.int .i64 x.one) (hdC x.head) (.slice ax x.body.length cx)) 64)
  generalize w.alloc (.cells (evR (.int .i64 x.fr) (.int .i64 x.dev) (.bool x.first) (x.eph.map b8) (.int .i64 x.signed) (.int .i64 x.one) (hdC x.head) (.slice ax x.body.length cx)).toArray 64) = a1 at *
  generalize w.heap.size = g2 at *
  refine wpList_val (run_boxL8 (vs := evR (.int .i64 y.fr) (.int .i64 y.dev) (.bool y.first) (y.eph.map b8) (.int .i64 y.signed) (.int .i64 y.one) (hdC y.head) (.slice ay y.body.length cy)) rfl rfl) rfl ?_; (try simp only [Act.put, List.setIfInBounds_toArray, List.set_cons_zero, List.set_cons_succ])
  replace E := Lib.hid (E.out.new (evR (.int .i64 y.fr) (.int .i64 y.dev) (.bool y.first) (y.eph.map b8) (.int .i64 y.signed) (.int .i64 y.one) (hdC y.head) (.slice ay y.body.length cy)) 64)
  generalize a1.alloc (.cells (evR (.int .i64 y.fr) (.int .i64 y.dev) (.bool y.first) (y.eph.map b8) (.int .i64 y.signed) (.int .i64 y.one) (hdC y.head) (.slice ay y.body.length cy)).toArray 64) = a3 at *
  generalize a1.heap.size = g4 at *
  refine wpList_val (run_asg (v := .bool false) rfl rfl) rfl ?_; (try simp only [Act.put, List.setIfInBounds_toArray, List.set_cons_zero, List.set_cons_succ])
  refine wpList_end ?_
  go_upto_region 1 with fail; refine wp_region_lit ?_
  refine wpList_val (run_fad (s := 0) (k := 0) rfl Try.underlying64 rfl (by kernel_rfl) rfl rfl) rfl ?_; (try simp only [Act.put, List.setIfInBounds_toArray, List.set_cons_zero, List.set_cons_succ])
  refine wpList_val (run_ldc rfl Try.underlying3 rfl rfl ((E.out.get (i := 1) rfl).c 0 _ (evR_From ))) rfl ?_; (try simp only [Act.put, List.setIfInBounds_toArray, List.set_cons_zero, List.set_cons_succ])
  refine wpList_val (run_fad (s := 0) (k := 0) rfl Try.underlying64 rfl (by kernel_rfl) rfl rfl) rfl ?_; (try simp only [Act.put, List.setIfInBounds_toArray, List.set_cons_zero, List.set_cons_succ])
  refine wpList_val (run_ldc rfl Try.underlying3 rfl rfl ((E.out.get (i := 0) rfl).c 0 _ (evR_From ))) rfl ?_; (try simp only [Act.put, List.setIfInBounds_toArray, List.set_cons_zero, List.set_cons_succ])
  refine wpList_val (run_eqlb (c := (((x.fr : Int) == (y.fr : Int)))) rfl rfl rfl rfl) rfl ?_; (try simp only [Act.put, List.setIfInBounds_toArray, List.set_cons_zero, List.set_cons_succ])
  obtain ⟨r1, hr1⟩ : ∃ z : Bool, z = ((((x.fr : Int) == (y.fr : Int)))) := ⟨_, rfl⟩
  rw [← hr1]
  have Hr1 := Lib.hid hr1
  clear hr1
  refine wpList_val (run_mv (v := .bool r1) rfl rfl) rfl ?_; (try simp only [Act.put, List.setIfInBounds_toArray, List.set_cons_zero, List.set_cons_succ])
  refine wpList_valI (r := r1) (v := .pointer (some ⟨g2, 1, none⟩)) (by cases r1 <;> rfl) (fun hq => by subst hq; exact (run_fad (s := 0) (k := 1) rfl Try.underlying64 rfl (by kernel_rfl) rfl rfl)) ?_; (try simp only [Act.put, List.setIfInBounds_toArray, List.set_cons_zero, List.set_cons_succ])
  refine wpList_valI (r := r1) (v := .int .i64 x.dev) (by cases r1 <;> rfl) (fun hq => by subst hq; exact (run_ldc rfl Try.underlying3 rfl rfl ((E.out.get (i := 1) rfl).c 1 _ (evR_Device )))) ?_; (try simp only [Act.put, List.setIfInBounds_toArray, List.set_cons_zero, List.set_cons_succ])
  refine wpList_valI (r := r1) (v := .pointer (some ⟨g4, 1, none⟩)) (by cases r1 <;> rfl) (fun hq => by subst hq; exact (run_fad (s := 0) (k := 1) rfl Try.underlying64 rfl (by kernel_rfl) rfl rfl)) ?_; (try simp only [Act.put, List.setIfInBounds_toArray, List.set_cons_zero, List.set_cons_succ])
  refine wpList_valI (r := r1) (v := .int .i64 y.dev) (by cases r1 <;> rfl) (fun hq => by subst hq; exact (run_ldc rfl Try.underlying3 rfl rfl ((E.out.get (i := 0) rfl).c 1 _ (evR_Device )))) ?_; (try simp only [Act.put, List.setIfInBounds_toArray, List.set_cons_zero, List.set_cons_succ])
  refine wpList_valI (r := r1) (v := .bool (((x.dev : Int) == (y.dev : Int)))) (by cases r1 <;> rfl) (fun hq => by subst hq; exact (run_eqlb (c := (((x.dev : Int) == (y.dev : Int)))) rfl rfl rfl rfl)) ?_; (try simp only [Act.put, List.setIfInBounds_toArray, List.set_cons_zero, List.set_cons_succ])
  refine wpList_val (run_pick (b := r1) (v := .bool (r1 && (((x.dev : Int) == (y.dev : Int))))) rfl rfl (by cases r1 <;> rfl)) rfl ?_; (try simp only [Act.put, List.setIfInBounds_toArray, List.set_cons_zero, List.set_cons_succ])
  obtain ⟨r2, hr2⟩ : ∃ z : Bool, z = (r1 && (((x.dev : Int) == (y.dev : Int)))) := ⟨_, rfl⟩
  rw [← hr2]
  have Hr2 := Lib.hid hr2
  clear hr2
  refine wpList_val (run_mv (v := .bool r2) rfl rfl) rfl ?_; (try simp only [Act.put, List.setIfInBounds_toArray, List.set_cons_zero, List.set_cons_succ])
  refine wpList_valI (r := r2) (v := .pointer (some ⟨g2, 2, none⟩)) (by cases r2 <;> rfl) (fun hq => by subst hq; exact (run_fad (s := 0) (k := 2) rfl Try.underlying64 rfl (by kernel_rfl) rfl rfl)) ?_; (try simp only [Act.put, List.setIfInBounds_toArray, List.set_cons_zero, List.set_cons_succ])
  refine wpList_valI (r := r2) (v := .bool x.first) (by cases r2 <;> rfl) (fun hq => by subst hq; exact (run_ldc rfl Try.underlying4 rfl rfl ((E.out.get (i := 1) rfl).c 2 _ (evR_First )))) ?_; (try simp only [Act.put, List.setIfInBounds_toArray, List.set_cons_zero, List.set_cons_succ])
  refine wpList_valI (r := r2) (v := .pointer (some ⟨g4, 2, none⟩)) (by cases r2 <;> rfl) (fun hq => by subst hq; exact (run_fad (s := 0) (k := 2) rfl Try.underlying64 rfl (by kernel_rfl) rfl rfl)) ?_; (try simp only [Act.put, List.setIfInBounds_toArray, List.set_cons_zero, List.set_cons_succ])
  refine wpList_valI (r := r2) (v := .bool y.first) (by cases r2 <;> rfl) (fun hq => by subst hq; exact (run_ldc rfl Try.underlying4 rfl rfl ((E.out.get (i := 0) rfl).c 2 _ (evR_First )))) ?_; (try simp only [Act.put, List.setIfInBounds_toArray, List.set_cons_zero, List.set_cons_succ])
  refine wpList_valI (r := r2) (v := .bool (x.first == y.first)) (by cases r2 <;> rfl) (fun hq => by subst hq; exact (run_eqBool (a := x.first) (b := y.first) rfl Try.underlying4 rfl rfl)) ?_; (try simp only [Act.put, List.setIfInBounds_toArray, List.set_cons_zero, List.set_cons_succ])
  refine wpList_val (run_pick (b := r2) (v := .bool (r2 && (x.first == y.first))) rfl rfl (by cases r2 <;> rfl)) rfl ?_; (try simp only [Act.put, List.setIfInBounds_toArray, List.set_cons_zero, List.set_cons_succ])
  obtain ⟨r3, hr3⟩ : ∃ z : Bool, z = (r2 && (x.first == y.first)) := ⟨_, rfl⟩
  rw [← hr3]
  have Hr3 := Lib.hid hr3
  clear hr3
  refine wpList_val (run_mv (v := .bool r3) rfl rfl) rfl ?_; (try simp only [Act.put, List.setIfInBounds_toArray, List.set_cons_zero, List.set_cons_succ])
  refine wpList_valI (r := r3) (v := .pointer (some ⟨g2, 3, none⟩)) (by cases r3 <;> rfl) (fun hq => by subst hq; exact (run_fad (s := 31) (k := 3) rfl Try.underlying64 rfl (by kernel_rfl) rfl rfl)) ?_; (try simp only [Act.put, List.setIfInBounds_toArray, List.set_cons_zero, List.set_cons_succ])
  refine wpList_valI (r := r3) (v := .agg (x.eph.map b8).toArray) (by cases r3 <;> rfl) (fun hq => by subst hq; exact (run_ldM (vs := x.eph.map b8) rfl Try.underlying35 rfl (szR (by rw [List.length_map, kx1]) (by kernel_rfl)) rfl ((E.out.get (i := 1) rfl).seg (evR_Eph (by rw [List.length_map, kx1]))))) ?_; (try simp only [Act.put, List.setIfInBounds_toArray, List.set_cons_zero, List.set_cons_succ])
  refine wpList_valI (r := r3) (v := .pointer (some ⟨g4, 3, none⟩)) (by cases r3 <;> rfl) (fun hq => by subst hq; exact (run_fad (s := 31) (k := 3) rfl Try.underlying64 rfl (by kernel_rfl) rfl rfl)) ?_; (try simp only [Act.put, List.setIfInBounds_toArray, List.set_cons_zero, List.set_cons_succ])
  refine wpList_valI (r := r3) (v := .agg (y.eph.map b8).toArray) (by cases r3 <;> rfl) (fun hq => by subst hq; exact (run_ldM (vs := y.eph.map b8) rfl Try.underlying35 rfl (szR (by rw [List.length_map, ky1]) (by kernel_rfl)) rfl ((E.out.get (i := 0) rfl).seg (evR_Eph (by rw [List.length_map, ky1]))))) ?_; (try simp only [Act.put, List.setIfInBounds_toArray, List.set_cons_zero, List.set_cons_succ])
  refine wpList_valI (r := r3) (v := .bool (decide (x.eph = y.eph))) (by cases r3 <;> rfl) (fun hq => by subst hq; exact (run_eqlA (r := decide (x.eph = y.eph)) rfl (by kernel_rfl) rfl rfl (eqB_in (d := 9998) Try.underlying35 kx1 ky1 _))) ?_; (try simp only [Act.put, List.setIfInBounds_toArray, List.set_cons_zero, List.set_cons_succ])
  refine wpList_val (run_pick (b := r3) (v := .bool (r3 && (decide (x.eph = y.eph)))) rfl rfl (by cases r3 <;> rfl)) rfl ?_; (try simp only [Act.put, List.setIfInBounds_toArray, List.set_cons_zero, List.set_cons_succ])
  obtain ⟨r4, hr4⟩ : ∃ z : Bool, z = (r3 && (decide (x.eph = y.eph))) := ⟨_, rfl⟩
  rw [← hr4]
  have Hr4 := Lib.hid hr4
  clear hr4
  refine wpList_val (run_mv (v := .bool r4) rfl rfl) rfl ?_; (try simp only [Act.put, List.setIfInBounds_toArray, List.set_cons_zero, List.set_cons_succ])
  refine wpList_valI (r := r4) (v := .pointer (some ⟨g2, 35, none⟩)) (by cases r4 <;> rfl) (fun hq => by subst hq; exact (run_fad (s := 0) (k := 35) rfl Try.underlying64 rfl (by kernel_rfl) rfl rfl)) ?_; (try simp only [Act.put, List.setIfInBounds_toArray, List.set_cons_zero, List.set_cons_succ])
  refine wpList_valI (r := r4) (v := .int .i64 x.signed) (by cases r4 <;> rfl) (fun hq => by subst hq; exact (run_ldc rfl Try.underlying3 rfl rfl ((E.out.get (i := 1) rfl).c 35 _ (evR_Signed (by rw [List.length_map, kx1]))))) ?_; (try simp only [Act.put, List.setIfInBounds_toArray, List.set_cons_zero, List.set_cons_succ])
  refine wpList_valI (r := r4) (v := .pointer (some ⟨g4, 35, none⟩)) (by cases r4 <;> rfl) (fun hq => by subst hq; exact (run_fad (s := 0) (k := 35) rfl Try.underlying64 rfl (by kernel_rfl) rfl rfl)) ?_; (try simp only [Act.put, List.setIfInBounds_toArray, List.set_cons_zero, List.set_cons_succ])
  refine wpList_valI (r := r4) (v := .int .i64 y.signed) (by cases r4 <;> rfl) (fun hq => by subst hq; exact (run_ldc rfl Try.underlying3 rfl rfl ((E.out.get (i := 0) rfl).c 35 _ (evR_Signed (by rw [List.length_map, ky1]))))) ?_; (try simp only [Act.put, List.setIfInBounds_toArray, List.set_cons_zero, List.set_cons_succ])
  refine wpList_valI (r := r4) (v := .bool (((x.signed : Int) == (y.signed : Int)))) (by cases r4 <;> rfl) (fun hq => by subst hq; exact (run_eqlb (c := (((x.signed : Int) == (y.signed : Int)))) rfl rfl rfl rfl)) ?_; (try simp only [Act.put, List.setIfInBounds_toArray, List.set_cons_zero, List.set_cons_succ])
  refine wpList_val (run_pick (b := r4) (v := .bool (r4 && (((x.signed : Int) == (y.signed : Int))))) rfl rfl (by cases r4 <;> rfl)) rfl ?_; (try simp only [Act.put, List.setIfInBounds_toArray, List.set_cons_zero, List.set_cons_succ])
  obtain ⟨r5, hr5⟩ : ∃ z : Bool, z = (r4 && (((x.signed : Int) == (y.signed : Int)))) := ⟨_, rfl⟩
  rw [← hr5]
  have Hr5 := Lib.hid hr5
  clear hr5
  refine wpList_val (run_mv (v := .bool r5) rfl rfl) rfl ?_; (try simp only [Act.put, List.setIfInBounds_toArray, List.set_cons_zero, List.set_cons_succ])
  refine wpList_valI (r := r5) (v := .pointer (some ⟨g2, 36, none⟩)) (by cases r5 <;> rfl) (fun hq => by subst hq; exact (run_fad (s := 0) (k := 36) rfl Try.underlying64 rfl (by kernel_rfl) rfl rfl)) ?_; (try simp only [Act.put, List.setIfInBounds_toArray, List.set_cons_zero, List.set_cons_succ])
  refine wpList_valI (r := r5) (v := .int .i64 x.one) (by cases r5 <;> rfl) (fun hq => by subst hq; exact (run_ldc rfl Try.underlying3 rfl rfl ((E.out.get (i := 1) rfl).c 36 _ (evR_One (by rw [List.length_map, kx1]))))) ?_; (try simp only [Act.put, List.setIfInBounds_toArray, List.set_cons_zero, List.set_cons_succ])
  refine wpList_valI (r := r5) (v := .pointer (some ⟨g4, 36, none⟩)) (by cases r5 <;> rfl) (fun hq => by subst hq; exact (run_fad (s := 0) (k := 36) rfl Try.underlying64 rfl (by kernel_rfl) rfl rfl)) ?_; (try simp only [Act.put, List.setIfInBounds_toArray, List.set_cons_zero, List.set_cons_succ])
  refine wpList_valI (r := r5) (v := .int .i64 y.one) (by cases r5 <;> rfl) (fun hq => by subst hq; exact (run_ldc rfl Try.underlying3 rfl rfl ((E.out.get (i := 0) rfl).c 36 _ (evR_One (by rw [List.length_map, ky1]))))) ?_; (try simp only [Act.put, List.setIfInBounds_toArray, List.set_cons_zero, List.set_cons_succ])
  refine wpList_valI (r := r5) (v := .bool (((x.one : Int) == (y.one : Int)))) (by cases r5 <;> rfl) (fun hq => by subst hq; exact (run_eqlb (c := (((x.one : Int) == (y.one : Int)))) rfl rfl rfl rfl)) ?_; (try simp only [Act.put, List.setIfInBounds_toArray, List.set_cons_zero, List.set_cons_succ])
  refine wpList_val (run_pick (b := r5) (v := .bool (r5 && (((x.one : Int) == (y.one : Int))))) rfl rfl (by cases r5 <;> rfl)) rfl ?_; (try simp only [Act.put, List.setIfInBounds_toArray, List.set_cons_zero, List.set_cons_succ])
  obtain ⟨r6, hr6⟩ : ∃ z : Bool, z = (r5 && (((x.one : Int) == (y.one : Int)))) := ⟨_, rfl⟩
  rw [← hr6]
  have Hr6 := Lib.hid hr6
  clear hr6
  refine wpList_val (run_mv (v := .bool r6) rfl rfl) rfl ?_; (try simp only [Act.put, List.setIfInBounds_toArray, List.set_cons_zero, List.set_cons_succ])
  refine wpList_valI (r := r6) (v := .pointer (some ⟨g2, 37, none⟩)) (by cases r6 <;> rfl) (fun hq => by subst hq; exact (run_fad (s := 33) (k := 37) rfl Try.underlying64 rfl (by kernel_rfl) rfl rfl)) ?_; (try simp only [Act.put, List.setIfInBounds_toArray, List.set_cons_zero, List.set_cons_succ])
  refine wpList_valI (r := r6) (v := .agg (hdC x.head).toArray) (by cases r6 <;> rfl) (fun hq => by subst hq; exact (run_ldM (vs := hdC x.head) rfl Try.underlying62 rfl (szR (hdC_len kx2) (by kernel_rfl)) rfl ((E.out.get (i := 1) rfl).seg (evR_Head (by rw [List.length_map, kx1]) (hdC_len kx2))))) ?_; (try simp only [Act.put, List.setIfInBounds_toArray, List.set_cons_zero, List.set_cons_succ])
  refine wpList_valI (r := r6) (v := .pointer (some ⟨g4, 37, none⟩)) (by cases r6 <;> rfl) (fun hq => by subst hq; exact (run_fad (s := 33) (k := 37) rfl Try.underlying64 rfl (by kernel_rfl) rfl rfl)) ?_; (try simp only [Act.put, List.setIfInBounds_toArray, List.set_cons_zero, List.set_cons_succ])
  refine wpList_valI (r := r6) (v := .agg (hdC y.head).toArray) (by cases r6 <;> rfl) (fun hq => by subst hq; exact (run_ldM (vs := hdC y.head) rfl Try.underlying62 rfl (szR (hdC_len ky2) (by kernel_rfl)) rfl ((E.out.get (i := 0) rfl).seg (evR_Head (by rw [List.length_map, ky1]) (hdC_len ky2))))) ?_; (try simp only [Act.put, List.setIfInBounds_toArray, List.set_cons_zero, List.set_cons_succ])
  refine wpList_valI (r := r6) (v := .bool ((decide (x.head.r = y.head.r) && ((x.head.prev == y.head.prev) && ((x.head.n == y.head.n) && true))))) (by cases r6 <;> rfl) (fun hq => by subst hq; exact (run_eqlA (r := (decide (x.head.r = y.head.r) && ((x.head.prev == y.head.prev) && ((x.head.n == y.head.n) && true)))) rfl (by kernel_rfl) rfl rfl (by have h := eqHd_in (x0 := x.head.r) (y0 := y.head.r) (x1 := x.head.prev) (y1 := y.head.prev) (x2 := x.head.n) (y2 := y.head.n) kx2 ky2 a3; rw [← hdC_row, ← hdC_row] at h; exact h))) ?_; (try simp only [Act.put, List.setIfInBounds_toArray, List.set_cons_zero, List.set_cons_succ])
  refine wpList_val (run_pick (b := r6) (v := .bool (r6 && ((decide (x.head.r = y.head.r) && ((x.head.prev == y.head.prev) && ((x.head.n == y.head.n) && true)))))) rfl rfl (by cases r6 <;> rfl)) rfl ?_; (try simp only [Act.put, List.setIfInBounds_toArray, List.set_cons_zero, List.set_cons_succ])
  obtain ⟨r7, hr7⟩ : ∃ z : Bool, z = (r6 && ((decide (x.head.r = y.head.r) && ((x.head.prev == y.head.prev) && ((x.head.n == y.head.n) && true))))) := ⟨_, rfl⟩
  rw [← hr7]
  have Hr7 := Lib.hid hr7
  clear hr7
  refine wpList_val (run_mv (v := .bool r7) rfl rfl) rfl ?_; (try simp only [Act.put, List.setIfInBounds_toArray, List.set_cons_zero, List.set_cons_succ])
  refine wpList_valI (r := r7) (v := .pointer (some ⟨g2, 71, none⟩)) (by cases r7 <;> rfl) (fun hq => by subst hq; exact (run_fad (s := 0) (k := 71) rfl Try.underlying64 rfl (by kernel_rfl) rfl rfl)) ?_; (try simp only [Act.put, List.setIfInBounds_toArray, List.set_cons_zero, List.set_cons_succ])
  refine wpList_valI (r := r7) (v := .slice ax x.body.length cx) (by cases r7 <;> rfl) (fun hq => by subst hq; exact (run_ldc rfl Try.underlying22 rfl rfl ((E.out.get (i := 1) rfl).c 71 _ (evR_Body (by rw [List.length_map, kx1]) (hdC_len kx2))))) ?_; (try simp only [Act.put, List.setIfInBounds_toArray, List.set_cons_zero, List.set_cons_succ])
  refine wpList_valI (r := r7) (v := .string (strOf x.body)) (by cases r7 <;> rfl) (fun hq => by subst hq; exact (run_str rfl rfl (FX.out.below E.out.bl).now)) ?_; (try simp only [Act.put, List.setIfInBounds_toArray, List.set_cons_zero, List.set_cons_succ])
  refine wpList_valI (r := r7) (v := .pointer (some ⟨g4, 71, none⟩)) (by cases r7 <;> rfl) (fun hq => by subst hq; exact (run_fad (s := 0) (k := 71) rfl Try.underlying64 rfl (by kernel_rfl) rfl rfl)) ?_; (try simp only [Act.put, List.setIfInBounds_toArray, List.set_cons_zero, List.set_cons_succ])
  refine wpList_valI (r := r7) (v := .slice ay y.body.length cy) (by cases r7 <;> rfl) (fun hq => by subst hq; exact (run_ldc rfl Try.underlying22 rfl rfl ((E.out.get (i := 0) rfl).c 71 _ (evR_Body (by rw [List.length_map, ky1]) (hdC_len ky2))))) ?_; (try simp only [Act.put, List.setIfInBounds_toArray, List.set_cons_zero, List.set_cons_succ])
  refine wpList_valI (r := r7) (v := .string (strOf y.body)) (by cases r7 <;> rfl) (fun hq => by subst hq; exact (run_str rfl rfl (FY.out.below E.out.bl).now)) ?_; (try simp only [Act.put, List.setIfInBounds_toArray, List.set_cons_zero, List.set_cons_succ])
  refine wpList_valI (r := r7) (v := .bool (decide (x.body = y.body))) (by cases r7 <;> rfl) (fun hq => by subst hq; exact (run_eqStr (l := x.body) (m := y.body) rfl rfl rfl)) ?_; (try simp only [Act.put, List.setIfInBounds_toArray, List.set_cons_zero, List.set_cons_succ])
  refine wpList_val (run_pick (b := r7) (v := .bool (r7 && (decide (x.body = y.body)))) rfl rfl (by cases r7 <;> rfl)) rfl ?_; (try simp only [Act.put, List.setIfInBounds_toArray, List.set_cons_zero, List.set_cons_succ])
  obtain ⟨r8, hr8⟩ : ∃ z : Bool, z = (r7 && (decide (x.body = y.body))) := ⟨_, rfl⟩
  rw [← hr8]
  have Hr8 := Lib.hid hr8
  clear hr8
  refine wpList_val (run_asg (v := .bool r8) rfl rfl) rfl ?_; (try simp only [Act.put, List.setIfInBounds_toArray, List.set_cons_zero, List.set_cons_succ])
  refine wpList_end ?_
  go_wp2_with fail
  refine bodyPost_ret (v := .bool r8) (results_tmp Try.results20 _ _ _) rfl ?_
  exact ⟨_, rfl, ⟨r8, rfl, by rw [mev_eq, Hr8.out, Hr7.out, Hr6.out, Hr5.out, Hr4.out, Hr3.out, Hr2.out, Hr1.out]; simp only [Bool.and_eq_true, beq_iff_eq, decide_eq_true_eq, and_true, and_assoc]⟩, E.out.bl⟩
end Go.Proofs.Ytgioojahadlmhaa
namespace Go.Proofs.Ytgioojahadlmhaa
open Go.RowKit
set_option maxRecDepth 20000
attribute [local irreducible] wpList

def chT : List Nat := [127, 128, 16383, 16384, 1099511627775, 1099511627776]
def chN (c : List (BitVec 8)) (i : Nat) : Nat := if c.length = 0 then i else if 200 < (c.getD (i % c.length) 0).toNat then chT.getD ((c.getD (i % c.length) 0).toNat % 6) 0 else (c.getD (i % c.length) 0).toNat % 20
theorem chT_row (k : Nat) : ([.int .i64 127, .int .i64 128, .int .i64 16383, .int .i64 16384, .int .i64 1099511627775, .int .i64 1099511627776] : List Value)[0 + k % 6]? = some (.int .i64 ((chT.getD (k % 6) 0 : Nat) : Int)) := by
  have h : k % 6 < 6 := Nat.mod_lt _ (by omega)
  generalize k % 6 = j at *
  match j, h with
  | 0, _ => rfl
  | 1, _ => rfl
  | 2, _ => rfl
  | 3, _ => rfl
  | 4, _ => rfl
  | 5, _ => rfl
theorem enters_cn10 : Enters 41 := enters_of Try.func41 (by kernel_rfl) rfl
set_option maxHeartbeats 4000000 in
theorem chN_any (ao : Option Addr) (c : List (BitVec 8)) (cc i : Nat) (w : World) (hc : Sl (.slice ao c.length cc) c w) : Calls Try.prog 41 #[.slice ao c.length cc, .int .i64 (i : Int)] w fun r w' => r = .returned (.int .i64 (chN c i : Int)) ∧ Below w.heap.size w w' := by
  have E := Lib.hid (Ev.start (w := w) (F := fun _ => True) fun _ _ => trivial)
  by_cases h0 : c.length = 0
  · have EX : Hid (chN c i = i) := Lib.hid (by unfold chN; rw [if_pos h0])
    generalize chN c i = xx at *
    clear hc
    generalize c.length = m at *
    go_enter Try.func41, Try.ntmps41
    go_upto_region 0 with fail; refine wp_region_lit ?_
    refine wpList_val (run_asg (v := .int .i64 0) rfl rfl) rfl ?_; (try simp only [Act.put, List.setIfInBounds_toArray, List.set_cons_zero, List.set_cons_succ])
    refine wpList_end ?_
    go_upto_region 1 with fail; refine wp_region_lit ?_
    refine wpList_val (run_mv (v := .slice ao m cc) rfl rfl) rfl ?_; (try simp only [Act.put, List.setIfInBounds_toArray, List.set_cons_zero, List.set_cons_succ])
    refine wpList_val (run_len rfl Try.underlying22 rfl) rfl ?_; (try simp only [Act.put, List.setIfInBounds_toArray, List.set_cons_zero, List.set_cons_succ])
    refine wpList_val (run_eqlb (c := true) rfl rfl rfl (by simp [h0])) rfl ?_; (try simp only [Act.put, List.setIfInBounds_toArray, List.set_cons_zero, List.set_cons_succ])
    refine wpList_end ?_
    go_upto_region 2 with fail; refine wp_region_lit ?_
    refine wpList_val (run_mv (v := .int .i64 (i : Int)) rfl rfl) rfl ?_; (try simp only [Act.put, List.setIfInBounds_toArray, List.set_cons_zero, List.set_cons_succ])
    refine wpList_val (run_asg (v := .int .i64 (i : Int)) rfl rfl) rfl ?_; (try simp only [Act.put, List.setIfInBounds_toArray, List.set_cons_zero, List.set_cons_succ])
    refine wpList_end ?_
    go_wp2_with fail
    go_ret
    exact ⟨by rw [EX.out]; rfl, E.out.bl⟩
  · obtain ⟨ao', c', hv, -, h9⟩ := hc
    obtain ⟨g, f, rfl, hg, hr⟩ := h9 (by intro h; rw [h] at h0; exact h0 rfl)
    simp only [Value.slice.injEq] at hv
    obtain ⟨rfl, -, rfl⟩ := hv
    have HR : Hid (∀ V, Below w.heap.size w V → V.cell? ⟨g, f + i % c.length, none⟩ = some (b8 (c.getD (i % c.length) 0))) := Lib.hid fun V hV => rangeAt_below hr hg hV _ _ (get_map b8 0 (Nat.mod_lt _ (by omega)))
    have e0 : chN c i = if 200 < (c.getD (i % c.length) 0).toNat then chT.getD ((c.getD (i % c.length) 0).toNat % 6) 0 else (c.getD (i % c.length) 0).toNat % 20 := by unfold chN; rw [if_neg h0]
    clear hr h9
    generalize c.getD (i % c.length) 0 = B at *
    generalize chN c i = xx at *
    generalize c.length = m at *
    by_cases h1 : 200 < B.toNat
    · have EX : Hid (xx = chT.getD (B.toNat % 6) 0) := Lib.hid (by rw [e0, if_pos h1])
      clear e0
      go_enter Try.func41, Try.ntmps41
      go_upto_region 0 with fail; refine wp_region_lit ?_
      refine wpList_val (run_asg (v := .int .i64 0) rfl rfl) rfl ?_; (try simp only [Act.put, List.setIfInBounds_toArray, List.set_cons_zero, List.set_cons_succ])
      refine wpList_end ?_
      go_upto_region 1 with fail; refine wp_region_lit ?_
      refine wpList_val (run_mv (v := .slice (some ⟨g, f, none⟩) m cc) rfl rfl) rfl ?_; (try simp only [Act.put, List.setIfInBounds_toArray, List.set_cons_zero, List.set_cons_succ])
      refine wpList_val (run_len rfl Try.underlying22 rfl) rfl ?_; (try simp only [Act.put, List.setIfInBounds_toArray, List.set_cons_zero, List.set_cons_succ])
      refine wpList_val (run_eqlb (c := false) rfl rfl rfl (by simp [h0])) rfl ?_; (try simp only [Act.put, List.setIfInBounds_toArray, List.set_cons_zero, List.set_cons_succ])
      refine wpList_end ?_
      go_upto_region 3 with fail; refine wp_region_lit ?_
      refine wpList_val (run_mv (v := .slice (some ⟨g, f, none⟩) m cc) rfl rfl) rfl ?_; (try simp only [Act.put, List.setIfInBounds_toArray, List.set_cons_zero, List.set_cons_succ])
      refine wpList_val (run_mv (v := .int .i64 (i : Int)) rfl rfl) rfl ?_; (try simp only [Act.put, List.setIfInBounds_toArray, List.set_cons_zero, List.set_cons_succ])
      refine wpList_val (run_mv (v := .slice (some ⟨g, f, none⟩) m cc) rfl rfl) rfl ?_; (try simp only [Act.put, List.setIfInBounds_toArray, List.set_cons_zero, List.set_cons_succ])
      refine wpList_val (run_len rfl Try.underlying22 rfl) rfl ?_; (try simp only [Act.put, List.setIfInBounds_toArray, List.set_cons_zero, List.set_cons_succ])
      refine wpList_val (run_remN (a := i) (b := m) rfl rfl rfl (by omega)) rfl ?_; (try simp only [Act.put, List.setIfInBounds_toArray, List.set_cons_zero, List.set_cons_succ])
      refine wpList_val (run_ixs rfl Try.underlying22 (by kernel_rfl) rfl rfl (Nat.mod_lt _ (by omega))) rfl ?_; (try simp only [Act.put, List.setIfInBounds_toArray, List.set_cons_zero, List.set_cons_succ])
      refine wpList_val (run_ldc rfl Try.underlying5 rfl rfl (HR.out _ E.out.bl)) rfl ?_; (try simp only [Act.put, List.setIfInBounds_toArray, List.set_cons_zero, List.set_cons_succ])
      refine wpList_val (run_cv8i rfl rfl) rfl ?_; (try simp only [Act.put, List.setIfInBounds_toArray, List.set_cons_zero, List.set_cons_succ])
      refine wpList_val (run_asg (v := .int .i64 (B.toNat : Int)) rfl rfl) rfl ?_; (try simp only [Act.put, List.setIfInBounds_toArray, List.set_cons_zero, List.set_cons_succ])
      refine wpList_end ?_
      go_upto_region 4 with fail; refine wp_region_lit ?_
      refine wpList_val (run_mv (v := .int .i64 (B.toNat : Int)) rfl rfl) rfl ?_; (try simp only [Act.put, List.setIfInBounds_toArray, List.set_cons_zero, List.set_cons_succ])
      refine wpList_val (run_gtrb (c := true) rfl rfl rfl (decide_eq_true (by omega))) rfl ?_; (try simp only [Act.put, List.setIfInBounds_toArray, List.set_cons_zero, List.set_cons_succ])
      refine wpList_end ?_
      go_upto_region 5 with fail; refine wp_region_lit ?_
      refine wpList_val (run_bsl (cells := ([.int .i64 127, .int .i64 128, .int .i64 16383, .int .i64 16384, .int .i64 1099511627775, .int .i64 1099511627776] : List Value).toArray) (z := .int .i64 0) rfl Try.underlying162 (by kernel_rfl) (by omega) (by omega) (by kernel_rfl)) rfl ?_; (try simp only [Act.put, List.setIfInBounds_toArray, List.set_cons_zero, List.set_cons_succ])
      replace E := Lib.hid (E.out.new (([.int .i64 127, .int .i64 128, .int .i64 16383, .int .i64 16384, .int .i64 1099511627775, .int .i64 1099511627776] : List Value)) 3)
      generalize w.alloc (.cells (([.int .i64 127, .int .i64 128, .int .i64 16383, .int .i64 16384, .int .i64 1099511627775, .int .i64 1099511627776] : List Value)).toArray 3) = a1 at *
      generalize w.heap.size = g2 at *
      refine wpList_val (run_mv (v := .int .i64 (B.toNat : Int)) rfl rfl) rfl ?_; (try simp only [Act.put, List.setIfInBounds_toArray, List.set_cons_zero, List.set_cons_succ])
      refine wpList_val (run_remN (a := B.toNat) (b := 6) rfl rfl rfl (by omega)) rfl ?_; (try simp only [Act.put, List.setIfInBounds_toArray, List.set_cons_zero, List.set_cons_succ])
      refine wpList_val (run_ixs rfl Try.underlying162 (by kernel_rfl) rfl rfl (Nat.mod_lt _ (by omega))) rfl ?_; (try simp only [Act.put, List.setIfInBounds_toArray, List.set_cons_zero, List.set_cons_succ])
      refine wpList_val (run_ldc rfl Try.underlying3 rfl rfl ((E.out.get (i := 0) rfl).c (0 + B.toNat % 6) _ (chT_row B.toNat))) rfl ?_; (try simp only [Act.put, List.setIfInBounds_toArray, List.set_cons_zero, List.set_cons_succ])
      refine wpList_val (run_asg (v := .int .i64 ((chT.getD (B.toNat % 6) 0 : Nat) : Int)) rfl rfl) rfl ?_; (try simp only [Act.put, List.setIfInBounds_toArray, List.set_cons_zero, List.set_cons_succ])
      refine wpList_end ?_
      go_wp2_with fail
      go_ret
      exact ⟨by rw [EX.out]; rfl, E.out.bl⟩
    · have EX : Hid (xx = B.toNat % 20) := Lib.hid (by rw [e0, if_neg h1])
      clear e0
      go_enter Try.func41, Try.ntmps41
      go_upto_region 0 with fail; refine wp_region_lit ?_
      refine wpList_val (run_asg (v := .int .i64 0) rfl rfl) rfl ?_; (try simp only [Act.put, List.setIfInBounds_toArray, List.set_cons_zero, List.set_cons_succ])
      refine wpList_end ?_
      go_upto_region 1 with fail; refine wp_region_lit ?_
      refine wpList_val (run_mv (v := .slice (some ⟨g, f, none⟩) m cc) rfl rfl) rfl ?_; (try simp only [Act.put, List.setIfInBounds_toArray, List.set_cons_zero, List.set_cons_succ])
      refine wpList_val (run_len rfl Try.underlying22 rfl) rfl ?_; (try simp only [Act.put, List.setIfInBounds_toArray, List.set_cons_zero, List.set_cons_succ])
      refine wpList_val (run_eqlb (c := false) rfl rfl rfl (by simp [h0])) rfl ?_; (try simp only [Act.put, List.setIfInBounds_toArray, List.set_cons_zero, List.set_cons_succ])
      refine wpList_end ?_
      go_upto_region 3 with fail; refine wp_region_lit ?_
      refine wpList_val (run_mv (v := .slice (some ⟨g, f, none⟩) m cc) rfl rfl) rfl ?_; (try simp only [Act.put, List.setIfInBounds_toArray, List.set_cons_zero, List.set_cons_succ])
      refine wpList_val (run_mv (v := .int .i64 (i : Int)) rfl rfl) rfl ?_; (try simp only [Act.put, List.setIfInBounds_toArray, List.set_cons_zero, List.set_cons_succ])
      refine wpList_val (run_mv (v := .slice (some ⟨g, f, none⟩) m cc) rfl rfl) rfl ?_; (try simp only [Act.put, List.setIfInBounds_toArray, List.set_cons_zero, List.set_cons_succ])
      refine wpList_val (run_len rfl Try.underlying22 rfl) rfl ?_; (try simp only [Act.put, List.setIfInBounds_toArray, List.set_cons_zero, List.set_cons_succ])
      refine wpList_val (run_remN (a := i) (b := m) rfl rfl rfl (by omega)) rfl ?_; (try simp only [Act.put, List.setIfInBounds_toArray, List.set_cons_zero, List.set_cons_succ])
      refine wpList_val (run_ixs rfl Try.underlying22 (by kernel_rfl) rfl rfl (Nat.mod_lt _ (by omega))) rfl ?_; (try simp only [Act.put, List.setIfInBounds_toArray, List.set_cons_zero, List.set_cons_succ])
      refine wpList_val (run_ldc rfl Try.underlying5 rfl rfl (HR.out _ E.out.bl)) rfl ?_; (try simp only [Act.put, List.setIfInBounds_toArray, List.set_cons_zero, List.set_cons_succ])
      refine wpList_val (run_cv8i rfl rfl) rfl ?_; (try simp only [Act.put, List.setIfInBounds_toArray, List.set_cons_zero, List.set_cons_succ])
      refine wpList_val (run_asg (v := .int .i64 (B.toNat : Int)) rfl rfl) rfl ?_; (try simp only [Act.put, List.setIfInBounds_toArray, List.set_cons_zero, List.set_cons_succ])
      refine wpList_end ?_
      go_upto_region 4 with fail; refine wp_region_lit ?_
      refine wpList_val (run_mv (v := .int .i64 (B.toNat : Int)) rfl rfl) rfl ?_; (try simp only [Act.put, List.setIfInBounds_toArray, List.set_cons_zero, List.set_cons_succ])
      refine wpList_val (run_gtrb (c := false) rfl rfl rfl (decide_eq_false (by omega))) rfl ?_; (try simp only [Act.put, List.setIfInBounds_toArray, List.set_cons_zero, List.set_cons_succ])
      refine wpList_end ?_
      go_upto_region 6 with fail; refine wp_region_lit ?_
      refine wpList_val (run_mv (v := .int .i64 (B.toNat : Int)) rfl rfl) rfl ?_; (try simp only [Act.put, List.setIfInBounds_toArray, List.set_cons_zero, List.set_cons_succ])
      refine wpList_val (run_remN (a := B.toNat) (b := 20) rfl rfl rfl (by omega)) rfl ?_; (try simp only [Act.put, List.setIfInBounds_toArray, List.set_cons_zero, List.set_cons_succ])
      refine wpList_val (run_asg (v := .int .i64 ((B.toNat % 20 : Nat) : Int)) rfl rfl) rfl ?_; (try simp only [Act.put, List.setIfInBounds_toArray, List.set_cons_zero, List.set_cons_succ])
      refine wpList_end ?_
      go_wp2_with fail
      go_ret
      exact ⟨by rw [EX.out]; rfl, E.out.bl⟩
def chK (c : List (BitVec 8)) (i : Nat) : List (BitVec 8) := BitVec.ofNat 8 (chN c i) :: BitVec.ofNat 8 i :: List.replicate 30 0
theorem chK_len (c : List (BitVec 8)) (i : Nat) : (chK c i).length = 32 := rfl
theorem enters_ck10 : Enters 43 := enters_of Try.func43 (by kernel_rfl) rfl
theorem chKC (c : List (BitVec 8)) (w : World) (ao : Option Addr) (cc : Nat) (hc : Sl (.slice ao c.length cc) c w) : Hid (∀ (u : World) (i : Nat), Since w u → Calls Try.prog 41 #[.slice ao c.length cc, .int .i64 (i : Int)] u fun r w' => r = .returned (.int .i64 (chN c i : Int)) ∧ Below u.heap.size u w') := Lib.hid fun u i hu => chN_any ao c cc i u (hc.below hu)
set_option maxHeartbeats 4000000 in
theorem chK_any (ao : Option Addr) (c : List (BitVec 8)) (cc i : Nat) (w : World) (hc : Sl (.slice ao c.length cc) c w) : Calls Try.prog 43 #[.slice ao c.length cc, .int .i64 (i : Int)] w fun r w' => r = .returned (.agg ((chK c i).map b8).toArray) ∧ Below w.heap.size w w' := by
  have CN := chKC c w ao cc hc
  have E := Lib.hid (Ev.start (w := w) (F := fun _ => True) fun _ _ => trivial)
  have BK : Hid (Try.prog.built 35 [(0, b8 (BitVec.ofNat 8 (chN c i))), (1, b8 (BitVec.ofNat 8 i))] = some ((chK c i).map b8).toArray) := Lib.hid (by kernel_rfl)
  have hl := chK_len c i
  generalize chK c i = kk at *
  generalize hm : c.length = m at *
  go_enter Try.func43, Try.ntmps43
  go_upto_region 0 with fail; refine wp_region_lit ?_
  refine wpList_val (run_alc (vs := z8 32) rfl (by kernel_rfl)) rfl ?_; (try simp only [Act.put, List.setIfInBounds_toArray, List.set_cons_zero, List.set_cons_succ])
  replace E := Lib.hid (E.out.new (z8 32) 35)
  generalize w.alloc (.cells (z8 32).toArray 35) = a1 at *
  generalize w.heap.size = g2 at *
  refine wpList_end ?_
  go_upto_region 1 with fail; refine wp_region_lit ?_
  refine wpList_val (run_mv (v := .slice ao m cc) rfl rfl) rfl ?_; (try simp only [Act.put, List.setIfInBounds_toArray, List.set_cons_zero, List.set_cons_succ])
  refine wpList_val (run_mv (v := .int .i64 (i : Int)) rfl rfl) rfl ?_; (try simp only [Act.put, List.setIfInBounds_toArray, List.set_cons_zero, List.set_cons_succ])
  refine wpList_enter (run_call2 enters_cn10 rfl rfl rfl rfl) rfl (CN.out _ i E.out.bl) (fun a3 hb => ?_); (try simp only [Act.put, List.setIfInBounds_toArray, List.set_cons_zero, List.set_cons_succ])
  replace E := Lib.hid (E.out.below hb)
  clear hb
  refine wpList_val (run_cvi_8 rfl rfl) rfl ?_; (try simp only [Act.put, List.setIfInBounds_toArray, List.set_cons_zero, List.set_cons_succ])
  refine wpList_val (run_mv (v := .int .i64 (i : Int)) rfl rfl) rfl ?_; (try simp only [Act.put, List.setIfInBounds_toArray, List.set_cons_zero, List.set_cons_succ])
  refine wpList_val (run_cvi_8 rfl rfl) rfl ?_; (try simp only [Act.put, List.setIfInBounds_toArray, List.set_cons_zero, List.set_cons_succ])
  refine wpList_val (run_bldP (ps := [(0, b8 (BitVec.ofNat 8 (chN c i))), (1, b8 (BitVec.ofNat 8 i))]) rfl rfl BK.out) rfl ?_; (try simp only [Act.put, List.setIfInBounds_toArray, List.set_cons_zero, List.set_cons_succ])
  refine wpList_skip (run_stM (vs := kk.map b8) rfl (szR (by rw [List.length_map, hl]) (by kernel_rfl)) rfl rfl (One.all (One.b8 _)) ((E.out.get (i := 0) rfl).thereM (by have q1 : (kk.map b8).length = 32 := (by rw [List.length_map, hl]); have q2 : (z8 32).length = 32 := (z8_lenR 32); omega))) rfl rfl ?_
  replace E := Lib.hid (E.out.put 0 rfl (m := kk.map b8) ((show (kk.map b8).length = 32 from (by rw [List.length_map, hl])).trans (show (z8 32).length = 32 from (z8_lenR 32)).symm))
  generalize a3.setCells g2 0 (kk.map b8) = a4 at *
  replace E := Lib.hid (show Ev _ [(g2, kk.map b8)] _ _ _ a4 from E.out)
  refine wpList_end ?_
  go_wp2_with fail
  refine bodyPost_ret (v := .agg (kk.map b8).toArray) (results_rowB Try.results43 rfl Try.underlying35 rfl (szR (by rw [List.length_map, hl]) (by kernel_rfl)) (E.out.get (i := 0) rfl).range) rfl ⟨rfl, E.out.bl⟩
end Go.Proofs.Ytgioojahadlmhaa
namespace Go.Proofs.Ytgioojahadlmhaa
open Go.RowKit
set_option maxRecDepth 20000
attribute [local irreducible] wpList

theorem chKK (c : List (BitVec 8)) (w : World) (ao : Option Addr) (cc : Nat) (hc : Sl (.slice ao c.length cc) c w) : Hid (∀ (u : World) (i : Nat), Since w u → Calls Try.prog 43 #[.slice ao c.length cc, .int .i64 (i : Int)] u fun r w' => r = .returned (.agg ((chK c i).map b8).toArray) ∧ Below u.heap.size u w') := Lib.hid fun u i hu => chK_any ao c cc i u (hc.below hu)
def chP (c : List (BitVec 8)) (k i : Nat) : MPk := ⟨chN c (k + i + 1), chK c (k + i + 2)⟩
def chPs (c : List (BitVec 8)) (k n : Nat) : List MPk := (List.range n).map (chP c k)
theorem chPs_len (c : List (BitVec 8)) (k n : Nat) : (chPs c k n).length = n := by simp [chPs]
theorem chPs_succ (c : List (BitVec 8)) (k n : Nat) : chPs c k (n + 1) = chPs c k n ++ [chP c k n] := by simp [chPs, List.range_succ]
theorem enters_cp10 : Enters 44 := enters_of Try.func44 (by kernel_rfl) rfl
set_option maxHeartbeats 8000000 in
theorem chPs_any (ao : Option Addr) (c : List (BitVec 8)) (cc k : Nat) (w : World) (hc : Sl (.slice ao c.length cc) c w) (hk : k ≤ 100000) : Calls Try.prog 44 #[.slice ao c.length cc, .int .i64 (k : Int)] w fun r w' => ∃ v', r = .returned v' ∧ ((∃ a' c', v' = .slice a' (chPs c k (chN c k % 4)).length c' ∧ Fro w.heap.size (SlR 33 pkAt (chPs c k (chN c k % 4)) a' c') w') ∧ Below w.heap.size w w') := by
  have CN := chKC c w ao cc hc
  have CK := chKK c w ao cc hc
  have hN : chN c k % 4 ≤ 3 := by omega
  have E := Lib.hid (Ev.start (w := w) (F := fun _ => True) fun _ _ => trivial)
  clear hc
  generalize c.length = m at *
  go_enter Try.func44, Try.ntmps44
  go_upto_region 0 with fail; refine wp_region_lit ?_
  refine wpList_val (run_asg (v := .slice none 0 0) rfl rfl) rfl ?_; (try simp only [Act.put, List.setIfInBounds_toArray, List.set_cons_zero, List.set_cons_succ])
  refine wpList_end ?_
  go_upto_region 1 with fail; refine wp_region_lit ?_
  refine wpList_val (run_asg (v := .slice none 0 0) rfl rfl) rfl ?_; (try simp only [Act.put, List.setIfInBounds_toArray, List.set_cons_zero, List.set_cons_succ])
  refine wpList_end ?_
  go_upto_region 2 with fail; refine wp_region_lit ?_
  refine wpList_val (run_asg (v := .int .i64 0) rfl rfl) rfl ?_; (try simp only [Act.put, List.setIfInBounds_toArray, List.set_cons_zero, List.set_cons_succ])
  refine wpList_end ?_
  replace E := Lib.hid ((Gw.start E.out 42 33).know (H0 := LR pkAt [] []) fun V _ => LR.nil V)
  go_wp2_with fail
  go_loopw [5, 6] (fun s5 s6 u => ∃ (j : Nat) (l : List MPk) (css : List (List Value)), s6 = .int .i64 (j : Int) ∧ l = chPs c k j ∧ j = l.length ∧ j ≤ chN c k % 4 ∧ (∀ p ∈ css, p.length = 33) ∧ Gw w [] 42 33 s5 j css.flatten (fun _ => True) (LR pkAt l css) u) (fun _ s6 _ => (((chN c k % 4 : Nat) : Int) - intOf s6).toNat)
  case atStart => exact ⟨0, [], [], rfl, rfl, rfl, by omega, (fun _ h => by cases h), E.out⟩
  case round =>
    obtain ⟨j, l, css, rfl, hl, hjl, hj, hq, hJ⟩ := hrel
    replace E := Lib.hid hJ
    have HK := Lib.hid hq
    clear hJ hq
    by_cases hjn : j = chN c k % 4
    · go_upto_region 3 with fail; refine wp_region_lit ?_
      refine wpList_val (run_mv (v := .int .i64 (j : Int)) rfl rfl) rfl ?_; (try simp only [Act.put, List.setIfInBounds_toArray, List.set_cons_zero, List.set_cons_succ])
      refine wpList_val (run_mv (v := .slice ao m cc) rfl rfl) rfl ?_; (try simp only [Act.put, List.setIfInBounds_toArray, List.set_cons_zero, List.set_cons_succ])
      refine wpList_val (run_mv (v := .int .i64 (k : Int)) rfl rfl) rfl ?_; (try simp only [Act.put, List.setIfInBounds_toArray, List.set_cons_zero, List.set_cons_succ])
      refine wpList_enter (run_call2 enters_cn10 rfl rfl rfl rfl) rfl (CN.out _ k E.out.ev.bl) (fun a1 hb => ?_); (try simp only [Act.put, List.setIfInBounds_toArray, List.set_cons_zero, List.set_cons_succ])
      replace E := Lib.hid (E.out.below hb)
      clear hb
      refine wpList_val (run_remN (a := chN c k) (b := 4) rfl rfl rfl (by omega)) rfl ?_; (try simp only [Act.put, List.setIfInBounds_toArray, List.set_cons_zero, List.set_cons_succ])
      refine wpList_val (run_lssb (c := false) rfl rfl rfl (decide_eq_false (by omega))) rfl ?_; (try simp only [Act.put, List.setIfInBounds_toArray, List.set_cons_zero, List.set_cons_succ])
      refine wpList_end ?_
      have E1 := Lib.hid E.out.done
      clear E
      have E := E1
      clear E1
      go_upto_region 6 with fail; refine wp_region_lit ?_
      refine wpList_val (run_mv (v := u5) rfl rfl) rfl ?_; (try simp only [Act.put, List.setIfInBounds_toArray, List.set_cons_zero, List.set_cons_succ])
      refine wpList_val (run_asg (v := u5) rfl rfl) rfl ?_; (try simp only [Act.put, List.setIfInBounds_toArray, List.set_cons_zero, List.set_cons_succ])
      refine wpList_end ?_
      have HF : Hid (Fro w.heap.size (fun V => ∃ a' c', u5 = .slice a' l.length c' ∧ SlR 33 pkAt l a' c' V) a1) := Lib.hid fun V hV => slR_own (E.out.tell V hV).1 hjl (E.out.tell V hV).2.1 HK.out (E.out.tell V hV).2.2
      obtain ⟨a', c', hv6, hS0⟩ := HF.out.now
      subst hv6
      have HF2 : Hid (Fro w.heap.size (SlR 33 pkAt l a' c') a1) := Lib.hid fun V hV => by
        obtain ⟨a2, c2, h1, h2⟩ := HF.out V hV
        simp only [Value.slice.injEq] at h1
        obtain ⟨rfl, _, rfl⟩ := h1
        exact h2
      have hL : chPs c k (chN c k % 4) = l := by rw [← hjn]; exact hl.symm
      go_wp2_with fail
      exact bodyPost_ret (results_tmp Try.results44 _ _ _) rfl ⟨_, rfl, ⟨a', c', by rw [hL]; rfl, by rw [hL]; exact HF2.out⟩, E.out.bl⟩
    · go_upto_region 3 with fail; refine wp_region_lit ?_
      refine wpList_val (run_mv (v := .int .i64 (j : Int)) rfl rfl) rfl ?_; (try simp only [Act.put, List.setIfInBounds_toArray, List.set_cons_zero, List.set_cons_succ])
      refine wpList_val (run_mv (v := .slice ao m cc) rfl rfl) rfl ?_; (try simp only [Act.put, List.setIfInBounds_toArray, List.set_cons_zero, List.set_cons_succ])
      refine wpList_val (run_mv (v := .int .i64 (k : Int)) rfl rfl) rfl ?_; (try simp only [Act.put, List.setIfInBounds_toArray, List.set_cons_zero, List.set_cons_succ])
      refine wpList_enter (run_call2 enters_cn10 rfl rfl rfl rfl) rfl (CN.out _ k E.out.ev.bl) (fun a1 hb => ?_); (try simp only [Act.put, List.setIfInBounds_toArray, List.set_cons_zero, List.set_cons_succ])
      replace E := Lib.hid (E.out.below hb)
      clear hb
      refine wpList_val (run_remN (a := chN c k) (b := 4) rfl rfl rfl (by omega)) rfl ?_; (try simp only [Act.put, List.setIfInBounds_toArray, List.set_cons_zero, List.set_cons_succ])
      refine wpList_val (run_lssb (c := true) rfl rfl rfl (decide_eq_true (by omega))) rfl ?_; (try simp only [Act.put, List.setIfInBounds_toArray, List.set_cons_zero, List.set_cons_succ])
      refine wpList_end ?_
      go_upto_region 5 with fail; refine wp_region_lit ?_
      refine wpList_val (run_mv (v := u5) rfl rfl) rfl ?_; (try simp only [Act.put, List.setIfInBounds_toArray, List.set_cons_zero, List.set_cons_succ])
      refine wpList_val (run_mv (v := .slice ao m cc) rfl rfl) rfl ?_; (try simp only [Act.put, List.setIfInBounds_toArray, List.set_cons_zero, List.set_cons_succ])
      refine wpList_val (run_mv (v := .int .i64 (k : Int)) rfl rfl) rfl ?_; (try simp only [Act.put, List.setIfInBounds_toArray, List.set_cons_zero, List.set_cons_succ])
      refine wpList_val (run_mv (v := .int .i64 (j : Int)) rfl rfl) rfl ?_; (try simp only [Act.put, List.setIfInBounds_toArray, List.set_cons_zero, List.set_cons_succ])
      refine wpList_val (run_addN (a := k) (b := j) rfl rfl rfl (by omega)) rfl ?_; (try simp only [Act.put, List.setIfInBounds_toArray, List.set_cons_zero, List.set_cons_succ])
      refine wpList_val (run_addN (a := k + j) (b := 1) rfl rfl rfl (by omega)) rfl ?_; (try simp only [Act.put, List.setIfInBounds_toArray, List.set_cons_zero, List.set_cons_succ])
      refine wpList_enter (run_call2 enters_cn10 rfl rfl rfl rfl) rfl (CN.out _ ((k + j + 1 : Nat)) E.out.ev.bl) (fun a2 hb => ?_); (try simp only [Act.put, List.setIfInBounds_toArray, List.set_cons_zero, List.set_cons_succ])
      replace E := Lib.hid (E.out.below hb)
      clear hb
      refine wpList_val (run_mv (v := .slice ao m cc) rfl rfl) rfl ?_; (try simp only [Act.put, List.setIfInBounds_toArray, List.set_cons_zero, List.set_cons_succ])
      refine wpList_val (run_mv (v := .int .i64 (k : Int)) rfl rfl) rfl ?_; (try simp only [Act.put, List.setIfInBounds_toArray, List.set_cons_zero, List.set_cons_succ])
      refine wpList_val (run_mv (v := .int .i64 (j : Int)) rfl rfl) rfl ?_; (try simp only [Act.put, List.setIfInBounds_toArray, List.set_cons_zero, List.set_cons_succ])
      refine wpList_val (run_addN (a := k) (b := j) rfl rfl rfl (by omega)) rfl ?_; (try simp only [Act.put, List.setIfInBounds_toArray, List.set_cons_zero, List.set_cons_succ])
      refine wpList_val (run_addN (a := k + j) (b := 2) rfl rfl rfl (by omega)) rfl ?_; (try simp only [Act.put, List.setIfInBounds_toArray, List.set_cons_zero, List.set_cons_succ])
      refine wpList_enter (run_call2 enters_ck10 rfl rfl rfl rfl) rfl (CK.out _ ((k + j + 2 : Nat)) E.out.ev.bl) (fun a3 hb => ?_); (try simp only [Act.put, List.setIfInBounds_toArray, List.set_cons_zero, List.set_cons_succ])
      replace E := Lib.hid (E.out.below hb)
      clear hb
      refine wpList_val (run_bldP (cells := (pkR (.int .i64 (chN c ((k + j + 1 : Nat)) : Int)) ((chK c ((k + j + 2 : Nat))).map b8)).toArray) (ps := [(0, .int .i64 (chN c ((k + j + 1 : Nat)) : Int)), (1, .agg ((chK c ((k + j + 2 : Nat))).map b8).toArray)]) rfl rfl (pkR_all rfl (by rw [List.length_map]; exact chK_len _ _))) rfl ?_; (try simp only [Act.put, List.setIfInBounds_toArray, List.set_cons_zero, List.set_cons_succ])
      have hml : (pkR (.int .i64 (chN c ((k + j + 1 : Nat)) : Int)) ((chK c ((k + j + 2 : Nat))).map b8)).length = 33 := (pkR_len (by rw [List.length_map]; exact chK_len _ _))
      have hmo : One (pkR (.int .i64 (chN c ((k + j + 1 : Nat)) : Int)) ((chK c ((k + j + 2 : Nat))).map b8)) := (pkR_one rfl (One.b8 _))
      refine wpList_val (run_bsl1 (m := pkR (.int .i64 (chN c ((k + j + 1 : Nat)) : Int)) ((chK c ((k + j + 2 : Nat))).map b8)) (z := 33) (zv := .agg ([.int .i64 0] ++ List.replicate 32 (.int .u8 0) : List Value).toArray) rfl Try.underlying43 (by kernel_rfl) rfl hml (by omega) (by omega)) rfl ?_; (try simp only [Act.put, List.setIfInBounds_toArray, List.set_cons_zero, List.set_cons_succ])
      have A2 := Lib.hid (Arr.new a3 (pkR (.int .i64 (chN c ((k + j + 1 : Nat)) : Int)) ((chK c ((k + j + 2 : Nat))).map b8)) 42)
      replace E := Lib.hid (E.out.below ((Below.refl a3.heap.size a3).alloc (Nat.le_refl _) (.cells (pkR (.int .i64 (chN c ((k + j + 1 : Nat)) : Int)) ((chK c ((k + j + 2 : Nat))).map b8)).toArray 42)))
      generalize a3.alloc (.cells (pkR (.int .i64 (chN c ((k + j + 1 : Nat)) : Int)) ((chK c ((k + j + 2 : Nat))).map b8)).toArray 42) = b1 at *
      generalize a3.heap.size = g0 at *
      refine wpList_grow (t := 43) (bw := 40) (zv := .agg ([.int .i64 0] ++ List.replicate 32 (.int .u8 0) : List Value).toArray) (z := 33) rfl rfl Try.underlying43 (by kernel_rfl) rfl (by omega) rfl rfl A2.out.range hml hmo (by omega) (by omega) E.out (fun v7 b2 hG => ?_); (try simp only [Act.put, List.setIfInBounds_toArray, List.set_cons_zero, List.set_cons_succ])
      replace E := Lib.hid hG
      clear hG A2
      refine wpList_val (run_asg (v := v7) rfl rfl) rfl ?_; (try simp only [Act.put, List.setIfInBounds_toArray, List.set_cons_zero, List.set_cons_succ])
      refine wpList_end ?_
      have E9 := Lib.hid (E.out.know (H0 := LR pkAt (l ++ [chP c k j]) (css ++ [pkR (.int .i64 (chN c ((k + j + 1 : Nat)) : Int)) ((chK c ((k + j + 2 : Nat))).map b8)])) fun V h => h.snoc (by show _ = pkC _; rw [pkC_row]; rfl))
      clear E
      have E := E9
      clear E9
      go_upto_region 4 with fail; refine wp_region_lit ?_
      refine wpList_val (run_mv (v := .int .i64 (j : Int)) rfl rfl) rfl ?_; (try simp only [Act.put, List.setIfInBounds_toArray, List.set_cons_zero, List.set_cons_succ])
      refine wpList_val (run_addN (a := j) (b := 1) rfl rfl rfl (by omega)) rfl ?_; (try simp only [Act.put, List.setIfInBounds_toArray, List.set_cons_zero, List.set_cons_succ])
      refine wpList_val (run_asg (v := .int .i64 ((j + 1 : Nat) : Int)) rfl rfl) rfl ?_; (try simp only [Act.put, List.setIfInBounds_toArray, List.set_cons_zero, List.set_cons_succ])
      refine wpList_end ?_
      go_wp2_with fail
      exact ⟨⟨j + 1, l ++ [chP c k j], css ++ [pkR (.int .i64 (chN c ((k + j + 1 : Nat)) : Int)) ((chK c ((k + j + 2 : Nat))).map b8)], rfl, by rw [chPs_succ, hl], by rw [List.length_append, ← hjl]; rfl, by omega, (fun p hp => by rcases List.mem_append.1 hp with hp | hp; exact HK.out p hp; obtain rfl := List.mem_singleton.1 hp; exact hml), by rw [List.flatten_append]; simpa using E.out⟩, by simp [intOf]; omega⟩
end Go.Proofs.Ytgioojahadlmhaa
namespace Go.Proofs.Ytgioojahadlmhaa
open Go.RowKit
set_option maxRecDepth 20000
attribute [local irreducible] wpList

theorem Sl.takeC {ao : Option Addr} {c : List (BitVec 8)} {cc n : Nat} {V : World} (h : Sl (.slice ao c.length cc) c V) (hn : n ≤ c.length) : Sl (.slice ao (c.take n).length cc) (c.take n) V := by
  obtain ⟨ao', c', hv, h1, h2⟩ := h
  simp only [Value.slice.injEq] at hv
  obtain ⟨rfl, -, rfl⟩ := hv
  refine ⟨ao, cc, rfl, by rw [List.length_take]; omega, fun hne => ?_⟩
  obtain ⟨g, f, h3, h4, h5⟩ := h2 (fun h => hne (by rw [h]; exact List.take_nil))
  exact ⟨g, f, h3, h4, by rw [List.map_take]; exact rangeAt_take h5⟩
def chE (c : List (BitVec 8)) (k : Nat) : MEv := ⟨(chN c k : Int), (chN c (k + 1) : Int), decide (chN c (k + 2) % 2 = 1), chK c (k + 3), (chN c (k + 4) : Int), ((min (chN c (k + 5)) 1099511627775 : Nat) : Int) - 1, ⟨chK c (k + 6), (chN c (k + 7) : Int), (chN c (k + 8) : Int)⟩, c.take (min c.length (chN c (k + 9) % 10))⟩
theorem enters_cv10 : Enters 18 := enters_of Try.func18 (by kernel_rfl) rfl
set_option maxHeartbeats 16000000 in
theorem chE_any (ao : Option Addr) (c : List (BitVec 8)) (cc k : Nat) (w : World) (hc : Sl (.slice ao c.length cc) c w) (hk : k ≤ 100000) : Calls Try.prog 18 #[.slice ao c.length cc, .int .i64 (k : Int)] w fun r w' => ∃ v', r = .returned v' ∧ ((∃ X : List Value, v' = .agg X.toArray ∧ X.length = 72 ∧ One X ∧ Fro 0 (evAt (chE c k) X) w') ∧ Below w.heap.size w w') := by
  have CN := chKC c w ao cc hc
  have CK := chKK c w ao cc hc
  have hcc : c.length ≤ cc := by obtain ⟨_, _, h1, h2, _⟩ := hc; simp only [Value.slice.injEq] at h1; omega
  have E := Lib.hid (Ev.start (w := w) (F := fun V => Sl (.slice ao c.length cc) c V) fun V hV => hc.ext hV)
  clear hc
  have BE : Hid (Try.prog.built 64 [(0, .int .i64 (chN c k : Int)), (1, .int .i64 (chN c (k + 1) : Int)), (2, .bool (decide (chN c (k + 2) % 2 = 1))), (3, .agg ((chK c (k + 3)).map b8).toArray), (4, .int .i64 (chN c (k + 4) : Int)), (5, .int .i64 (((min (chN c (k + 5)) 1099511627775 : Nat) : Int) - 1))] = some (evR (.int .i64 (chN c k : Int)) (.int .i64 (chN c (k + 1) : Int)) (.bool (decide (chN c (k + 2) % 2 = 1))) ((chK c (k + 3)).map b8) (.int .i64 (chN c (k + 4) : Int)) (.int .i64 (((min (chN c (k + 5)) 1099511627775 : Nat) : Int) - 1)) (hdR (z8 32) ((.int .i64 0)) ((.int .i64 0))) (.slice none 0 0)).toArray) := Lib.hid (by kernel_rfl)
  go_enter Try.func18, Try.ntmps18
  go_upto_region 0 with fail; refine wp_region_lit ?_
  refine wpList_val (run_alc (vs := evR ((.int .i64 0)) ((.int .i64 0)) ((.bool false)) (z8 32) ((.int .i64 0)) ((.int .i64 0)) (hdR (z8 32) ((.int .i64 0)) ((.int .i64 0))) ((.slice none 0 0))) rfl (by kernel_rfl)) rfl ?_; (try simp only [Act.put, List.setIfInBounds_toArray, List.set_cons_zero, List.set_cons_succ])
  replace E := Lib.hid (E.out.new (evR ((.int .i64 0)) ((.int .i64 0)) ((.bool false)) (z8 32) ((.int .i64 0)) ((.int .i64 0)) (hdR (z8 32) ((.int .i64 0)) ((.int .i64 0))) ((.slice none 0 0))) 64)
  generalize w.alloc (.cells (evR ((.int .i64 0)) ((.int .i64 0)) ((.bool false)) (z8 32) ((.int .i64 0)) ((.int .i64 0)) (hdR (z8 32) ((.int .i64 0)) ((.int .i64 0))) ((.slice none 0 0))).toArray 64) = a1 at *
  generalize w.heap.size = g2 at *
  refine wpList_end ?_
  go_upto_region 1 with fail; refine wp_region_lit ?_
  refine wpList_val (run_mv (v := .slice ao c.length cc) rfl rfl) rfl ?_; (try simp only [Act.put, List.setIfInBounds_toArray, List.set_cons_zero, List.set_cons_succ])
  refine wpList_val (run_mv (v := .int .i64 (k : Int)) rfl rfl) rfl ?_; (try simp only [Act.put, List.setIfInBounds_toArray, List.set_cons_zero, List.set_cons_succ])
  refine wpList_enter (run_call2 enters_cn10 rfl rfl rfl rfl) rfl (CN.out _ k E.out.bl) (fun a3 hb => ?_); (try simp only [Act.put, List.setIfInBounds_toArray, List.set_cons_zero, List.set_cons_succ])
  replace E := Lib.hid (E.out.below hb)
  clear hb
  refine wpList_val (run_mv (v := .slice ao c.length cc) rfl rfl) rfl ?_; (try simp only [Act.put, List.setIfInBounds_toArray, List.set_cons_zero, List.set_cons_succ])
  refine wpList_val (run_mv (v := .int .i64 (k : Int)) rfl rfl) rfl ?_; (try simp only [Act.put, List.setIfInBounds_toArray, List.set_cons_zero, List.set_cons_succ])
  refine wpList_val (run_addN (a := k) (b := 1) rfl rfl rfl (by omega)) rfl ?_; (try simp only [Act.put, List.setIfInBounds_toArray, List.set_cons_zero, List.set_cons_succ])
  refine wpList_enter (run_call2 enters_cn10 rfl rfl rfl rfl) rfl (CN.out _ ((k + 1 : Nat)) E.out.bl) (fun a4 hb => ?_); (try simp only [Act.put, List.setIfInBounds_toArray, List.set_cons_zero, List.set_cons_succ])
  replace E := Lib.hid (E.out.below hb)
  clear hb
  refine wpList_val (run_mv (v := .slice ao c.length cc) rfl rfl) rfl ?_; (try simp only [Act.put, List.setIfInBounds_toArray, List.set_cons_zero, List.set_cons_succ])
  refine wpList_val (run_mv (v := .int .i64 (k : Int)) rfl rfl) rfl ?_; (try simp only [Act.put, List.setIfInBounds_toArray, List.set_cons_zero, List.set_cons_succ])
  refine wpList_val (run_addN (a := k) (b := 2) rfl rfl rfl (by omega)) rfl ?_; (try simp only [Act.put, List.setIfInBounds_toArray, List.set_cons_zero, List.set_cons_succ])
  refine wpList_enter (run_call2 enters_cn10 rfl rfl rfl rfl) rfl (CN.out _ ((k + 2 : Nat)) E.out.bl) (fun a5 hb => ?_); (try simp only [Act.put, List.setIfInBounds_toArray, List.set_cons_zero, List.set_cons_succ])
  replace E := Lib.hid (E.out.below hb)
  clear hb
  refine wpList_val (run_remN (a := chN c (k + 2)) (b := 2) rfl rfl rfl (by omega)) rfl ?_; (try simp only [Act.put, List.setIfInBounds_toArray, List.set_cons_zero, List.set_cons_succ])
  refine wpList_val (run_eqlb (c := decide (chN c (k + 2) % 2 = 1)) rfl rfl rfl (by rw [Bool.eq_iff_iff, beq_iff_eq, decide_eq_true_iff]; omega)) rfl ?_; (try simp only [Act.put, List.setIfInBounds_toArray, List.set_cons_zero, List.set_cons_succ])
  refine wpList_val (run_mv (v := .slice ao c.length cc) rfl rfl) rfl ?_; (try simp only [Act.put, List.setIfInBounds_toArray, List.set_cons_zero, List.set_cons_succ])
  refine wpList_val (run_mv (v := .int .i64 (k : Int)) rfl rfl) rfl ?_; (try simp only [Act.put, List.setIfInBounds_toArray, List.set_cons_zero, List.set_cons_succ])
  refine wpList_val (run_addN (a := k) (b := 3) rfl rfl rfl (by omega)) rfl ?_; (try simp only [Act.put, List.setIfInBounds_toArray, List.set_cons_zero, List.set_cons_succ])
  refine wpList_enter (run_call2 enters_ck10 rfl rfl rfl rfl) rfl (CK.out _ ((k + 3 : Nat)) E.out.bl) (fun a6 hb => ?_); (try simp only [Act.put, List.setIfInBounds_toArray, List.set_cons_zero, List.set_cons_succ])
  replace E := Lib.hid (E.out.below hb)
  clear hb
  refine wpList_val (run_mv (v := .slice ao c.length cc) rfl rfl) rfl ?_; (try simp only [Act.put, List.setIfInBounds_toArray, List.set_cons_zero, List.set_cons_succ])
  refine wpList_val (run_mv (v := .int .i64 (k : Int)) rfl rfl) rfl ?_; (try simp only [Act.put, List.setIfInBounds_toArray, List.set_cons_zero, List.set_cons_succ])
  refine wpList_val (run_addN (a := k) (b := 4) rfl rfl rfl (by omega)) rfl ?_; (try simp only [Act.put, List.setIfInBounds_toArray, List.set_cons_zero, List.set_cons_succ])
  refine wpList_enter (run_call2 enters_cn10 rfl rfl rfl rfl) rfl (CN.out _ ((k + 4 : Nat)) E.out.bl) (fun a7 hb => ?_); (try simp only [Act.put, List.setIfInBounds_toArray, List.set_cons_zero, List.set_cons_succ])
  replace E := Lib.hid (E.out.below hb)
  clear hb
  refine wpList_val (run_mv (v := .slice ao c.length cc) rfl rfl) rfl ?_; (try simp only [Act.put, List.setIfInBounds_toArray, List.set_cons_zero, List.set_cons_succ])
  refine wpList_val (run_mv (v := .int .i64 (k : Int)) rfl rfl) rfl ?_; (try simp only [Act.put, List.setIfInBounds_toArray, List.set_cons_zero, List.set_cons_succ])
  refine wpList_val (run_addN (a := k) (b := 5) rfl rfl rfl (by omega)) rfl ?_; (try simp only [Act.put, List.setIfInBounds_toArray, List.set_cons_zero, List.set_cons_succ])
  refine wpList_enter (run_call2 enters_cn10 rfl rfl rfl rfl) rfl (CN.out _ ((k + 5 : Nat)) E.out.bl) (fun a8 hb => ?_); (try simp only [Act.put, List.setIfInBounds_toArray, List.set_cons_zero, List.set_cons_succ])
  replace E := Lib.hid (E.out.below hb)
  clear hb
  refine wpList_val (run_min (b := 1099511627775) _ rfl rfl rfl) rfl ?_; (try simp only [Act.put, List.setIfInBounds_toArray, List.set_cons_zero, List.set_cons_succ])
  refine wpList_val (run_sub rfl rfl rfl (by omega) (by omega)) rfl ?_; (try simp only [Act.put, List.setIfInBounds_toArray, List.set_cons_zero, List.set_cons_succ])
  refine wpList_val (run_bldP (ps := [(0, .int .i64 (chN c k : Int)), (1, .int .i64 (chN c (k + 1) : Int)), (2, .bool (decide (chN c (k + 2) % 2 = 1))), (3, .agg ((chK c (k + 3)).map b8).toArray), (4, .int .i64 (chN c (k + 4) : Int)), (5, .int .i64 (((min (chN c (k + 5)) 1099511627775 : Nat) : Int) - 1))]) rfl rfl BE.out) rfl ?_; (try simp only [Act.put, List.setIfInBounds_toArray, List.set_cons_zero, List.set_cons_succ])
  refine wpList_val (run_alc (vs := evR ((.int .i64 0)) ((.int .i64 0)) ((.bool false)) (z8 32) ((.int .i64 0)) ((.int .i64 0)) (hdR (z8 32) ((.int .i64 0)) ((.int .i64 0))) ((.slice none 0 0))) rfl (by kernel_rfl)) rfl ?_; (try simp only [Act.put, List.setIfInBounds_toArray, List.set_cons_zero, List.set_cons_succ])
  replace E := Lib.hid (E.out.new (evR ((.int .i64 0)) ((.int .i64 0)) ((.bool false)) (z8 32) ((.int .i64 0)) ((.int .i64 0)) (hdR (z8 32) ((.int .i64 0)) ((.int .i64 0))) ((.slice none 0 0))) 64)
  generalize a8.alloc (.cells (evR ((.int .i64 0)) ((.int .i64 0)) ((.bool false)) (z8 32) ((.int .i64 0)) ((.int .i64 0)) (hdR (z8 32) ((.int .i64 0)) ((.int .i64 0))) ((.slice none 0 0))).toArray 64) = a9 at *
  generalize a8.heap.size = g10 at *
  refine wpList_skip (run_stM (vs := evR (.int .i64 (chN c k : Int)) (.int .i64 (chN c (k + 1) : Int)) (.bool (decide (chN c (k + 2) % 2 = 1))) ((chK c (k + 3)).map b8) (.int .i64 (chN c (k + 4) : Int)) (.int .i64 (((min (chN c (k + 5)) 1099511627775 : Nat) : Int) - 1)) (hdR (z8 32) ((.int .i64 0)) ((.int .i64 0))) (.slice none 0 0)) rfl (szR (evR_len (by rw [List.length_map]; exact chK_len _ _) (hdR_len (z8_lenR 32))) (by kernel_rfl)) rfl rfl (One.all (evR_one rfl rfl rfl (One.b8 _) rfl rfl (hdR_one (One.b8 _) rfl rfl) rfl)) ((E.out.get (i := 0) rfl).thereM (by have q1 : (evR (.int .i64 (chN c k : Int)) (.int .i64 (chN c (k + 1) : Int)) (.bool (decide (chN c (k + 2) % 2 = 1))) ((chK c (k + 3)).map b8) (.int .i64 (chN c (k + 4) : Int)) (.int .i64 (((min (chN c (k + 5)) 1099511627775 : Nat) : Int) - 1)) (hdR (z8 32) ((.int .i64 0)) ((.int .i64 0))) (.slice none 0 0)).length = 72 := (evR_len (by rw [List.length_map]; exact chK_len _ _) (hdR_len (z8_lenR 32))); have q2 : (evR ((.int .i64 0)) ((.int .i64 0)) ((.bool false)) (z8 32) ((.int .i64 0)) ((.int .i64 0)) (hdR (z8 32) ((.int .i64 0)) ((.int .i64 0))) ((.slice none 0 0))).length = 72 := (evR_len (z8_lenR 32) (hdR_len (z8_lenR 32))); omega))) rfl rfl ?_
  replace E := Lib.hid (E.out.put 0 rfl (m := evR (.int .i64 (chN c k : Int)) (.int .i64 (chN c (k + 1) : Int)) (.bool (decide (chN c (k + 2) % 2 = 1))) ((chK c (k + 3)).map b8) (.int .i64 (chN c (k + 4) : Int)) (.int .i64 (((min (chN c (k + 5)) 1099511627775 : Nat) : Int) - 1)) (hdR (z8 32) ((.int .i64 0)) ((.int .i64 0))) (.slice none 0 0)) ((show (evR (.int .i64 (chN c k : Int)) (.int .i64 (chN c (k + 1) : Int)) (.bool (decide (chN c (k + 2) % 2 = 1))) ((chK c (k + 3)).map b8) (.int .i64 (chN c (k + 4) : Int)) (.int .i64 (((min (chN c (k + 5)) 1099511627775 : Nat) : Int) - 1)) (hdR (z8 32) ((.int .i64 0)) ((.int .i64 0))) (.slice none 0 0)).length = 72 from (evR_len (by rw [List.length_map]; exact chK_len _ _) (hdR_len (z8_lenR 32)))).trans (show (evR ((.int .i64 0)) ((.int .i64 0)) ((.bool false)) (z8 32) ((.int .i64 0)) ((.int .i64 0)) (hdR (z8 32) ((.int .i64 0)) ((.int .i64 0))) ((.slice none 0 0))).length = 72 from (evR_len (z8_lenR 32) (hdR_len (z8_lenR 32)))).symm))
  generalize a9.setCells g10 0 (evR (.int .i64 (chN c k : Int)) (.int .i64 (chN c (k + 1) : Int)) (.bool (decide (chN c (k + 2) % 2 = 1))) ((chK c (k + 3)).map b8) (.int .i64 (chN c (k + 4) : Int)) (.int .i64 (((min (chN c (k + 5)) 1099511627775 : Nat) : Int) - 1)) (hdR (z8 32) ((.int .i64 0)) ((.int .i64 0))) (.slice none 0 0)) = a11 at *
  replace E := Lib.hid (show Ev _ [(g10, evR (.int .i64 (chN c k : Int)) (.int .i64 (chN c (k + 1) : Int)) (.bool (decide (chN c (k + 2) % 2 = 1))) ((chK c (k + 3)).map b8) (.int .i64 (chN c (k + 4) : Int)) (.int .i64 (((min (chN c (k + 5)) 1099511627775 : Nat) : Int) - 1)) (hdR (z8 32) ((.int .i64 0)) ((.int .i64 0))) (.slice none 0 0)), (g2, evR ((.int .i64 0)) ((.int .i64 0)) ((.bool false)) (z8 32) ((.int .i64 0)) ((.int .i64 0)) (hdR (z8 32) ((.int .i64 0)) ((.int .i64 0))) ((.slice none 0 0)))] _ _ _ a11 from E.out)
  refine wpList_end ?_
  go_upto_region 2 with fail; refine wp_region_lit ?_
  refine wpList_val (run_mv (v := .slice ao c.length cc) rfl rfl) rfl ?_; (try simp only [Act.put, List.setIfInBounds_toArray, List.set_cons_zero, List.set_cons_succ])
  refine wpList_val (run_mv (v := .int .i64 (k : Int)) rfl rfl) rfl ?_; (try simp only [Act.put, List.setIfInBounds_toArray, List.set_cons_zero, List.set_cons_succ])
  refine wpList_val (run_addN (a := k) (b := 6) rfl rfl rfl (by omega)) rfl ?_; (try simp only [Act.put, List.setIfInBounds_toArray, List.set_cons_zero, List.set_cons_succ])
  refine wpList_enter (run_call2 enters_ck10 rfl rfl rfl rfl) rfl (CK.out _ ((k + 6 : Nat)) E.out.bl) (fun a12 hb => ?_); (try simp only [Act.put, List.setIfInBounds_toArray, List.set_cons_zero, List.set_cons_succ])
  replace E := Lib.hid (E.out.below hb)
  clear hb
  refine wpList_val (run_mv (v := .slice ao c.length cc) rfl rfl) rfl ?_; (try simp only [Act.put, List.setIfInBounds_toArray, List.set_cons_zero, List.set_cons_succ])
  refine wpList_val (run_mv (v := .int .i64 (k : Int)) rfl rfl) rfl ?_; (try simp only [Act.put, List.setIfInBounds_toArray, List.set_cons_zero, List.set_cons_succ])
  refine wpList_val (run_addN (a := k) (b := 7) rfl rfl rfl (by omega)) rfl ?_; (try simp only [Act.put, List.setIfInBounds_toArray, List.set_cons_zero, List.set_cons_succ])
  refine wpList_enter (run_call2 enters_cn10 rfl rfl rfl rfl) rfl (CN.out _ ((k + 7 : Nat)) E.out.bl) (fun a13 hb => ?_); (try simp only [Act.put, List.setIfInBounds_toArray, List.set_cons_zero, List.set_cons_succ])
  replace E := Lib.hid (E.out.below hb)
  clear hb
  refine wpList_val (run_mv (v := .slice ao c.length cc) rfl rfl) rfl ?_; (try simp only [Act.put, List.setIfInBounds_toArray, List.set_cons_zero, List.set_cons_succ])
  refine wpList_val (run_mv (v := .int .i64 (k : Int)) rfl rfl) rfl ?_; (try simp only [Act.put, List.setIfInBounds_toArray, List.set_cons_zero, List.set_cons_succ])
  refine wpList_val (run_addN (a := k) (b := 8) rfl rfl rfl (by omega)) rfl ?_; (try simp only [Act.put, List.setIfInBounds_toArray, List.set_cons_zero, List.set_cons_succ])
  refine wpList_enter (run_call2 enters_cn10 rfl rfl rfl rfl) rfl (CN.out _ ((k + 8 : Nat)) E.out.bl) (fun a14 hb => ?_); (try simp only [Act.put, List.setIfInBounds_toArray, List.set_cons_zero, List.set_cons_succ])
  replace E := Lib.hid (E.out.below hb)
  clear hb
  refine wpList_val (run_bldP (cells := (hdR ((chK c ((k + 6 : Nat))).map b8) (.int .i64 (chN c ((k + 7 : Nat)) : Int)) (.int .i64 (chN c ((k + 8 : Nat)) : Int))).toArray) (ps := [(0, .agg ((chK c ((k + 6 : Nat))).map b8).toArray), (1, .int .i64 (chN c ((k + 7 : Nat)) : Int)), (2, .int .i64 (chN c ((k + 8 : Nat)) : Int))]) rfl rfl (hdR_all (by rw [List.length_map]; exact chK_len _ _) rfl rfl)) rfl ?_; (try simp only [Act.put, List.setIfInBounds_toArray, List.set_cons_zero, List.set_cons_succ])
  refine wpList_val (run_fad (s := 33) (k := 37) rfl Try.underlying64 rfl (by kernel_rfl) rfl rfl) rfl ?_; (try simp only [Act.put, List.setIfInBounds_toArray, List.set_cons_zero, List.set_cons_succ])
  refine wpList_skip (run_stM (vs := hdR ((chK c ((k + 6 : Nat))).map b8) (.int .i64 (chN c ((k + 7 : Nat)) : Int)) (.int .i64 (chN c ((k + 8 : Nat)) : Int))) rfl (szR (hdR_len (by rw [List.length_map]; exact chK_len _ _)) (by kernel_rfl)) rfl rfl (One.all (hdR_one (One.b8 _) rfl rfl)) ((E.out.get (i := 0) rfl).thereM (by have q1 : (hdR ((chK c ((k + 6 : Nat))).map b8) (.int .i64 (chN c ((k + 7 : Nat)) : Int)) (.int .i64 (chN c ((k + 8 : Nat)) : Int))).length = 34 := (hdR_len (by rw [List.length_map]; exact chK_len _ _)); have q2 : (evR (.int .i64 (chN c k : Int)) (.int .i64 (chN c (k + 1) : Int)) (.bool (decide (chN c (k + 2) % 2 = 1))) ((chK c (k + 3)).map b8) (.int .i64 (chN c (k + 4) : Int)) (.int .i64 (((min (chN c (k + 5)) 1099511627775 : Nat) : Int) - 1)) (hdR (z8 32) ((.int .i64 0)) ((.int .i64 0))) (.slice none 0 0)).length = 72 := (evR_len (by rw [List.length_map]; exact chK_len _ _) (hdR_len (z8_lenR 32))); omega))) rfl rfl ?_
  replace E := Lib.hid (E.out.mid 0 rfl (f := 37) (m := hdR ((chK c ((k + 6 : Nat))).map b8) (.int .i64 (chN c ((k + 7 : Nat)) : Int)) (.int .i64 (chN c ((k + 8 : Nat)) : Int))) (by have q1 : (hdR ((chK c ((k + 6 : Nat))).map b8) (.int .i64 (chN c ((k + 7 : Nat)) : Int)) (.int .i64 (chN c ((k + 8 : Nat)) : Int))).length = 34 := (hdR_len (by rw [List.length_map]; exact chK_len _ _)); have q2 : (evR (.int .i64 (chN c k : Int)) (.int .i64 (chN c (k + 1) : Int)) (.bool (decide (chN c (k + 2) % 2 = 1))) ((chK c (k + 3)).map b8) (.int .i64 (chN c (k + 4) : Int)) (.int .i64 (((min (chN c (k + 5)) 1099511627775 : Nat) : Int) - 1)) (hdR (z8 32) ((.int .i64 0)) ((.int .i64 0))) (.slice none 0 0)).length = 72 := (evR_len (by rw [List.length_map]; exact chK_len _ _) (hdR_len (z8_lenR 32))); omega))
  rw [show (evR (.int .i64 (chN c k : Int)) (.int .i64 (chN c (k + 1) : Int)) (.bool (decide (chN c (k + 2) % 2 = 1))) ((chK c (k + 3)).map b8) (.int .i64 (chN c (k + 4) : Int)) (.int .i64 (((min (chN c (k + 5)) 1099511627775 : Nat) : Int) - 1)) (hdR (z8 32) ((.int .i64 0)) ((.int .i64 0))) (.slice none 0 0)).take 37 ++ (hdR ((chK c ((k + 6 : Nat))).map b8) (.int .i64 (chN c ((k + 7 : Nat)) : Int)) (.int .i64 (chN c ((k + 8 : Nat)) : Int)) ++ (evR (.int .i64 (chN c k : Int)) (.int .i64 (chN c (k + 1) : Int)) (.bool (decide (chN c (k + 2) % 2 = 1))) ((chK c (k + 3)).map b8) (.int .i64 (chN c (k + 4) : Int)) (.int .i64 (((min (chN c (k + 5)) 1099511627775 : Nat) : Int) - 1)) (hdR (z8 32) ((.int .i64 0)) ((.int .i64 0))) (.slice none 0 0)).drop (37 + (hdR ((chK c ((k + 6 : Nat))).map b8) (.int .i64 (chN c ((k + 7 : Nat)) : Int)) (.int .i64 (chN c ((k + 8 : Nat)) : Int))).length)) = evR (.int .i64 (chN c k : Int)) (.int .i64 (chN c (k + 1) : Int)) (.bool (decide (chN c (k + 2) % 2 = 1))) ((chK c (k + 3)).map b8) (.int .i64 (chN c (k + 4) : Int)) (.int .i64 (((min (chN c (k + 5)) 1099511627775 : Nat) : Int) - 1)) (hdR ((chK c ((k + 6 : Nat))).map b8) (.int .i64 (chN c ((k + 7 : Nat)) : Int)) (.int .i64 (chN c ((k + 8 : Nat)) : Int))) (.slice none 0 0) from (evR_setHead (by rw [List.length_map]; exact chK_len _ _) (hdR_len (z8_lenR 32)) (hdR_len (by rw [List.length_map]; exact chK_len _ _)))] at E
  generalize a14.setCells g10 37 (hdR ((chK c ((k + 6 : Nat))).map b8) (.int .i64 (chN c ((k + 7 : Nat)) : Int)) (.int .i64 (chN c ((k + 8 : Nat)) : Int))) = a15 at *
  replace E := Lib.hid (show Ev _ [(g10, evR (.int .i64 (chN c k : Int)) (.int .i64 (chN c (k + 1) : Int)) (.bool (decide (chN c (k + 2) % 2 = 1))) ((chK c (k + 3)).map b8) (.int .i64 (chN c (k + 4) : Int)) (.int .i64 (((min (chN c (k + 5)) 1099511627775 : Nat) : Int) - 1)) (hdR ((chK c ((k + 6 : Nat))).map b8) (.int .i64 (chN c ((k + 7 : Nat)) : Int)) (.int .i64 (chN c ((k + 8 : Nat)) : Int))) (.slice none 0 0)), (g2, evR ((.int .i64 0)) ((.int .i64 0)) ((.bool false)) (z8 32) ((.int .i64 0)) ((.int .i64 0)) (hdR (z8 32) ((.int .i64 0)) ((.int .i64 0))) ((.slice none 0 0)))] _ _ _ a15 from E.out)
  refine wpList_end ?_
  go_upto_region 3 with fail; refine wp_region_lit ?_
  refine wpList_val (run_mv (v := .slice ao c.length cc) rfl rfl) rfl ?_; (try simp only [Act.put, List.setIfInBounds_toArray, List.set_cons_zero, List.set_cons_succ])
  refine wpList_val (run_mv (v := .slice ao c.length cc) rfl rfl) rfl ?_; (try simp only [Act.put, List.setIfInBounds_toArray, List.set_cons_zero, List.set_cons_succ])
  refine wpList_val (run_len rfl Try.underlying22 rfl) rfl ?_; (try simp only [Act.put, List.setIfInBounds_toArray, List.set_cons_zero, List.set_cons_succ])
  refine wpList_val (run_mv (v := .slice ao c.length cc) rfl rfl) rfl ?_; (try simp only [Act.put, List.setIfInBounds_toArray, List.set_cons_zero, List.set_cons_succ])
  refine wpList_val (run_mv (v := .int .i64 (k : Int)) rfl rfl) rfl ?_; (try simp only [Act.put, List.setIfInBounds_toArray, List.set_cons_zero, List.set_cons_succ])
  refine wpList_val (run_addN (a := k) (b := 9) rfl rfl rfl (by omega)) rfl ?_; (try simp only [Act.put, List.setIfInBounds_toArray, List.set_cons_zero, List.set_cons_succ])
  refine wpList_enter (run_call2 enters_cn10 rfl rfl rfl rfl) rfl (CN.out _ ((k + 9 : Nat)) E.out.bl) (fun a16 hb => ?_); (try simp only [Act.put, List.setIfInBounds_toArray, List.set_cons_zero, List.set_cons_succ])
  replace E := Lib.hid (E.out.below hb)
  clear hb
  refine wpList_val (run_remN (a := chN c (k + 9)) (b := 10) rfl rfl rfl (by omega)) rfl ?_; (try simp only [Act.put, List.setIfInBounds_toArray, List.set_cons_zero, List.set_cons_succ])
  refine wpList_val (run_min (a := c.length) (b := chN c (k + 9) % 10) _ rfl rfl rfl) rfl ?_; (try simp only [Act.put, List.setIfInBounds_toArray, List.set_cons_zero, List.set_cons_succ])
  refine wpList_val (run_slo rfl Try.underlying22 (by kernel_rfl) rfl rfl (Nat.le_trans (Nat.min_le_left _ _) hcc)) rfl ?_; (try simp only [Act.put, List.setIfInBounds_toArray, List.set_cons_zero, List.set_cons_succ])
  refine wpList_val (run_fad (s := 0) (k := 71) rfl Try.underlying64 rfl (by kernel_rfl) rfl rfl) rfl ?_; (try simp only [Act.put, List.setIfInBounds_toArray, List.set_cons_zero, List.set_cons_succ])
  refine wpList_skip (run_stc (v := .slice ao (min c.length (chN c (k + 9) % 10)) cc) rfl (by kernel_rfl) rfl rfl rfl rfl ((E.out.get (i := 0) rfl).c 71 _ (evR_Body (by rw [List.length_map]; exact chK_len _ _) (hdR_len (by rw [List.length_map]; exact chK_len _ _)))) ((E.out.get (i := 0) rfl).f _)) rfl rfl ?_
  replace E := Lib.hid (E.out.set 0 rfl (j := 71) (by have q2 : (evR (.int .i64 (chN c k : Int)) (.int .i64 (chN c (k + 1) : Int)) (.bool (decide (chN c (k + 2) % 2 = 1))) ((chK c (k + 3)).map b8) (.int .i64 (chN c (k + 4) : Int)) (.int .i64 (((min (chN c (k + 5)) 1099511627775 : Nat) : Int) - 1)) (hdR ((chK c ((k + 6 : Nat))).map b8) (.int .i64 (chN c ((k + 7 : Nat)) : Int)) (.int .i64 (chN c ((k + 8 : Nat)) : Int))) (.slice none 0 0)).length = 72 := (evR_len (by rw [List.length_map]; exact chK_len _ _) (hdR_len (by rw [List.length_map]; exact chK_len _ _))); omega) (.slice ao (min c.length (chN c (k + 9) % 10)) cc))
  rw [show (evR (.int .i64 (chN c k : Int)) (.int .i64 (chN c (k + 1) : Int)) (.bool (decide (chN c (k + 2) % 2 = 1))) ((chK c (k + 3)).map b8) (.int .i64 (chN c (k + 4) : Int)) (.int .i64 (((min (chN c (k + 5)) 1099511627775 : Nat) : Int) - 1)) (hdR ((chK c ((k + 6 : Nat))).map b8) (.int .i64 (chN c ((k + 7 : Nat)) : Int)) (.int .i64 (chN c ((k + 8 : Nat)) : Int))) (.slice none 0 0)).set 71 (.slice ao (min c.length (chN c (k + 9) % 10)) cc) = evR (.int .i64 (chN c k : Int)) (.int .i64 (chN c (k + 1) : Int)) (.bool (decide (chN c (k + 2) % 2 = 1))) ((chK c (k + 3)).map b8) (.int .i64 (chN c (k + 4) : Int)) (.int .i64 (((min (chN c (k + 5)) 1099511627775 : Nat) : Int) - 1)) (hdR ((chK c ((k + 6 : Nat))).map b8) (.int .i64 (chN c ((k + 7 : Nat)) : Int)) (.int .i64 (chN c ((k + 8 : Nat)) : Int))) (.slice ao (min c.length (chN c (k + 9) % 10)) cc) from (evR_setBody (by rw [List.length_map]; exact chK_len _ _) (hdR_len (by rw [List.length_map]; exact chK_len _ _)) _)] at E
  generalize a16.setCell ⟨g10, 71, none⟩ (.slice ao (min c.length (chN c (k + 9) % 10)) cc) = a17 at *
  replace E := Lib.hid (show Ev _ [(g10, evR (.int .i64 (chN c k : Int)) (.int .i64 (chN c (k + 1) : Int)) (.bool (decide (chN c (k + 2) % 2 = 1))) ((chK c (k + 3)).map b8) (.int .i64 (chN c (k + 4) : Int)) (.int .i64 (((min (chN c (k + 5)) 1099511627775 : Nat) : Int) - 1)) (hdR ((chK c ((k + 6 : Nat))).map b8) (.int .i64 (chN c ((k + 7 : Nat)) : Int)) (.int .i64 (chN c ((k + 8 : Nat)) : Int))) (.slice ao (min c.length (chN c (k + 9) % 10)) cc)), (g2, evR ((.int .i64 0)) ((.int .i64 0)) ((.bool false)) (z8 32) ((.int .i64 0)) ((.int .i64 0)) (hdR (z8 32) ((.int .i64 0)) ((.int .i64 0))) ((.slice none 0 0)))] _ _ _ a17 from E.out)
  refine wpList_end ?_
  go_upto_region 4 with fail; refine wp_region_lit ?_
  refine wpList_val (run_ldM (vs := evR (.int .i64 (chN c k : Int)) (.int .i64 (chN c (k + 1) : Int)) (.bool (decide (chN c (k + 2) % 2 = 1))) ((chK c (k + 3)).map b8) (.int .i64 (chN c (k + 4) : Int)) (.int .i64 (((min (chN c (k + 5)) 1099511627775 : Nat) : Int) - 1)) (hdR ((chK c ((k + 6 : Nat))).map b8) (.int .i64 (chN c ((k + 7 : Nat)) : Int)) (.int .i64 (chN c ((k + 8 : Nat)) : Int))) (.slice ao (min c.length (chN c (k + 9) % 10)) cc)) rfl Try.underlying64 rfl (szR (evR_len (by rw [List.length_map]; exact chK_len _ _) (hdR_len (by rw [List.length_map]; exact chK_len _ _))) (by kernel_rfl)) rfl (E.out.get (i := 0) rfl).range) rfl ?_; (try simp only [Act.put, List.setIfInBounds_toArray, List.set_cons_zero, List.set_cons_succ])
  refine wpList_skip (run_stM (vs := evR (.int .i64 (chN c k : Int)) (.int .i64 (chN c (k + 1) : Int)) (.bool (decide (chN c (k + 2) % 2 = 1))) ((chK c (k + 3)).map b8) (.int .i64 (chN c (k + 4) : Int)) (.int .i64 (((min (chN c (k + 5)) 1099511627775 : Nat) : Int) - 1)) (hdR ((chK c ((k + 6 : Nat))).map b8) (.int .i64 (chN c ((k + 7 : Nat)) : Int)) (.int .i64 (chN c ((k + 8 : Nat)) : Int))) (.slice ao (min c.length (chN c (k + 9) % 10)) cc)) rfl (szR (evR_len (by rw [List.length_map]; exact chK_len _ _) (hdR_len (by rw [List.length_map]; exact chK_len _ _))) (by kernel_rfl)) rfl rfl (One.all (evR_one rfl rfl rfl (One.b8 _) rfl rfl (hdR_one (One.b8 _) rfl rfl) rfl)) ((E.out.get (i := 1) rfl).thereM (by have q1 : (evR (.int .i64 (chN c k : Int)) (.int .i64 (chN c (k + 1) : Int)) (.bool (decide (chN c (k + 2) % 2 = 1))) ((chK c (k + 3)).map b8) (.int .i64 (chN c (k + 4) : Int)) (.int .i64 (((min (chN c (k + 5)) 1099511627775 : Nat) : Int) - 1)) (hdR ((chK c ((k + 6 : Nat))).map b8) (.int .i64 (chN c ((k + 7 : Nat)) : Int)) (.int .i64 (chN c ((k + 8 : Nat)) : Int))) (.slice ao (min c.length (chN c (k + 9) % 10)) cc)).length = 72 := (evR_len (by rw [List.length_map]; exact chK_len _ _) (hdR_len (by rw [List.length_map]; exact chK_len _ _))); have q2 : (evR ((.int .i64 0)) ((.int .i64 0)) ((.bool false)) (z8 32) ((.int .i64 0)) ((.int .i64 0)) (hdR (z8 32) ((.int .i64 0)) ((.int .i64 0))) ((.slice none 0 0))).length = 72 := (evR_len (z8_lenR 32) (hdR_len (z8_lenR 32))); omega))) rfl rfl ?_
  replace E := Lib.hid (E.out.put 1 rfl (m := evR (.int .i64 (chN c k : Int)) (.int .i64 (chN c (k + 1) : Int)) (.bool (decide (chN c (k + 2) % 2 = 1))) ((chK c (k + 3)).map b8) (.int .i64 (chN c (k + 4) : Int)) (.int .i64 (((min (chN c (k + 5)) 1099511627775 : Nat) : Int) - 1)) (hdR ((chK c ((k + 6 : Nat))).map b8) (.int .i64 (chN c ((k + 7 : Nat)) : Int)) (.int .i64 (chN c ((k + 8 : Nat)) : Int))) (.slice ao (min c.length (chN c (k + 9) % 10)) cc)) ((show (evR (.int .i64 (chN c k : Int)) (.int .i64 (chN c (k + 1) : Int)) (.bool (decide (chN c (k + 2) % 2 = 1))) ((chK c (k + 3)).map b8) (.int .i64 (chN c (k + 4) : Int)) (.int .i64 (((min (chN c (k + 5)) 1099511627775 : Nat) : Int) - 1)) (hdR ((chK c ((k + 6 : Nat))).map b8) (.int .i64 (chN c ((k + 7 : Nat)) : Int)) (.int .i64 (chN c ((k + 8 : Nat)) : Int))) (.slice ao (min c.length (chN c (k + 9) % 10)) cc)).length = 72 from (evR_len (by rw [List.length_map]; exact chK_len _ _) (hdR_len (by rw [List.length_map]; exact chK_len _ _)))).trans (show (evR ((.int .i64 0)) ((.int .i64 0)) ((.bool false)) (z8 32) ((.int .i64 0)) ((.int .i64 0)) (hdR (z8 32) ((.int .i64 0)) ((.int .i64 0))) ((.slice none 0 0))).length = 72 from (evR_len (z8_lenR 32) (hdR_len (z8_lenR 32)))).symm))
  generalize a17.setCells g2 0 (evR (.int .i64 (chN c k : Int)) (.int .i64 (chN c (k + 1) : Int)) (.bool (decide (chN c (k + 2) % 2 = 1))) ((chK c (k + 3)).map b8) (.int .i64 (chN c (k + 4) : Int)) (.int .i64 (((min (chN c (k + 5)) 1099511627775 : Nat) : Int) - 1)) (hdR ((chK c ((k + 6 : Nat))).map b8) (.int .i64 (chN c ((k + 7 : Nat)) : Int)) (.int .i64 (chN c ((k + 8 : Nat)) : Int))) (.slice ao (min c.length (chN c (k + 9) % 10)) cc)) = a18 at *
  replace E := Lib.hid (show Ev _ [(g10, evR (.int .i64 (chN c k : Int)) (.int .i64 (chN c (k + 1) : Int)) (.bool (decide (chN c (k + 2) % 2 = 1))) ((chK c (k + 3)).map b8) (.int .i64 (chN c (k + 4) : Int)) (.int .i64 (((min (chN c (k + 5)) 1099511627775 : Nat) : Int) - 1)) (hdR ((chK c ((k + 6 : Nat))).map b8) (.int .i64 (chN c ((k + 7 : Nat)) : Int)) (.int .i64 (chN c ((k + 8 : Nat)) : Int))) (.slice ao (min c.length (chN c (k + 9) % 10)) cc)), (g2, evR (.int .i64 (chN c k : Int)) (.int .i64 (chN c (k + 1) : Int)) (.bool (decide (chN c (k + 2) % 2 = 1))) ((chK c (k + 3)).map b8) (.int .i64 (chN c (k + 4) : Int)) (.int .i64 (((min (chN c (k + 5)) 1099511627775 : Nat) : Int) - 1)) (hdR ((chK c ((k + 6 : Nat))).map b8) (.int .i64 (chN c ((k + 7 : Nat)) : Int)) (.int .i64 (chN c ((k + 8 : Nat)) : Int))) (.slice ao (min c.length (chN c (k + 9) % 10)) cc))] _ _ _ a18 from E.out)
  refine wpList_end ?_
  go_wp2_with fail
  refine bodyPost_ret (v := .agg (evR (.int .i64 (chN c k : Int)) (.int .i64 (chN c (k + 1) : Int)) (.bool (decide (chN c (k + 2) % 2 = 1))) ((chK c (k + 3)).map b8) (.int .i64 (chN c (k + 4) : Int)) (.int .i64 (((min (chN c (k + 5)) 1099511627775 : Nat) : Int) - 1)) (hdR ((chK c ((k + 6 : Nat))).map b8) (.int .i64 (chN c ((k + 7 : Nat)) : Int)) (.int .i64 (chN c ((k + 8 : Nat)) : Int))) (.slice ao (min c.length (chN c (k + 9) % 10)) cc)).toArray) (results_rowB Try.results18 rfl Try.underlying64 rfl (szR (evR_len (by rw [List.length_map]; exact chK_len _ _) (hdR_len (by rw [List.length_map]; exact chK_len _ _))) (by kernel_rfl)) (E.out.get (i := 1) rfl).range) rfl ⟨_, rfl, ⟨_, rfl, (evR_len (by rw [List.length_map]; exact chK_len _ _) (hdR_len (by rw [List.length_map]; exact chK_len _ _))), (evR_one rfl rfl rfl (One.b8 _) rfl rfl (hdR_one (One.b8 _) rfl rfl) rfl), fun V hV => ?_⟩, E.out.bl⟩
  have h := E.out.fs V (hV.mono (Nat.le_refl _) fun _ h => by cases h)
  have h2 := h.takeC (Nat.min_le_left c.length (chN c (k + 9) % 10))
  refine ⟨ao, cc, ?_, h2⟩
  rw [evC_row, hdC_row, show (chE c k).body.length = min c.length (chN c (k + 9) % 10) by simp only [chE, List.length_take]; omega]
  rfl
end Go.Proofs.Ytgioojahadlmhaa
namespace Go.Proofs.Ytgioojahadlmhaa
open Go.RowKit
set_option maxRecDepth 20000

theorem gnL_cut {most : Int} : ∀ (t : List (BitVec 8)) (k m n q : Nat) (pre u : List (BitVec 8)), viF k m = t ++ u → u ≠ [] → m < 128 ^ (k + 1) → (gnL (pre ++ t) most (k + 1) pre.length n q).2.1 = 10
  | [], k, m, n, q, pre, u, _, _, _ => by rw [gnL, if_pos (by simp)]
  | x :: t, k, m, n, q, pre, u, he, hu, hm => by
    cases k with
    | zero =>
      rw [viF] at he
      have h2 := congrArg List.length he
      have h3 := List.length_pos_iff.2 hu
      simp only [List.length_cons, List.length_nil, List.cons_append, List.length_append] at h2
      omega
    | succ k =>
      rw [viF] at he
      by_cases h1 : m ≤ 127
      · rw [if_pos h1] at he
        have h2 := congrArg List.length he
        have h3 := List.length_pos_iff.2 hu
        simp only [List.length_cons, List.length_nil, List.cons_append, List.length_append] at h2
        omega
      · rw [if_neg h1] at he
        simp only [List.cons_append, List.cons.injEq] at he
        obtain ⟨hx, he⟩ := he
        have hb : x.toNat = m % 128 + 128 := by rw [← hx]; simp; omega
        have hd : m / 128 < 128 ^ (k + 1) := by rw [Nat.pow_succ] at hm; exact Nat.div_lt_of_lt_mul (by rwa [Nat.mul_comm] at hm)
        have ih := gnL_cut (most := most) t k (m / 128) (n + x.toNat % 128 * q) (q * 128) (pre ++ [x]) u he hu hd
        rw [List.append_assoc, List.length_append] at ih
        rw [gnL, if_neg (by simp), getD_at, if_neg (by omega)]
        exact ih
theorem cut_n (n most : Int) : Cut (fun b => nM b most) (viB n) := fun pre t u he hu => by
  have h := gnL_cut (most := most) t 5 (clN n) 0 1 pre u he hu (Nat.lt_of_le_of_lt (clN_le n) (by decide))
  simp only [nM, gn, if_pos]
  exact h
theorem tk_short {m i n : Nat} (h : m < i + n) : tkE m i 0 n = 10 := by
  unfold tkE
  rw [if_pos ⟨rfl, by omega⟩]
theorem cut_k {n : Nat} {k : List (BitVec 8)} (hk : k.length = n) : Cut (kM n) k := fun pre t u he hu => by
  have h2 := congrArg List.length he
  have h3 := List.length_pos_iff.2 hu
  rw [List.length_append] at h2
  exact tk_short (by rw [List.length_append]; omega)
theorem cut_tr (b : Bool) : Cut trM (trB b) := fun pre t u he hu => by
  have h2 := congrArg List.length he
  have h3 := List.length_pos_iff.2 hu
  rw [List.length_append] at h2
  have h4 : (trB b).length = 1 := rfl
  have h := tk_short (m := (pre ++ t).length) (i := pre.length) (n := 1) (by rw [List.length_append]; omega)
  simp only [trM, h, if_neg nz10]
section
variable {α β : Type} {m1 : List (BitVec 8) → Nat × Int → (Nat × Int) × α} {k : α → List (BitVec 8) → Nat × Int → (Nat × Int) × β} {l1 l2 : List (BitVec 8)} {x1 : α}
def bindM (m1 : List (BitVec 8) → Nat × Int → (Nat × Int) × α) (k : α → List (BitVec 8) → Nat × Int → (Nat × Int) × β) (b : List (BitVec 8)) (s : Nat × Int) : (Nat × Int) × β := k (m1 b s).2 b (m1 b s).1
theorem Cut.bind (h1 : Cut m1 l1) (r1 : Rds m1 l1 x1) (h2 : Cut (k x1) l2) (s2 : ∀ x, Stay (k x)) : Cut (bindM m1 k) (l1 ++ l2) := fun pre t u he hu => by
  unfold bindM
  rcases List.append_eq_append_iff.1 he with ⟨a, ha, hb⟩ | ⟨a, ha, hb⟩
  · subst ha
    have e1 := r1 pre a
    have e2 := h2 (pre ++ l1) a u hb hu
    rw [List.length_append, List.append_assoc] at e2
    rw [e1]
    exact e2
  · by_cases h0 : a = []
    · subst h0
      rw [List.append_nil] at ha
      subst ha
      have e1 := r1 pre []
      rw [List.append_nil] at e1
      have e2 := h2 (pre ++ l1) [] l2 rfl (by rw [List.nil_append] at hb; rw [← hb]; exact hu)
      rw [List.length_append, List.append_nil] at e2
      rw [e1]
      exact e2
    · have e1 := h1 pre t a ha h0
      have h10 : (m1 (pre ++ t) (pre.length, 0)).1.2 ≠ 0 := by rw [e1]; decide
      have e2 := s2 (m1 (pre ++ t) (pre.length, 0)).2 (pre ++ t) (m1 (pre ++ t) (pre.length, 0)).1.1 _ h10
      rw [show (m1 (pre ++ t) (pre.length, 0)).1 = ((m1 (pre ++ t) (pre.length, 0)).1.1, (m1 (pre ++ t) (pre.length, 0)).1.2) from rfl, e2]
      exact e1
end
theorem tk_stay {m i n : Nat} {e : Int} (h : e ≠ 0) : (tkI m i e n, tkE m i e n) = (i, e) := by
  have e1 : tkE m i e n = e := by unfold tkE; rw [if_neg (fun h2 => h h2.1)]
  unfold tkI
  rw [e1, if_neg h]
theorem cut_by {l : List (BitVec 8)} (hl : l.length ≤ 60000) : Cut byM (txB l) := by
  have h : Cut (bindM (fun b => nM b 60000) (fun N b s => ((tkI b.length s.1 s.2 N.toNat, tkE b.length s.1 s.2 N.toNat), if tkE b.length s.1 s.2 N.toNat = 0 then (b.drop s.1).take N.toNat else []))) (viB (l.length : Int) ++ l) :=
    (cut_n _ _).bind (rds_n (n := (l.length : Int)) (by omega) (by omega) (by omega)) (fun pre t u he hu => by
      have h2 := congrArg List.length he
      have h3 := List.length_pos_iff.2 hu
      rw [List.length_append] at h2
      exact tk_short (by rw [List.length_append, Int.toNat_natCast]; omega)) fun x b i e h => tk_stay h
  exact h.as (fun _ _ => rfl) rfl
theorem cut_rows {α : Type} {g : List (BitVec 8) → Nat × Int → (Nat × Int) × α} {enc : α → List (BitVec 8)} : ∀ (ms : List α), (∀ m ∈ ms, Rds g (enc m) m) → (∀ m ∈ ms, Cut g (enc m)) → Cut (fun b s => rowsM (g b) ms.length s) (ms.flatMap enc)
  | [], _, _ => fun pre t u he hu => by
    have h2 := congrArg List.length he
    have h3 := List.length_pos_iff.2 hu
    simp only [List.flatMap_nil, List.length_nil, List.length_append] at h2
    omega
  | m :: ms, h, hc => fun pre t u he hu => by
    have h1 := (hc m (List.mem_cons_self ..)).seq (h m (List.mem_cons_self ..)) (cut_rows ms (fun x hx => h x (List.mem_cons_of_mem _ hx)) fun x hx => hc x (List.mem_cons_of_mem _ hx)) (fun b i e h => by show (rowsM _ _ (i, e)).1 = _; rw [rowsM_err _ _ h]) (fun a l => a :: l)
    have h2 := h1 pre t u (by rw [List.flatMap_cons] at he; exact he) hu
    show (rowsM _ _ _).1.2 = 10
    rw [List.length_cons, rowsM_step _ _ rfl]
    exact h2
theorem cut_al {α : Type} {g : List (BitVec 8) → Nat × Int → (Nat × Int) × α} {enc : α → List (BitVec 8)} {ms : List α} (hl : ms.length ≤ 60000) (h : ∀ m ∈ ms, Rds g (enc m) m) (hc : ∀ m ∈ ms, Cut g (enc m)) : Cut (fun b s => rowsM (g b) (nM b 60000 s).2.toNat (nM b 60000 s).1) (alB enc ms) := by
  have e : Cut (bindM (fun b => nM b 60000) (fun N b s => rowsM (g b) N.toNat s)) (viB (ms.length : Int) ++ ms.flatMap enc) :=
    (cut_n _ _).bind (rds_n (n := (ms.length : Int)) (by omega) (by omega) (by omega)) (by rw [Int.toNat_natCast]; exact cut_rows ms h hc) fun x b i e h => by show (rowsM _ _ (i, e)).1 = _; rw [rowsM_err _ _ h]
  exact e.as (fun _ _ => rfl) rfl
def Num (n : Int) : Prop := 0 ≤ n ∧ n ≤ 1099511627776
theorem rds_N {n : Int} (h : Num n) : Rds (fun b => nM b 1099511627776) (viB n) n := rds_n h.1 h.2 (by omega)
/-- What can be read again as it was. -/
structure MPk.Can (m : MPk) : Prop where
  id : Num m.id
  key : m.key.length = 32
structure MHd.Can (m : MHd) : Prop where
  r : m.r.length = 32
  prev : Num m.prev
  n : Num m.n
structure MEv.Can (m : MEv) : Prop where
  fr : Num m.fr
  dev : Num m.dev
  eph : m.eph.length = 32
  signed : Num m.signed
  one : -1 ≤ m.one ∧ m.one ≤ 1099511627775
  head : m.head.Can
  body : m.body.length ≤ 60000
structure MLs.Can (m : MLs) : Prop where
  acc : Num m.acc
  ver : Num m.ver
  ident : m.ident.length = 32
  devs : ∀ p ∈ m.devs, p.Can
  many : m.devs.length ≤ 60000
  sig : m.sig.length = 64
structure MBu.Can (m : MBu) : Prop where
  acc : Num m.acc
  dev : Num m.dev
  ident : m.ident.length = 32
  key : m.key.length = 32
  signed : m.signed.Can
  sig : m.sig.length = 64
  ones : ∀ p ∈ m.ones, p.Can
  many : m.ones.length ≤ 60000
structure MSlot.Can (m : MSlot) : Prop where
  dev : Num m.dev
  signed : m.signed.Can
  sig : m.sig.length = 64
  ones : ∀ p ∈ m.ones, p.Can
  many : m.ones.length ≤ 60000
  last : Num m.last
  mail : ∀ p ∈ m.mail, p.Can
  much : m.mail.length ≤ 60000
structure MRq.Can (m : MRq) : Prop where
  kind : 0 ≤ m.kind ∧ m.kind ≤ 255
  acc : Num m.acc
  dev : Num m.dev
  pin : m.pin.length ≤ 60000
  next : m.next.length ≤ 60000
  name : m.name.length ≤ 60000
  ls : m.ls.Can
  token : m.token.length = 32
  signed : m.signed.Can
  sig : m.sig.length = 64
  ones : ∀ p ∈ m.ones, p.Can
  many : m.ones.length ≤ 60000
  ver : Num m.ver
  items : ∀ p ∈ m.items, Num p.1 ∧ p.2.Can
  much : m.items.length ≤ 60000
structure MRp.Can (m : MRp) : Prop where
  err : 0 ≤ m.err ∧ m.err ≤ 255
  ls : m.ls.Can
  bu : m.bu.Can
  mail : ∀ p ∈ m.mail, p.Can
  much : m.mail.length ≤ 60000
structure MAc.Can (m : MAc) : Prop where
  id : Num m.id
  pin : m.pin.length ≤ 60000
  wrong : Num m.wrong
  till : Num m.till
  ls : m.ls.Can
  slots : ∀ p ∈ m.slots, p.Can
  many : m.slots.length ≤ 60000
  tokens : ∀ p ∈ m.tokens, p.length = 32
  much : m.tokens.length ≤ 60000
theorem rds_pk {m : MPk} (h : m.Can) : Rds pkM (pkB m) m :=
  (((rds_N h.id)).seq (rds_k h.key) (fun p q => (⟨p, q⟩ : MPk))).as (fun _ _ => rfl) rfl rfl
theorem cut_pk {m : MPk} (h : m.Can) : Cut pkM (pkB m) :=
  (((cut_n m.id _)).seq ((rds_N h.id)) (cut_k h.key) (fun _ _ _ h => kM_stay h) (fun p q => (⟨p, q⟩ : MPk))).as (fun _ _ => rfl) rfl
theorem rds_hd {m : MHd} (h : m.Can) : Rds hdM (hdB m) m :=
  ((((rds_k h.r)).seq (rds_N h.prev) Prod.mk).seq (rds_N h.n) (fun p q => (⟨p.1, p.2, q⟩ : MHd))).as (fun _ _ => rfl) rfl rfl
theorem cut_hd {m : MHd} (h : m.Can) : Cut hdM (hdB m) :=
  ((((cut_k h.r)).seq ((rds_k h.r)) (cut_n m.prev _) (fun _ _ _ h => nM_stay h) Prod.mk).seq (((rds_k h.r)).seq (rds_N h.prev) Prod.mk) (cut_n m.n _) (fun _ _ _ h => nM_stay h) (fun p q => (⟨p.1, p.2, q⟩ : MHd))).as (fun _ _ => rfl) rfl
theorem rds_ps {ms : List MPk} (hl : ms.length ≤ 60000) (h : ∀ p ∈ ms, p.Can) : Rds psM (alB pkB ms) ms := rds_al hl fun p hp => rds_pk (h p hp)
theorem cut_ps {ms : List MPk} (hl : ms.length ≤ 60000) (h : ∀ p ∈ ms, p.Can) : Cut psM (alB pkB ms) := cut_al hl (fun p hp => rds_pk (h p hp)) fun p hp => cut_pk (h p hp)
theorem rds_en {ms : List MPk} (hl : ms.length ≤ 60000) (h : ∀ p ∈ ms, p.Can) : Rds enM (alB pkB ms) ms := rds_al hl fun p hp => rds_pk (h p hp)
theorem cut_en {ms : List MPk} (hl : ms.length ≤ 60000) (h : ∀ p ∈ ms, p.Can) : Cut enM (alB pkB ms) := cut_al hl (fun p hp => rds_pk (h p hp)) fun p hp => cut_pk (h p hp)
theorem rds_ls {m : MLs} (h : m.Can) : Rds lsM (lsB m) m :=
  ((((((rds_N h.acc)).seq (rds_N h.ver) Prod.mk).seq (rds_k h.ident) Prod.mk).seq (rds_en h.many h.devs) Prod.mk).seq (rds_k h.sig) (fun p q => (⟨p.1.1.1, p.1.1.2, p.1.2, p.2, q⟩ : MLs))).as (fun _ _ => rfl) (lsB_al m) rfl
theorem cut_ls {m : MLs} (h : m.Can) : Cut lsM (lsB m) :=
  ((((((cut_n m.acc _)).seq ((rds_N h.acc)) (cut_n m.ver _) (fun _ _ _ h => nM_stay h) Prod.mk).seq (((rds_N h.acc)).seq (rds_N h.ver) Prod.mk) (cut_k h.ident) (fun _ _ _ h => kM_stay h) Prod.mk).seq ((((rds_N h.acc)).seq (rds_N h.ver) Prod.mk).seq (rds_k h.ident) Prod.mk) (cut_en h.many h.devs) (fun _ _ _ h => enM_stay h) Prod.mk).seq (((((rds_N h.acc)).seq (rds_N h.ver) Prod.mk).seq (rds_k h.ident) Prod.mk).seq (rds_en h.many h.devs) Prod.mk) (cut_k h.sig) (fun _ _ _ h => kM_stay h) (fun p q => (⟨p.1.1.1, p.1.1.2, p.1.2, p.2, q⟩ : MLs))).as (fun _ _ => rfl) (lsB_al m)
theorem rds_bu {m : MBu} (h : m.Can) : Rds buM (buB m) m :=
  ((((((((rds_N h.acc)).seq (rds_N h.dev) Prod.mk).seq (rds_k h.ident) Prod.mk).seq (rds_k h.key) Prod.mk).seq (rds_pk h.signed) Prod.mk).seq (rds_k h.sig) Prod.mk).seq (rds_ps h.many h.ones) (fun p q => (⟨p.1.1.1.1.1, p.1.1.1.1.2, p.1.1.1.2, p.1.1.2, p.1.2, p.2, q⟩ : MBu))).as (fun _ _ => rfl) (buB_al m) rfl
theorem cut_bu {m : MBu} (h : m.Can) : Cut buM (buB m) :=
  ((((((((cut_n m.acc _)).seq ((rds_N h.acc)) (cut_n m.dev _) (fun _ _ _ h => nM_stay h) Prod.mk).seq (((rds_N h.acc)).seq (rds_N h.dev) Prod.mk) (cut_k h.ident) (fun _ _ _ h => kM_stay h) Prod.mk).seq ((((rds_N h.acc)).seq (rds_N h.dev) Prod.mk).seq (rds_k h.ident) Prod.mk) (cut_k h.key) (fun _ _ _ h => kM_stay h) Prod.mk).seq (((((rds_N h.acc)).seq (rds_N h.dev) Prod.mk).seq (rds_k h.ident) Prod.mk).seq (rds_k h.key) Prod.mk) (cut_pk h.signed) (fun _ _ _ h => pkM_stay h) Prod.mk).seq ((((((rds_N h.acc)).seq (rds_N h.dev) Prod.mk).seq (rds_k h.ident) Prod.mk).seq (rds_k h.key) Prod.mk).seq (rds_pk h.signed) Prod.mk) (cut_k h.sig) (fun _ _ _ h => kM_stay h) Prod.mk).seq (((((((rds_N h.acc)).seq (rds_N h.dev) Prod.mk).seq (rds_k h.ident) Prod.mk).seq (rds_k h.key) Prod.mk).seq (rds_pk h.signed) Prod.mk).seq (rds_k h.sig) Prod.mk) (cut_ps h.many h.ones) (fun _ _ _ h => psM_stay h) (fun p q => (⟨p.1.1.1.1.1, p.1.1.1.1.2, p.1.1.1.2, p.1.1.2, p.1.2, p.2, q⟩ : MBu))).as (fun _ _ => rfl) (buB_al m)
theorem oneN_can {n : Int} (h : -1 ≤ n ∧ n ≤ 1099511627775) : oneN n = n + 1 := by unfold oneN; split <;> omega
theorem rds_1 {n : Int} (h : -1 ≤ n ∧ n ≤ 1099511627775) : Rds (fun b => nM b 1099511627776) (viB (oneN n)) (n + 1) := by rw [oneN_can h]; exact rds_n (by omega) (by omega) (by omega)
theorem cut_1 (n : Int) : Cut (fun b => nM b 1099511627776) (viB (oneN n)) := cut_n _ _
theorem rds_ev {m : MEv} (h : m.Can) : Rds evM (evB m) m :=
  (((((((((rds_N h.fr)).seq (rds_N h.dev) Prod.mk).seq (rds_tr m.first) Prod.mk).seq (rds_k h.eph) Prod.mk).seq (rds_N h.signed) Prod.mk).seq (rds_1 h.one) Prod.mk).seq (rds_hd h.head) Prod.mk).seq (rds_by h.body) (fun p q => (⟨p.1.1.1.1.1.1, p.1.1.1.1.1.2, p.1.1.1.1.2, p.1.1.1.2, p.1.1.2, p.1.2 - 1, p.2, q⟩ : MEv))).as (fun _ _ => rfl) rfl (by simp)
theorem cut_ev {m : MEv} (h : m.Can) : Cut evM (evB m) :=
  (((((((((cut_n m.fr _)).seq ((rds_N h.fr)) (cut_n m.dev _) (fun _ _ _ h => nM_stay h) Prod.mk).seq (((rds_N h.fr)).seq (rds_N h.dev) Prod.mk) (cut_tr m.first) (fun _ _ _ h => trM_stay h) Prod.mk).seq ((((rds_N h.fr)).seq (rds_N h.dev) Prod.mk).seq (rds_tr m.first) Prod.mk) (cut_k h.eph) (fun _ _ _ h => kM_stay h) Prod.mk).seq (((((rds_N h.fr)).seq (rds_N h.dev) Prod.mk).seq (rds_tr m.first) Prod.mk).seq (rds_k h.eph) Prod.mk) (cut_n m.signed _) (fun _ _ _ h => nM_stay h) Prod.mk).seq ((((((rds_N h.fr)).seq (rds_N h.dev) Prod.mk).seq (rds_tr m.first) Prod.mk).seq (rds_k h.eph) Prod.mk).seq (rds_N h.signed) Prod.mk) (cut_1 m.one) (fun _ _ _ h => nM_stay h) Prod.mk).seq (((((((rds_N h.fr)).seq (rds_N h.dev) Prod.mk).seq (rds_tr m.first) Prod.mk).seq (rds_k h.eph) Prod.mk).seq (rds_N h.signed) Prod.mk).seq (rds_1 h.one) Prod.mk) (cut_hd h.head) (fun _ _ _ h => hdM_stay h) Prod.mk).seq ((((((((rds_N h.fr)).seq (rds_N h.dev) Prod.mk).seq (rds_tr m.first) Prod.mk).seq (rds_k h.eph) Prod.mk).seq (rds_N h.signed) Prod.mk).seq (rds_1 h.one) Prod.mk).seq (rds_hd h.head) Prod.mk) (cut_by h.body) (fun _ _ _ h => byM_stay h) (fun p q => (⟨p.1.1.1.1.1.1, p.1.1.1.1.1.2, p.1.1.1.1.2, p.1.1.1.2, p.1.1.2, p.1.2 - 1, p.2, q⟩ : MEv))).as (fun _ _ => rfl) rfl
theorem rds_evs {ms : List MEv} (hl : ms.length ≤ 60000) (h : ∀ p ∈ ms, p.Can) : Rds evsM (alB evB ms) ms := rds_al hl fun p hp => rds_ev (h p hp)
theorem cut_evs {ms : List MEv} (hl : ms.length ≤ 60000) (h : ∀ p ∈ ms, p.Can) : Cut evsM (alB evB ms) := cut_al hl (fun p hp => rds_ev (h p hp)) fun p hp => cut_ev (h p hp)
theorem rds_it {m : (Int × MEv)} (h : Num m.1 ∧ m.2.Can) : Rds itM (itB m) m :=
  (((rds_N h.1)).seq (rds_ev h.2) (fun p q => ((p, q)))).as (fun _ _ => rfl) rfl rfl
theorem cut_it {m : (Int × MEv)} (h : Num m.1 ∧ m.2.Can) : Cut itM (itB m) :=
  (((cut_n m.1 _)).seq ((rds_N h.1)) (cut_ev h.2) (fun _ _ _ h => evM_stay h) (fun p q => ((p, q)))).as (fun _ _ => rfl) rfl
theorem rds_its {ms : List (Int × MEv)} (hl : ms.length ≤ 60000) (h : ∀ p ∈ ms, Num p.1 ∧ p.2.Can) : Rds itsM (alB itB ms) ms := rds_al hl fun p hp => rds_it (h p hp)
theorem cut_its {ms : List (Int × MEv)} (hl : ms.length ≤ 60000) (h : ∀ p ∈ ms, Num p.1 ∧ p.2.Can) : Cut itsM (alB itB ms) := cut_al hl (fun p hp => rds_it (h p hp)) fun p hp => cut_it (h p hp)
theorem rds_sl {m : MSlot} (h : m.Can) : Rds slM (slB m) m :=
  (((((((rds_N h.dev)).seq (rds_pk h.signed) Prod.mk).seq (rds_k h.sig) Prod.mk).seq (rds_ps h.many h.ones) Prod.mk).seq (rds_N h.last) Prod.mk).seq (rds_evs h.much h.mail) (fun p q => (⟨p.1.1.1.1, p.1.1.1.2, p.1.1.2, p.1.2, p.2, q⟩ : MSlot))).as (fun _ _ => rfl) (slB_al m) rfl
theorem cut_sl {m : MSlot} (h : m.Can) : Cut slM (slB m) :=
  (((((((cut_n m.dev _)).seq ((rds_N h.dev)) (cut_pk h.signed) (fun _ _ _ h => pkM_stay h) Prod.mk).seq (((rds_N h.dev)).seq (rds_pk h.signed) Prod.mk) (cut_k h.sig) (fun _ _ _ h => kM_stay h) Prod.mk).seq ((((rds_N h.dev)).seq (rds_pk h.signed) Prod.mk).seq (rds_k h.sig) Prod.mk) (cut_ps h.many h.ones) (fun _ _ _ h => psM_stay h) Prod.mk).seq (((((rds_N h.dev)).seq (rds_pk h.signed) Prod.mk).seq (rds_k h.sig) Prod.mk).seq (rds_ps h.many h.ones) Prod.mk) (cut_n m.last _) (fun _ _ _ h => nM_stay h) Prod.mk).seq ((((((rds_N h.dev)).seq (rds_pk h.signed) Prod.mk).seq (rds_k h.sig) Prod.mk).seq (rds_ps h.many h.ones) Prod.mk).seq (rds_N h.last) Prod.mk) (cut_evs h.much h.mail) (fun _ _ _ h => evsM_stay h) (fun p q => (⟨p.1.1.1.1, p.1.1.1.2, p.1.1.2, p.1.2, p.2, q⟩ : MSlot))).as (fun _ _ => rfl) (slB_al m)
theorem rds_sls {ms : List MSlot} (hl : ms.length ≤ 60000) (h : ∀ p ∈ ms, p.Can) : Rds slsM (alB slB ms) ms := rds_al hl fun p hp => rds_sl (h p hp)
theorem cut_sls {ms : List MSlot} (hl : ms.length ≤ 60000) (h : ∀ p ∈ ms, p.Can) : Cut slsM (alB slB ms) := cut_al hl (fun p hp => rds_sl (h p hp)) fun p hp => cut_sl (h p hp)
theorem rds_tk {ms : List (List (BitVec 8))} (hl : ms.length ≤ 60000) (h : ∀ p ∈ ms, p.length = 32) : Rds tkM (alB (fun k => k) ms) ms := rds_al hl fun p hp => rds_k (h p hp)
theorem cut_tk {ms : List (List (BitVec 8))} (hl : ms.length ≤ 60000) (h : ∀ p ∈ ms, p.length = 32) : Cut tkM (alB (fun k => k) ms) := cut_al hl (fun p hp => rds_k (h p hp)) fun p hp => cut_k (h p hp)
theorem rds_s {n : Int} (h : 0 ≤ n ∧ n ≤ 255) : Rds (fun b => nM b 255) (viB n) n := rds_n h.1 h.2 (by omega)
theorem rds_rq {m : MRq} (h : m.Can) : Rds rdRqA (rqB m) m :=
  ((((((((((((((rds_s h.kind)).seq (rds_N h.acc) Prod.mk).seq (rds_N h.dev) Prod.mk).seq (rds_by h.pin) Prod.mk).seq (rds_by h.next) Prod.mk).seq (rds_by h.name) Prod.mk).seq (rds_ls h.ls) Prod.mk).seq (rds_k h.token) Prod.mk).seq (rds_pk h.signed) Prod.mk).seq (rds_k h.sig) Prod.mk).seq (rds_ps h.many h.ones) Prod.mk).seq (rds_N h.ver) Prod.mk).seq (rds_its h.much h.items) (fun p q => (⟨p.1.1.1.1.1.1.1.1.1.1.1, p.1.1.1.1.1.1.1.1.1.1.2, p.1.1.1.1.1.1.1.1.1.2, p.1.1.1.1.1.1.1.1.2, p.1.1.1.1.1.1.1.2, p.1.1.1.1.1.1.2, p.1.1.1.1.1.2, p.1.1.1.1.2, p.1.1.1.2, p.1.1.2, p.1.2, p.2, q⟩ : MRq))).as (fun _ _ => rfl) (rqB_al m) rfl
theorem cut_rq {m : MRq} (h : m.Can) : Cut rdRqA (rqB m) :=
  ((((((((((((((cut_n m.kind _)).seq ((rds_s h.kind)) (cut_n m.acc _) (fun _ _ _ h => nM_stay h) Prod.mk).seq (((rds_s h.kind)).seq (rds_N h.acc) Prod.mk) (cut_n m.dev _) (fun _ _ _ h => nM_stay h) Prod.mk).seq ((((rds_s h.kind)).seq (rds_N h.acc) Prod.mk).seq (rds_N h.dev) Prod.mk) (cut_by h.pin) (fun _ _ _ h => byM_stay h) Prod.mk).seq (((((rds_s h.kind)).seq (rds_N h.acc) Prod.mk).seq (rds_N h.dev) Prod.mk).seq (rds_by h.pin) Prod.mk) (cut_by h.next) (fun _ _ _ h => byM_stay h) Prod.mk).seq ((((((rds_s h.kind)).seq (rds_N h.acc) Prod.mk).seq (rds_N h.dev) Prod.mk).seq (rds_by h.pin) Prod.mk).seq (rds_by h.next) Prod.mk) (cut_by h.name) (fun _ _ _ h => byM_stay h) Prod.mk).seq (((((((rds_s h.kind)).seq (rds_N h.acc) Prod.mk).seq (rds_N h.dev) Prod.mk).seq (rds_by h.pin) Prod.mk).seq (rds_by h.next) Prod.mk).seq (rds_by h.name) Prod.mk) (cut_ls h.ls) (fun _ _ _ h => lsM_stay h) Prod.mk).seq ((((((((rds_s h.kind)).seq (rds_N h.acc) Prod.mk).seq (rds_N h.dev) Prod.mk).seq (rds_by h.pin) Prod.mk).seq (rds_by h.next) Prod.mk).seq (rds_by h.name) Prod.mk).seq (rds_ls h.ls) Prod.mk) (cut_k h.token) (fun _ _ _ h => kM_stay h) Prod.mk).seq (((((((((rds_s h.kind)).seq (rds_N h.acc) Prod.mk).seq (rds_N h.dev) Prod.mk).seq (rds_by h.pin) Prod.mk).seq (rds_by h.next) Prod.mk).seq (rds_by h.name) Prod.mk).seq (rds_ls h.ls) Prod.mk).seq (rds_k h.token) Prod.mk) (cut_pk h.signed) (fun _ _ _ h => pkM_stay h) Prod.mk).seq ((((((((((rds_s h.kind)).seq (rds_N h.acc) Prod.mk).seq (rds_N h.dev) Prod.mk).seq (rds_by h.pin) Prod.mk).seq (rds_by h.next) Prod.mk).seq (rds_by h.name) Prod.mk).seq (rds_ls h.ls) Prod.mk).seq (rds_k h.token) Prod.mk).seq (rds_pk h.signed) Prod.mk) (cut_k h.sig) (fun _ _ _ h => kM_stay h) Prod.mk).seq (((((((((((rds_s h.kind)).seq (rds_N h.acc) Prod.mk).seq (rds_N h.dev) Prod.mk).seq (rds_by h.pin) Prod.mk).seq (rds_by h.next) Prod.mk).seq (rds_by h.name) Prod.mk).seq (rds_ls h.ls) Prod.mk).seq (rds_k h.token) Prod.mk).seq (rds_pk h.signed) Prod.mk).seq (rds_k h.sig) Prod.mk) (cut_ps h.many h.ones) (fun _ _ _ h => psM_stay h) Prod.mk).seq ((((((((((((rds_s h.kind)).seq (rds_N h.acc) Prod.mk).seq (rds_N h.dev) Prod.mk).seq (rds_by h.pin) Prod.mk).seq (rds_by h.next) Prod.mk).seq (rds_by h.name) Prod.mk).seq (rds_ls h.ls) Prod.mk).seq (rds_k h.token) Prod.mk).seq (rds_pk h.signed) Prod.mk).seq (rds_k h.sig) Prod.mk).seq (rds_ps h.many h.ones) Prod.mk) (cut_n m.ver _) (fun _ _ _ h => nM_stay h) Prod.mk).seq (((((((((((((rds_s h.kind)).seq (rds_N h.acc) Prod.mk).seq (rds_N h.dev) Prod.mk).seq (rds_by h.pin) Prod.mk).seq (rds_by h.next) Prod.mk).seq (rds_by h.name) Prod.mk).seq (rds_ls h.ls) Prod.mk).seq (rds_k h.token) Prod.mk).seq (rds_pk h.signed) Prod.mk).seq (rds_k h.sig) Prod.mk).seq (rds_ps h.many h.ones) Prod.mk).seq (rds_N h.ver) Prod.mk) (cut_its h.much h.items) (fun _ _ _ h => itsM_stay h) (fun p q => (⟨p.1.1.1.1.1.1.1.1.1.1.1, p.1.1.1.1.1.1.1.1.1.1.2, p.1.1.1.1.1.1.1.1.1.2, p.1.1.1.1.1.1.1.1.2, p.1.1.1.1.1.1.1.2, p.1.1.1.1.1.1.2, p.1.1.1.1.1.2, p.1.1.1.1.2, p.1.1.1.2, p.1.1.2, p.1.2, p.2, q⟩ : MRq))).as (fun _ _ => rfl) (rqB_al m)
theorem rds_rp {m : MRp} (h : m.Can) : Rds rdRpA (rpB m) m :=
  (((((rds_s h.err)).seq (rds_ls h.ls) Prod.mk).seq (rds_bu h.bu) Prod.mk).seq (rds_evs h.much h.mail) (fun p q => (⟨p.1.1, p.1.2, p.2, q⟩ : MRp))).as (fun _ _ => rfl) (rpB_al m) rfl
theorem cut_rp {m : MRp} (h : m.Can) : Cut rdRpA (rpB m) :=
  (((((cut_n m.err _)).seq ((rds_s h.err)) (cut_ls h.ls) (fun _ _ _ h => lsM_stay h) Prod.mk).seq (((rds_s h.err)).seq (rds_ls h.ls) Prod.mk) (cut_bu h.bu) (fun _ _ _ h => buM_stay h) Prod.mk).seq ((((rds_s h.err)).seq (rds_ls h.ls) Prod.mk).seq (rds_bu h.bu) Prod.mk) (cut_evs h.much h.mail) (fun _ _ _ h => evsM_stay h) (fun p q => (⟨p.1.1, p.1.2, p.2, q⟩ : MRp))).as (fun _ _ => rfl) (rpB_al m)
theorem rds_ac {m : MAc} (h : m.Can) : Rds rdAcA (acB m) m :=
  ((((((((rds_N h.id)).seq (rds_by h.pin) Prod.mk).seq (rds_N h.wrong) Prod.mk).seq (rds_N h.till) Prod.mk).seq (rds_ls h.ls) Prod.mk).seq (rds_sls h.many h.slots) Prod.mk).seq (rds_tk h.much h.tokens) (fun p q => (⟨p.1.1.1.1.1, p.1.1.1.1.2, p.1.1.1.2, p.1.1.2, p.1.2, p.2, q⟩ : MAc))).as (fun _ _ => rfl) (acB_al m) rfl
theorem cut_ac {m : MAc} (h : m.Can) : Cut rdAcA (acB m) :=
  ((((((((cut_n m.id _)).seq ((rds_N h.id)) (cut_by h.pin) (fun _ _ _ h => byM_stay h) Prod.mk).seq (((rds_N h.id)).seq (rds_by h.pin) Prod.mk) (cut_n m.wrong _) (fun _ _ _ h => nM_stay h) Prod.mk).seq ((((rds_N h.id)).seq (rds_by h.pin) Prod.mk).seq (rds_N h.wrong) Prod.mk) (cut_n m.till _) (fun _ _ _ h => nM_stay h) Prod.mk).seq (((((rds_N h.id)).seq (rds_by h.pin) Prod.mk).seq (rds_N h.wrong) Prod.mk).seq (rds_N h.till) Prod.mk) (cut_ls h.ls) (fun _ _ _ h => lsM_stay h) Prod.mk).seq ((((((rds_N h.id)).seq (rds_by h.pin) Prod.mk).seq (rds_N h.wrong) Prod.mk).seq (rds_N h.till) Prod.mk).seq (rds_ls h.ls) Prod.mk) (cut_sls h.many h.slots) (fun _ _ _ h => slsM_stay h) Prod.mk).seq (((((((rds_N h.id)).seq (rds_by h.pin) Prod.mk).seq (rds_N h.wrong) Prod.mk).seq (rds_N h.till) Prod.mk).seq (rds_ls h.ls) Prod.mk).seq (rds_sls h.many h.slots) Prod.mk) (cut_tk h.much h.tokens) (fun _ _ _ h => tkM_stay h) (fun p q => (⟨p.1.1.1.1.1, p.1.1.1.1.2, p.1.1.1.2, p.1.1.2, p.1.2, p.2, q⟩ : MAc))).as (fun _ _ => rfl) (acB_al m)
end Go.Proofs.Ytgioojahadlmhaa
namespace Go.Proofs.Ytgioojahadlmhaa
open Go.RowKit
set_option maxRecDepth 20000
attribute [local irreducible] wpList

theorem chT_le : ∀ k, chT.getD k 0 ≤ 1099511627776 := by
  intro k
  match k with
  | 0 => decide
  | 1 => decide
  | 2 => decide
  | 3 => decide
  | 4 => decide
  | 5 => decide
  | k + 6 => simp [chT]
theorem chN_le (c : List (BitVec 8)) {i : Nat} (hi : i ≤ 1099511627776) : chN c i ≤ 1099511627776 := by
  unfold chN
  split
  · exact hi
  · split
    · exact chT_le _
    · omega
theorem chN_num (c : List (BitVec 8)) {i : Nat} (hi : i ≤ 1099511627776) : Num (chN c i : Int) := ⟨by omega, by have := chN_le c hi; omega⟩
theorem chE_can (c : List (BitVec 8)) {k : Nat} (hk : k ≤ 100000) (hc : c.length ≤ 60000) : (chE c k).Can := by
  refine ⟨chN_num c (by omega), chN_num c (by omega), chK_len _ _, chN_num c (by omega), ?_, ⟨chK_len _ _, chN_num c (by omega), chN_num c (by omega)⟩, ?_⟩
  · show -1 ≤ ((min (chN c (k + 5)) 1099511627775 : Nat) : Int) - 1 ∧ ((min (chN c (k + 5)) 1099511627775 : Nat) : Int) - 1 ≤ 1099511627775
    omega
  · show (c.take _).length ≤ 60000
    rw [List.length_take]
    omega
theorem MEv.Can.ok {m : MEv} (h : m.Can) : m.Ok := ⟨h.eph, h.head.r, by have := h.body; omega⟩
theorem run_eqBoolT {w : World} {ρ : Operand → Value} {o : Oper} {x y : Operand} {t t' : TypeId} {a b c : Bool} (ho : o.op = .binOp .eql t x y t') (ht : Try.prog.underlying t = some .bool) (hx : ρ x = .bool a) (hy : ρ y = .bool b) (h : (a == b) = c) : (execOp ρ o).run Try.prog w = .ok (.value (.bool c)) w := by
  rw [← h]
  exact run_eqBool ho ht hx hy
/-- Bytes say which thing it is. -/
theorem evB_inj {m m' : MEv} (h : m.Can) (h' : m'.Can) : evB m = evB m' ↔ m = m' := by
  constructor
  · intro e
    have h1 := rds_ev h [] []
    have h2 := rds_ev h' [] []
    rw [e] at h1
    rw [h1] at h2
    exact (Prod.mk.inj h2).2
  · intro e
    rw [e]
theorem evR_setEphJ {x0 x1 x2 x4 x5 x7 : Value} {x6 : List Value} {l : List (BitVec 8)} (h : l.length = 32) {j : Nat} (hj : j < 32) (v : BitVec 8) : (evR x0 x1 x2 (l.map b8) x4 x5 x6 x7).set (0 + 3 + j) (b8 v) = evR x0 x1 x2 ((l.set j v).map b8) x4 x5 x6 x7 := by
  have e : 0 + 3 + j = j + 3 := by omega
  unfold evR
  rw [e]
  show x0 :: x1 :: x2 :: (l.map b8 ++ _).set j (b8 v) = _
  rw [List.set_append_left _ _ (by rw [List.length_map]; omega), List.map_set]
theorem evR_setN {x0 x1 x2 x4 x5 x7 : Value} {x3 l : List Value} {p n : Value} (h3 : x3.length = 32) (h : l.length = 32) (v : Value) : (evR x0 x1 x2 x3 x4 x5 (hdR l p n) x7).set (0 + 37 + 33) v = evR x0 x1 x2 x3 x4 x5 (hdR l p v) x7 := by
  have e : ∀ z : Value, evR x0 x1 x2 x3 x4 x5 (hdR l p z) x7 = (x0 :: x1 :: x2 :: (x3 ++ (x4 :: x5 :: (l ++ [p])))) ++ z :: [x7] := fun z => by unfold evR hdR; simp
  have hl : (x0 :: x1 :: x2 :: (x3 ++ (x4 :: x5 :: (l ++ [p])))).length = 70 := by simp [h3, h]
  rw [e, e, List.set_append_right _ _ (by rw [hl]; omega), hl]
  rfl
theorem evR_atN {x0 x1 x2 x4 x5 x7 : Value} {x3 l : List Value} {p n : Value} (h3 : x3.length = 32) (h : l.length = 32) : (evR x0 x1 x2 x3 x4 x5 (hdR l p n) x7)[0 + 37 + 33]? = some n := by
  have e : evR x0 x1 x2 x3 x4 x5 (hdR l p n) x7 = (x0 :: x1 :: x2 :: (x3 ++ (x4 :: x5 :: (l ++ [p])))) ++ n :: [x7] := by unfold evR hdR; simp
  have hl : (x0 :: x1 :: x2 :: (x3 ++ (x4 :: x5 :: (l ++ [p])))).length = 70 := by simp [h3, h]
  rw [e, List.getElem?_append_right (by rw [hl]; omega), hl]
  rfl
theorem evR_atEphJ {x0 x1 x2 x4 x5 x7 : Value} {x6 : List Value} {l : List (BitVec 8)} (h : l.length = 32) {j : Nat} (hj : j < 32) : (evR x0 x1 x2 (l.map b8) x4 x5 x6 x7)[0 + 3 + j]? = some (b8 (l.getD j 0)) := by
  have e : 0 + 3 + j = j + 3 := by omega
  unfold evR
  rw [e]
  show (l.map b8 ++ _)[j]? = _
  rw [List.getElem?_append_left (by rw [List.length_map]; omega)]
  exact get_map b8 0 (by omega)
theorem enters_wf10 : Enters 5 := enters_of Try.func5 (by kernel_rfl) rfl
set_option maxHeartbeats 16000000 in
theorem wireFields_any (v0 : Value) (c : List (BitVec 8)) (k : Nat) (w : World) (hc : Sl v0 c w) (_ : c.length ≤ 140737488351232) (hk : k < 256) : Calls Try.prog 5 #[v0, .int .u8 (k : Int)] w fun e w' => e = .returned (.bool true) ∧ Below w.heap.size w w' := by
  obtain ⟨ao, cc, rfl, -, -⟩ := id hc
  have E := Lib.hid (Ev.start (w := w) (F := fun _ => True) fun _ _ => trivial)
  have HC := Lib.hid hc
  clear hc
  generalize hcl : c.length = n at *
  have HCL := Lib.hid hcl
  clear hcl
  by_cases hlong : 200 < n
  · go_enter Try.func5, Try.ntmps5
    go_upto_region 0 with fail; refine wp_region_lit ?_
    refine wpList_val (run_asg (v := .bool false) rfl rfl) rfl ?_; (try simp only [Act.put, List.setIfInBounds_toArray, List.set_cons_zero, List.set_cons_succ])
    refine wpList_end ?_
    go_upto_region 1 with fail; refine wp_region_lit ?_
    refine wpList_val (run_mv (v := .slice ao n cc) rfl rfl) rfl ?_; (try simp only [Act.put, List.setIfInBounds_toArray, List.set_cons_zero, List.set_cons_succ])
    refine wpList_val (run_len rfl Try.underlying22 rfl) rfl ?_; (try simp only [Act.put, List.setIfInBounds_toArray, List.set_cons_zero, List.set_cons_succ])
    refine wpList_val (run_gtrb (c := true) rfl rfl rfl (decide_eq_true (by omega))) rfl ?_; (try simp only [Act.put, List.setIfInBounds_toArray, List.set_cons_zero, List.set_cons_succ])
    refine wpList_end ?_
    go_upto_region 2 with fail; refine wp_region_lit ?_
    refine wpList_enter (run_call0 enters_kn10 rfl rfl) rfl (known10_any _) (fun a1 hb => ?_); (try simp only [Act.put, List.setIfInBounds_toArray, List.set_cons_zero, List.set_cons_succ])
    refine wpList_val (run_asg (v := .bool true) rfl rfl) rfl ?_; (try simp only [Act.put, List.setIfInBounds_toArray, List.set_cons_zero, List.set_cons_succ])
    refine wpList_end ?_
    go_wp2_with fail
    go_ret
    exact ⟨rfl, hb⟩
  · go_enter Try.func5, Try.ntmps5
    go_upto_region 0 with fail; refine wp_region_lit ?_
    refine wpList_val (run_asg (v := .bool false) rfl rfl) rfl ?_; (try simp only [Act.put, List.setIfInBounds_toArray, List.set_cons_zero, List.set_cons_succ])
    refine wpList_end ?_
    go_upto_region 1 with fail; refine wp_region_lit ?_
    refine wpList_val (run_mv (v := .slice ao n cc) rfl rfl) rfl ?_; (try simp only [Act.put, List.setIfInBounds_toArray, List.set_cons_zero, List.set_cons_succ])
    refine wpList_val (run_len rfl Try.underlying22 rfl) rfl ?_; (try simp only [Act.put, List.setIfInBounds_toArray, List.set_cons_zero, List.set_cons_succ])
    refine wpList_val (run_gtrb (c := false) rfl rfl rfl (decide_eq_false (by omega))) rfl ?_; (try simp only [Act.put, List.setIfInBounds_toArray, List.set_cons_zero, List.set_cons_succ])
    refine wpList_end ?_
    have HEV : Hid (Calls Try.prog 18 #[.slice ao n cc, .int .i64 0] w fun r w' => ∃ v', r = .returned v' ∧ ((∃ X : List Value, v' = .agg X.toArray ∧ X.length = 72 ∧ One X ∧ Fro 0 (evAt (chE c 0) X) w') ∧ Below w.heap.size w w')) := Lib.hid (by have h := HCL.out; subst h; exact chE_any ao c cc 0 w HC.out (by omega))
    have hcan := chE_can c (k := 0) (by omega) (by rw [HCL.out]; omega)
    have hb2 : (chE c 0).body.length ≤ 200 := by show (c.take _).length ≤ 200; have := HCL.out; rw [List.length_take]; omega
    generalize chE c 0 = e at *
    have hok := hcan.ok
    clear HC HCL
    go_upto_region 3 with fail; refine wp_region_lit ?_
    refine wpList_val (run_mv (v := .slice ao n cc) rfl rfl) rfl ?_; (try simp only [Act.put, List.setIfInBounds_toArray, List.set_cons_zero, List.set_cons_succ])
    refine wpList_callR (run_call2 enters_cv10 rfl rfl rfl rfl) rfl HEV.out (fun v1 a1 hR => ?_); (try simp only [Act.put, List.setIfInBounds_toArray, List.set_cons_zero, List.set_cons_succ])
    obtain ⟨⟨X, rfl, lX, oX, fX⟩, hb⟩ := hR
    have HW := Lib.hid hb
    replace E := Lib.hid (Ev.start (w := a1) (F := fun _ => True) fun _ _ => trivial)
    clear hb HEV
    obtain ⟨ab, cb, rfl, fb⟩ := evAt_fix hok fX
    rw [evC_row, hdC_row] at fX lX oX ⊢
    have HF := Lib.hid fX
    have HB := Lib.hid fb
    clear fX fb
    have k1 := hcan.eph
    have k2 := hcan.head.r
    refine wpList_val (run_alc (vs := evR ((.int .i64 0)) ((.int .i64 0)) ((.bool false)) (z8 32) ((.int .i64 0)) ((.int .i64 0)) (hdR (z8 32) ((.int .i64 0)) ((.int .i64 0))) ((.slice none 0 0))) rfl (by kernel_rfl)) rfl ?_; (try simp only [Act.put, List.setIfInBounds_toArray, List.set_cons_zero, List.set_cons_succ])
    replace E := Lib.hid (E.out.new (evR ((.int .i64 0)) ((.int .i64 0)) ((.bool false)) (z8 32) ((.int .i64 0)) ((.int .i64 0)) (hdR (z8 32) ((.int .i64 0)) ((.int .i64 0))) ((.slice none 0 0))) 64)
    generalize hw0 : a1.alloc (.cells (evR ((.int .i64 0)) ((.int .i64 0)) ((.bool false)) (z8 32) ((.int .i64 0)) ((.int .i64 0)) (hdR (z8 32) ((.int .i64 0)) ((.int .i64 0))) ((.slice none 0 0))).toArray 64) = a21 at E ⊢
    clear hw0
    obtain ⟨g22, hg0⟩ : ∃ k, k = a1.heap.size := ⟨_, rfl⟩
    rw [← hg0] at E ⊢
    clear hg0
    refine wpList_skip (run_stM (vs := evR (.int .i64 e.fr) (.int .i64 e.dev) (.bool e.first) (e.eph.map b8) (.int .i64 e.signed) (.int .i64 e.one) (hdR (e.head.r.map b8) (.int .i64 e.head.prev) (.int .i64 e.head.n)) (.slice ab e.body.length cb)) rfl (szR (evR_len (by rw [List.length_map, k1]) (hdR_len (by rw [List.length_map, k2]))) (by kernel_rfl)) rfl rfl (One.all (evR_one rfl rfl rfl (One.b8 _) rfl rfl (hdR_one (One.b8 _) rfl rfl) rfl)) ((E.out.get (i := 0) rfl).thereM (by have q1 : (evR (.int .i64 e.fr) (.int .i64 e.dev) (.bool e.first) (e.eph.map b8) (.int .i64 e.signed) (.int .i64 e.one) (hdR (e.head.r.map b8) (.int .i64 e.head.prev) (.int .i64 e.head.n)) (.slice ab e.body.length cb)).length = 72 := (evR_len (by rw [List.length_map, k1]) (hdR_len (by rw [List.length_map, k2]))); have q2 : (evR ((.int .i64 0)) ((.int .i64 0)) ((.bool false)) (z8 32) ((.int .i64 0)) ((.int .i64 0)) (hdR (z8 32) ((.int .i64 0)) ((.int .i64 0))) ((.slice none 0 0))).length = 72 := (evR_len (z8_lenR 32) (hdR_len (z8_lenR 32))); omega))) rfl rfl ?_
    replace E := Lib.hid (E.out.put 0 rfl (m := evR (.int .i64 e.fr) (.int .i64 e.dev) (.bool e.first) (e.eph.map b8) (.int .i64 e.signed) (.int .i64 e.one) (hdR (e.head.r.map b8) (.int .i64 e.head.prev) (.int .i64 e.head.n)) (.slice ab e.body.length cb)) ((show (evR (.int .i64 e.fr) (.int .i64 e.dev) (.bool e.first) (e.eph.map b8) (.int .i64 e.signed) (.int .i64 e.one) (hdR (e.head.r.map b8) (.int .i64 e.head.prev) (.int .i64 e.head.n)) (.slice ab e.body.length cb)).length = 72 from (evR_len (by rw [List.length_map, k1]) (hdR_len (by rw [List.length_map, k2])))).trans (show (evR ((.int .i64 0)) ((.int .i64 0)) ((.bool false)) (z8 32) ((.int .i64 0)) ((.int .i64 0)) (hdR (z8 32) ((.int .i64 0)) ((.int .i64 0))) ((.slice none 0 0))).length = 72 from (evR_len (z8_lenR 32) (hdR_len (z8_lenR 32)))).symm))
    generalize a21.setCells g22 0 (evR (.int .i64 e.fr) (.int .i64 e.dev) (.bool e.first) (e.eph.map b8) (.int .i64 e.signed) (.int .i64 e.one) (hdR (e.head.r.map b8) (.int .i64 e.head.prev) (.int .i64 e.head.n)) (.slice ab e.body.length cb)) = a23 at *
    replace E := Lib.hid (show Ev _ [(g22, evR (.int .i64 e.fr) (.int .i64 e.dev) (.bool e.first) (e.eph.map b8) (.int .i64 e.signed) (.int .i64 e.one) (hdR (e.head.r.map b8) (.int .i64 e.head.prev) (.int .i64 e.head.n)) (.slice ab e.body.length cb))] _ _ _ a23 from E.out)
    refine wpList_end ?_
    go_upto_region 4 with fail; refine wp_region_lit ?_
    refine wpList_val (run_ldM (vs := evR (.int .i64 e.fr) (.int .i64 e.dev) (.bool e.first) (e.eph.map b8) (.int .i64 e.signed) (.int .i64 e.one) (hdR (e.head.r.map b8) (.int .i64 e.head.prev) (.int .i64 e.head.n)) (.slice ab e.body.length cb)) rfl Try.underlying64 rfl (szR (evR_len (by rw [List.length_map, k1]) (hdR_len (by rw [List.length_map, k2]))) (by kernel_rfl)) rfl (E.out.get (i := 0) rfl).range) rfl ?_; (try simp only [Act.put, List.setIfInBounds_toArray, List.set_cons_zero, List.set_cons_succ])
    refine wpList_val (run_alc (vs := evR ((.int .i64 0)) ((.int .i64 0)) ((.bool false)) (z8 32) ((.int .i64 0)) ((.int .i64 0)) (hdR (z8 32) ((.int .i64 0)) ((.int .i64 0))) ((.slice none 0 0))) rfl (by kernel_rfl)) rfl ?_; (try simp only [Act.put, List.setIfInBounds_toArray, List.set_cons_zero, List.set_cons_succ])
    replace E := Lib.hid (E.out.new (evR ((.int .i64 0)) ((.int .i64 0)) ((.bool false)) (z8 32) ((.int .i64 0)) ((.int .i64 0)) (hdR (z8 32) ((.int .i64 0)) ((.int .i64 0))) ((.slice none 0 0))) 64)
    generalize a23.alloc (.cells (evR ((.int .i64 0)) ((.int .i64 0)) ((.bool false)) (z8 32) ((.int .i64 0)) ((.int .i64 0)) (hdR (z8 32) ((.int .i64 0)) ((.int .i64 0))) ((.slice none 0 0))).toArray 64) = a24 at *
    generalize a23.heap.size = g25 at *
    refine wpList_skip (run_stM (vs := evR (.int .i64 e.fr) (.int .i64 e.dev) (.bool e.first) (e.eph.map b8) (.int .i64 e.signed) (.int .i64 e.one) (hdR (e.head.r.map b8) (.int .i64 e.head.prev) (.int .i64 e.head.n)) (.slice ab e.body.length cb)) rfl (szR (evR_len (by rw [List.length_map, k1]) (hdR_len (by rw [List.length_map, k2]))) (by kernel_rfl)) rfl rfl (One.all (evR_one rfl rfl rfl (One.b8 _) rfl rfl (hdR_one (One.b8 _) rfl rfl) rfl)) ((E.out.get (i := 0) rfl).thereM (by have q1 : (evR (.int .i64 e.fr) (.int .i64 e.dev) (.bool e.first) (e.eph.map b8) (.int .i64 e.signed) (.int .i64 e.one) (hdR (e.head.r.map b8) (.int .i64 e.head.prev) (.int .i64 e.head.n)) (.slice ab e.body.length cb)).length = 72 := (evR_len (by rw [List.length_map, k1]) (hdR_len (by rw [List.length_map, k2]))); have q2 : (evR ((.int .i64 0)) ((.int .i64 0)) ((.bool false)) (z8 32) ((.int .i64 0)) ((.int .i64 0)) (hdR (z8 32) ((.int .i64 0)) ((.int .i64 0))) ((.slice none 0 0))).length = 72 := (evR_len (z8_lenR 32) (hdR_len (z8_lenR 32))); omega))) rfl rfl ?_
    replace E := Lib.hid (E.out.put 0 rfl (m := evR (.int .i64 e.fr) (.int .i64 e.dev) (.bool e.first) (e.eph.map b8) (.int .i64 e.signed) (.int .i64 e.one) (hdR (e.head.r.map b8) (.int .i64 e.head.prev) (.int .i64 e.head.n)) (.slice ab e.body.length cb)) ((show (evR (.int .i64 e.fr) (.int .i64 e.dev) (.bool e.first) (e.eph.map b8) (.int .i64 e.signed) (.int .i64 e.one) (hdR (e.head.r.map b8) (.int .i64 e.head.prev) (.int .i64 e.head.n)) (.slice ab e.body.length cb)).length = 72 from (evR_len (by rw [List.length_map, k1]) (hdR_len (by rw [List.length_map, k2])))).trans (show (evR ((.int .i64 0)) ((.int .i64 0)) ((.bool false)) (z8 32) ((.int .i64 0)) ((.int .i64 0)) (hdR (z8 32) ((.int .i64 0)) ((.int .i64 0))) ((.slice none 0 0))).length = 72 from (evR_len (z8_lenR 32) (hdR_len (z8_lenR 32)))).symm))
    generalize a24.setCells g25 0 (evR (.int .i64 e.fr) (.int .i64 e.dev) (.bool e.first) (e.eph.map b8) (.int .i64 e.signed) (.int .i64 e.one) (hdR (e.head.r.map b8) (.int .i64 e.head.prev) (.int .i64 e.head.n)) (.slice ab e.body.length cb)) = a26 at *
    replace E := Lib.hid (show Ev _ [(g25, evR (.int .i64 e.fr) (.int .i64 e.dev) (.bool e.first) (e.eph.map b8) (.int .i64 e.signed) (.int .i64 e.one) (hdR (e.head.r.map b8) (.int .i64 e.head.prev) (.int .i64 e.head.n)) (.slice ab e.body.length cb)), (g22, evR (.int .i64 e.fr) (.int .i64 e.dev) (.bool e.first) (e.eph.map b8) (.int .i64 e.signed) (.int .i64 e.one) (hdR (e.head.r.map b8) (.int .i64 e.head.prev) (.int .i64 e.head.n)) (.slice ab e.body.length cb))] _ _ _ a26 from E.out)
    refine wpList_end ?_
    go_upto_region 5 with fail; refine wp_region_lit ?_
    refine wpList_val (run_mv (v := .int .u8 (k : Int)) rfl rfl) rfl ?_; (try simp only [Act.put, List.setIfInBounds_toArray, List.set_cons_zero, List.set_cons_succ])
    refine wpList_val (run_rem8k (a := k) (b := 6) rfl rfl rfl (by omega)) rfl ?_; (try simp only [Act.put, List.setIfInBounds_toArray, List.set_cons_zero, List.set_cons_succ])
    refine wpList_end ?_
    have hk6 : k % 6 < 6 := Nat.mod_lt _ (by omega)
    generalize hkk : k % 6 = q at *
    go_upto_block 0 with fail
    go_cut [] (fun u => ∃ (m : MEv) (Y : List Value), m.Can ∧ Y.length = 72 ∧ One Y ∧ Fro 0 (evAt m Y) u ∧ Ev a1 [(g25, Y), (g22, evR (.int .i64 e.fr) (.int .i64 e.dev) (.bool e.first) (e.eph.map b8) (.int .i64 e.signed) (.int .i64 e.one) (hdR (e.head.r.map b8) (.int .i64 e.head.prev) (.int .i64 e.head.n)) (.slice ab e.body.length cb))] [] (fun _ => True) (fun _ => True) u)
    case first =>
      by_cases hj0 : q = 0
      · have HJ := Lib.hid hj0
        clear hj0
        go_upto_region 10 with fail; refine wp_region_lit ?_
        refine wpList_val (run_eqlb (a := (q : Int)) (b := 0) (c := true) rfl rfl rfl (by rw [HJ.out]; rfl)) rfl ?_; (try simp only [Act.put, List.setIfInBounds_toArray, List.set_cons_zero, List.set_cons_succ])
        refine wpList_val (run_asg (v := .bool true) rfl rfl) rfl ?_; (try simp only [Act.put, List.setIfInBounds_toArray, List.set_cons_zero, List.set_cons_succ])
        refine wpList_end ?_
        go_upto_region 11 with fail; refine wp_region_lit ?_
        refine wpList_val (run_fad (s := 0) (k := 0) rfl Try.underlying64 rfl (by kernel_rfl) rfl rfl) rfl ?_; (try simp only [Act.put, List.setIfInBounds_toArray, List.set_cons_zero, List.set_cons_succ])
        refine wpList_val (run_ldc rfl Try.underlying3 rfl rfl ((E.out.get (i := 0) rfl).c 0 _ (evR_From ))) rfl ?_; (try simp only [Act.put, List.setIfInBounds_toArray, List.set_cons_zero, List.set_cons_succ])
        refine wpList_val (run_add rfl rfl rfl (by have := hcan.fr.1; omega) (by have := hcan.fr.2; omega)) rfl ?_; (try simp only [Act.put, List.setIfInBounds_toArray, List.set_cons_zero, List.set_cons_succ])
        refine wpList_val (run_rem rfl rfl rfl (by have := hcan.fr.1; omega) (by omega)) rfl ?_; (try simp only [Act.put, List.setIfInBounds_toArray, List.set_cons_zero, List.set_cons_succ])
        refine wpList_val (run_fad (s := 0) (k := 0) rfl Try.underlying64 rfl (by kernel_rfl) rfl rfl) rfl ?_; (try simp only [Act.put, List.setIfInBounds_toArray, List.set_cons_zero, List.set_cons_succ])
        refine wpList_skip (run_stc (v := .int .i64 ((e.fr + 1) % 1000)) rfl (by kernel_rfl) rfl rfl rfl rfl ((E.out.get (i := 0) rfl).c 0 _ (evR_From )) ((E.out.get (i := 0) rfl).f _)) rfl rfl ?_
        replace E := Lib.hid (E.out.set 0 rfl (j := 0) (by have q2 : (evR (.int .i64 e.fr) (.int .i64 e.dev) (.bool e.first) (e.eph.map b8) (.int .i64 e.signed) (.int .i64 e.one) (hdR (e.head.r.map b8) (.int .i64 e.head.prev) (.int .i64 e.head.n)) (.slice ab e.body.length cb)).length = 72 := (evR_len (by rw [List.length_map, k1]) (hdR_len (by rw [List.length_map, k2]))); omega) (.int .i64 ((e.fr + 1) % 1000)))
        rw [show (evR (.int .i64 e.fr) (.int .i64 e.dev) (.bool e.first) (e.eph.map b8) (.int .i64 e.signed) (.int .i64 e.one) (hdR (e.head.r.map b8) (.int .i64 e.head.prev) (.int .i64 e.head.n)) (.slice ab e.body.length cb)).set 0 (.int .i64 ((e.fr + 1) % 1000)) = evR (.int .i64 ((e.fr + 1) % 1000)) (.int .i64 e.dev) (.bool e.first) (e.eph.map b8) (.int .i64 e.signed) (.int .i64 e.one) (hdR (e.head.r.map b8) (.int .i64 e.head.prev) (.int .i64 e.head.n)) (.slice ab e.body.length cb) from (evR_setFrom  _)] at E
        generalize a26.setCell ⟨g25, 0, none⟩ (.int .i64 ((e.fr + 1) % 1000)) = a27 at *
        replace E := Lib.hid (show Ev _ [(g25, evR (.int .i64 ((e.fr + 1) % 1000)) (.int .i64 e.dev) (.bool e.first) (e.eph.map b8) (.int .i64 e.signed) (.int .i64 e.one) (hdR (e.head.r.map b8) (.int .i64 e.head.prev) (.int .i64 e.head.n)) (.slice ab e.body.length cb)), (g22, evR (.int .i64 e.fr) (.int .i64 e.dev) (.bool e.first) (e.eph.map b8) (.int .i64 e.signed) (.int .i64 e.one) (hdR (e.head.r.map b8) (.int .i64 e.head.prev) (.int .i64 e.head.n)) (.slice ab e.body.length cb))] _ _ _ a27 from E.out)
        refine wpList_end ?_
        go_wp2_with fail
        go_meet
        exact ⟨{ e with fr := (e.fr + 1) % 1000 }, _, ⟨⟨by show 0 ≤ (e.fr + 1) % 1000; omega, by show (e.fr + 1) % 1000 ≤ _; omega⟩, hcan.dev, hcan.eph, hcan.signed, hcan.one, hcan.head, hcan.body⟩, (evR_len (by rw [List.length_map, k1]) (hdR_len (by rw [List.length_map, k2]))), (evR_one rfl rfl rfl (One.b8 _) rfl rfl (hdR_one (One.b8 _) rfl rfl) rfl), fun V hV => ⟨ab, cb, by rw [evC_row, hdC_row], (HB.out.below E.out.bl) V hV⟩, E.out.knowH fun _ _ => trivial⟩
      · skip
        by_cases hj1 : q = 1
        · have HJ := Lib.hid hj1
          clear hj1
          go_upto_region 10 with fail; refine wp_region_lit ?_
          refine wpList_val (run_eqlb (a := (q : Int)) (b := 0) (c := false) rfl rfl rfl (beq_eq_false_iff_ne.2 (by omega))) rfl ?_; (try simp only [Act.put, List.setIfInBounds_toArray, List.set_cons_zero, List.set_cons_succ])
          refine wpList_val (run_asg (v := .bool false) rfl rfl) rfl ?_; (try simp only [Act.put, List.setIfInBounds_toArray, List.set_cons_zero, List.set_cons_succ])
          refine wpList_end ?_
          go_upto_region 12 with fail; refine wp_region_lit ?_
          refine wpList_val (run_eqlb (a := (q : Int)) (b := 1) (c := true) rfl rfl rfl (by rw [HJ.out]; rfl)) rfl ?_; (try simp only [Act.put, List.setIfInBounds_toArray, List.set_cons_zero, List.set_cons_succ])
          refine wpList_val (run_asg (v := .bool true) rfl rfl) rfl ?_; (try simp only [Act.put, List.setIfInBounds_toArray, List.set_cons_zero, List.set_cons_succ])
          refine wpList_end ?_
          go_upto_region 13 with fail; refine wp_region_lit ?_
          refine wpList_val (run_fad (s := 0) (k := 2) rfl Try.underlying64 rfl (by kernel_rfl) rfl rfl) rfl ?_; (try simp only [Act.put, List.setIfInBounds_toArray, List.set_cons_zero, List.set_cons_succ])
          refine wpList_val (run_ldc rfl Try.underlying4 rfl rfl ((E.out.get (i := 0) rfl).c 2 _ (evR_First ))) rfl ?_; (try simp only [Act.put, List.setIfInBounds_toArray, List.set_cons_zero, List.set_cons_succ])
          refine wpList_val (run_notB rfl rfl) rfl ?_; (try simp only [Act.put, List.setIfInBounds_toArray, List.set_cons_zero, List.set_cons_succ])
          refine wpList_val (run_fad (s := 0) (k := 2) rfl Try.underlying64 rfl (by kernel_rfl) rfl rfl) rfl ?_; (try simp only [Act.put, List.setIfInBounds_toArray, List.set_cons_zero, List.set_cons_succ])
          refine wpList_skip (run_stc (v := .bool (!e.first)) rfl (by kernel_rfl) rfl rfl rfl rfl ((E.out.get (i := 0) rfl).c 2 _ (evR_First )) ((E.out.get (i := 0) rfl).f _)) rfl rfl ?_
          replace E := Lib.hid (E.out.set 0 rfl (j := 2) (by have q2 : (evR (.int .i64 e.fr) (.int .i64 e.dev) (.bool e.first) (e.eph.map b8) (.int .i64 e.signed) (.int .i64 e.one) (hdR (e.head.r.map b8) (.int .i64 e.head.prev) (.int .i64 e.head.n)) (.slice ab e.body.length cb)).length = 72 := (evR_len (by rw [List.length_map, k1]) (hdR_len (by rw [List.length_map, k2]))); omega) (.bool (!e.first)))
          rw [show (evR (.int .i64 e.fr) (.int .i64 e.dev) (.bool e.first) (e.eph.map b8) (.int .i64 e.signed) (.int .i64 e.one) (hdR (e.head.r.map b8) (.int .i64 e.head.prev) (.int .i64 e.head.n)) (.slice ab e.body.length cb)).set 2 (.bool (!e.first)) = evR (.int .i64 e.fr) (.int .i64 e.dev) (.bool (!e.first)) (e.eph.map b8) (.int .i64 e.signed) (.int .i64 e.one) (hdR (e.head.r.map b8) (.int .i64 e.head.prev) (.int .i64 e.head.n)) (.slice ab e.body.length cb) from (evR_setFirst  _)] at E
          generalize a26.setCell ⟨g25, 2, none⟩ (.bool (!e.first)) = a27 at *
          replace E := Lib.hid (show Ev _ [(g25, evR (.int .i64 e.fr) (.int .i64 e.dev) (.bool (!e.first)) (e.eph.map b8) (.int .i64 e.signed) (.int .i64 e.one) (hdR (e.head.r.map b8) (.int .i64 e.head.prev) (.int .i64 e.head.n)) (.slice ab e.body.length cb)), (g22, evR (.int .i64 e.fr) (.int .i64 e.dev) (.bool e.first) (e.eph.map b8) (.int .i64 e.signed) (.int .i64 e.one) (hdR (e.head.r.map b8) (.int .i64 e.head.prev) (.int .i64 e.head.n)) (.slice ab e.body.length cb))] _ _ _ a27 from E.out)
          refine wpList_end ?_
          go_wp2_with fail
          go_meet
          exact ⟨{ e with first := !e.first }, _, ⟨hcan.fr, hcan.dev, hcan.eph, hcan.signed, hcan.one, hcan.head, hcan.body⟩, (evR_len (by rw [List.length_map, k1]) (hdR_len (by rw [List.length_map, k2]))), (evR_one rfl rfl rfl (One.b8 _) rfl rfl (hdR_one (One.b8 _) rfl rfl) rfl), fun V hV => ⟨ab, cb, by rw [evC_row, hdC_row], (HB.out.below E.out.bl) V hV⟩, E.out.knowH fun _ _ => trivial⟩
        · skip
          by_cases hj2 : q = 2
          · have HJ := Lib.hid hj2
            clear hj2
            go_upto_region 10 with fail; refine wp_region_lit ?_
            refine wpList_val (run_eqlb (a := (q : Int)) (b := 0) (c := false) rfl rfl rfl (beq_eq_false_iff_ne.2 (by omega))) rfl ?_; (try simp only [Act.put, List.setIfInBounds_toArray, List.set_cons_zero, List.set_cons_succ])
            refine wpList_val (run_asg (v := .bool false) rfl rfl) rfl ?_; (try simp only [Act.put, List.setIfInBounds_toArray, List.set_cons_zero, List.set_cons_succ])
            refine wpList_end ?_
            go_upto_region 12 with fail; refine wp_region_lit ?_
            refine wpList_val (run_eqlb (a := (q : Int)) (b := 1) (c := false) rfl rfl rfl (beq_eq_false_iff_ne.2 (by omega))) rfl ?_; (try simp only [Act.put, List.setIfInBounds_toArray, List.set_cons_zero, List.set_cons_succ])
            refine wpList_val (run_asg (v := .bool false) rfl rfl) rfl ?_; (try simp only [Act.put, List.setIfInBounds_toArray, List.set_cons_zero, List.set_cons_succ])
            refine wpList_end ?_
            go_upto_region 14 with fail; refine wp_region_lit ?_
            refine wpList_val (run_eqlb (a := (q : Int)) (b := 2) (c := true) rfl rfl rfl (by rw [HJ.out]; rfl)) rfl ?_; (try simp only [Act.put, List.setIfInBounds_toArray, List.set_cons_zero, List.set_cons_succ])
            refine wpList_val (run_asg (v := .bool true) rfl rfl) rfl ?_; (try simp only [Act.put, List.setIfInBounds_toArray, List.set_cons_zero, List.set_cons_succ])
            refine wpList_end ?_
            go_upto_region 15 with fail; refine wp_region_lit ?_
            refine wpList_val (run_mv (v := .int .u8 (k : Int)) rfl rfl) rfl ?_; (try simp only [Act.put, List.setIfInBounds_toArray, List.set_cons_zero, List.set_cons_succ])
            refine wpList_val (run_rem8k (a := k) (b := 32) rfl rfl rfl (by omega)) rfl ?_; (try simp only [Act.put, List.setIfInBounds_toArray, List.set_cons_zero, List.set_cons_succ])
            refine wpList_val (run_fad (s := 31) (k := 3) rfl Try.underlying64 rfl (by kernel_rfl) rfl rfl) rfl ?_; (try simp only [Act.put, List.setIfInBounds_toArray, List.set_cons_zero, List.set_cons_succ])
            refine wpList_val (run_ixa (i := k % 32) rfl Try.underlying35 (by kernel_rfl) rfl rfl (Nat.mod_lt _ (by omega))) rfl ?_; (try simp only [Act.put, List.setIfInBounds_toArray, List.set_cons_zero, List.set_cons_succ])
            refine wpList_val (run_ldc (v := b8 (e.eph.getD (k % 32) 0)) rfl Try.underlying5 rfl rfl ((E.out.get (i := 0) rfl).c _ _ (evR_atEphJ k1 (Nat.mod_lt _ (by omega))))) rfl ?_; (try simp only [Act.put, List.setIfInBounds_toArray, List.set_cons_zero, List.set_cons_succ])
            refine wpList_val (run_add8 (b := 1#8) rfl rfl rfl) rfl ?_; (try simp only [Act.put, List.setIfInBounds_toArray, List.set_cons_zero, List.set_cons_succ])
            refine wpList_val (run_fad (s := 31) (k := 3) rfl Try.underlying64 rfl (by kernel_rfl) rfl rfl) rfl ?_; (try simp only [Act.put, List.setIfInBounds_toArray, List.set_cons_zero, List.set_cons_succ])
            refine wpList_val (run_ixa (i := k % 32) rfl Try.underlying35 (by kernel_rfl) rfl rfl (Nat.mod_lt _ (by omega))) rfl ?_; (try simp only [Act.put, List.setIfInBounds_toArray, List.set_cons_zero, List.set_cons_succ])
            refine wpList_skip (run_stc (v := b8 (e.eph.getD (k % 32) 0 + 1)) rfl (by kernel_rfl) rfl rfl rfl rfl ((E.out.get (i := 0) rfl).c _ _ (evR_atEphJ k1 (Nat.mod_lt _ (by omega)))) ((E.out.get (i := 0) rfl).f _)) rfl rfl ?_
            replace E := Lib.hid (E.out.set 0 rfl (j := 0 + 3 + k % 32) (by have q2 : (evR (.int .i64 e.fr) (.int .i64 e.dev) (.bool e.first) (e.eph.map b8) (.int .i64 e.signed) (.int .i64 e.one) (hdR (e.head.r.map b8) (.int .i64 e.head.prev) (.int .i64 e.head.n)) (.slice ab e.body.length cb)).length = 72 := (evR_len (by rw [List.length_map, k1]) (hdR_len (by rw [List.length_map, k2]))); omega) (b8 (e.eph.getD (k % 32) 0 + 1)))
            simp only [List.set_cons_zero] at E
            rw [evR_setEphJ k1 (Nat.mod_lt _ (by omega))] at E
            generalize a26.setCell ⟨g25, 0 + 3 + k % 32, none⟩ (b8 (e.eph.getD (k % 32) 0 + 1)) = b1 at *
            replace E := Lib.hid (show Ev _ [(g25, evR (.int .i64 e.fr) (.int .i64 e.dev) (.bool e.first) ((e.eph.set (k % 32) (e.eph.getD (k % 32) 0 + 1)).map b8) (.int .i64 e.signed) (.int .i64 e.one) (hdR (e.head.r.map b8) (.int .i64 e.head.prev) (.int .i64 e.head.n)) (.slice ab e.body.length cb)), (g22, evR (.int .i64 e.fr) (.int .i64 e.dev) (.bool e.first) (e.eph.map b8) (.int .i64 e.signed) (.int .i64 e.one) (hdR (e.head.r.map b8) (.int .i64 e.head.prev) (.int .i64 e.head.n)) (.slice ab e.body.length cb))] _ _ _ b1 from E.out)
            refine wpList_end ?_
            go_wp2_with fail
            go_meet
            exact ⟨{ e with eph := e.eph.set (k % 32) (e.eph.getD (k % 32) 0 + 1) }, _, ⟨hcan.fr, hcan.dev, by show (e.eph.set _ _).length = 32; rw [List.length_set, k1], hcan.signed, hcan.one, hcan.head, hcan.body⟩, (evR_len (by rw [List.length_map, List.length_set, k1]) (hdR_len (by rw [List.length_map, k2]))), (evR_one rfl rfl rfl (One.b8 _) rfl rfl (hdR_one (One.b8 _) rfl rfl) rfl), fun V hV => ⟨ab, cb, by rw [evC_row, hdC_row], (HB.out.below E.out.bl) V hV⟩, E.out.knowH fun _ _ => trivial⟩
          · skip
            by_cases hj3 : q = 3
            · have HJ := Lib.hid hj3
              clear hj3
              go_upto_region 10 with fail; refine wp_region_lit ?_
              refine wpList_val (run_eqlb (a := (q : Int)) (b := 0) (c := false) rfl rfl rfl (beq_eq_false_iff_ne.2 (by omega))) rfl ?_; (try simp only [Act.put, List.setIfInBounds_toArray, List.set_cons_zero, List.set_cons_succ])
              refine wpList_val (run_asg (v := .bool false) rfl rfl) rfl ?_; (try simp only [Act.put, List.setIfInBounds_toArray, List.set_cons_zero, List.set_cons_succ])
              refine wpList_end ?_
              go_upto_region 12 with fail; refine wp_region_lit ?_
              refine wpList_val (run_eqlb (a := (q : Int)) (b := 1) (c := false) rfl rfl rfl (beq_eq_false_iff_ne.2 (by omega))) rfl ?_; (try simp only [Act.put, List.setIfInBounds_toArray, List.set_cons_zero, List.set_cons_succ])
              refine wpList_val (run_asg (v := .bool false) rfl rfl) rfl ?_; (try simp only [Act.put, List.setIfInBounds_toArray, List.set_cons_zero, List.set_cons_succ])
              refine wpList_end ?_
              go_upto_region 14 with fail; refine wp_region_lit ?_
              refine wpList_val (run_eqlb (a := (q : Int)) (b := 2) (c := false) rfl rfl rfl (beq_eq_false_iff_ne.2 (by omega))) rfl ?_; (try simp only [Act.put, List.setIfInBounds_toArray, List.set_cons_zero, List.set_cons_succ])
              refine wpList_val (run_asg (v := .bool false) rfl rfl) rfl ?_; (try simp only [Act.put, List.setIfInBounds_toArray, List.set_cons_zero, List.set_cons_succ])
              refine wpList_end ?_
              go_upto_region 16 with fail; refine wp_region_lit ?_
              refine wpList_val (run_eqlb (a := (q : Int)) (b := 3) (c := true) rfl rfl rfl (by rw [HJ.out]; rfl)) rfl ?_; (try simp only [Act.put, List.setIfInBounds_toArray, List.set_cons_zero, List.set_cons_succ])
              refine wpList_val (run_asg (v := .bool true) rfl rfl) rfl ?_; (try simp only [Act.put, List.setIfInBounds_toArray, List.set_cons_zero, List.set_cons_succ])
              refine wpList_end ?_
              go_upto_region 17 with fail; refine wp_region_lit ?_
              refine wpList_val (run_fad (s := 0) (k := 36) rfl Try.underlying64 rfl (by kernel_rfl) rfl rfl) rfl ?_; (try simp only [Act.put, List.setIfInBounds_toArray, List.set_cons_zero, List.set_cons_succ])
              refine wpList_val (run_ldc rfl Try.underlying3 rfl rfl ((E.out.get (i := 0) rfl).c 36 _ (evR_One (by rw [List.length_map, k1])))) rfl ?_; (try simp only [Act.put, List.setIfInBounds_toArray, List.set_cons_zero, List.set_cons_succ])
              refine wpList_val (run_add rfl rfl rfl (by have := hcan.one.1; omega) (by have := hcan.one.2; omega)) rfl ?_; (try simp only [Act.put, List.setIfInBounds_toArray, List.set_cons_zero, List.set_cons_succ])
              refine wpList_val (run_rem rfl rfl rfl (by have := hcan.one.1; omega) (by omega)) rfl ?_; (try simp only [Act.put, List.setIfInBounds_toArray, List.set_cons_zero, List.set_cons_succ])
              refine wpList_val (run_sub rfl rfl rfl (by omega) (by omega)) rfl ?_; (try simp only [Act.put, List.setIfInBounds_toArray, List.set_cons_zero, List.set_cons_succ])
              refine wpList_val (run_fad (s := 0) (k := 36) rfl Try.underlying64 rfl (by kernel_rfl) rfl rfl) rfl ?_; (try simp only [Act.put, List.setIfInBounds_toArray, List.set_cons_zero, List.set_cons_succ])
              refine wpList_skip (run_stc (v := .int .i64 ((e.one + 2) % 50 - 1)) rfl (by kernel_rfl) rfl rfl rfl rfl ((E.out.get (i := 0) rfl).c 36 _ (evR_One (by rw [List.length_map, k1]))) ((E.out.get (i := 0) rfl).f _)) rfl rfl ?_
              replace E := Lib.hid (E.out.set 0 rfl (j := 36) (by have q2 : (evR (.int .i64 e.fr) (.int .i64 e.dev) (.bool e.first) (e.eph.map b8) (.int .i64 e.signed) (.int .i64 e.one) (hdR (e.head.r.map b8) (.int .i64 e.head.prev) (.int .i64 e.head.n)) (.slice ab e.body.length cb)).length = 72 := (evR_len (by rw [List.length_map, k1]) (hdR_len (by rw [List.length_map, k2]))); omega) (.int .i64 ((e.one + 2) % 50 - 1)))
              rw [show (evR (.int .i64 e.fr) (.int .i64 e.dev) (.bool e.first) (e.eph.map b8) (.int .i64 e.signed) (.int .i64 e.one) (hdR (e.head.r.map b8) (.int .i64 e.head.prev) (.int .i64 e.head.n)) (.slice ab e.body.length cb)).set 36 (.int .i64 ((e.one + 2) % 50 - 1)) = evR (.int .i64 e.fr) (.int .i64 e.dev) (.bool e.first) (e.eph.map b8) (.int .i64 e.signed) (.int .i64 ((e.one + 2) % 50 - 1)) (hdR (e.head.r.map b8) (.int .i64 e.head.prev) (.int .i64 e.head.n)) (.slice ab e.body.length cb) from (evR_setOne (by rw [List.length_map, k1]) _)] at E
              generalize a26.setCell ⟨g25, 36, none⟩ (.int .i64 ((e.one + 2) % 50 - 1)) = a27 at *
              replace E := Lib.hid (show Ev _ [(g25, evR (.int .i64 e.fr) (.int .i64 e.dev) (.bool e.first) (e.eph.map b8) (.int .i64 e.signed) (.int .i64 ((e.one + 2) % 50 - 1)) (hdR (e.head.r.map b8) (.int .i64 e.head.prev) (.int .i64 e.head.n)) (.slice ab e.body.length cb)), (g22, evR (.int .i64 e.fr) (.int .i64 e.dev) (.bool e.first) (e.eph.map b8) (.int .i64 e.signed) (.int .i64 e.one) (hdR (e.head.r.map b8) (.int .i64 e.head.prev) (.int .i64 e.head.n)) (.slice ab e.body.length cb))] _ _ _ a27 from E.out)
              refine wpList_end ?_
              go_wp2_with fail
              go_meet
              exact ⟨{ e with one := (e.one + 2) % 50 - 1 }, _, ⟨hcan.fr, hcan.dev, hcan.eph, hcan.signed, ⟨by show -1 ≤ (e.one + 2) % 50 - 1; omega, by show (e.one + 2) % 50 - 1 ≤ _; omega⟩, hcan.head, hcan.body⟩, (evR_len (by rw [List.length_map, k1]) (hdR_len (by rw [List.length_map, k2]))), (evR_one rfl rfl rfl (One.b8 _) rfl rfl (hdR_one (One.b8 _) rfl rfl) rfl), fun V hV => ⟨ab, cb, by rw [evC_row, hdC_row], (HB.out.below E.out.bl) V hV⟩, E.out.knowH fun _ _ => trivial⟩
            · skip
              by_cases hj4 : q = 4
              · have HJ := Lib.hid hj4
                clear hj4
                go_upto_region 10 with fail; refine wp_region_lit ?_
                refine wpList_val (run_eqlb (a := (q : Int)) (b := 0) (c := false) rfl rfl rfl (beq_eq_false_iff_ne.2 (by omega))) rfl ?_; (try simp only [Act.put, List.setIfInBounds_toArray, List.set_cons_zero, List.set_cons_succ])
                refine wpList_val (run_asg (v := .bool false) rfl rfl) rfl ?_; (try simp only [Act.put, List.setIfInBounds_toArray, List.set_cons_zero, List.set_cons_succ])
                refine wpList_end ?_
                go_upto_region 12 with fail; refine wp_region_lit ?_
                refine wpList_val (run_eqlb (a := (q : Int)) (b := 1) (c := false) rfl rfl rfl (beq_eq_false_iff_ne.2 (by omega))) rfl ?_; (try simp only [Act.put, List.setIfInBounds_toArray, List.set_cons_zero, List.set_cons_succ])
                refine wpList_val (run_asg (v := .bool false) rfl rfl) rfl ?_; (try simp only [Act.put, List.setIfInBounds_toArray, List.set_cons_zero, List.set_cons_succ])
                refine wpList_end ?_
                go_upto_region 14 with fail; refine wp_region_lit ?_
                refine wpList_val (run_eqlb (a := (q : Int)) (b := 2) (c := false) rfl rfl rfl (beq_eq_false_iff_ne.2 (by omega))) rfl ?_; (try simp only [Act.put, List.setIfInBounds_toArray, List.set_cons_zero, List.set_cons_succ])
                refine wpList_val (run_asg (v := .bool false) rfl rfl) rfl ?_; (try simp only [Act.put, List.setIfInBounds_toArray, List.set_cons_zero, List.set_cons_succ])
                refine wpList_end ?_
                go_upto_region 16 with fail; refine wp_region_lit ?_
                refine wpList_val (run_eqlb (a := (q : Int)) (b := 3) (c := false) rfl rfl rfl (beq_eq_false_iff_ne.2 (by omega))) rfl ?_; (try simp only [Act.put, List.setIfInBounds_toArray, List.set_cons_zero, List.set_cons_succ])
                refine wpList_val (run_asg (v := .bool false) rfl rfl) rfl ?_; (try simp only [Act.put, List.setIfInBounds_toArray, List.set_cons_zero, List.set_cons_succ])
                refine wpList_end ?_
                go_upto_region 18 with fail; refine wp_region_lit ?_
                refine wpList_val (run_eqlb (a := (q : Int)) (b := 4) (c := true) rfl rfl rfl (by rw [HJ.out]; rfl)) rfl ?_; (try simp only [Act.put, List.setIfInBounds_toArray, List.set_cons_zero, List.set_cons_succ])
                refine wpList_val (run_asg (v := .bool true) rfl rfl) rfl ?_; (try simp only [Act.put, List.setIfInBounds_toArray, List.set_cons_zero, List.set_cons_succ])
                refine wpList_end ?_
                go_upto_region 19 with fail; refine wp_region_lit ?_
                refine wpList_val (run_fad (s := 33) (k := 37) rfl Try.underlying64 rfl (by kernel_rfl) rfl rfl) rfl ?_; (try simp only [Act.put, List.setIfInBounds_toArray, List.set_cons_zero, List.set_cons_succ])
                refine wpList_val (run_fad (s := 0) (k := 33) rfl Try.underlying62 rfl (by kernel_rfl) rfl rfl) rfl ?_; (try simp only [Act.put, List.setIfInBounds_toArray, List.set_cons_zero, List.set_cons_succ])
                refine wpList_val (run_ldc (v := .int .i64 e.head.n) rfl Try.underlying3 rfl rfl ((E.out.get (i := 0) rfl).c _ _ (evR_atN (by rw [List.length_map, k1]) (by rw [List.length_map, k2])))) rfl ?_; (try simp only [Act.put, List.setIfInBounds_toArray, List.set_cons_zero, List.set_cons_succ])
                refine wpList_val (run_add rfl rfl rfl (by have := hcan.head.n.1; omega) (by have := hcan.head.n.2; omega)) rfl ?_; (try simp only [Act.put, List.setIfInBounds_toArray, List.set_cons_zero, List.set_cons_succ])
                refine wpList_val (run_rem rfl rfl rfl (by have := hcan.head.n.1; omega) (by omega)) rfl ?_; (try simp only [Act.put, List.setIfInBounds_toArray, List.set_cons_zero, List.set_cons_succ])
                refine wpList_val (run_fad (s := 33) (k := 37) rfl Try.underlying64 rfl (by kernel_rfl) rfl rfl) rfl ?_; (try simp only [Act.put, List.setIfInBounds_toArray, List.set_cons_zero, List.set_cons_succ])
                refine wpList_val (run_fad (s := 0) (k := 33) rfl Try.underlying62 rfl (by kernel_rfl) rfl rfl) rfl ?_; (try simp only [Act.put, List.setIfInBounds_toArray, List.set_cons_zero, List.set_cons_succ])
                refine wpList_skip (run_stc (v := .int .i64 ((e.head.n + 1) % 1000)) rfl (by kernel_rfl) rfl rfl rfl rfl ((E.out.get (i := 0) rfl).c _ _ (evR_atN (by rw [List.length_map, k1]) (by rw [List.length_map, k2]))) ((E.out.get (i := 0) rfl).f _)) rfl rfl ?_
                replace E := Lib.hid (E.out.set 0 rfl (j := 0 + 37 + 33) (by have q2 : (evR (.int .i64 e.fr) (.int .i64 e.dev) (.bool e.first) (e.eph.map b8) (.int .i64 e.signed) (.int .i64 e.one) (hdR (e.head.r.map b8) (.int .i64 e.head.prev) (.int .i64 e.head.n)) (.slice ab e.body.length cb)).length = 72 := (evR_len (by rw [List.length_map, k1]) (hdR_len (by rw [List.length_map, k2]))); omega) (.int .i64 ((e.head.n + 1) % 1000)))
                simp only [List.set_cons_zero] at E
                rw [evR_setN (by rw [List.length_map, k1]) (by rw [List.length_map, k2])] at E
                generalize a26.setCell ⟨g25, 0 + 37 + 33, none⟩ (.int .i64 ((e.head.n + 1) % 1000)) = b1 at *
                replace E := Lib.hid (show Ev _ [(g25, evR (.int .i64 e.fr) (.int .i64 e.dev) (.bool e.first) (e.eph.map b8) (.int .i64 e.signed) (.int .i64 e.one) (hdR (e.head.r.map b8) (.int .i64 e.head.prev) (.int .i64 ((e.head.n + 1) % 1000))) (.slice ab e.body.length cb)), (g22, evR (.int .i64 e.fr) (.int .i64 e.dev) (.bool e.first) (e.eph.map b8) (.int .i64 e.signed) (.int .i64 e.one) (hdR (e.head.r.map b8) (.int .i64 e.head.prev) (.int .i64 e.head.n)) (.slice ab e.body.length cb))] _ _ _ b1 from E.out)
                refine wpList_end ?_
                go_wp2_with fail
                go_meet
                exact ⟨{ e with head := { e.head with n := (e.head.n + 1) % 1000 } }, _, ⟨hcan.fr, hcan.dev, hcan.eph, hcan.signed, hcan.one, ⟨hcan.head.r, hcan.head.prev, ⟨by show 0 ≤ (e.head.n + 1) % 1000; omega, by show (e.head.n + 1) % 1000 ≤ _; omega⟩⟩, hcan.body⟩, (evR_len (by rw [List.length_map, k1]) (hdR_len (by rw [List.length_map, k2]))), (evR_one rfl rfl rfl (One.b8 _) rfl rfl (hdR_one (One.b8 _) rfl rfl) rfl), fun V hV => ⟨ab, cb, by rw [evC_row, hdC_row], (HB.out.below E.out.bl) V hV⟩, E.out.knowH fun _ _ => trivial⟩
              · skip
                go_upto_region 10 with fail; refine wp_region_lit ?_
                refine wpList_val (run_eqlb (a := (q : Int)) (b := 0) (c := false) rfl rfl rfl (beq_eq_false_iff_ne.2 (by omega))) rfl ?_; (try simp only [Act.put, List.setIfInBounds_toArray, List.set_cons_zero, List.set_cons_succ])
                refine wpList_val (run_asg (v := .bool false) rfl rfl) rfl ?_; (try simp only [Act.put, List.setIfInBounds_toArray, List.set_cons_zero, List.set_cons_succ])
                refine wpList_end ?_
                go_upto_region 12 with fail; refine wp_region_lit ?_
                refine wpList_val (run_eqlb (a := (q : Int)) (b := 1) (c := false) rfl rfl rfl (beq_eq_false_iff_ne.2 (by omega))) rfl ?_; (try simp only [Act.put, List.setIfInBounds_toArray, List.set_cons_zero, List.set_cons_succ])
                refine wpList_val (run_asg (v := .bool false) rfl rfl) rfl ?_; (try simp only [Act.put, List.setIfInBounds_toArray, List.set_cons_zero, List.set_cons_succ])
                refine wpList_end ?_
                go_upto_region 14 with fail; refine wp_region_lit ?_
                refine wpList_val (run_eqlb (a := (q : Int)) (b := 2) (c := false) rfl rfl rfl (beq_eq_false_iff_ne.2 (by omega))) rfl ?_; (try simp only [Act.put, List.setIfInBounds_toArray, List.set_cons_zero, List.set_cons_succ])
                refine wpList_val (run_asg (v := .bool false) rfl rfl) rfl ?_; (try simp only [Act.put, List.setIfInBounds_toArray, List.set_cons_zero, List.set_cons_succ])
                refine wpList_end ?_
                go_upto_region 16 with fail; refine wp_region_lit ?_
                refine wpList_val (run_eqlb (a := (q : Int)) (b := 3) (c := false) rfl rfl rfl (beq_eq_false_iff_ne.2 (by omega))) rfl ?_; (try simp only [Act.put, List.setIfInBounds_toArray, List.set_cons_zero, List.set_cons_succ])
                refine wpList_val (run_asg (v := .bool false) rfl rfl) rfl ?_; (try simp only [Act.put, List.setIfInBounds_toArray, List.set_cons_zero, List.set_cons_succ])
                refine wpList_end ?_
                go_upto_region 18 with fail; refine wp_region_lit ?_
                refine wpList_val (run_eqlb (a := (q : Int)) (b := 4) (c := false) rfl rfl rfl (beq_eq_false_iff_ne.2 (by omega))) rfl ?_; (try simp only [Act.put, List.setIfInBounds_toArray, List.set_cons_zero, List.set_cons_succ])
                refine wpList_val (run_asg (v := .bool false) rfl rfl) rfl ?_; (try simp only [Act.put, List.setIfInBounds_toArray, List.set_cons_zero, List.set_cons_succ])
                refine wpList_end ?_
                have hbl := hb2
                go_upto_region 6 with fail; refine wp_region_lit ?_
                refine wpList_val (run_asg (v := .slice none 0 0) rfl rfl) rfl ?_; (try simp only [Act.put, List.setIfInBounds_toArray, List.set_cons_zero, List.set_cons_succ])
                refine wpList_end ?_
                go_upto_region 7 with fail; refine wp_region_lit ?_
                refine wpList_val (run_mv (v := .slice none 0 0) rfl rfl) rfl ?_; (try simp only [Act.put, List.setIfInBounds_toArray, List.set_cons_zero, List.set_cons_succ])
                refine wpList_val (run_fad (s := 0) (k := 71) rfl Try.underlying64 rfl (by kernel_rfl) rfl rfl) rfl ?_; (try simp only [Act.put, List.setIfInBounds_toArray, List.set_cons_zero, List.set_cons_succ])
                refine wpList_val (run_ldc (v := .slice ab e.body.length cb) rfl Try.underlying22 rfl rfl ((E.out.get (i := 0) rfl).c _ _ (evR_Body (by rw [List.length_map, k1]) (hdR_len (by rw [List.length_map, k2]))))) rfl ?_; (try simp only [Act.put, List.setIfInBounds_toArray, List.set_cons_zero, List.set_cons_succ])
                have HG := Lib.hid (Gw.start (E.out.knowH (H0 := fun _ => True) fun _ _ => trivial) 5 1)
                have HBS := Lib.hid (HB.out.below E.out.bl).now
                clear E
                refine wpList_growB (l := []) (m := e.body) rfl rfl rfl rfl HBS.out (by simp only [List.length_nil]; omega) HG.out (fun v2 b1 hG => ?_); (try simp only [Act.put, List.setIfInBounds_toArray, List.set_cons_zero, List.set_cons_succ])
                rw [List.nil_append] at hG
                have HG2 := Lib.hid hG
                clear hG HG HBS
                obtain ⟨za, zn, zc, rfl⟩ := HG2.out.isSlice
                refine wpList_val (run_asg (v := .slice za zn zc) rfl rfl) rfl ?_; (try simp only [Act.put, List.setIfInBounds_toArray, List.set_cons_zero, List.set_cons_succ])
                refine wpList_end ?_
                go_upto_region 8 with fail; refine wp_region_lit ?_
                refine wpList_val (run_mv (v := .slice za zn zc) rfl rfl) rfl ?_; (try simp only [Act.put, List.setIfInBounds_toArray, List.set_cons_zero, List.set_cons_succ])
                refine wpList_val (run_mv (v := .int .u8 (k : Int)) rfl rfl) rfl ?_; (try simp only [Act.put, List.setIfInBounds_toArray, List.set_cons_zero, List.set_cons_succ])
                refine wpList_val (run_bsl (cells := #[.int .u8 (k : Int)]) (z := .int .u8 0) rfl Try.underlying22 (by kernel_rfl) (by omega) (by omega) (by kernel_rfl)) rfl ?_; (try simp only [Act.put, List.setIfInBounds_toArray, List.set_cons_zero, List.set_cons_succ])
                have HX : Hid (Sl (.slice (some ⟨b1.heap.size, 0, none⟩) 1 1) [BitVec.ofNat 8 k] (b1.alloc (.cells #[.int .u8 (k : Int)] 5))) := Lib.hid (by have hk8 : (Value.int .u8 (k : Int)) = b8 (BitVec.ofNat 8 k) := (by unfold b8; rw [BitVec.toNat_ofNat, Nat.mod_eq_of_lt (by omega)]); rw [hk8]; exact sl_one b1 (BitVec.ofNat 8 k))
                replace HG2 := Lib.hid (HG2.out.below ((Below.refl b1.heap.size b1).alloc (Nat.le_refl _) (.cells #[.int .u8 (k : Int)] 5)))
                generalize b1.alloc (.cells #[.int .u8 (k : Int)] 5) = b2 at *
                generalize b1.heap.size = gx at *
                refine wpList_growB rfl rfl rfl rfl HX.out (by show e.body.length + 1 ≤ _; omega) HG2.out (fun v3 b3 hG => ?_); (try simp only [Act.put, List.setIfInBounds_toArray, List.set_cons_zero, List.set_cons_succ])
                replace HG2 := Lib.hid hG
                clear hG HX
                have HO := Lib.hid HG2.out.row
                obtain ⟨ya, yc, rfl, -, -⟩ := Sl.own HO.out
                have E := Lib.hid HG2.out.done
                clear HG2
                refine wpList_val (run_asg (v := .slice ya (e.body ++ [BitVec.ofNat 8 k]).length yc) rfl rfl) rfl ?_; (try simp only [Act.put, List.setIfInBounds_toArray, List.set_cons_zero, List.set_cons_succ])
                refine wpList_end ?_
                go_upto_region 9 with fail; refine wp_region_lit ?_
                refine wpList_val (run_mv (v := .slice ya (e.body ++ [BitVec.ofNat 8 k]).length yc) rfl rfl) rfl ?_; (try simp only [Act.put, List.setIfInBounds_toArray, List.set_cons_zero, List.set_cons_succ])
                refine wpList_val (run_fad (s := 0) (k := 71) rfl Try.underlying64 rfl (by kernel_rfl) rfl rfl) rfl ?_; (try simp only [Act.put, List.setIfInBounds_toArray, List.set_cons_zero, List.set_cons_succ])
                refine wpList_skip (run_stc (v := .slice ya (e.body ++ [BitVec.ofNat 8 k]).length yc) rfl (by kernel_rfl) rfl rfl rfl rfl ((E.out.get (i := 0) rfl).c _ _ (evR_Body (by rw [List.length_map, k1]) (hdR_len (by rw [List.length_map, k2])))) ((E.out.get (i := 0) rfl).f _)) rfl rfl ?_
                replace E := Lib.hid (E.out.set 0 rfl (j := 0 + 71) (by have q2 : (evR (.int .i64 e.fr) (.int .i64 e.dev) (.bool e.first) (e.eph.map b8) (.int .i64 e.signed) (.int .i64 e.one) (hdR (e.head.r.map b8) (.int .i64 e.head.prev) (.int .i64 e.head.n)) (.slice ab e.body.length cb)).length = 72 := (evR_len (by rw [List.length_map, k1]) (hdR_len (by rw [List.length_map, k2]))); omega) (.slice ya (e.body ++ [BitVec.ofNat 8 k]).length yc))
                simp only [List.set_cons_zero] at E
                rw [show (0 + 71 : Nat) = 71 from rfl, evR_setBody (by rw [List.length_map, k1]) (hdR_len (by rw [List.length_map, k2]))] at E
                generalize b3.setCell ⟨g25, 0 + 71, none⟩ (.slice ya (e.body ++ [BitVec.ofNat 8 k]).length yc) = b4 at *
                replace E := Lib.hid (show Ev _ [(g25, evR (.int .i64 e.fr) (.int .i64 e.dev) (.bool e.first) (e.eph.map b8) (.int .i64 e.signed) (.int .i64 e.one) (hdR (e.head.r.map b8) (.int .i64 e.head.prev) (.int .i64 e.head.n)) (.slice ya (e.body ++ [BitVec.ofNat 8 k]).length yc)), (g22, evR (.int .i64 e.fr) (.int .i64 e.dev) (.bool e.first) (e.eph.map b8) (.int .i64 e.signed) (.int .i64 e.one) (hdR (e.head.r.map b8) (.int .i64 e.head.prev) (.int .i64 e.head.n)) (.slice ab e.body.length cb))] _ _ _ b4 from E.out)
                refine wpList_end ?_
                go_wp2_with fail
                go_meet
                exact ⟨{ e with body := e.body ++ [BitVec.ofNat 8 k] }, _, ⟨hcan.fr, hcan.dev, hcan.eph, hcan.signed, hcan.one, hcan.head, by show (e.body ++ [BitVec.ofNat 8 k]).length ≤ 60000; rw [List.length_append]; show e.body.length + 1 ≤ _; omega⟩, (evR_len (by rw [List.length_map, k1]) (hdR_len (by rw [List.length_map, k2]))), (evR_one rfl rfl rfl (One.b8 _) rfl rfl (hdR_one (One.b8 _) rfl rfl) rfl), fun V hV => ⟨ya, yc, by rw [evC_row, hdC_row], fro_sl (B := a1.heap.size) (E.out.h.1) V (hV.mono (Nat.zero_le _) fun _ h => h)⟩, E.out.knowH fun _ _ => trivial⟩
    case rest =>
      obtain ⟨m, Y, hm, lY, oY, fY, hE⟩ := hcut
      generalize hwc : wc = u1 at *
      clear hwc
      have E := Lib.hid hE
      have HY := Lib.hid fY
      have HM := Lib.hid hm
      clear hE fY
      go_upto_region 20 with fail
      refine wp_region_noPanic ?_; refine wp_region_late (S := fun _ V => Below u1.heap.size u1 V) (by kernel_rfl) ((Below.refl _ _).drew) (fun hS => ?_)
      replace E := Lib.hid (E.out.below hS)
      replace HY := Lib.hid (HY.out.below hS)
      generalize u1.drew = a27 at *
      refine wpAnyL_weak (S' := fun _ V => Below a27.heap.size a27 V) (fun _ V h => hS.trans (h.mono hS.size)) _ _ _ _ ?_
      replace hS := Below.refl a27.heap.size a27
      refine wpAnyL_call 0 (by kernel_rfl) rfl rfl rfl (run_call0 enters_kn10 rfl rfl) ((calls_eq (known10_any _))) (fun v w h => hS.trans ((h.2).mono hS.size)) (fun v28 a29 hR => ?_); (try simp only [Act.put, List.setIfInBounds_toArray, List.set_cons_zero, List.set_cons_succ])
      obtain ⟨rfl, hb9⟩ := hR
      replace hS := hS.trans (hb9.mono hS.size)
      replace E := Lib.hid (E.out.below hb9)
      replace HY := Lib.hid (HY.out.below hb9)
      clear hb9
      refine wpAnyL_weak (S' := fun _ V => Below a29.heap.size a29 V) (fun _ V h => hS.trans (h.mono hS.size)) _ _ _ _ ?_
      replace hS := Below.refl a29.heap.size a29
      refine wpAnyL_take 1 rfl rfl (by kernel_rfl) (by kernel_rfl) (by kernel_rfl) (fun _ _ _ h => h) rfl (fun V hV => run_mv (v := .bool true) rfl rfl) hS ?_; (try simp only [Act.put, List.setIfInBounds_toArray, List.set_cons_zero, List.set_cons_succ])
      refine wpAnyL_take 2 rfl rfl (by kernel_rfl) (by kernel_rfl) (by kernel_rfl) (fun _ _ _ h => h) rfl (fun V hV => run_ldM (vs := evR (.int .i64 e.fr) (.int .i64 e.dev) (.bool e.first) (e.eph.map b8) (.int .i64 e.signed) (.int .i64 e.one) (hdR (e.head.r.map b8) (.int .i64 e.head.prev) (.int .i64 e.head.n)) (.slice ab e.body.length cb)) rfl Try.underlying64 rfl (szR (evR_len (by rw [List.length_map, k1]) (hdR_len (by rw [List.length_map, k2]))) (by kernel_rfl)) rfl ((E.out.below hV).get (i := 1) rfl).range) hS ?_; (try simp only [Act.put, List.setIfInBounds_toArray, List.set_cons_zero, List.set_cons_succ])
      refine wpAnyL_take 5 rfl rfl (by kernel_rfl) (by kernel_rfl) (by kernel_rfl) (fun _ _ _ h => h) rfl (fun V hV => run_ldM (vs := Y) rfl Try.underlying64 rfl (szR lY (by kernel_rfl)) rfl ((E.out.below hV).get (i := 0) rfl).range) hS ?_; (try simp only [Act.put, List.setIfInBounds_toArray, List.set_cons_zero, List.set_cons_succ])
      refine wpAnyL_take 9 rfl rfl (by kernel_rfl) (by kernel_rfl) (by kernel_rfl) (fun _ _ _ h => h) rfl (fun V hV => run_ldM (vs := evR (.int .i64 e.fr) (.int .i64 e.dev) (.bool e.first) (e.eph.map b8) (.int .i64 e.signed) (.int .i64 e.one) (hdR (e.head.r.map b8) (.int .i64 e.head.prev) (.int .i64 e.head.n)) (.slice ab e.body.length cb)) rfl Try.underlying64 rfl (szR (evR_len (by rw [List.length_map, k1]) (hdR_len (by rw [List.length_map, k2]))) (by kernel_rfl)) rfl ((E.out.below hV).get (i := 1) rfl).range) hS ?_; (try simp only [Act.put, List.setIfInBounds_toArray, List.set_cons_zero, List.set_cons_succ])
      refine wpAnyL_take 10 rfl rfl (by kernel_rfl) (by kernel_rfl) (by kernel_rfl) (fun _ _ _ h => h) rfl (fun V hV => run_ldM (vs := Y) rfl Try.underlying64 rfl (szR lY (by kernel_rfl)) rfl ((E.out.below hV).get (i := 0) rfl).range) hS ?_; (try simp only [Act.put, List.setIfInBounds_toArray, List.set_cons_zero, List.set_cons_succ])
      refine wpAnyL_call 3 (by kernel_rfl) rfl rfl rfl (run_call1 enters_xEnv rfl rfl rfl) ((xEnv_any _ e _ hok (by have := hcan.one.1; omega) (HF.out.below E.out.bl) (Nat.le_trans (evB_len hok) (by have := hcan.body; omega)))) (fun v w h => hS.trans ((h.bl).mono hS.size)) (fun v30 a31 hR => ?_); (try simp only [Act.put, List.setIfInBounds_toArray, List.set_cons_zero, List.set_cons_succ])
      have hb9 := hR.bl
      have hs9 := hR.sl
      obtain ⟨xv30, cv30, rfl, -, -⟩ := id hs9
      replace hS := hS.trans (hb9.mono hS.size)
      replace E := Lib.hid (E.out.below hb9)
      replace HY := Lib.hid (HY.out.below hb9)
      have HSL := Lib.hid hs9
      clear hR hs9 hb9
      refine wpAnyL_weak (S' := fun _ V => Below a31.heap.size a31 V) (fun _ V h => hS.trans (h.mono hS.size)) _ _ _ _ ?_
      replace hS := Below.refl a31.heap.size a31
      refine wpAnyL_take 4 rfl rfl (by kernel_rfl) (by kernel_rfl) (by kernel_rfl) (fun _ _ _ h => h) rfl (fun V hV => run_str rfl rfl (HSL.out.below hV)) hS ?_; (try simp only [Act.put, List.setIfInBounds_toArray, List.set_cons_zero, List.set_cons_succ])
      refine wpAnyL_call 6 (by kernel_rfl) rfl rfl rfl (run_call1 enters_xEnv rfl rfl rfl) ((xEnv_any _ m _ HM.out.ok (by have := HM.out.one.1; omega) HY.out (Nat.le_trans (evB_len HM.out.ok) (by have := HM.out.body; omega)))) (fun v w h => hS.trans ((h.bl).mono hS.size)) (fun v32 a33 hR => ?_); (try simp only [Act.put, List.setIfInBounds_toArray, List.set_cons_zero, List.set_cons_succ])
      have hb9 := hR.bl
      have hs9 := hR.sl
      obtain ⟨xv32, cv32, rfl, -, -⟩ := id hs9
      replace hS := hS.trans (hb9.mono hS.size)
      replace E := Lib.hid (E.out.below hb9)
      replace HY := Lib.hid (HY.out.below hb9)
      have HSL := Lib.hid hs9
      clear hR hs9 hb9
      refine wpAnyL_weak (S' := fun _ V => Below a33.heap.size a33 V) (fun _ V h => hS.trans (h.mono hS.size)) _ _ _ _ ?_
      replace hS := Below.refl a33.heap.size a33
      refine wpAnyL_take 7 rfl rfl (by kernel_rfl) (by kernel_rfl) (by kernel_rfl) (fun _ _ _ h => h) rfl (fun V hV => run_str rfl rfl (HSL.out.below hV)) hS ?_; (try simp only [Act.put, List.setIfInBounds_toArray, List.set_cons_zero, List.set_cons_succ])
      refine wpAnyL_take 8 rfl rfl (by kernel_rfl) (by kernel_rfl) (by kernel_rfl) (fun _ _ _ h => h) rfl (fun V hV => run_eqStr rfl rfl rfl) hS ?_; (try simp only [Act.put, List.setIfInBounds_toArray, List.set_cons_zero, List.set_cons_succ])
      refine wpAnyL_call 11 (by kernel_rfl) rfl rfl rfl (run_call2 enters_smE rfl rfl rfl rfl) ((smE_any e m _ _ _ hok HM.out.ok (HF.out.below E.out.bl) HY.out)) (fun v w h => hS.trans ((h.2).mono hS.size)) (fun v34 a35 hR => ?_); (try simp only [Act.put, List.setIfInBounds_toArray, List.set_cons_zero, List.set_cons_succ])
      obtain ⟨hT, hb9⟩ := hR
      obtain ⟨r, rfl, hr⟩ := hT
      replace hS := hS.trans (hb9.mono hS.size)
      replace E := Lib.hid (E.out.below hb9)
      replace HY := Lib.hid (HY.out.below hb9)
      have HRR := Lib.hid hr
      clear hr hb9
      refine wpAnyL_weak (S' := fun _ V => Below a35.heap.size a35 V) (fun _ V h => hS.trans (h.mono hS.size)) _ _ _ _ ?_
      replace hS := Below.refl a35.heap.size a35
      refine wpAnyL_take 12 rfl rfl (by kernel_rfl) (by kernel_rfl) (by kernel_rfl) (fun _ _ _ h => h) rfl (fun V hV => run_eqBoolT rfl rfl rfl rfl (by rw [beq_iff_eq, Bool.eq_iff_iff, decide_eq_true_iff, evB_inj hcan HM.out]; exact HRR.out.symm)) hS ?_; (try simp only [Act.put, List.setIfInBounds_toArray, List.set_cons_zero, List.set_cons_succ])
      refine wpAnyL_take 13 rfl rfl (by kernel_rfl) (by kernel_rfl) (by kernel_rfl) (fun _ _ _ h => h) rfl (fun V hV => run_pick (b := true) (v := .bool true) rfl rfl rfl) hS ?_; (try simp only [Act.put, List.setIfInBounds_toArray, List.set_cons_zero, List.set_cons_succ])
      refine wpAnyL_take 14 rfl rfl (by kernel_rfl) (by kernel_rfl) (by kernel_rfl) (fun _ _ _ h => h) rfl (fun V hV => run_asg (v := .bool true) rfl rfl) hS ?_; (try simp only [Act.put, List.setIfInBounds_toArray, List.set_cons_zero, List.set_cons_succ])
      refine wpAnyL_done (by kernel_rfl) ?_ _; refine NoPanic.normal ?_
      go_wp2_with fail
      go_ret
      exact ⟨rfl, HW.out.trans (E.out.bl.mono HW.out.size)⟩
end Go.Proofs.Ytgioojahadlmhaa
