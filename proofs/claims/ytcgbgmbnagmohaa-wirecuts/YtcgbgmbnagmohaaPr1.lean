import Derived.Test.YtcgbgmbnagmohaaRdC
import Derived.Test.YtcgbgmbnagmohaaPwA
import Derived.WalkSmall
import Derived.Test.YtcgbgmbnagmohaaLy
namespace Go.Proofs.Ytcgbgmbnagmohaa
open Go.RowKit
set_option maxRecDepth 20000
attribute [local irreducible] wpList
structure Kp (p : Nat) (u u' : World) : Prop where
  os : u'.os = u.os
  tape : u'.tape = u.tape
  output : u'.output = u.output
  size : u.heap.size ≤ u'.heap.size
  block : ∀ k, k < u.heap.size → k ≠ p → u'.heap[k]? = u.heap[k]?
theorem Kp.refl (p : Nat) (u : World) : Kp p u u := ⟨rfl, rfl, rfl, Nat.le_refl _, fun _ _ _ => rfl⟩
theorem Kp.trans {p : Nat} {a b c : World} (h : Kp p a b) (k : Kp p b c) : Kp p a c :=
  ⟨k.os.trans h.os, k.tape.trans h.tape, k.output.trans h.output, Nat.le_trans h.size k.size, fun i hi hp => (k.block i (Nat.lt_of_lt_of_le hi h.size) hp).trans (h.block i hi hp)⟩
theorem Kp.fresh {p B : Nat} {w u u' : World} (h : Kp p w u) (hb : Below B u u') (hB : w.heap.size ≤ B) : Kp p w u' :=
  ⟨hb.os.trans h.os, hb.tape.trans h.tape, hb.output.trans h.output, Nat.le_trans h.size hb.size, fun k hk hp => (hb.block k (Nat.lt_of_lt_of_le hk hB)).trans (h.block k hk hp)⟩
theorem Kp.below {p : Nat} {w u u' : World} (hw : w.heap.size ≤ p) (h : Below w.heap.size w u) (k : Kp p u u') : Below w.heap.size w u' :=
  ⟨k.os.trans h.os, k.tape.trans h.tape, k.output.trans h.output, Nat.le_trans h.size k.size, fun i hi => (k.block i (Nat.lt_of_lt_of_le hi h.size) (by omega)).trans (h.block i hi)⟩
theorem Kp.arr {p g : Nat} {l : List Value} {u u' : World} (k : Kp p u u') (h : Arr g l u) (hg : g ≠ p) : Arr g l u' := h.same k.size (k.block g h.lt hg)
theorem Kp.base {p : Nat} {w u u' : World} (hw : p < w.heap.size) (h : Below w.heap.size w u) (k : Kp p u u') : ∃ w', w'.heap.size = w.heap.size ∧ Kp p w w' ∧ Below w'.heap.size w' u' := by
  have hp : p < u'.heap.size := Nat.lt_of_lt_of_le hw (Nat.le_trans h.size k.size)
  refine ⟨{ w with heap := w.heap.setIfInBounds p u'.heap[p] }, by simp, ⟨rfl, rfl, rfl, by simp, fun b hb hne => ?_⟩, ⟨k.os.trans h.os, k.tape.trans h.tape, k.output.trans h.output, by simpa using Nat.le_trans h.size k.size, fun b hb => ?_⟩⟩
  · simp only [Array.getElem?_setIfInBounds, if_neg (Ne.symm hne)]
  · have hb' : b < w.heap.size := by simpa using hb
    by_cases e : b = p
    · subst e
      simp [hb', hp]
    · simp only [Array.getElem?_setIfInBounds, if_neg (Ne.symm e)]
      exact (k.block b (Nat.lt_of_lt_of_le hb' h.size) e).trans (h.block b hb')
section
variable {w u u' : World} {L : List (Nat × List Value)} {K : List Nat} {F H H0 : World → Prop} {p : Nat}
theorem Ev.kept (e : Ev w L K (fun _ => True) H u) (hp : p < w.heap.size) (k : Kp p u u') (h0 : Fro u.heap.size H0 u') : ∃ w', w'.heap.size = w.heap.size ∧ Kp p w w' ∧ Ev w' L K (fun _ => True) (fun V => H0 V ∧ H V) u' := by
  obtain ⟨w', h1, h2, h3⟩ := Kp.base hp e.mv.bl k
  refine ⟨w', h1, h2, ⟨⟨h3, e.mv.nd, fun q hq => ⟨by rw [h1]; exact (e.mv.all q hq).1, k.arr (e.mv.all q hq).2 (by have := (e.mv.all q hq).1; omega)⟩⟩, fun b hb => Nat.lt_of_lt_of_le (e.kb b hb) k.size, fun _ _ => trivial, fun V hV => ⟨?_, ?_⟩⟩⟩
  · exact h0 V ⟨hV.size, fun b b1 b2 _ => hV.block b (by rw [h1]; exact Nat.le_trans e.mv.bl.size b1) b2 fun hm => Nat.lt_irrefl _ (Nat.lt_of_lt_of_le (e.gs hm) b1)⟩
  · rw [h1] at hV
    exact e.hs V ⟨Nat.le_trans k.size hV.size, fun b b1 b2 b3 => (hV.block b b1 (Nat.lt_of_lt_of_le b2 k.size) b3).trans (k.block b b2 (by omega))⟩
theorem Gw.kept {e : TypeId} {z n : Nat} {v : Value} {cs : List Value} (G : Gw w L e z v n cs (fun _ => True) H u) (hp : p < w.heap.size) (k : Kp p u u') (h0 : Fro u.heap.size H0 u') : ∃ w', w'.heap.size = w.heap.size ∧ Kp p w w' ∧ Gw w' L e z v n cs (fun _ => True) (fun V => H0 V ∧ H V) u' := by
  obtain ⟨w', h1, h2, h3⟩ := G.ev.kept hp k h0
  exact ⟨w', h1, h2, h3, by rw [h1]; exact qbg G.row fun q hq => k.block q (qaq G.row hq).2 (by have := (qaq G.row hq).1; omega), G.ap⟩
end
def Kb (B p : Nat) (u V : World) : Prop := u.heap.size ≤ V.heap.size ∧ ∀ k, k < B → k ≠ p → V.heap[k]? = u.heap[k]?
structure RdS (B p : Nat) (b : List (BitVec 8)) (i : Nat) (u : World) : Prop where
  le : i ≤ b.length
  pB : p < B
  Bu : B ≤ u.heap.size
  ex : ∃ al cl, Arr p [.slice al (b.drop i).length cl] u ∧ ∀ V, Kb B p u V → Sl (.slice al (b.drop i).length cl) (b.drop i) V
theorem RdS.step {B p : Nat} {b : List (BitVec 8)} {i : Nat} {u u' : World} (h : RdS B p b i u) (hb : Below B u u') : RdS B p b i u' := by
  obtain ⟨h1, h2, h3, al, cl, h4, h5⟩ := h
  exact ⟨h1, h2, Nat.le_trans h3 hb.size, al, cl, h4.same hb.size (hb.block p h2), fun V hV => h5 V ⟨Nat.le_trans hb.size hV.1, fun k hk hp => (hV.2 k hk hp).trans (hb.block k hk)⟩⟩
theorem RdS.below {B p : Nat} {b : List (BitVec 8)} {i : Nat} {u u' : World} (h : RdS B p b i u) (hb : Below u.heap.size u u') : RdS B p b i u' := h.step (hb.mono h.Bu)
def pan (e : Int) : PanicEntry := { v := if e = 10 then .iface 154 (.agg #[]) else .iface 157 (.agg #[]), recovered := false }
def RPost (B p : Nat) (b : List (BitVec 8)) (u : World) (s : Nat × Int) (T : Value → World → Prop) (e : Ending) (u' : World) : Prop :=
  Kp p u u' ∧ ((s.2 = 0 ∧ RdS B p b s.1 u' ∧ ∃ v, e = .returned v ∧ T v u') ∨ (s.2 ≠ 0 ∧ e = .panicked [pan s.2]))
section
variable {ops : Array Oper} {Q : Exit → Act → World → Prop} {rest : List Oper} {o : Oper} {a : Act} {w : World}
theorem qag {f : FuncId} {args : Array Value} {B p : Nat} {b : List (BitVec 8)} {s : Nat × Int} {T : Value → World → Prop} (hr : (execOp a.eval o).run Try.prog w = .ok (.enter f args) w) (hg : o.guard = none) (hc : Calls Try.prog f args w (RPost B p b w s T))
    (h1 : ∀ v w', s.2 = 0 → Kp p w w' → RdS B p b s.1 w' → T v w' → wpList Try.prog ops Q rest (a.put o.dst v) w') (h2 : ∀ w', s.2 ≠ 0 → Kp p w w' → Q (.panic [pan s.2]) a w') : wpList Try.prog ops Q (o :: rest) a w := by
  have hw : Region.wanted o (yielded ops a.tmps) = true := by unfold Region.wanted; rw [hg]
  simp only [wpList, hw, if_true]
  refine .inl ?_
  unfold Oper.wp
  rw [hr]
  simp only [Oper.upon]
  refine hc.mono fun e w' h => ?_
  obtain ⟨hk, ⟨h3, h4, v, rfl, h5⟩ | ⟨h3, rfl⟩⟩ := h
  · exact h1 v w' h3 hk h4 h5
  · exact h2 w' h3 hk
theorem qby {x : Operand} {t : TypeId} {v : Value} (hg : o.guard = none) (ho : o.op = .panic x) (hx : a.eval x = .iface t v) (h : Q (.panic [{ v := .iface t v, recovered := false }]) a w) : wpList Try.prog ops Q (o :: rest) a w := by
  have hw : Region.wanted o (yielded ops a.tmps) = true := by unfold Region.wanted; rw [hg]
  simp only [wpList, hw, if_true]
  refine .inl ?_
  unfold Oper.wp execOp
  simp only [ho, hx]
  simp [run_panic_iface, Oper.upon]
  exact h
end
theorem run_mki {w : World} {ρ : Operand → Value} {o : Oper} {x : Operand} {t : TypeId} {v : Value} (ho : o.op = .makeInterface t x) (ht : Try.prog.concrete t = true) (hx : ρ x = v) : (execOp ρ o).run Try.prog w = .ok (.value (.iface t v)) w := by
  unfold execOp
  simp only [ho, hx, Sem.run_bind, run_makeInterface (w := w) t v ht]
  simp [go_sem]
theorem Sl.takeN {al : Option Addr} {cl n : Nat} {l : List (BitVec 8)} {u : World} (h : Sl (.slice al l.length cl) l u) (hn : n ≤ l.length) : Sl (.slice al n cl) (l.take n) u := by
  obtain ⟨a2, c2, h1, h2, h3⟩ := h
  injection h1 with e1 _ e2
  subst e1 e2
  refine ⟨al, cl, by rw [List.length_take, Nat.min_eq_left hn], by rw [List.length_take]; omega, fun h => ?_⟩
  obtain ⟨g, f, h4, h5, h6⟩ := h3 (by intro e; rw [e] at h; exact h (by simp))
  exact ⟨g, f, h4, h5, by rw [List.map_take]; exact qch h6⟩
end Go.Proofs.Ytcgbgmbnagmohaa
namespace Go.Proofs.Ytcgbgmbnagmohaa
open Go.RowKit
set_option maxRecDepth 20000
attribute [local irreducible] wpList
theorem kp_set (u : World) (p o : Nat) (v : Value) : Kp p u (u.setCell ⟨p, o, none⟩ v) :=
  have h := (Below.refl 0 u).setCell (p := ⟨p, o, none⟩) (Nat.zero_le _) v
  ⟨h.os, h.tape, h.output, h.size, fun _ _ hk => setCell_far hk o v u⟩
def nxM (b : List (BitVec 8)) (n i : Nat) : Nat × Int := if b.length - i < n then (i, 10) else (i + n, 0)
theorem qcj : Enters 108 := qak Try.func108 (by kernel_rfl) rfl
set_option maxHeartbeats 4000000 in
theorem rnext_any (B p : Nat) (b : List (BitVec 8)) (i n : Nat) (u : World) (R : RdS B p b i u) : Calls Try.prog 108 #[.pointer (some ⟨p, 0, none⟩), .int .i64 (n : Int)] u (RPost B p b u (nxM b n i) fun v u' => ∃ a c, v = .slice a n c ∧ Sl v ((b.drop i).take n) u') := by
  obtain ⟨hi, hpB, hBu, al, cl, hA, hS⟩ := R
  have HA := Lib.hid hA
  have hm : (b.drop i).length = b.length - i := List.length_drop ..
  obtain ⟨ao, c0, e0, hcl, -⟩ := hS u ⟨Nat.le_refl _, fun _ _ _ => rfl⟩
  simp only [Value.slice.injEq, true_and] at e0
  obtain ⟨rfl, rfl⟩ := e0
  clear hA
  by_cases hlt : b.length - i < n
  · have EM : Hid (nxM b n i = (i, 10)) := Lib.hid (by unfold nxM; rw [if_pos hlt])
    generalize nxM b n i = s at *
    generalize (b.drop i).length = m at *
    clear hS
    go_enter Try.func108, Try.ntmps108
    go_upto_region 0 with fail; refine wp_region_lit ?_
    refine qaa (qai (v := .slice none 0 0) rfl rfl) rfl ?_; (try simp only [Act.put, lyy])
    refine qab ?_
    go_upto_region 1 with fail; refine wp_region_lit ?_
    refine qaa (qad (v := .pointer (some ⟨p, 0, none⟩)) rfl rfl) rfl ?_; (try simp only [Act.put, lyy])
    refine qaa (qb5 rfl rfl) rfl ?_; (try simp only [Act.put, lyy])
    refine qaa (qar (s := 0) (k := 0) rfl Try.underlying156 rfl (by kernel_rfl) rfl rfl) rfl ?_; (try simp only [Act.put, lyy])
    refine qaa (qav (v := .slice al m cl) rfl Try.underlying22 rfl rfl (HA.out.c 0 _ rfl)) rfl ?_; (try simp only [Act.put, lyy])
    refine qaa (qba rfl Try.underlying22 rfl) rfl ?_; (try simp only [Act.put, lyy])
    refine qaa (qad (v := .int .i64 (n : Int)) rfl rfl) rfl ?_; (try simp only [Act.put, lyy])
    refine qaa (qa0 (c := true) rfl rfl rfl (decide_eq_true (by omega))) rfl ?_; (try simp only [Act.put, lyy])
    refine qab ?_
    go_upto_region 2 with fail; refine wp_region_lit ?_
    refine qaa (run_bld (cells := #[]) rfl (by kernel_rfl)) rfl ?_; (try simp only [Act.put, lyy])
    refine qaa (run_mki (v := .agg #[]) rfl (by kernel_rfl) rfl) rfl ?_; (try simp only [Act.put, lyy])
    refine qby rfl rfl rfl ?_
    go_wp2_with fail
    exact ⟨rfl, Kp.refl _ _, .inr ⟨by rw [EM.out]; exact (by decide : (10 : Int) ≠ 0), by rw [EM.out]; rfl⟩⟩
  · have EM : Hid (nxM b n i = (i + n, 0)) := Lib.hid (by unfold nxM; rw [if_neg hlt])
    generalize nxM b n i = s at *
    obtain ⟨al2, cl2, hcut⟩ : ∃ al2 cl2, cutO al (b.drop i).length cl n = .slice al2 ((b.drop i).length - n) cl2 := ⟨_, _, rfl⟩
    have key : Hid (∀ u2 : World, Kp p u u2 → Arr p [.slice al2 ((b.drop i).length - n) cl2] u2 → RPost B p b u s (fun v u' => ∃ a c, v = .slice a n c ∧ Sl v ((b.drop i).take n) u') (.returned (.slice al n cl)) u2) := Lib.hid fun u2 hk hA2 => by
      refine ⟨hk, .inl ⟨by rw [EM.out], ?_, _, rfl, _, _, rfl, (hS u2 ⟨hk.size, fun k h1 h2 => hk.block k (Nat.lt_of_lt_of_le h1 hBu) h2⟩).takeN (by omega)⟩⟩
      rw [EM.out]
      have e1 : (b.drop (i + n)).length = (b.drop i).length - n := by rw [List.length_drop, List.length_drop]; omega
      refine ⟨by show i + n ≤ _; omega, hpB, Nat.le_trans hBu hk.size, al2, cl2, by rw [e1]; exact hA2, fun V hV => ?_⟩
      have h1 := (hS V ⟨Nat.le_trans hk.size hV.1, fun k h1 h2 => (hV.2 k h1 h2).trans (hk.block k (Nat.lt_of_lt_of_le h1 hBu) h2)⟩).cut (k := n) (by omega)
      rw [hcut, List.drop_drop] at h1
      rw [e1]
      exact h1
    have EC := Lib.hid hcut
    clear hcut hS EM
    generalize (b.drop i).length = m at *
    go_enter Try.func108, Try.ntmps108
    go_upto_region 0 with fail; refine wp_region_lit ?_
    refine qaa (qai (v := .slice none 0 0) rfl rfl) rfl ?_; (try simp only [Act.put, lyy])
    refine qab ?_
    go_upto_region 1 with fail; refine wp_region_lit ?_
    refine qaa (qad (v := .pointer (some ⟨p, 0, none⟩)) rfl rfl) rfl ?_; (try simp only [Act.put, lyy])
    refine qaa (qb5 rfl rfl) rfl ?_; (try simp only [Act.put, lyy])
    refine qaa (qar (s := 0) (k := 0) rfl Try.underlying156 rfl (by kernel_rfl) rfl rfl) rfl ?_; (try simp only [Act.put, lyy])
    refine qaa (qav (v := .slice al m cl) rfl Try.underlying22 rfl rfl (HA.out.c 0 _ rfl)) rfl ?_; (try simp only [Act.put, lyy])
    refine qaa (qba rfl Try.underlying22 rfl) rfl ?_; (try simp only [Act.put, lyy])
    refine qaa (qad (v := .int .i64 (n : Int)) rfl rfl) rfl ?_; (try simp only [Act.put, lyy])
    refine qaa (qa0 (c := false) rfl rfl rfl (decide_eq_false (by omega))) rfl ?_; (try simp only [Act.put, lyy])
    refine qab ?_
    go_upto_region 3 with fail; refine wp_region_lit ?_
    refine qaa (qad (v := .pointer (some ⟨p, 0, none⟩)) rfl rfl) rfl ?_; (try simp only [Act.put, lyy])
    refine qaa (qb5 rfl rfl) rfl ?_; (try simp only [Act.put, lyy])
    refine qaa (qar (s := 0) (k := 0) rfl Try.underlying156 rfl (by kernel_rfl) rfl rfl) rfl ?_; (try simp only [Act.put, lyy])
    refine qaa (qav (v := .slice al m cl) rfl Try.underlying22 rfl rfl (HA.out.c 0 _ rfl)) rfl ?_; (try simp only [Act.put, lyy])
    refine qaa (qad (v := .int .i64 (n : Int)) rfl rfl) rfl ?_; (try simp only [Act.put, lyy])
    refine qaa (run_slo (h := n) rfl Try.underlying22 (by kernel_rfl) rfl rfl (by omega)) rfl ?_; (try simp only [Act.put, lyy])
    refine qaa (qai (v := .slice al n cl) rfl rfl) rfl ?_; (try simp only [Act.put, lyy])
    refine qab ?_
    go_upto_region 4 with fail; refine wp_region_lit ?_
    refine qaa (qad (v := .pointer (some ⟨p, 0, none⟩)) rfl rfl) rfl ?_; (try simp only [Act.put, lyy])
    refine qaa (qad (v := .pointer (some ⟨p, 0, none⟩)) rfl rfl) rfl ?_; (try simp only [Act.put, lyy])
    refine qaa (qb5 rfl rfl) rfl ?_; (try simp only [Act.put, lyy])
    refine qaa (qar (s := 0) (k := 0) rfl Try.underlying156 rfl (by kernel_rfl) rfl rfl) rfl ?_; (try simp only [Act.put, lyy])
    refine qaa (qav (v := .slice al m cl) rfl Try.underlying22 rfl rfl (HA.out.c 0 _ rfl)) rfl ?_; (try simp only [Act.put, lyy])
    refine qaa (qad (v := .int .i64 (n : Int)) rfl rfl) rfl ?_; (try simp only [Act.put, lyy])
    refine qaa (run_cut (l := n) rfl Try.underlying22 (by kernel_rfl) rfl rfl (by omega)) rfl ?_; (try simp only [Act.put, lyy])
    rw [EC.out]
    refine qaa (qb5 rfl rfl) rfl ?_; (try simp only [Act.put, lyy])
    refine qaa (qar (s := 0) (k := 0) rfl Try.underlying156 rfl (by kernel_rfl) rfl rfl) rfl ?_; (try simp only [Act.put, lyy])
    refine qah (qb1 (v := .slice al2 (m - n) cl2) rfl (by kernel_rfl) rfl rfl rfl rfl (HA.out.c 0 _ rfl) (HA.out.f 0)) rfl rfl ?_
    have HK := Lib.hid (key.out _ (kp_set u p 0 _) (HA.out.set (i := 0) (by show 0 < 1; omega) (.slice al2 (m - n) cl2)))
    generalize u.setCell ⟨p, 0, none⟩ (.slice al2 (m - n) cl2) = u2 at *
    clear key
    refine qab ?_
    go_upto_region 5 with fail; refine wp_region_lit ?_
    refine qaa (qad (v := .slice al n cl) rfl rfl) rfl ?_; (try simp only [Act.put, lyy])
    refine qaa (qai (v := .slice al n cl) rfl rfl) rfl ?_; (try simp only [Act.put, lyy])
    refine qab ?_
    go_wp2_with fail
    exact bodyPost_ret (results_tmp Try.results108 _ _ _) rfl HK.out
theorem rnext_ok {b : List (BitVec 8)} {n i : Nat} (h : i + n ≤ b.length) : nxM b n i = (i + n, 0) := by unfold nxM; rw [if_neg (by omega)]
theorem rnext_short {b : List (BitVec 8)} {n i : Nat} (hi : i ≤ b.length) (h : b.length < i + n) : nxM b n i = (i, 10) := by unfold nxM; rw [if_pos (by omega)]
theorem take_one (b : List (BitVec 8)) {i : Nat} (h : i < b.length) : (b.drop i).take 1 = [b.getD i 0] := by
  rw [List.drop_eq_getElem_cons h]
  show [b[i]] = [b.getD i 0]
  simp [h]
theorem i64_or_nat (a b : Nat) (ha : a < 9223372036854775808) (hb : b < 9223372036854775808) : bits .or .i64 (a : Int) (b : Int) = ((a ||| b : Nat) : Int) := by
  have hx : a ||| b < 2 ^ 63 := Nat.or_lt_two_pow (by omega) (by omega)
  show IntKind.i64.wrap ((BitVec.ofInt 64 (a : Int) ||| BitVec.ofInt 64 (b : Int)).toNat : Int) = _
  rw [BitVec.toNat_or, ofInt_u64 a (by omega), ofInt_u64 b (by omega), i64_fit (by omega) (by omega)]
section
variable {w : World} {ρ : Operand → Value} {o : Oper} {t t' : TypeId} {x y : Operand}
theorem run_andn8R {a b : BitVec 8} (ho : o.op = .binOp .andNot t x y t') (hx : ρ x = b8 a) (hy : ρ y = b8 b) : (execOp ρ o).run Try.prog w = .ok (.value (b8 (a &&& ~~~b))) w := by
  obtain ⟨dst, op, type, pos, after, guard⟩ := o
  subst ho
  unfold b8 at *
  have e := u8_andNot_nat a.toNat b.toNat a.isLt b.isLt
  have e2 : (a &&& ~~~b).toNat = a.toNat &&& (255 - b.toNat) := by
    rw [BitVec.toNat_and, BitVec.toNat_not]
  rw [← e2] at e
  generalize (a &&& ~~~b).toNat = z at *
  go_simp
  try exact e
theorem run_orN {a b : Nat} (ho : o.op = .binOp .or t x y t') (hx : ρ x = .int .i64 (a : Int)) (hy : ρ y = .int .i64 (b : Int)) (ha : a < 9223372036854775808) (hb : b < 9223372036854775808) : (execOp ρ o).run Try.prog w = .ok (.value (.int .i64 ((a ||| b : Nat) : Int))) w := by
  obtain ⟨dst, op, type, pos, after, guard⟩ := o
  subst ho
  have e := i64_or_nat a b ha hb
  generalize a ||| b = z at *
  go_simp
  try exact e
theorem run_shlI {n k : Nat} (ho : o.op = .binOp .shl t x y t') (hx : ρ x = .int .i64 (n : Int)) (hy : ρ y = .int .i64 (k : Int)) (hk : k ≤ 64) (hn : n * 2 ^ k < 9223372036854775808) : (execOp ρ o).run Try.prog w = .ok (.value (.int .i64 ((n * 2 ^ k : Nat) : Int))) w := by
  obtain ⟨dst, op, type, pos, after, guard⟩ := o
  subst ho
  have e : IntKind.i64.wrap ((n : Int) * 2 ^ k) = ((n * 2 ^ k : Nat) : Int) := by
    rw [show ((n : Int) * 2 ^ k) = ((n * 2 ^ k : Nat) : Int) by simp]; exact i64_fit (by omega) (by omega)
  generalize n * 2 ^ k = z at *
  have hk0 : (0 : Int) ≤ (k : Int) := by omega
  go_simp
  try exact e
end
theorem nz11 : ¬ (11 : Int) = 0 := by decide
theorem nz10 : ¬ (10 : Int) = 0 := by decide
theorem low7 (x : BitVec 8) : b8 (x &&& ~~~(128#8)) = .int .u8 ((x.toNat % 128 : Nat) : Int) := by
  have key : ∀ k : Fin 256, ((BitVec.ofNat 8 k.val) &&& ~~~(128#8)).toNat = k.val % 128 := by decide +kernel
  have h := key ⟨x.toNat, x.isLt⟩
  simp only [BitVec.ofNat_toNat, BitVec.setWidth_eq] at h
  unfold b8
  rw [h]
theorem high8 (x : BitVec 8) : (x &&& 128#8) = if x.toNat < 128 then 0#8 else 128#8 := by
  have key : ∀ k : Fin 256, ((BitVec.ofNat 8 k.val) &&& 128#8) = if k.val < 128 then 0#8 else 128#8 := by decide +kernel
  have h := key ⟨x.toNat, x.isLt⟩
  simp only [BitVec.ofNat_toNat, BitVec.setWidth_eq] at h
  exact h
theorem or_shift {n d s : Nat} (h : n < 2 ^ s) : n ||| d * 2 ^ s = n + d * 2 ^ s := by
  rw [Nat.or_comm, Nat.mul_comm, ← Nat.two_pow_add_eq_or_of_lt h]
  omega
theorem pow7 (j : Nat) (h : j ≤ 6) : 2 ^ (7 * j) ≤ 4398046511104 := Nat.le_trans (Nat.pow_le_pow_right (by omega) (show 7 * j ≤ 42 by omega)) (by decide)
theorem qa7 : Enters 81 := qak Try.func81 (by kernel_rfl) rfl
set_option maxHeartbeats 4000000 in
theorem qbq (B p : Nat) (b : List (BitVec 8)) (i i' : Nat) (e' x : Int) (u : World) (H : nM b 1099511627776 (i, 0) = ((i', e'), x)) (R : RdS B p b i u) : Calls Try.prog 81 #[.pointer (some ⟨p, 0, none⟩)] u (RPost B p b u (i', e') fun v _ => v = .int .i64 x) := by
  have HG : Hid (gnL b 1099511627776 6 i 0 1 = (i', e', x)) := Lib.hid (by simp only [nM, gn, if_pos, Prod.mk.injEq] at H; obtain ⟨⟨h1, h2⟩, h3⟩ := H; rw [← h1, ← h2, ← h3])
  have HR := Lib.hid R
  have HK := Lib.hid (Kp.refl p u)
  clear H R
  go_enter Try.func81, Try.ntmps81
  go_upto_region 0 with fail; refine wp_region_lit ?_
  refine qaa (qai (v := .int .i64 0) rfl rfl) rfl ?_; (try simp only [Act.put, lyy])
  refine qab ?_
  go_upto_region 1 with fail; refine wp_region_lit ?_
  refine qaa (qai (v := .int .i64 0) rfl rfl) rfl ?_; (try simp only [Act.put, lyy])
  refine qab ?_
  go_upto_region 2 with fail; refine wp_region_lit ?_
  refine qaa (qad (v := .int .i64 0) rfl rfl) rfl ?_; (try simp only [Act.put, lyy])
  refine qab ?_
  go_wp2_with fail
  go_loopw [3, 6] (fun s3 s6 wr => ∃ (n j q : Nat), s3 = .int .i64 (n : Int) ∧ s6 = .int .i64 (j : Int) ∧ j ≤ 6 ∧ n < 2 ^ (7 * j) ∧ gnL b 1099511627776 (6 - j) q n (2 ^ (7 * j)) = (i', e', x) ∧ Kp p u wr ∧ RdS B p b q wr) (fun _ s6 _ => (6 - intOf s6).toNat)
  case atStart => exact ⟨0, 0, i, rfl, rfl, by omega, by decide, HG.out, HK.out, HR.out⟩
  case round =>
    obtain ⟨n, j, q, rfl, rfl, hj6, hn, hg, hk, hr⟩ := hrel
    have hp7 := pow7 j hj6
    replace HG := Lib.hid hg
    replace HK := Lib.hid hk
    replace HR := Lib.hid hr
    clear hk hr
    by_cases hj : j = 6
    · subst hj
      have e0 : Hid ((i', e', x) = (q, (11 : Int), (0 : Int))) := Lib.hid (by rw [← hg]; rfl)
      clear hg HG
      go_upto_region 3 with fail; refine wp_region_lit ?_
      refine qaa (qa0 (c := false) rfl rfl rfl (decide_eq_false (by omega))) rfl ?_; (try simp only [Act.put, lyy])
      refine qab ?_
      go_upto_region 12 with fail; refine wp_region_lit ?_
      refine qaa (run_bld (cells := #[]) rfl (by kernel_rfl)) rfl ?_; (try simp only [Act.put, lyy])
      refine qaa (run_mki (v := .agg #[]) rfl (by kernel_rfl) rfl) rfl ?_; (try simp only [Act.put, lyy])
      refine qby rfl rfl rfl ?_
      go_wp2_with fail
      have e1 : e' = 11 := congrArg (fun z => z.2.1) e0.out
      subst e1
      exact ⟨rfl, HK.out, .inr ⟨nz11, rfl⟩⟩
    · obtain ⟨k, hkj⟩ : ∃ k, 6 - j = k + 1 := ⟨5 - j, by omega⟩
      rw [hkj, gnL] at hg
      clear HG
      go_upto_region 3 with fail; refine wp_region_lit ?_
      refine qaa (qa0 (c := true) rfl rfl rfl (decide_eq_true (by omega))) rfl ?_; (try simp only [Act.put, lyy])
      refine qab ?_
      go_upto_region 4 with fail; refine wp_region_lit ?_
      refine qaa (qad (v := .int .i64 (j : Int)) rfl rfl) rfl ?_; (try simp only [Act.put, lyy])
      refine qaa (qai (v := .int .i64 (j : Int)) rfl rfl) rfl ?_; (try simp only [Act.put, lyy])
      refine qab ?_
      go_upto_region 5 with fail; refine wp_region_lit ?_
      refine qaa (qad (v := .pointer (some ⟨p, 0, none⟩)) rfl rfl) rfl ?_; (try simp only [Act.put, lyy])
      by_cases hq : b.length ≤ q
      · have en := rnext_short (b := b) (n := 1) (i := q) HR.out.le (by omega)
        rw [if_pos hq] at hg
        simp only [Prod.mk.injEq] at hg
        obtain ⟨h1, h2, h3⟩ := hg
        subst h2
        skip
        refine qag (qae qcj rfl rfl rfl rfl) rfl (rnext_any B p b q 1 _ HR.out) (fun v a1 hs => absurd hs (by rw [en]; exact (by decide : ¬ (10 : Int) = 0))) (fun a1 hs hk => ?_)
        rw [en]
        go_wp2_with fail
        exact ⟨rfl, HK.out.trans hk, .inr ⟨nz10, rfl⟩⟩
      · have en := rnext_ok (b := b) (n := 1) (i := q) (by omega)
        rw [if_neg hq] at hg
        refine qag (qae qcj rfl rfl rfl rfl) rfl (rnext_any B p b q 1 _ HR.out) (fun v a1 hs hk hr hT => ?_) (fun a1 hs => absurd (show (nxM b 1 q).2 = 0 by rw [en]) hs); (try simp only [Act.put, lyy])
        rw [en] at hr
        replace HK := Lib.hid (HK.out.trans hk)
        replace HR := Lib.hid hr
        clear hk hr hs
        obtain ⟨av, cv, rfl, hS⟩ := hT
        rw [take_one b (by omega)] at hS
        obtain ⟨g, f, cc, hve, hgl, hrange⟩ := hS.adr (by simp)
        simp only [Value.slice.injEq] at hve
        obtain ⟨rfl, -, rfl⟩ := hve
        have HC : Hid (a1.cell? ⟨g, f + 0 * 1, none⟩ = some (b8 (b.getD q 0))) := Lib.hid (hrange 0 _ rfl)
        clear hS hrange en
        have hX : (b.getD q 0).toNat < 256 := (b.getD q 0).isLt
        generalize hXX : b.getD q 0 = X at *
        clear hXX
        refine qaa (run_ixs (i := 0) rfl Try.underlying22 (by kernel_rfl) rfl rfl (by omega)) rfl ?_; (try simp only [Act.put, lyy])
        refine qaa (qav (v := b8 X) rfl Try.underlying5 rfl rfl HC.out) rfl ?_; (try simp only [Act.put, lyy])
        refine qaa (qai (v := b8 X) rfl rfl) rfl ?_; (try simp only [Act.put, lyy])
        refine qab ?_
        clear HC
        have hps : Hid (2 ^ (7 * (j + 1)) = 2 ^ (7 * j) * 128) := Lib.hid (by rw [show 7 * (j + 1) = 7 * j + 7 by omega, Nat.pow_add])
        have hp8 := pow7 (j + 1) (by omega)
        have hor := or_shift (d := X.toNat % 128) hn
        have hnn : n + X.toNat % 128 * 2 ^ (7 * j) < 2 ^ (7 * (j + 1)) := by rw [hps.out]; have h1 : X.toNat % 128 * 2 ^ (7 * j) ≤ 127 * 2 ^ (7 * j) := Nat.mul_le_mul_right _ (by omega); omega
        have hmul : X.toNat % 128 * 2 ^ (7 * j) < 4398046511104 := by omega
        go_upto_region 6 with fail; refine wp_region_lit ?_
        refine qaa (qad (v := .int .i64 (n : Int)) rfl rfl) rfl ?_; (try simp only [Act.put, lyy])
        refine qaa (qad (v := b8 X) rfl rfl) rfl ?_; (try simp only [Act.put, lyy])
        refine qaa (run_andn8R (b := 128#8) rfl rfl rfl) rfl ?_; (try simp only [Act.put, lyy])
        rw [low7]
        refine qaa (run_cvu8N (a := X.toNat % 128) rfl rfl (by omega)) rfl ?_; (try simp only [Act.put, lyy])
        refine qaa (qad (v := .int .i64 (j : Int)) rfl rfl) rfl ?_; (try simp only [Act.put, lyy])
        refine qaa (run_mulN (a := 7) (b := j) rfl rfl rfl (by omega)) rfl ?_; (try simp only [Act.put, lyy])
        refine qaa (run_shlI (n := X.toNat % 128) (k := 7 * j) rfl rfl rfl (by omega) (by omega)) rfl ?_; (try simp only [Act.put, lyy])
        refine qaa (run_orN (a := n) (b := X.toNat % 128 * 2 ^ (7 * j)) rfl rfl rfl (by omega) (by omega)) rfl ?_; (try simp only [Act.put, lyy])
        rw [hor]
        have HPS := hps
        generalize X.toNat % 128 * 2 ^ (7 * j) = d at *
        have hN : Hid (n + d < 2 ^ (7 * (j + 1))) := Lib.hid hnn
        clear hor
        generalize n + d = N at *
        refine qaa (qai (v := .int .i64 (N : Int)) rfl rfl) rfl ?_; (try simp only [Act.put, lyy])
        refine qab ?_
        by_cases hx : X.toNat < 128
        · go_upto_region 7 with fail; refine wp_region_lit ?_
          refine qaa (qad (v := b8 X) rfl rfl) rfl ?_; (try simp only [Act.put, lyy])
          refine qaa (run_and8 (b := 128#8) rfl rfl rfl) rfl ?_; (try simp only [Act.put, lyy])
          refine qaa (run_neq8 (b := 0#8) (c := false) rfl rfl rfl (by rw [high8, if_pos hx]; rfl)) rfl ?_; (try simp only [Act.put, lyy])
          refine qab ?_
          by_cases h0 : X.toNat = 0
          · by_cases hj0 : 0 < j
            · rw [if_pos hx, if_pos (.inl ⟨h0, by omega⟩)] at hg
              simp only [Prod.mk.injEq] at hg
              obtain ⟨h1, h2, h3⟩ := hg
              subst h2
              go_upto_region 8 with fail; refine wp_region_lit ?_
              refine qaa (qad (v := b8 X) rfl rfl) rfl ?_; (try simp only [Act.put, lyy])
              refine qaa (qbx (a := (X.toNat : Int)) (b := 0) (c := true) rfl rfl rfl (by rw [h0]; rfl)) rfl ?_; (try simp only [Act.put, lyy])
              refine qaa (qad (v := .bool true) rfl rfl) rfl ?_; (try simp only [Act.put, lyy])
              refine qau (qad (v := .int .i64 (j : Int)) rfl rfl) rfl ?_; (try simp only [Act.put, lyy])
              refine qau (qbd (c := true) rfl rfl rfl (decide_eq_true (by omega))) rfl ?_; (try simp only [Act.put, lyy])
              refine qaa (qb2 (b := true) (v := .bool true) rfl rfl rfl) rfl ?_; (try simp only [Act.put, lyy])
              refine qaa (qad (v := .bool true) rfl rfl) rfl ?_; (try simp only [Act.put, lyy])
              refine wpList_pass rfl ?_; (try simp only [Act.put, lyy])
              refine wpList_pass rfl ?_; (try simp only [Act.put, lyy])
              refine qaa (qb2 (b := true) (v := .bool true) rfl rfl rfl) rfl ?_; (try simp only [Act.put, lyy])
              refine qab ?_
              go_upto_region 9 with fail; refine wp_region_lit ?_
              refine qaa (run_bld (cells := #[]) rfl (by kernel_rfl)) rfl ?_; (try simp only [Act.put, lyy])
              refine qaa (run_mki (v := .agg #[]) rfl (by kernel_rfl) rfl) rfl ?_; (try simp only [Act.put, lyy])
              refine qby rfl rfl rfl ?_
              go_wp2_with fail
              exact ⟨rfl, HK.out, .inr ⟨nz11, rfl⟩⟩
            · have hj1 : j = 0 := by omega
              have hb : ¬ (1099511627776 : Int) < (N : Int) := by have h9 := hN.out; rw [hj1] at h9; have h10 := Nat.lt_of_lt_of_le h9 (by decide : 2 ^ (7 * (0 + 1)) ≤ 128); omega
              rw [if_pos hx, if_neg (fun h => h.elim (fun h => by omega) (fun h => hb h))] at hg
              simp only [Prod.mk.injEq] at hg
              obtain ⟨h1, h2, h3⟩ := hg
              subst h1 h2 h3
              go_upto_region 8 with fail; refine wp_region_lit ?_
              refine qaa (qad (v := b8 X) rfl rfl) rfl ?_; (try simp only [Act.put, lyy])
              refine qaa (qbx (a := (X.toNat : Int)) (b := 0) (c := true) rfl rfl rfl (by rw [h0]; rfl)) rfl ?_; (try simp only [Act.put, lyy])
              refine qaa (qad (v := .bool true) rfl rfl) rfl ?_; (try simp only [Act.put, lyy])
              refine qau (qad (v := .int .i64 (j : Int)) rfl rfl) rfl ?_; (try simp only [Act.put, lyy])
              refine qau (qbd (c := false) rfl rfl rfl (decide_eq_false (by omega))) rfl ?_; (try simp only [Act.put, lyy])
              refine qaa (qb2 (b := true) (v := .bool false) rfl rfl rfl) rfl ?_; (try simp only [Act.put, lyy])
              refine qaa (qad (v := .bool false) rfl rfl) rfl ?_; (try simp only [Act.put, lyy])
              refine qau (qad (v := .int .i64 (N : Int)) rfl rfl) rfl ?_; (try simp only [Act.put, lyy])
              refine qau (qbd (c := false) rfl rfl rfl (decide_eq_false (by omega))) rfl ?_; (try simp only [Act.put, lyy])
              refine qaa (qb2 (b := false) (v := .bool false) rfl rfl rfl) rfl ?_; (try simp only [Act.put, lyy])
              refine qab ?_
              go_upto_region 10 with fail; refine wp_region_lit ?_
              refine qaa (qad (v := .int .i64 (N : Int)) rfl rfl) rfl ?_; (try simp only [Act.put, lyy])
              refine qaa (qai (v := .int .i64 (N : Int)) rfl rfl) rfl ?_; (try simp only [Act.put, lyy])
              refine qab ?_
              go_wp2_with fail
              exact bodyPost_ret (results_tmp Try.results81 _ _ _) rfl ⟨HK.out, .inl ⟨rfl, HR.out, _, rfl, rfl⟩⟩
          · by_cases hb : (1099511627776 : Int) < (N : Int)
            · rw [if_pos hx, if_pos (.inr hb)] at hg
              simp only [Prod.mk.injEq] at hg
              obtain ⟨h1, h2, h3⟩ := hg
              subst h2
              go_upto_region 8 with fail; refine wp_region_lit ?_
              refine qaa (qad (v := b8 X) rfl rfl) rfl ?_; (try simp only [Act.put, lyy])
              refine qaa (qbx (a := (X.toNat : Int)) (b := 0) (c := false) rfl rfl rfl (beq_eq_false_iff_ne.2 (by omega))) rfl ?_; (try simp only [Act.put, lyy])
              refine qaa (qad (v := .bool false) rfl rfl) rfl ?_; (try simp only [Act.put, lyy])
              refine wpList_pass rfl ?_; (try simp only [Act.put, lyy])
              refine wpList_pass rfl ?_; (try simp only [Act.put, lyy])
              refine qaa (qb2 (b := false) (v := .bool false) rfl rfl rfl) rfl ?_; (try simp only [Act.put, lyy])
              refine qaa (qad (v := .bool false) rfl rfl) rfl ?_; (try simp only [Act.put, lyy])
              refine qau (qad (v := .int .i64 (N : Int)) rfl rfl) rfl ?_; (try simp only [Act.put, lyy])
              refine qau (qbd (c := true) rfl rfl rfl (decide_eq_true (by omega))) rfl ?_; (try simp only [Act.put, lyy])
              refine qaa (qb2 (b := false) (v := .bool true) rfl rfl rfl) rfl ?_; (try simp only [Act.put, lyy])
              refine qab ?_
              go_upto_region 9 with fail; refine wp_region_lit ?_
              refine qaa (run_bld (cells := #[]) rfl (by kernel_rfl)) rfl ?_; (try simp only [Act.put, lyy])
              refine qaa (run_mki (v := .agg #[]) rfl (by kernel_rfl) rfl) rfl ?_; (try simp only [Act.put, lyy])
              refine qby rfl rfl rfl ?_
              go_wp2_with fail
              exact ⟨rfl, HK.out, .inr ⟨nz11, rfl⟩⟩
            · rw [if_pos hx, if_neg (fun h => h.elim (fun h => h0 h.1) (fun h => hb h))] at hg
              simp only [Prod.mk.injEq] at hg
              obtain ⟨h1, h2, h3⟩ := hg
              subst h1 h2 h3
              go_upto_region 8 with fail; refine wp_region_lit ?_
              refine qaa (qad (v := b8 X) rfl rfl) rfl ?_; (try simp only [Act.put, lyy])
              refine qaa (qbx (a := (X.toNat : Int)) (b := 0) (c := false) rfl rfl rfl (beq_eq_false_iff_ne.2 (by omega))) rfl ?_; (try simp only [Act.put, lyy])
              refine qaa (qad (v := .bool false) rfl rfl) rfl ?_; (try simp only [Act.put, lyy])
              refine wpList_pass rfl ?_; (try simp only [Act.put, lyy])
              refine wpList_pass rfl ?_; (try simp only [Act.put, lyy])
              refine qaa (qb2 (b := false) (v := .bool false) rfl rfl rfl) rfl ?_; (try simp only [Act.put, lyy])
              refine qaa (qad (v := .bool false) rfl rfl) rfl ?_; (try simp only [Act.put, lyy])
              refine qau (qad (v := .int .i64 (N : Int)) rfl rfl) rfl ?_; (try simp only [Act.put, lyy])
              refine qau (qbd (c := false) rfl rfl rfl (decide_eq_false (by omega))) rfl ?_; (try simp only [Act.put, lyy])
              refine qaa (qb2 (b := false) (v := .bool false) rfl rfl rfl) rfl ?_; (try simp only [Act.put, lyy])
              refine qab ?_
              go_upto_region 10 with fail; refine wp_region_lit ?_
              refine qaa (qad (v := .int .i64 (N : Int)) rfl rfl) rfl ?_; (try simp only [Act.put, lyy])
              refine qaa (qai (v := .int .i64 (N : Int)) rfl rfl) rfl ?_; (try simp only [Act.put, lyy])
              refine qab ?_
              go_wp2_with fail
              exact bodyPost_ret (results_tmp Try.results81 _ _ _) rfl ⟨HK.out, .inl ⟨rfl, HR.out, _, rfl, rfl⟩⟩
        · rw [if_neg hx] at hg
          go_upto_region 7 with fail; refine wp_region_lit ?_
          refine qaa (qad (v := b8 X) rfl rfl) rfl ?_; (try simp only [Act.put, lyy])
          refine qaa (run_and8 (b := 128#8) rfl rfl rfl) rfl ?_; (try simp only [Act.put, lyy])
          refine qaa (run_neq8 (b := 0#8) (c := true) rfl rfl rfl (by rw [high8, if_neg hx]; rfl)) rfl ?_; (try simp only [Act.put, lyy])
          refine qab ?_
          go_upto_region 11 with fail; refine wp_region_lit ?_
          refine qaa (qaz (a := j) (b := 1) rfl rfl rfl (by omega)) rfl ?_; (try simp only [Act.put, lyy])
          refine qaa (qad (v := .int .i64 ((j + 1 : Nat) : Int)) rfl rfl) rfl ?_; (try simp only [Act.put, lyy])
          refine qab ?_
          go_wp2_with fail
          exact ⟨⟨N, j + 1, q + 1, rfl, rfl, by omega, hN.out, by rw [HPS.out, show 6 - (j + 1) = k by omega]; exact hg, HK.out, HR.out⟩, by simp [intOf]; omega⟩
end Go.Proofs.Ytcgbgmbnagmohaa
