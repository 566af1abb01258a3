import Derived.Test.YtcgbgmbnagmohaaGreatRdC
import Derived.Test.YtcgbgmbnagmohaaGreatPwA
import Derived.WalkSmall
import Derived.Test.YtcgbgmbnagmohaaGreatLy
namespace Go.Proofs.YtcgbgmbnagmohaaGreat
open Go.RowKit
set_option maxRecDepth 20000
attribute [local irreducible] wpList
structure Kp (p : Nat) (u u' : World) : Prop where
  os : u'.os = u.os
  tape : u'.tape = u.tape
  output : u'.output = u.output
  size : u.heap.size ≤ u'.heap.size
  block : ∀ k, k < u.heap.size → k ≠ p → u'.heap[k]? = u.heap[k]?
theorem Kp.refl (p : Nat) (u : World) : Kp p u u := ⟨rfl, rfl, rfl, Nat.le_refl _, fun _ _ _ => rfl⟩
theorem Kp.trans {p : Nat} {a b c : World} (h : Kp p a b) (k : Kp p b c) : Kp p a c :=
  ⟨k.os.trans h.os, k.tape.trans h.tape, k.output.trans h.output, Nat.le_trans h.size k.size, fun i hi hp => (k.block i (Nat.lt_of_lt_of_le hi h.size) hp).trans (h.block i hi hp)⟩
theorem Kp.fresh {p B : Nat} {w u u' : World} (h : Kp p w u) (hb : Below B u u') (hB : w.heap.size ≤ B) : Kp p w u' :=
  ⟨hb.os.trans h.os, hb.tape.trans h.tape, hb.output.trans h.output, Nat.le_trans h.size hb.size, fun k hk hp => (hb.block k (Nat.lt_of_lt_of_le hk hB)).trans (h.block k hk hp)⟩
theorem Kp.below {p : Nat} {w u u' : World} (hw : w.heap.size ≤ p) (h : Below w.heap.size w u) (k : Kp p u u') : Below w.heap.size w u' :=
  ⟨k.os.trans h.os, k.tape.trans h.tape, k.output.trans h.output, Nat.le_trans h.size k.size, fun i hi => (k.block i (Nat.lt_of_lt_of_le hi h.size) (by omega)).trans (h.block i hi)⟩
theorem Kp.arr {p g : Nat} {l : List Value} {u u' : World} (k : Kp p u u') (h : Arr g l u) (hg : g ≠ p) : Arr g l u' := h.same k.size (k.block g h.lt hg)
theorem Kp.base {p : Nat} {w u u' : World} (hw : p < w.heap.size) (h : Below w.heap.size w u) (k : Kp p u u') : ∃ w', w'.heap.size = w.heap.size ∧ Kp p w w' ∧ Below w'.heap.size w' u' := by
  have hp : p < u'.heap.size := Nat.lt_of_lt_of_le hw (Nat.le_trans h.size k.size)
  refine ⟨{ w with heap := w.heap.setIfInBounds p u'.heap[p] }, by simp, ⟨rfl, rfl, rfl, by simp, fun b hb hne => ?_⟩, ⟨k.os.trans h.os, k.tape.trans h.tape, k.output.trans h.output, by simpa using Nat.le_trans h.size k.size, fun b hb => ?_⟩⟩
  · simp only [Array.getElem?_setIfInBounds, if_neg (Ne.symm hne)]
  · have hb' : b < w.heap.size := by simpa using hb
    by_cases e : b = p
    · subst e
      simp [hb', hp]
    · simp only [Array.getElem?_setIfInBounds, if_neg (Ne.symm e)]
      exact (k.block b (Nat.lt_of_lt_of_le hb' h.size) e).trans (h.block b hb')
section
variable {w u u' : World} {L : List (Nat × List Value)} {K : List Nat} {F H H0 : World → Prop} {p : Nat}
theorem Ev.kept (e : Ev w L K (fun _ => True) H u) (hp : p < w.heap.size) (k : Kp p u u') (h0 : Fro u.heap.size H0 u') : ∃ w', w'.heap.size = w.heap.size ∧ Kp p w w' ∧ Ev w' L K (fun _ => True) (fun V => H0 V ∧ H V) u' := by
  obtain ⟨w', h1, h2, h3⟩ := Kp.base hp e.mv.bl k
  refine ⟨w', h1, h2, ⟨⟨h3, e.mv.nd, fun q hq => ⟨by rw [h1]; exact (e.mv.all q hq).1, k.arr (e.mv.all q hq).2 (by have := (e.mv.all q hq).1; omega)⟩⟩, fun b hb => Nat.lt_of_lt_of_le (e.kb b hb) k.size, fun _ _ => trivial, fun V hV => ⟨?_, ?_⟩⟩⟩
  · exact h0 V ⟨hV.size, fun b b1 b2 _ => hV.block b (by rw [h1]; exact Nat.le_trans e.mv.bl.size b1) b2 fun hm => Nat.lt_irrefl _ (Nat.lt_of_lt_of_le (e.gs hm) b1)⟩
  · rw [h1] at hV
    exact e.hs V ⟨Nat.le_trans k.size hV.size, fun b b1 b2 b3 => (hV.block b b1 (Nat.lt_of_lt_of_le b2 k.size) b3).trans (k.block b b2 (by omega))⟩
theorem Gw.kept {e : TypeId} {z n : Nat} {v : Value} {cs : List Value} (G : Gw w L e z v n cs (fun _ => True) H u) (hp : p < w.heap.size) (k : Kp p u u') (h0 : Fro u.heap.size H0 u') : ∃ w', w'.heap.size = w.heap.size ∧ Kp p w w' ∧ Gw w' L e z v n cs (fun _ => True) (fun V => H0 V ∧ H V) u' := by
  obtain ⟨w', h1, h2, h3⟩ := G.ev.kept hp k h0
  exact ⟨w', h1, h2, h3, by rw [h1]; exact qbs G.row fun q hq => k.block q (qax G.row hq).2 (by have := (qax G.row hq).1; omega), G.ap⟩
end
def Kb (B p : Nat) (u V : World) : Prop := u.heap.size ≤ V.heap.size ∧ ∀ k, k < B → k ≠ p → V.heap[k]? = u.heap[k]?
structure RdS (B p : Nat) (b : List (BitVec 8)) (i : Nat) (u : World) : Prop where
  le : i ≤ b.length
  pB : p < B
  Bu : B ≤ u.heap.size
  ex : ∃ al cl, Arr p [.slice al (b.drop i).length cl] u ∧ ∀ V, Kb B p u V → Sl (.slice al (b.drop i).length cl) (b.drop i) V
theorem RdS.step {B p : Nat} {b : List (BitVec 8)} {i : Nat} {u u' : World} (h : RdS B p b i u) (hb : Below B u u') : RdS B p b i u' := by
  obtain ⟨h1, h2, h3, al, cl, h4, h5⟩ := h
  exact ⟨h1, h2, Nat.le_trans h3 hb.size, al, cl, h4.same hb.size (hb.block p h2), fun V hV => h5 V ⟨Nat.le_trans hb.size hV.1, fun k hk hp => (hV.2 k hk hp).trans (hb.block k hk)⟩⟩
theorem RdS.below {B p : Nat} {b : List (BitVec 8)} {i : Nat} {u u' : World} (h : RdS B p b i u) (hb : Below u.heap.size u u') : RdS B p b i u' := h.step (hb.mono h.Bu)
def pan (e : Int) : PanicEntry := { v := if e = 10 then .iface 197 (.agg #[]) else .iface 200 (.agg #[]), recovered := false }
def RPost (B p : Nat) (b : List (BitVec 8)) (u : World) (s : Nat × Int) (T : Value → World → Prop) (e : Ending) (u' : World) : Prop :=
  Kp p u u' ∧ ((s.2 = 0 ∧ RdS B p b s.1 u' ∧ ∃ v, e = .returned v ∧ T v u') ∨ (s.2 ≠ 0 ∧ e = .panicked [pan s.2]))
section
variable {ops : Array Oper} {Q : Exit → Act → World → Prop} {rest : List Oper} {o : Oper} {a : Act} {w : World}
theorem qaj {f : FuncId} {args : Array Value} {B p : Nat} {b : List (BitVec 8)} {s : Nat × Int} {T : Value → World → Prop} (hr : (execOp a.eval o).run Tryz.prog w = .ok (.enter f args) w) (hg : o.guard = none) (hc : Calls Tryz.prog f args w (RPost B p b w s T))
    (h1 : ∀ v w', s.2 = 0 → Kp p w w' → RdS B p b s.1 w' → T v w' → wpList Tryz.prog ops Q rest (a.put o.dst v) w') (h2 : ∀ w', s.2 ≠ 0 → Kp p w w' → Q (.panic [pan s.2]) a w') : wpList Tryz.prog ops Q (o :: rest) a w := by
  have hw : Region.wanted o (yielded ops a.tmps) = true := by unfold Region.wanted; rw [hg]
  simp only [wpList, hw, if_true]
  refine .inl ?_
  unfold Oper.wp
  rw [hr]
  simp only [Oper.upon]
  refine hc.mono fun e w' h => ?_
  obtain ⟨hk, ⟨h3, h4, v, rfl, h5⟩ | ⟨h3, rfl⟩⟩ := h
  · exact h1 v w' h3 hk h4 h5
  · exact h2 w' h3 hk
theorem qb3 {x : Operand} {t : TypeId} {v : Value} (hg : o.guard = none) (ho : o.op = .panic x) (hx : a.eval x = .iface t v) (h : Q (.panic [{ v := .iface t v, recovered := false }]) a w) : wpList Tryz.prog ops Q (o :: rest) a w := by
  have hw : Region.wanted o (yielded ops a.tmps) = true := by unfold Region.wanted; rw [hg]
  simp only [wpList, hw, if_true]
  refine .inl ?_
  unfold Oper.wp execOp
  simp only [ho, hx]
  simp [run_panic_iface, Oper.upon]
  exact h
end
theorem run_mki {w : World} {ρ : Operand → Value} {o : Oper} {x : Operand} {t : TypeId} {v : Value} (ho : o.op = .makeInterface t x) (ht : Tryz.prog.concrete t = true) (hx : ρ x = v) : (execOp ρ o).run Tryz.prog w = .ok (.value (.iface t v)) w := by
  unfold execOp
  simp only [ho, hx, Sem.run_bind, run_makeInterface (w := w) t v ht]
  simp [go_sem]
theorem Sl.takeN {al : Option Addr} {cl n : Nat} {l : List (BitVec 8)} {u : World} (h : Sl (.slice al l.length cl) l u) (hn : n ≤ l.length) : Sl (.slice al n cl) (l.take n) u := by
  obtain ⟨a2, c2, h1, h2, h3⟩ := h
  injection h1 with e1 _ e2
  subst e1 e2
  refine ⟨al, cl, by rw [List.length_take, Nat.min_eq_left hn], by rw [List.length_take]; omega, fun h => ?_⟩
  obtain ⟨g, f, h4, h5, h6⟩ := h3 (by intro e; rw [e] at h; exact h (by simp))
  exact ⟨g, f, h4, h5, by rw [List.map_take]; exact qck h6⟩
end Go.Proofs.YtcgbgmbnagmohaaGreat
namespace Go.Proofs.YtcgbgmbnagmohaaGreat
open Go.RowKit
set_option maxRecDepth 20000
attribute [local irreducible] wpList
theorem kp_set (u : World) (p o : Nat) (v : Value) : Kp p u (u.setCell ⟨p, o, none⟩ v) :=
  have h := (Below.refl 0 u).setCell (p := ⟨p, o, none⟩) (Nat.zero_le _) v
  ⟨h.os, h.tape, h.output, h.size, fun _ _ hk => setCell_far hk o v u⟩
def nxM (b : List (BitVec 8)) (n i : Nat) : Nat × Int := if b.length - i < n then (i, 10) else (i + n, 0)
theorem qc0 : Enters 153 := qan Tryz.func153 (by kernel_rfl) rfl
set_option maxHeartbeats 4000000 in
theorem rnext_any (B p : Nat) (b : List (BitVec 8)) (i n : Nat) (u : World) (R : RdS B p b i u) : Calls Tryz.prog 153 #[.pointer (some ⟨p, 0, none⟩), .int .i64 (n : Int)] u (RPost B p b u (nxM b n i) fun v u' => ∃ a c, v = .slice a n c ∧ Sl v ((b.drop i).take n) u') := by
  obtain ⟨hi, hpB, hBu, al, cl, hA, hS⟩ := R
  have HA := Lib.hid hA
  have hm : (b.drop i).length = b.length - i := List.length_drop ..
  obtain ⟨ao, c0, e0, hcl, -⟩ := hS u ⟨Nat.le_refl _, fun _ _ _ => rfl⟩
  simp only [Value.slice.injEq, true_and] at e0
  obtain ⟨rfl, rfl⟩ := e0
  clear hA
  by_cases hlt : b.length - i < n
  · have EM : Hid (nxM b n i = (i, 10)) := Lib.hid (by unfold nxM; rw [if_pos hlt])
    generalize nxM b n i = s at *
    generalize (b.drop i).length = m at *
    clear hS
    go_enter Tryz.func153, Tryz.ntmps153
    go_upto_region 0 with fail; refine wp_region_lit ?_
    refine qaa (qak (v := .slice none 0 0) rfl rfl) rfl ?_; (try simp only [Act.put, lyy])
    refine qab ?_
    go_upto_region 1 with fail; refine wp_region_lit ?_
    refine qaa (qad (v := .pointer (some ⟨p, 0, none⟩)) rfl rfl) rfl ?_; (try simp only [Act.put, lyy])
    refine qaa (qcl rfl rfl) rfl ?_; (try simp only [Act.put, lyy])
    refine qaa (qai (s := 0) (k := 0) rfl Tryz.underlying199 rfl (by kernel_rfl) rfl rfl) rfl ?_; (try simp only [Act.put, lyy])
    refine qaa (qam (v := .slice al m cl) rfl Tryz.underlying22 rfl rfl (HA.out.c 0 _ rfl)) rfl ?_; (try simp only [Act.put, lyy])
    refine qaa (qa4 rfl Tryz.underlying22 rfl) rfl ?_; (try simp only [Act.put, lyy])
    refine qaa (qad (v := .int .i64 (n : Int)) rfl rfl) rfl ?_; (try simp only [Act.put, lyy])
    refine qaa (qay (c := true) rfl rfl rfl (decide_eq_true (by omega))) rfl ?_; (try simp only [Act.put, lyy])
    refine qab ?_
    go_upto_region 2 with fail; refine wp_region_lit ?_
    refine qaa (run_bld (cells := #[]) rfl (by kernel_rfl)) rfl ?_; (try simp only [Act.put, lyy])
    refine qaa (run_mki (v := .agg #[]) rfl (by kernel_rfl) rfl) rfl ?_; (try simp only [Act.put, lyy])
    refine qb3 rfl rfl rfl ?_
    go_wp2_with fail
    exact ⟨rfl, Kp.refl _ _, .inr ⟨by rw [EM.out]; exact (by decide : (10 : Int) ≠ 0), by rw [EM.out]; rfl⟩⟩
  · have EM : Hid (nxM b n i = (i + n, 0)) := Lib.hid (by unfold nxM; rw [if_neg hlt])
    generalize nxM b n i = s at *
    obtain ⟨al2, cl2, hcut⟩ : ∃ al2 cl2, cutO al (b.drop i).length cl n = .slice al2 ((b.drop i).length - n) cl2 := ⟨_, _, rfl⟩
    have key : Hid (∀ u2 : World, Kp p u u2 → Arr p [.slice al2 ((b.drop i).length - n) cl2] u2 → RPost B p b u s (fun v u' => ∃ a c, v = .slice a n c ∧ Sl v ((b.drop i).take n) u') (.returned (.slice al n cl)) u2) := Lib.hid fun u2 hk hA2 => by
      refine ⟨hk, .inl ⟨by rw [EM.out], ?_, _, rfl, _, _, rfl, (hS u2 ⟨hk.size, fun k h1 h2 => hk.block k (Nat.lt_of_lt_of_le h1 hBu) h2⟩).takeN (by omega)⟩⟩
      rw [EM.out]
      have e1 : (b.drop (i + n)).length = (b.drop i).length - n := by rw [List.length_drop, List.length_drop]; omega
      refine ⟨by show i + n ≤ _; omega, hpB, Nat.le_trans hBu hk.size, al2, cl2, by rw [e1]; exact hA2, fun V hV => ?_⟩
      have h1 := (hS V ⟨Nat.le_trans hk.size hV.1, fun k h1 h2 => (hV.2 k h1 h2).trans (hk.block k (Nat.lt_of_lt_of_le h1 hBu) h2)⟩).cut (k := n) (by omega)
      rw [hcut, List.drop_drop] at h1
      rw [e1]
      exact h1
    have EC := Lib.hid hcut
    clear hcut hS EM
    generalize (b.drop i).length = m at *
    go_enter Tryz.func153, Tryz.ntmps153
    go_upto_region 0 with fail; refine wp_region_lit ?_
    refine qaa (qak (v := .slice none 0 0) rfl rfl) rfl ?_; (try simp only [Act.put, lyy])
    refine qab ?_
    go_upto_region 1 with fail; refine wp_region_lit ?_
    refine qaa (qad (v := .pointer (some ⟨p, 0, none⟩)) rfl rfl) rfl ?_; (try simp only [Act.put, lyy])
    refine qaa (qcl rfl rfl) rfl ?_; (try simp only [Act.put, lyy])
    refine qaa (qai (s := 0) (k := 0) rfl Tryz.underlying199 rfl (by kernel_rfl) rfl rfl) rfl ?_; (try simp only [Act.put, lyy])
    refine qaa (qam (v := .slice al m cl) rfl Tryz.underlying22 rfl rfl (HA.out.c 0 _ rfl)) rfl ?_; (try simp only [Act.put, lyy])
    refine qaa (qa4 rfl Tryz.underlying22 rfl) rfl ?_; (try simp only [Act.put, lyy])
    refine qaa (qad (v := .int .i64 (n : Int)) rfl rfl) rfl ?_; (try simp only [Act.put, lyy])
    refine qaa (qay (c := false) rfl rfl rfl (decide_eq_false (by omega))) rfl ?_; (try simp only [Act.put, lyy])
    refine qab ?_
    go_upto_region 3 with fail; refine wp_region_lit ?_
    refine qaa (qad (v := .pointer (some ⟨p, 0, none⟩)) rfl rfl) rfl ?_; (try simp only [Act.put, lyy])
    refine qaa (qcl rfl rfl) rfl ?_; (try simp only [Act.put, lyy])
    refine qaa (qai (s := 0) (k := 0) rfl Tryz.underlying199 rfl (by kernel_rfl) rfl rfl) rfl ?_; (try simp only [Act.put, lyy])
    refine qaa (qam (v := .slice al m cl) rfl Tryz.underlying22 rfl rfl (HA.out.c 0 _ rfl)) rfl ?_; (try simp only [Act.put, lyy])
    refine qaa (qad (v := .int .i64 (n : Int)) rfl rfl) rfl ?_; (try simp only [Act.put, lyy])
    refine qaa (run_slo (h := n) rfl Tryz.underlying22 (by kernel_rfl) rfl rfl (by omega)) rfl ?_; (try simp only [Act.put, lyy])
    refine qaa (qak (v := .slice al n cl) rfl rfl) rfl ?_; (try simp only [Act.put, lyy])
    refine qab ?_
    go_upto_region 4 with fail; refine wp_region_lit ?_
    refine qaa (qad (v := .pointer (some ⟨p, 0, none⟩)) rfl rfl) rfl ?_; (try simp only [Act.put, lyy])
    refine qaa (qad (v := .pointer (some ⟨p, 0, none⟩)) rfl rfl) rfl ?_; (try simp only [Act.put, lyy])
    refine qaa (qcl rfl rfl) rfl ?_; (try simp only [Act.put, lyy])
    refine qaa (qai (s := 0) (k := 0) rfl Tryz.underlying199 rfl (by kernel_rfl) rfl rfl) rfl ?_; (try simp only [Act.put, lyy])
    refine qaa (qam (v := .slice al m cl) rfl Tryz.underlying22 rfl rfl (HA.out.c 0 _ rfl)) rfl ?_; (try simp only [Act.put, lyy])
    refine qaa (qad (v := .int .i64 (n : Int)) rfl rfl) rfl ?_; (try simp only [Act.put, lyy])
    refine qaa (run_cut (l := n) rfl Tryz.underlying22 (by kernel_rfl) rfl rfl (by omega)) rfl ?_; (try simp only [Act.put, lyy])
    rw [EC.out]
    refine qaa (qcl rfl rfl) rfl ?_; (try simp only [Act.put, lyy])
    refine qaa (qai (s := 0) (k := 0) rfl Tryz.underlying199 rfl (by kernel_rfl) rfl rfl) rfl ?_; (try simp only [Act.put, lyy])
    refine qal (qb5 (v := .slice al2 (m - n) cl2) rfl (by kernel_rfl) rfl rfl rfl rfl (HA.out.c 0 _ rfl) (HA.out.f 0)) rfl rfl ?_
    have HK := Lib.hid (key.out _ (kp_set u p 0 _) (HA.out.set (i := 0) (by show 0 < 1; omega) (.slice al2 (m - n) cl2)))
    generalize u.setCell ⟨p, 0, none⟩ (.slice al2 (m - n) cl2) = u2 at *
    clear key
    refine qab ?_
    go_upto_region 5 with fail; refine wp_region_lit ?_
    refine qaa (qad (v := .slice al n cl) rfl rfl) rfl ?_; (try simp only [Act.put, lyy])
    refine qaa (qak (v := .slice al n cl) rfl rfl) rfl ?_; (try simp only [Act.put, lyy])
    refine qab ?_
    go_wp2_with fail
    exact bodyPost_ret (results_tmp Tryz.results153 _ _ _) rfl HK.out
theorem rnext_ok {b : List (BitVec 8)} {n i : Nat} (h : i + n ≤ b.length) : nxM b n i = (i + n, 0) := by unfold nxM; rw [if_neg (by omega)]
theorem rnext_short {b : List (BitVec 8)} {n i : Nat} (hi : i ≤ b.length) (h : b.length < i + n) : nxM b n i = (i, 10) := by unfold nxM; rw [if_pos (by omega)]
theorem take_one (b : List (BitVec 8)) {i : Nat} (h : i < b.length) : (b.drop i).take 1 = [b.getD i 0] := by
  rw [List.drop_eq_getElem_cons h]
  show [b[i]] = [b.getD i 0]
  simp [h]
theorem i64_or_nat (a b : Nat) (ha : a < 9223372036854775808) (hb : b < 9223372036854775808) : bits .or .i64 (a : Int) (b : Int) = ((a ||| b : Nat) : Int) := by
  have hx : a ||| b < 2 ^ 63 := Nat.or_lt_two_pow (by omega) (by omega)
  show IntKind.i64.wrap ((BitVec.ofInt 64 (a : Int) ||| BitVec.ofInt 64 (b : Int)).toNat : Int) = _
  rw [BitVec.toNat_or, ofInt_u64 a (by omega), ofInt_u64 b (by omega), i64_fit (by omega) (by omega)]
section
variable {w : World} {ρ : Operand → Value} {o : Oper} {t t' : TypeId} {x y : Operand}
theorem run_andn8R {a b : BitVec 8} (ho : o.op = .binOp .andNot t x y t') (hx : ρ x = b8 a) (hy : ρ y = b8 b) : (execOp ρ o).run Tryz.prog w = .ok (.value (b8 (a &&& ~~~b))) w := by
  obtain ⟨dst, op, type, pos, after, guard⟩ := o
  subst ho
  unfold b8 at *
  have e := u8_andNot_nat a.toNat b.toNat a.isLt b.isLt
  have e2 : (a &&& ~~~b).toNat = a.toNat &&& (255 - b.toNat) := by
    rw [BitVec.toNat_and, BitVec.toNat_not]
  rw [← e2] at e
  generalize (a &&& ~~~b).toNat = z at *
  go_simp
  try exact e
theorem run_orN {a b : Nat} (ho : o.op = .binOp .or t x y t') (hx : ρ x = .int .i64 (a : Int)) (hy : ρ y = .int .i64 (b : Int)) (ha : a < 9223372036854775808) (hb : b < 9223372036854775808) : (execOp ρ o).run Tryz.prog w = .ok (.value (.int .i64 ((a ||| b : Nat) : Int))) w := by
  obtain ⟨dst, op, type, pos, after, guard⟩ := o
  subst ho
  have e := i64_or_nat a b ha hb
  generalize a ||| b = z at *
  go_simp
  try exact e
theorem run_shlI {n k : Nat} (ho : o.op = .binOp .shl t x y t') (hx : ρ x = .int .i64 (n : Int)) (hy : ρ y = .int .i64 (k : Int)) (hk : k ≤ 64) (hn : n * 2 ^ k < 9223372036854775808) : (execOp ρ o).run Tryz.prog w = .ok (.value (.int .i64 ((n * 2 ^ k : Nat) : Int))) w := by
  obtain ⟨dst, op, type, pos, after, guard⟩ := o
  subst ho
  have e : IntKind.i64.wrap ((n : Int) * 2 ^ k) = ((n * 2 ^ k : Nat) : Int) := by
    rw [show ((n : Int) * 2 ^ k) = ((n * 2 ^ k : Nat) : Int) by simp]; exact i64_fit (by omega) (by omega)
  generalize n * 2 ^ k = z at *
  have hk0 : (0 : Int) ≤ (k : Int) := by omega
  go_simp
  try exact e
end
theorem nz11 : ¬ (11 : Int) = 0 := by decide
theorem nz10 : ¬ (10 : Int) = 0 := by decide
theorem low7 (x : BitVec 8) : b8 (x &&& ~~~(128#8)) = .int .u8 ((x.toNat % 128 : Nat) : Int) := by
  have key : ∀ k : Fin 256, ((BitVec.ofNat 8 k.val) &&& ~~~(128#8)).toNat = k.val % 128 := by decide +kernel
  have h := key ⟨x.toNat, x.isLt⟩
  simp only [BitVec.ofNat_toNat, BitVec.setWidth_eq] at h
  unfold b8
  rw [h]
theorem high8 (x : BitVec 8) : (x &&& 128#8) = if x.toNat < 128 then 0#8 else 128#8 := by
  have key : ∀ k : Fin 256, ((BitVec.ofNat 8 k.val) &&& 128#8) = if k.val < 128 then 0#8 else 128#8 := by decide +kernel
  have h := key ⟨x.toNat, x.isLt⟩
  simp only [BitVec.ofNat_toNat, BitVec.setWidth_eq] at h
  exact h
theorem or_shift {n d s : Nat} (h : n < 2 ^ s) : n ||| d * 2 ^ s = n + d * 2 ^ s := by
  rw [Nat.or_comm, Nat.mul_comm, ← Nat.two_pow_add_eq_or_of_lt h]
  omega
theorem pow7 (j : Nat) (h : j ≤ 6) : 2 ^ (7 * j) ≤ 4398046511104 := Nat.le_trans (Nat.pow_le_pow_right (by omega) (show 7 * j ≤ 42 by omega)) (by decide)
theorem qbh : Enters 103 := qan Tryz.func103 (by kernel_rfl) rfl
set_option maxHeartbeats 4000000 in
theorem qb2 (B p : Nat) (b : List (BitVec 8)) (i i' : Nat) (e' x : Int) (u : World) (H : nM b 1099511627776 (i, 0) = ((i', e'), x)) (R : RdS B p b i u) : Calls Tryz.prog 103 #[.pointer (some ⟨p, 0, none⟩)] u (RPost B p b u (i', e') fun v _ => v = .int .i64 x) := by
  have HG : Hid (gnL b 1099511627776 6 i 0 1 = (i', e', x)) := Lib.hid (by simp only [nM, gn, if_pos, Prod.mk.injEq] at H; obtain ⟨⟨h1, h2⟩, h3⟩ := H; rw [← h1, ← h2, ← h3])
  have HR := Lib.hid R
  have HK := Lib.hid (Kp.refl p u)
  clear H R
  go_enter Tryz.func103, Tryz.ntmps103
  go_upto_region 0 with fail; refine wp_region_lit ?_
  refine qaa (qak (v := .int .i64 0) rfl rfl) rfl ?_; (try simp only [Act.put, lyy])
  refine qab ?_
  go_upto_region 1 with fail; refine wp_region_lit ?_
  refine qaa (qak (v := .int .i64 0) rfl rfl) rfl ?_; (try simp only [Act.put, lyy])
  refine qab ?_
  go_upto_region 2 with fail; refine wp_region_lit ?_
  refine qaa (qad (v := .int .i64 0) rfl rfl) rfl ?_; (try simp only [Act.put, lyy])
  refine qab ?_
  go_wp2_with fail
  go_loopw [3, 6] (fun s3 s6 wr => ∃ (n j q : Nat), s3 = .int .i64 (n : Int) ∧ s6 = .int .i64 (j : Int) ∧ j ≤ 6 ∧ n < 2 ^ (7 * j) ∧ gnL b 1099511627776 (6 - j) q n (2 ^ (7 * j)) = (i', e', x) ∧ Kp p u wr ∧ RdS B p b q wr) (fun _ s6 _ => (6 - intOf s6).toNat)
  case atStart => exact ⟨0, 0, i, rfl, rfl, by omega, by decide, HG.out, HK.out, HR.out⟩
  case round =>
    obtain ⟨n, j, q, rfl, rfl, hj6, hn, hg, hk, hr⟩ := hrel
    have hp7 := pow7 j hj6
    replace HG := Lib.hid hg
    replace HK := Lib.hid hk
    replace HR := Lib.hid hr
    clear hk hr
    by_cases hj : j = 6
    · subst hj
      have e0 : Hid ((i', e', x) = (q, (11 : Int), (0 : Int))) := Lib.hid (by rw [← hg]; rfl)
      clear hg HG
      go_upto_region 3 with fail; refine wp_region_lit ?_
      refine qaa (qay (c := false) rfl rfl rfl (decide_eq_false (by omega))) rfl ?_; (try simp only [Act.put, lyy])
      refine qab ?_
      go_upto_region 12 with fail; refine wp_region_lit ?_
      refine qaa (run_bld (cells := #[]) rfl (by kernel_rfl)) rfl ?_; (try simp only [Act.put, lyy])
      refine qaa (run_mki (v := .agg #[]) rfl (by kernel_rfl) rfl) rfl ?_; (try simp only [Act.put, lyy])
      refine qb3 rfl rfl rfl ?_
      go_wp2_with fail
      have e1 : e' = 11 := congrArg (fun z => z.2.1) e0.out
      subst e1
      exact ⟨rfl, HK.out, .inr ⟨nz11, rfl⟩⟩
    · obtain ⟨k, hkj⟩ : ∃ k, 6 - j = k + 1 := ⟨5 - j, by omega⟩
      rw [hkj, gnL] at hg
      clear HG
      go_upto_region 3 with fail; refine wp_region_lit ?_
      refine qaa (qay (c := true) rfl rfl rfl (decide_eq_true (by omega))) rfl ?_; (try simp only [Act.put, lyy])
      refine qab ?_
      go_upto_region 4 with fail; refine wp_region_lit ?_
      refine qaa (qad (v := .int .i64 (j : Int)) rfl rfl) rfl ?_; (try simp only [Act.put, lyy])
      refine qaa (qak (v := .int .i64 (j : Int)) rfl rfl) rfl ?_; (try simp only [Act.put, lyy])
      refine qab ?_
      go_upto_region 5 with fail; refine wp_region_lit ?_
      refine qaa (qad (v := .pointer (some ⟨p, 0, none⟩)) rfl rfl) rfl ?_; (try simp only [Act.put, lyy])
      by_cases hq : b.length ≤ q
      · have en := rnext_short (b := b) (n := 1) (i := q) HR.out.le (by omega)
        rw [if_pos hq] at hg
        simp only [Prod.mk.injEq] at hg
        obtain ⟨h1, h2, h3⟩ := hg
        subst h2
        skip
        refine qaj (qaf qc0 rfl rfl rfl rfl) rfl (rnext_any B p b q 1 _ HR.out) (fun v a1 hs => absurd hs (by rw [en]; exact (by decide : ¬ (10 : Int) = 0))) (fun a1 hs hk => ?_)
        rw [en]
        go_wp2_with fail
        exact ⟨rfl, HK.out.trans hk, .inr ⟨nz10, rfl⟩⟩
      · have en := rnext_ok (b := b) (n := 1) (i := q) (by omega)
        rw [if_neg hq] at hg
        refine qaj (qaf qc0 rfl rfl rfl rfl) rfl (rnext_any B p b q 1 _ HR.out) (fun v a1 hs hk hr hT => ?_) (fun a1 hs => absurd (show (nxM b 1 q).2 = 0 by rw [en]) hs); (try simp only [Act.put, lyy])
        rw [en] at hr
        replace HK := Lib.hid (HK.out.trans hk)
        replace HR := Lib.hid hr
        clear hk hr hs
        obtain ⟨av, cv, rfl, hS⟩ := hT
        rw [take_one b (by omega)] at hS
        obtain ⟨g, f, cc, hve, hgl, hrange⟩ := hS.adr (by simp)
        simp only [Value.slice.injEq] at hve
        obtain ⟨rfl, -, rfl⟩ := hve
        have HC : Hid (a1.cell? ⟨g, f + 0 * 1, none⟩ = some (b8 (b.getD q 0))) := Lib.hid (hrange 0 _ rfl)
        clear hS hrange en
        have hX : (b.getD q 0).toNat < 256 := (b.getD q 0).isLt
        generalize hXX : b.getD q 0 = X at *
        clear hXX
        refine qaa (run_ixs (i := 0) rfl Tryz.underlying22 (by kernel_rfl) rfl rfl (by omega)) rfl ?_; (try simp only [Act.put, lyy])
        refine qaa (qam (v := b8 X) rfl Tryz.underlying5 rfl rfl HC.out) rfl ?_; (try simp only [Act.put, lyy])
        refine qaa (qak (v := b8 X) rfl rfl) rfl ?_; (try simp only [Act.put, lyy])
        refine qab ?_
        clear HC
        have hps : Hid (2 ^ (7 * (j + 1)) = 2 ^ (7 * j) * 128) := Lib.hid (by rw [show 7 * (j + 1) = 7 * j + 7 by omega, Nat.pow_add])
        have hp8 := pow7 (j + 1) (by omega)
        have hor := or_shift (d := X.toNat % 128) hn
        have hnn : n + X.toNat % 128 * 2 ^ (7 * j) < 2 ^ (7 * (j + 1)) := by rw [hps.out]; have h1 : X.toNat % 128 * 2 ^ (7 * j) ≤ 127 * 2 ^ (7 * j) := Nat.mul_le_mul_right _ (by omega); omega
        have hmul : X.toNat % 128 * 2 ^ (7 * j) < 4398046511104 := by omega
        go_upto_region 6 with fail; refine wp_region_lit ?_
        refine qaa (qad (v := .int .i64 (n : Int)) rfl rfl) rfl ?_; (try simp only [Act.put, lyy])
        refine qaa (qad (v := b8 X) rfl rfl) rfl ?_; (try simp only [Act.put, lyy])
        refine qaa (run_andn8R (b := 128#8) rfl rfl rfl) rfl ?_; (try simp only [Act.put, lyy])
        rw [low7]
        refine qaa (run_cvu8N (a := X.toNat % 128) rfl rfl (by omega)) rfl ?_; (try simp only [Act.put, lyy])
        refine qaa (qad (v := .int .i64 (j : Int)) rfl rfl) rfl ?_; (try simp only [Act.put, lyy])
        refine qaa (run_mulN (a := 7) (b := j) rfl rfl rfl (by omega)) rfl ?_; (try simp only [Act.put, lyy])
        refine qaa (run_shlI (n := X.toNat % 128) (k := 7 * j) rfl rfl rfl (by omega) (by omega)) rfl ?_; (try simp only [Act.put, lyy])
        refine qaa (run_orN (a := n) (b := X.toNat % 128 * 2 ^ (7 * j)) rfl rfl rfl (by omega) (by omega)) rfl ?_; (try simp only [Act.put, lyy])
        rw [hor]
        have HPS := hps
        generalize X.toNat % 128 * 2 ^ (7 * j) = d at *
        have hN : Hid (n + d < 2 ^ (7 * (j + 1))) := Lib.hid hnn
        clear hor
        generalize n + d = N at *
        refine qaa (qak (v := .int .i64 (N : Int)) rfl rfl) rfl ?_; (try simp only [Act.put, lyy])
        refine qab ?_
        by_cases hx : X.toNat < 128
        · go_upto_region 7 with fail; refine wp_region_lit ?_
          refine qaa (qad (v := b8 X) rfl rfl) rfl ?_; (try simp only [Act.put, lyy])
          refine qaa (run_and8 (b := 128#8) rfl rfl rfl) rfl ?_; (try simp only [Act.put, lyy])
          refine qaa (run_neq8 (b := 0#8) (c := false) rfl rfl rfl (by rw [high8, if_pos hx]; rfl)) rfl ?_; (try simp only [Act.put, lyy])
          refine qab ?_
          by_cases h0 : X.toNat = 0
          · by_cases hj0 : 0 < j
            · rw [if_pos hx, if_pos (.inl ⟨h0, by omega⟩)] at hg
              simp only [Prod.mk.injEq] at hg
              obtain ⟨h1, h2, h3⟩ := hg
              subst h2
              go_upto_region 8 with fail; refine wp_region_lit ?_
              refine qaa (qad (v := b8 X) rfl rfl) rfl ?_; (try simp only [Act.put, lyy])
              refine qaa (qbp (a := (X.toNat : Int)) (b := 0) (c := true) rfl rfl rfl (by rw [h0]; rfl)) rfl ?_; (try simp only [Act.put, lyy])
              refine qaa (qad (v := .bool true) rfl rfl) rfl ?_; (try simp only [Act.put, lyy])
              refine qae (qad (v := .int .i64 (j : Int)) rfl rfl) rfl ?_; (try simp only [Act.put, lyy])
              refine qae (qbi (c := true) rfl rfl rfl (decide_eq_true (by omega))) rfl ?_; (try simp only [Act.put, lyy])
              refine qaa (qaw (b := true) (v := .bool true) rfl rfl rfl) rfl ?_; (try simp only [Act.put, lyy])
              refine qaa (qad (v := .bool true) rfl rfl) rfl ?_; (try simp only [Act.put, lyy])
              refine qco rfl ?_; (try simp only [Act.put, lyy])
              refine qco rfl ?_; (try simp only [Act.put, lyy])
              refine qaa (qaw (b := true) (v := .bool true) rfl rfl rfl) rfl ?_; (try simp only [Act.put, lyy])
              refine qab ?_
              go_upto_region 9 with fail; refine wp_region_lit ?_
              refine qaa (run_bld (cells := #[]) rfl (by kernel_rfl)) rfl ?_; (try simp only [Act.put, lyy])
              refine qaa (run_mki (v := .agg #[]) rfl (by kernel_rfl) rfl) rfl ?_; (try simp only [Act.put, lyy])
              refine qb3 rfl rfl rfl ?_
              go_wp2_with fail
              exact ⟨rfl, HK.out, .inr ⟨nz11, rfl⟩⟩
            · have hj1 : j = 0 := by omega
              have hb : ¬ (1099511627776 : Int) < (N : Int) := by have h9 := hN.out; rw [hj1] at h9; have h10 := Nat.lt_of_lt_of_le h9 (by decide : 2 ^ (7 * (0 + 1)) ≤ 128); omega
              rw [if_pos hx, if_neg (fun h => h.elim (fun h => by omega) (fun h => hb h))] at hg
              simp only [Prod.mk.injEq] at hg
              obtain ⟨h1, h2, h3⟩ := hg
              subst h1 h2 h3
              go_upto_region 8 with fail; refine wp_region_lit ?_
              refine qaa (qad (v := b8 X) rfl rfl) rfl ?_; (try simp only [Act.put, lyy])
              refine qaa (qbp (a := (X.toNat : Int)) (b := 0) (c := true) rfl rfl rfl (by rw [h0]; rfl)) rfl ?_; (try simp only [Act.put, lyy])
              refine qaa (qad (v := .bool true) rfl rfl) rfl ?_; (try simp only [Act.put, lyy])
              refine qae (qad (v := .int .i64 (j : Int)) rfl rfl) rfl ?_; (try simp only [Act.put, lyy])
              refine qae (qbi (c := false) rfl rfl rfl (decide_eq_false (by omega))) rfl ?_; (try simp only [Act.put, lyy])
              refine qaa (qaw (b := true) (v := .bool false) rfl rfl rfl) rfl ?_; (try simp only [Act.put, lyy])
              refine qaa (qad (v := .bool false) rfl rfl) rfl ?_; (try simp only [Act.put, lyy])
              refine qae (qad (v := .int .i64 (N : Int)) rfl rfl) rfl ?_; (try simp only [Act.put, lyy])
              refine qae (qbi (c := false) rfl rfl rfl (decide_eq_false (by omega))) rfl ?_; (try simp only [Act.put, lyy])
              refine qaa (qaw (b := false) (v := .bool false) rfl rfl rfl) rfl ?_; (try simp only [Act.put, lyy])
              refine qab ?_
              go_upto_region 10 with fail; refine wp_region_lit ?_
              refine qaa (qad (v := .int .i64 (N : Int)) rfl rfl) rfl ?_; (try simp only [Act.put, lyy])
              refine qaa (qak (v := .int .i64 (N : Int)) rfl rfl) rfl ?_; (try simp only [Act.put, lyy])
              refine qab ?_
              go_wp2_with fail
              exact bodyPost_ret (results_tmp Tryz.results103 _ _ _) rfl ⟨HK.out, .inl ⟨rfl, HR.out, _, rfl, rfl⟩⟩
          · by_cases hb : (1099511627776 : Int) < (N : Int)
            · rw [if_pos hx, if_pos (.inr hb)] at hg
              simp only [Prod.mk.injEq] at hg
              obtain ⟨h1, h2, h3⟩ := hg
              subst h2
              go_upto_region 8 with fail; refine wp_region_lit ?_
              refine qaa (qad (v := b8 X) rfl rfl) rfl ?_; (try simp only [Act.put, lyy])
              refine qaa (qbp (a := (X.toNat : Int)) (b := 0) (c := false) rfl rfl rfl (beq_eq_false_iff_ne.2 (by omega))) rfl ?_; (try simp only [Act.put, lyy])
              refine qaa (qad (v := .bool false) rfl rfl) rfl ?_; (try simp only [Act.put, lyy])
              refine qco rfl ?_; (try simp only [Act.put, lyy])
              refine qco rfl ?_; (try simp only [Act.put, lyy])
              refine qaa (qaw (b := false) (v := .bool false) rfl rfl rfl) rfl ?_; (try simp only [Act.put, lyy])
              refine qaa (qad (v := .bool false) rfl rfl) rfl ?_; (try simp only [Act.put, lyy])
              refine qae (qad (v := .int .i64 (N : Int)) rfl rfl) rfl ?_; (try simp only [Act.put, lyy])
              refine qae (qbi (c := true) rfl rfl rfl (decide_eq_true (by omega))) rfl ?_; (try simp only [Act.put, lyy])
              refine qaa (qaw (b := false) (v := .bool true) rfl rfl rfl) rfl ?_; (try simp only [Act.put, lyy])
              refine qab ?_
              go_upto_region 9 with fail; refine wp_region_lit ?_
              refine qaa (run_bld (cells := #[]) rfl (by kernel_rfl)) rfl ?_; (try simp only [Act.put, lyy])
              refine qaa (run_mki (v := .agg #[]) rfl (by kernel_rfl) rfl) rfl ?_; (try simp only [Act.put, lyy])
              refine qb3 rfl rfl rfl ?_
              go_wp2_with fail
              exact ⟨rfl, HK.out, .inr ⟨nz11, rfl⟩⟩
            · rw [if_pos hx, if_neg (fun h => h.elim (fun h => h0 h.1) (fun h => hb h))] at hg
              simp only [Prod.mk.injEq] at hg
              obtain ⟨h1, h2, h3⟩ := hg
              subst h1 h2 h3
              go_upto_region 8 with fail; refine wp_region_lit ?_
              refine qaa (qad (v := b8 X) rfl rfl) rfl ?_; (try simp only [Act.put, lyy])
              refine qaa (qbp (a := (X.toNat : Int)) (b := 0) (c := false) rfl rfl rfl (beq_eq_false_iff_ne.2 (by omega))) rfl ?_; (try simp only [Act.put, lyy])
              refine qaa (qad (v := .bool false) rfl rfl) rfl ?_; (try simp only [Act.put, lyy])
              refine qco rfl ?_; (try simp only [Act.put, lyy])
              refine qco rfl ?_; (try simp only [Act.put, lyy])
              refine qaa (qaw (b := false) (v := .bool false) rfl rfl rfl) rfl ?_; (try simp only [Act.put, lyy])
              refine qaa (qad (v := .bool false) rfl rfl) rfl ?_; (try simp only [Act.put, lyy])
              refine qae (qad (v := .int .i64 (N : Int)) rfl rfl) rfl ?_; (try simp only [Act.put, lyy])
              refine qae (qbi (c := false) rfl rfl rfl (decide_eq_false (by omega))) rfl ?_; (try simp only [Act.put, lyy])
              refine qaa (qaw (b := false) (v := .bool false) rfl rfl rfl) rfl ?_; (try simp only [Act.put, lyy])
              refine qab ?_
              go_upto_region 10 with fail; refine wp_region_lit ?_
              refine qaa (qad (v := .int .i64 (N : Int)) rfl rfl) rfl ?_; (try simp only [Act.put, lyy])
              refine qaa (qak (v := .int .i64 (N : Int)) rfl rfl) rfl ?_; (try simp only [Act.put, lyy])
              refine qab ?_
              go_wp2_with fail
              exact bodyPost_ret (results_tmp Tryz.results103 _ _ _) rfl ⟨HK.out, .inl ⟨rfl, HR.out, _, rfl, rfl⟩⟩
        · rw [if_neg hx] at hg
          go_upto_region 7 with fail; refine wp_region_lit ?_
          refine qaa (qad (v := b8 X) rfl rfl) rfl ?_; (try simp only [Act.put, lyy])
          refine qaa (run_and8 (b := 128#8) rfl rfl rfl) rfl ?_; (try simp only [Act.put, lyy])
          refine qaa (run_neq8 (b := 0#8) (c := true) rfl rfl rfl (by rw [high8, if_neg hx]; rfl)) rfl ?_; (try simp only [Act.put, lyy])
          refine qab ?_
          go_upto_region 11 with fail; refine wp_region_lit ?_
          refine qaa (qa6 (a := j) (b := 1) rfl rfl rfl (by omega)) rfl ?_; (try simp only [Act.put, lyy])
          refine qaa (qad (v := .int .i64 ((j + 1 : Nat) : Int)) rfl rfl) rfl ?_; (try simp only [Act.put, lyy])
          refine qab ?_
          go_wp2_with fail
          exact ⟨⟨N, j + 1, q + 1, rfl, rfl, by omega, hN.out, by rw [HPS.out, show 6 - (j + 1) = k by omega]; exact hg, HK.out, HR.out⟩, by simp [intOf]; omega⟩
end Go.Proofs.YtcgbgmbnagmohaaGreat
namespace Go.Proofs.YtcgbgmbnagmohaaGreat
open Go.RowKit
set_option maxRecDepth 20000
attribute [local irreducible] wpList
structure Rm (u : World) (B p : Nat) (b : List (BitVec 8)) (q : Nat) (L : List (Nat × List Value)) (H : World → Prop) (a : World) : Prop where
  Bu : B ≤ u.heap.size
  rd : RdS B p b q a
  ex : ∃ w, w.heap.size = u.heap.size ∧ Kp p u w ∧ Ev w L [] (fun _ => True) H a
section
variable {u a a' : World} {B p q q' : Nat} {b : List (BitVec 8)} {L : List (Nat × List Value)} {H H0 : World → Prop}
theorem Rm.start (R : RdS B p b q u) : Rm u B p b q [] (fun _ => True) u := ⟨R.Bu, R, u, rfl, Kp.refl _ _, Ev.start fun _ _ => trivial⟩
theorem Rm.le (h : Rm u B p b q L H a) : q ≤ b.length := h.rd.le
theorem Rm.kp (h : Rm u B p b q L H a) : Kp p u a := by
  obtain ⟨hB, _, w, hz, hk, E⟩ := h
  exact hk.fresh E.bl (by rw [hz]; exact Nat.le_refl _)
theorem Rm.new (h : Rm u B p b q L H a) (m : List Value) (t : TypeId) : Rm u B p b q ((a.heap.size, m) :: L) H (a.alloc (.cells m.toArray t)) := by
  obtain ⟨hB, hr, w, hz, hk, E⟩ := h
  exact ⟨hB, hr.below ((Below.refl _ _).alloc (Nat.le_refl _) _), w, hz, hk, E.new m t⟩
theorem Rm.get (h : Rm u B p b q L H a) {i g : Nat} {m : List Value} (hi : L[i]? = some (g, m)) : Arr g m a := h.ex.elim fun _ h => h.2.2.get hi
theorem Rm.put (h : Rm u B p b q L H a) (i : Nat) {g : Nat} {l m : List Value} (hi : L[i]? = some (g, l)) (hm : m.length = l.length) : Rm u B p b q (L.set i (g, m)) H (a.setCells g 0 m) := by
  obtain ⟨hB, hr, w, hz, hk, E⟩ := h
  have hg : w.heap.size ≤ g := (E.mv.all (g, l) (List.mem_of_getElem? hi)).1
  exact ⟨hB, hr.step (qbe (by omega) m 0 (Below.refl _ a)), w, hz, hk, E.put i hi hm⟩
theorem Rm.call (h : Rm u B p b q L H a) (k : Kp p a a') (hr : RdS B p b q' a') (h0 : Fro a.heap.size H0 a') : Rm u B p b q' L (fun V => H0 V ∧ H V) a' := by
  obtain ⟨hB, hr0, w, hz, hk, E⟩ := h
  obtain ⟨w', e1, e2, E'⟩ := E.kept (by have := hr0.pB; omega) k h0
  exact ⟨hB, hr, w', e1.trans hz, hk.trans e2, E'⟩
theorem Rm.tell (h : Rm u B p b q L H a) : Fro u.heap.size H a := by
  obtain ⟨_, _, w, hz, _, E⟩ := h
  rw [← hz]
  exact E.tell
theorem Rm.panic (h : Rm u B p b q L H a) (k : Kp p a a') : Kp p u a' := h.kp.trans k
end
structure Rg (u : World) (B p : Nat) (b : List (BitVec 8)) (i : Nat) (e : TypeId) (z : Nat) (v : Value) (n : Nat) (cs : List Value) (H : World → Prop) (a : World) : Prop where
  Bu : B ≤ u.heap.size
  rd : RdS B p b i a
  ex : ∃ w, w.heap.size = u.heap.size ∧ Kp p u w ∧ Gw w [] e z v n cs (fun _ => True) H a
section
variable {u a a' : World} {B p i i' : Nat} {b : List (BitVec 8)} {e : TypeId} {z n : Nat} {v : Value} {cs : List Value} {H H0 : World → Prop}
theorem Rg.start (R : RdS B p b i u) (e : TypeId) (z : Nat) : Rg u B p b i e z (.slice none 0 0) 0 [] (fun _ => True) u := ⟨R.Bu, R, u, rfl, Kp.refl _ _, Gw.start (Ev.start fun _ _ => trivial) e z⟩
theorem Rg.kp (h : Rg u B p b i e z v n cs H a) : Kp p u a := by
  obtain ⟨hB, _, w, hz, hk, E⟩ := h
  exact hk.fresh E.bl (by rw [hz]; exact Nat.le_refl _)
theorem Rg.call (h : Rg u B p b i e z v n cs H a) (k : Kp p a a') (hr : RdS B p b i' a') (h0 : Fro a.heap.size H0 a') : Rg u B p b i' e z v n cs (fun V => H0 V ∧ H V) a' := by
  obtain ⟨hB, hr0, w, hz, hk, E⟩ := h
  obtain ⟨w', e1, e2, E'⟩ := E.kept (by have := hr0.pB; omega) k h0
  exact ⟨hB, hr, w', e1.trans hz, hk.trans e2, E'⟩
theorem Rg.below (h : Rg u B p b i e z v n cs H a) (hb : Below a.heap.size a a') : Rg u B p b i e z v n cs H a' := by
  obtain ⟨hB, hr, w, hz, hk, E⟩ := h
  exact ⟨hB, hr.below hb, w, hz, hk, E.below hb⟩
theorem Rg.know (h : Rg u B p b i e z v n cs H a) (hH : ∀ V, H V → H0 V) : Rg u B p b i e z v n cs H0 a := by
  obtain ⟨hB, hr, w, hz, hk, E⟩ := h
  exact ⟨hB, hr, w, hz, hk, E.know hH⟩
theorem Rg.tell (h : Rg u B p b i e z v n cs H a) : Fro u.heap.size (fun V => V.ownsRow u.heap.size e z v n cs ∧ H V) a := by
  obtain ⟨_, _, w, hz, _, E⟩ := h
  have := E.done.tell
  rw [hz] at this
  exact this
theorem run_growZ {w : World} {L : List (Nat × List Value)} {F : World → Prop} {o : Oper} {c : Act} {s x : Operand} {t : TypeId} {bw : Nat} {zv : Value} (ho : o.op = .call { callee := .builtin .append, args := #[s, x], argTypes := #[t, t] })
    (ht : Tryz.prog.underlying t = some (.slice e)) (hi : (Tryz.prog.info? e).map (fun i => (i.size, i.bytes, i.zero)) = some (z, bw, some zv)) (hzs : zv.cells.size = z) (hz : 0 < z)
    (hs : c.eval s = v) {g f k : Nat} {m : List Value} (hx : c.eval x = .slice (some ⟨g, f, none⟩) 1 k) (hr : a.rangeAt g f m) (hl : m.length = z) (h1 : One m)
    (hn : n < 100000) (hbw : bw ≤ 1000000) (G : Gw w L e z v n cs F H a) :
    ∃ v' a', (execOp c.eval o).run Tryz.prog a = .ok (.value v') a' ∧ Gw w L e z v' (n + 1) (cs ++ m) F H a' ∧ Below w.heap.size a a' := by
  obtain ⟨inf, q1, q2⟩ := Option.map_eq_some_iff.1 hi
  obtain ⟨e1, e2, e3⟩ : inf.size = z ∧ inf.bytes = bw ∧ inf.zero = some zv := by simpa using q2
  have hc : ∀ j w', m[j]? = some w' → a.cell? ((⟨g, f, none⟩ : Addr).add j) = some w' := fun j w' hw => by rw [Addr.add_mid]; exact hr j w' hw
  have hby : (n + 1) * bw ≤ 140737488355328 := Nat.le_trans (Nat.mul_le_mul (show n + 1 ≤ 100000 by omega) hbw) (by omega)
  obtain ⟨v', w', hrun, h3, h4, _⟩ := run_append_own (P := Tryz.prog) a w.heap.size t o.type e inf zv z bw ht q1 e3 e1 e2 hzs hz v n cs G.row ⟨g, f, none⟩ 1 k m (by rw [hl, Nat.one_mul]) hc h1 (by unfold maxLen; omega) hby G.bl.size
  have hw := append_where (P := Tryz.prog) w.heap.size t o.type e inf zv z bw ht q1 e3 e1 e2 hzs hz v n cs G.row ⟨g, f, none⟩ 1 k m (by rw [hl, Nat.one_mul]) hc h1 (by unfold maxLen; omega) hby (by omega) hrun
  refine ⟨v', w', ?_, G.grown h3 h4 hw, below_grown h4 (fun k hk => (qax G.row hk).1) G.bl.size⟩
  unfold execOp
  simp [ho, resolve, invoke, builtin, hs, hx, hrun, Result.andThen]
theorem qcw {ops : Array Oper} {Q : Exit → Act → World → Prop} {rest : List Oper} {o : Oper} {c : Act} {s x : Operand} {t : TypeId} {bw : Nat} {zv : Value} (hg : o.guard = none) (ho : o.op = .call { callee := .builtin .append, args := #[s, x], argTypes := #[t, t] })
    (ht : Tryz.prog.underlying t = some (.slice e)) (hi : (Tryz.prog.info? e).map (fun i => (i.size, i.bytes, i.zero)) = some (z, bw, some zv)) (hzs : zv.cells.size = z) (hz : 0 < z)
    (hs : c.eval s = v) {g f k : Nat} {m : List Value} (hx : c.eval x = .slice (some ⟨g, f, none⟩) 1 k) (hr : a.rangeAt g f m) (hl : m.length = z) (h1 : One m)
    (hn : n < 100000) (hbw : bw ≤ 1000000) (G : Rg u B p b i e z v n cs H a)
    (h : ∀ v' a', Rg u B p b i e z v' (n + 1) (cs ++ m) H a' → wpList Tryz.prog ops Q rest (c.put o.dst v') a') : wpList Tryz.prog ops Q (o :: rest) c a := by
  obtain ⟨hB, hr0, w, hwz, hk, E⟩ := G
  obtain ⟨v', a', h2, h3, h4⟩ := run_growZ ho ht hi hzs hz hs hx hr hl h1 hn hbw E
  exact qaa h2 hg (h v' a' ⟨hB, hr0.step (h4.mono (by omega)), w, hwz, hk, h3⟩)
end
theorem qbu {b : List (BitVec 8)} {most : Int} {i : Nat} {e : Int} (h : e ≠ 0) : (nM b most (i, e)).1 = (i, e) := by unfold nM gn; simp only [if_neg h]
theorem qcm {n : Nat} {b : List (BitVec 8)} {i : Nat} {e : Int} (h : e ≠ 0) : (kM n b (i, e)).1 = (i, e) := by
  have e1 : tkE b.length i e n = e := by unfold tkE; rw [if_neg (fun h2 => h h2.1)]
  unfold kM tkI
  simp only [e1, if_neg h]
theorem trM_stay {b : List (BitVec 8)} {i : Nat} {e : Int} (h : e ≠ 0) : (trM b (i, e)).1 = (i, e) := by
  have e1 : tkE b.length i e 1 = e := by unfold tkE; rw [if_neg (fun h2 => h h2.1)]
  unfold trM tkI
  simp only [e1, if_neg h]
theorem byM_stay {b : List (BitVec 8)} {i : Nat} {e : Int} (h : e ≠ 0) : (byM b (i, e)).1 = (i, e) := by
  have e0 := qbu (b := b) (most := 60000) (i := i) h
  have e1 : ∀ n, tkE b.length i e n = e := fun n => by unfold tkE; rw [if_neg (fun h2 => h h2.1)]
  unfold byM tkI
  simp only [e0, e1, if_neg h]
theorem rows_stay {α : Type} {b : List (BitVec 8)} (g : Nat × Int → (Nat × Int) × α) {i : Nat} {e : Int} (h : e ≠ 0) : (rowsM g (nM b 60000 (i, e)).2.toNat (nM b 60000 (i, e)).1).1 = (i, e) := by
  rw [qbu h, qcd _ _ h]
theorem pkM_stay {b : List (BitVec 8)} {i : Nat} {e : Int} (h : e ≠ 0) : (pkM b (i, e)).1 = (i, e) := by
  show (kM 32 b (nM b 1099511627776 (i, e)).1).1 = _
  rw [qbu h, qcm h]
theorem hdM_stay {b : List (BitVec 8)} {i : Nat} {e : Int} (h : e ≠ 0) : (hdM b (i, e)).1 = (i, e) := by
  show (nM b 1099511627776 (nM b 1099511627776 (kM 32 b (i, e)).1).1).1 = _
  rw [qcm h, qbu h, qbu h]
theorem psM_stay {b : List (BitVec 8)} {i : Nat} {e : Int} (h : e ≠ 0) : (psM b (i, e)).1 = (i, e) := rows_stay _ h
theorem enM_stay {b : List (BitVec 8)} {i : Nat} {e : Int} (h : e ≠ 0) : (enM b (i, e)).1 = (i, e) := rows_stay _ h
theorem lsM_stay {b : List (BitVec 8)} {i : Nat} {e : Int} (h : e ≠ 0) : (lsM b (i, e)).1 = (i, e) := by
  show (kM 64 b (enM b (kM 32 b (nM b 1099511627776 (nM b 1099511627776 (i, e)).1).1).1).1).1 = _
  rw [qbu h, qbu h, qcm h, enM_stay h, qcm h]
theorem buM_stay {b : List (BitVec 8)} {i : Nat} {e : Int} (h : e ≠ 0) : (buM b (i, e)).1 = (i, e) := by
  show (psM b (kM 64 b (pkM b (kM 32 b (kM 32 b (nM b 1099511627776 (nM b 1099511627776 (i, e)).1).1).1).1).1).1).1 = _
  rw [qbu h, qbu h, qcm h, qcm h, pkM_stay h, qcm h, psM_stay h]
theorem evM_stay {b : List (BitVec 8)} {i : Nat} {e : Int} (h : e ≠ 0) : (evM b (i, e)).1 = (i, e) := by
  show (byM b (hdM b (nM b 1099511627776 (nM b 1099511627776 (kM 32 b (trM b (nM b 1099511627776 (nM b 1099511627776 (i, e)).1).1).1).1).1).1).1).1 = _
  rw [qbu h, qbu h, trM_stay h, qcm h, qbu h, qbu h, hdM_stay h, byM_stay h]
theorem evsM_stay {b : List (BitVec 8)} {i : Nat} {e : Int} (h : e ≠ 0) : (evsM b (i, e)).1 = (i, e) := rows_stay _ h
theorem itsM_stay {b : List (BitVec 8)} {i : Nat} {e : Int} (h : e ≠ 0) : (itsM b (i, e)).1 = (i, e) := rows_stay _ h
theorem slsM_stay {b : List (BitVec 8)} {i : Nat} {e : Int} (h : e ≠ 0) : (slsM b (i, e)).1 = (i, e) := rows_stay _ h
theorem tkM_stay {b : List (BitVec 8)} {i : Nat} {e : Int} (h : e ≠ 0) : (tkM b (i, e)).1 = (i, e) := rows_stay _ h
theorem gnL_upto {b : List (BitVec 8)} {most : Int} (hm : most ≤ 1099511627776) : ∀ (k i n t : Nat), gnL b most k i n t = if (gnL b 1099511627776 k i n t).2.1 = 0 ∧ most < (gnL b 1099511627776 k i n t).2.2 then ((gnL b 1099511627776 k i n t).1, 11, 0) else gnL b 1099511627776 k i n t
  | 0, i, n, t => by unfold gnL; rw [if_neg (fun h => nz11 h.1)]
  | k + 1, i, n, t => by
    unfold gnL
    by_cases h1 : b.length ≤ i
    · simp only [if_pos h1]; rw [if_neg (fun h => nz10 h.1)]
    · simp only [if_neg h1]
      by_cases h2 : (b.getD i 0).toNat < 128
      · simp only [if_pos h2]
        generalize n + (b.getD i 0).toNat % 128 * t = N
        by_cases h3 : (b.getD i 0).toNat = 0 ∧ k < 5
        · have a1 : ((b.getD i 0).toNat = 0 ∧ k < 5) ∨ most < (N : Int) := .inl h3
          have a2 : ((b.getD i 0).toNat = 0 ∧ k < 5) ∨ (1099511627776 : Int) < (N : Int) := .inl h3
          simp only [if_pos a1, if_pos a2]
          rw [if_neg (fun h => nz11 h.1)]
        · by_cases h4 : (1099511627776 : Int) < (N : Int)
          · have a1 : ((b.getD i 0).toNat = 0 ∧ k < 5) ∨ most < (N : Int) := .inr (by omega)
            have a2 : ((b.getD i 0).toNat = 0 ∧ k < 5) ∨ (1099511627776 : Int) < (N : Int) := .inr h4
            simp only [if_pos a1, if_pos a2]
            rw [if_neg (fun h => nz11 h.1)]
          · have a2 : ¬ (((b.getD i 0).toNat = 0 ∧ k < 5) ∨ (1099511627776 : Int) < (N : Int)) := fun h => h.elim h3 h4
            simp only [if_neg a2]
            by_cases h5 : most < (N : Int)
            · have a1 : ((b.getD i 0).toNat = 0 ∧ k < 5) ∨ most < (N : Int) := .inr h5
              simp only [if_pos a1]
              rw [if_pos ⟨trivial, h5⟩]
            · have a1 : ¬ (((b.getD i 0).toNat = 0 ∧ k < 5) ∨ most < (N : Int)) := fun h => h.elim h3 h5
              simp only [if_neg a1]
              rw [if_neg (fun h => h5 h.2)]
      · simp only [if_neg h2]
        exact gnL_upto hm k _ _ _
theorem nM_upto {b : List (BitVec 8)} {most : Int} (hm : most ≤ 1099511627776) {i i0 : Nat} {e0 N : Int} (h : nM b 1099511627776 (i, 0) = ((i0, e0), N)) : nM b most (i, 0) = if e0 = 0 ∧ most < N then ((i0, 11), 0) else ((i0, e0), N) := by
  have h2 := gnL_upto (b := b) hm 6 i 0 1
  simp only [nM, gn, if_pos, Prod.mk.injEq] at h ⊢
  obtain ⟨⟨h3, h4⟩, h5⟩ := h
  rw [h2, h3, h4, h5]
  split <;> simp [*]
theorem tk_nx {b : List (BitVec 8)} {i n : Nat} (hi : i ≤ b.length) : (tkI b.length i 0 n, tkE b.length i 0 n) = nxM b n i := by
  have e1 : tkE b.length i 0 n = if b.length - i < n then 10 else 0 := by
    unfold tkE
    by_cases h : b.length - i < n
    · rw [if_pos h, if_pos ⟨rfl, by omega⟩]
    · rw [if_neg h, if_neg (fun h3 => h (by omega))]
  unfold tkI nxM
  rw [e1]
  by_cases h : b.length - i < n
  · simp only [if_pos h, if_neg nz10]
  · simp only [if_neg h, if_pos]
end Go.Proofs.YtcgbgmbnagmohaaGreat
namespace Go.Proofs.YtcgbgmbnagmohaaGreat
open Go.RowKit
set_option maxRecDepth 20000
attribute [local irreducible] wpList
theorem run_s2aR {w : World} {ρ : Operand → Value} {o : Oper} {t e : TypeId} {x : Operand} {n len c : Nat} {a : Option Addr} (ho : o.op = .sliceToArrayPointer t x) (ht : Tryz.prog.underlying t = some (.array n e)) (hx : ρ x = .slice a len c) (hn : n ≤ len) : (execOp ρ o).run Tryz.prog w = .ok (.value (.pointer a)) w := by
  unfold execOp
  simp only [ho, hx, Sem.run_bind, run_arrayAt (P := Tryz.prog) (w := w) t e n a len c ht hn]
  simp [go_sem]
theorem enters_rnup : Enters 155 := qan Tryz.func155 (by kernel_rfl) rfl
set_option maxHeartbeats 8000000 in
theorem rnup_any (B p : Nat) (b : List (BitVec 8)) (i i' : Nat) (e' : Int) (x most : Int) (hm : most ≤ 1099511627776) (u : World) (H : nM b most (i, 0) = ((i', e'), x)) (R : RdS B p b i u) : Calls Tryz.prog 155 #[.pointer (some ⟨p, 0, none⟩), .int .i64 most] u (RPost B p b u (i', e') fun v _ => v = .int .i64 x) := by
  rcases HN : nM b 1099511627776 (i, 0) with ⟨⟨i0, e0⟩, N⟩
  have HU := nM_upto hm HN
  rw [H] at HU
  have HH := Lib.hid HU
  have HR := Lib.hid R
  clear H HU R
  go_enter Tryz.func155, Tryz.ntmps155
  go_upto_region 0 with fail; refine wp_region_lit ?_
  refine qaa (qak (v := .int .i64 0) rfl rfl) rfl ?_; (try simp only [Act.put, lyy])
  refine qab ?_
  go_upto_region 1 with fail; refine wp_region_lit ?_
  refine qaa (qad (v := .pointer (some ⟨p, 0, none⟩)) rfl rfl) rfl ?_; (try simp only [Act.put, lyy])
  refine qaj (qaq qbh rfl rfl rfl) rfl (qb2 B p b i i0 e0 N _ HN HR.out) (fun v a1 hs hk hr hT => ?_) (fun a1 hs hk => ?pana1)
  case pana1 =>
    go_wp2_with fail
    have q := HH.out
    rw [if_neg (fun h => hs h.1)] at q
    simp only [Prod.mk.injEq] at q
    obtain ⟨⟨rfl, rfl⟩, rfl⟩ := q
    exact ⟨rfl, hk, .inr ⟨hs, rfl⟩⟩
  (try simp only [Act.put, lyy])
  subst hT
  replace hs : e0 = 0 := hs
  subst hs
  replace HR := Lib.hid hr
  have HK := Lib.hid hk
  clear hr hk
  refine qaa (qak (v := .int .i64 N) rfl rfl) rfl ?_; (try simp only [Act.put, lyy])
  refine qab ?_
  by_cases hlt : most < N
  · have q := HH.out
    rw [if_pos ⟨rfl, hlt⟩] at q
    simp only [Prod.mk.injEq] at q
    obtain ⟨⟨rfl, rfl⟩, rfl⟩ := q
    go_upto_region 2 with fail; refine wp_region_lit ?_
    refine qaa (qad (v := .int .i64 N) rfl rfl) rfl ?_; (try simp only [Act.put, lyy])
    refine qaa (qad (v := .int .i64 most) rfl rfl) rfl ?_; (try simp only [Act.put, lyy])
    refine qaa (qbi (c := true) rfl rfl rfl (decide_eq_true hlt)) rfl ?_; (try simp only [Act.put, lyy])
    refine qab ?_
    go_upto_region 3 with fail; refine wp_region_lit ?_
    refine qaa (run_bld (cells := #[]) rfl (by kernel_rfl)) rfl ?_; (try simp only [Act.put, lyy])
    refine qaa (run_mki (v := .agg #[]) rfl (by kernel_rfl) rfl) rfl ?_; (try simp only [Act.put, lyy])
    refine qb3 rfl rfl rfl ?_
    go_wp2_with fail
    exact ⟨rfl, HK.out, .inr ⟨nz11, rfl⟩⟩
  · have q := HH.out
    rw [if_neg (fun h => hlt h.2)] at q
    simp only [Prod.mk.injEq] at q
    go_upto_region 2 with fail; refine wp_region_lit ?_
    refine qaa (qad (v := .int .i64 N) rfl rfl) rfl ?_; (try simp only [Act.put, lyy])
    refine qaa (qad (v := .int .i64 most) rfl rfl) rfl ?_; (try simp only [Act.put, lyy])
    refine qaa (qbi (c := false) rfl rfl rfl (decide_eq_false hlt)) rfl ?_; (try simp only [Act.put, lyy])
    refine qab ?_
    obtain ⟨⟨rfl, rfl⟩, rfl⟩ := q
    go_upto_region 4 with fail; refine wp_region_lit ?_
    refine qaa (qad (v := .int .i64 x) rfl rfl) rfl ?_; (try simp only [Act.put, lyy])
    refine qaa (qak (v := .int .i64 x) rfl rfl) rfl ?_; (try simp only [Act.put, lyy])
    refine qab ?_
    go_wp2_with fail
    exact bodyPost_ret (results_tmp Tryz.results155 _ _ _) rfl ⟨HK.out, .inl ⟨rfl, HR.out, _, rfl, rfl⟩⟩
theorem enters_rsml : Enters 122 := qan Tryz.func122 (by kernel_rfl) rfl
set_option maxHeartbeats 8000000 in
theorem rsml_any (B p : Nat) (b : List (BitVec 8)) (i i' : Nat) (e' : Int) (x : Int) (u : World) (H : nM b 255 (i, 0) = ((i', e'), x)) (R : RdS B p b i u) : Calls Tryz.prog 122 #[.pointer (some ⟨p, 0, none⟩)] u (RPost B p b u (i', e') fun v _ => v = .int .i64 x) := by
  have HR := Lib.hid R
  clear R
  go_enter Tryz.func122, Tryz.ntmps122
  go_upto_region 0 with fail; refine wp_region_lit ?_
  refine qaa (qak (v := .int .i64 0) rfl rfl) rfl ?_; (try simp only [Act.put, lyy])
  refine qab ?_
  go_upto_region 1 with fail; refine wp_region_lit ?_
  refine qaa (qad (v := .pointer (some ⟨p, 0, none⟩)) rfl rfl) rfl ?_; (try simp only [Act.put, lyy])
  refine qaj (qaf enters_rnup rfl rfl rfl rfl) rfl (rnup_any B p b i i' e' x 255 (by omega) _ H HR.out) (fun v a1 hs hk hr hT => ?_) (fun a1 hs hk => ?pana1)
  case pana1 =>
    go_wp2_with fail
    exact ⟨rfl, hk, .inr ⟨hs, rfl⟩⟩
  (try simp only [Act.put, lyy])
  subst hT
  have HK := Lib.hid hk
  replace HR := Lib.hid hr
  clear hk hr
  refine qaa (qak (v := .int .i64 x) rfl rfl) rfl ?_; (try simp only [Act.put, lyy])
  refine qab ?_
  go_wp2_with fail
  exact bodyPost_ret (results_tmp Tryz.results122 _ _ _) rfl ⟨HK.out, .inl ⟨(by first | exact hs | rfl), HR.out, _, rfl, rfl⟩⟩
theorem qcr : Enters 154 := qan Tryz.func154 (by kernel_rfl) rfl
set_option maxHeartbeats 8000000 in
theorem rcnt_any (B p : Nat) (b : List (BitVec 8)) (i i' : Nat) (e' : Int) (x : Int) (u : World) (H : nM b 60000 (i, 0) = ((i', e'), x)) (R : RdS B p b i u) : Calls Tryz.prog 154 #[.pointer (some ⟨p, 0, none⟩)] u (RPost B p b u (i', e') fun v _ => v = .int .i64 x) := by
  have HR := Lib.hid R
  clear R
  go_enter Tryz.func154, Tryz.ntmps154
  go_upto_region 0 with fail; refine wp_region_lit ?_
  refine qaa (qak (v := .int .i64 0) rfl rfl) rfl ?_; (try simp only [Act.put, lyy])
  refine qab ?_
  go_upto_region 1 with fail; refine wp_region_lit ?_
  refine qaa (qad (v := .pointer (some ⟨p, 0, none⟩)) rfl rfl) rfl ?_; (try simp only [Act.put, lyy])
  refine qaj (qaf enters_rnup rfl rfl rfl rfl) rfl (rnup_any B p b i i' e' x 60000 (by omega) _ H HR.out) (fun v a1 hs hk hr hT => ?_) (fun a1 hs hk => ?pana1)
  case pana1 =>
    go_wp2_with fail
    exact ⟨rfl, hk, .inr ⟨hs, rfl⟩⟩
  (try simp only [Act.put, lyy])
  subst hT
  have HK := Lib.hid hk
  replace HR := Lib.hid hr
  clear hk hr
  refine qaa (qak (v := .int .i64 x) rfl rfl) rfl ?_; (try simp only [Act.put, lyy])
  refine qab ?_
  go_wp2_with fail
  exact bodyPost_ret (results_tmp Tryz.results154 _ _ _) rfl ⟨HK.out, .inl ⟨(by first | exact hs | rfl), HR.out, _, rfl, rfl⟩⟩
theorem enters_rtru : Enters 114 := qan Tryz.func114 (by kernel_rfl) rfl
set_option maxHeartbeats 8000000 in
theorem rtru_any (B p : Nat) (b : List (BitVec 8)) (i i' : Nat) (e' : Int) (x : Bool) (u : World) (H : trM b (i, 0) = ((i', e'), x)) (R : RdS B p b i u) : Calls Tryz.prog 114 #[.pointer (some ⟨p, 0, none⟩)] u (RPost B p b u (i', e') fun v _ => v = .bool x) := by
  have HR := Lib.hid R
  have hle := R.le
  have hT0 := tk_nx (n := 1) hle
  simp only [trM] at H
  have hT1 := congrArg Prod.fst hT0
  have hT2 := congrArg Prod.snd hT0
  simp only at hT1 hT2
  rw [hT1, hT2] at H
  have HH := Lib.hid H
  clear H R hT1 hT2 hT0
  go_enter Tryz.func114, Tryz.ntmps114
  go_upto_region 0 with fail; refine wp_region_lit ?_
  refine qaa (qak (v := .bool false) rfl rfl) rfl ?_; (try simp only [Act.put, lyy])
  refine qab ?_
  go_upto_region 1 with fail; refine wp_region_lit ?_
  refine qaa (qad (v := .pointer (some ⟨p, 0, none⟩)) rfl rfl) rfl ?_; (try simp only [Act.put, lyy])
  refine qaj (qaf qc0 rfl rfl rfl rfl) rfl (rnext_any B p b i 1 _ HR.out) (fun v a1 hs hk hr hT => ?_) (fun a1 hs hk => ?pana1)
  case pana1 =>
    go_wp2_with fail
    have q := HH.out
    rw [if_neg hs] at q
    simp only [Prod.mk.injEq] at q
    obtain ⟨⟨q1, q2⟩, -⟩ := q
    exact ⟨rfl, hk, .inr ⟨by rw [← q2]; exact hs, by rw [← q2]⟩⟩
  (try simp only [Act.put, lyy])
  have hlt : i < b.length := by
    rcases Nat.lt_or_ge i b.length with h | h
    · exact h
    · rw [rnext_short hle (by omega)] at hs; exact absurd hs nz10
  rw [rnext_ok (by omega)] at hr
  have q := HH.out
  rw [if_pos hs] at q
  obtain ⟨av, cv, rfl, hS⟩ := hT
  rw [take_one b hlt] at hS
  obtain ⟨g, f, cc, hve, hgl, hrange⟩ := hS.adr (by simp)
  simp only [Value.slice.injEq] at hve
  obtain ⟨rfl, -, rfl⟩ := hve
  have HC : Hid (a1.cell? ⟨g, f + 0 * 1, none⟩ = some (b8 (b.getD i 0))) := Lib.hid (hrange 0 _ rfl)
  clear hS hrange HH hs
  have HK := Lib.hid hk
  replace HR := Lib.hid hr
  clear hk hr
  generalize b.getD i 0 = X at *
  refine qaa (run_ixs (i := 0) rfl Tryz.underlying22 (by kernel_rfl) rfl rfl (by omega)) rfl ?_; (try simp only [Act.put, lyy])
  refine qaa (qam (v := b8 X) rfl Tryz.underlying5 rfl rfl HC.out) rfl ?_; (try simp only [Act.put, lyy])
  refine qaa (qak (v := b8 X) rfl rfl) rfl ?_; (try simp only [Act.put, lyy])
  refine qab ?_
  by_cases h1 : 1 < X.toNat
  · rw [if_pos h1] at q
    simp only [Prod.mk.injEq] at q
    obtain ⟨⟨rfl, rfl⟩, rfl⟩ := q
    go_upto_region 2 with fail; refine wp_region_lit ?_
    refine qaa (qad (v := b8 X) rfl rfl) rfl ?_; (try simp only [Act.put, lyy])
    refine qaa (qbi (a := (X.toNat : Int)) (b := 1) (c := true) rfl rfl rfl (decide_eq_true (by omega))) rfl ?_; (try simp only [Act.put, lyy])
    refine qab ?_
    go_upto_region 3 with fail; refine wp_region_lit ?_
    refine qaa (run_bld (cells := #[]) rfl (by kernel_rfl)) rfl ?_; (try simp only [Act.put, lyy])
    refine qaa (run_mki (v := .agg #[]) rfl (by kernel_rfl) rfl) rfl ?_; (try simp only [Act.put, lyy])
    refine qb3 rfl rfl rfl ?_
    go_wp2_with fail
    exact ⟨rfl, HK.out, .inr ⟨nz11, rfl⟩⟩
  · rw [if_neg h1] at q
    simp only [Prod.mk.injEq] at q
    obtain ⟨⟨rfl, rfl⟩, hy⟩ := q
    go_upto_region 2 with fail; refine wp_region_lit ?_
    refine qaa (qad (v := b8 X) rfl rfl) rfl ?_; (try simp only [Act.put, lyy])
    refine qaa (qbi (a := (X.toNat : Int)) (b := 1) (c := false) rfl rfl rfl (decide_eq_false (by omega))) rfl ?_; (try simp only [Act.put, lyy])
    refine qab ?_
    go_upto_region 4 with fail; refine wp_region_lit ?_
    refine qaa (qad (v := b8 X) rfl rfl) rfl ?_; (try simp only [Act.put, lyy])
    refine qaa (qbp (a := (X.toNat : Int)) (b := 1) (c := x) rfl rfl rfl (by rw [← hy]; by_cases h : X.toNat = 1 <;> simp [h] <;> omega)) rfl ?_; (try simp only [Act.put, lyy])
    refine qaa (qak (v := .bool x) rfl rfl) rfl ?_; (try simp only [Act.put, lyy])
    refine qab ?_
    go_wp2_with fail
    exact bodyPost_ret (results_tmp Tryz.results114 _ _ _) rfl ⟨HK.out, .inl ⟨rfl, HR.out, _, rfl, rfl⟩⟩
theorem qcq : Enters 104 := qan Tryz.func104 (by kernel_rfl) rfl
set_option maxHeartbeats 8000000 in
theorem rkey_any (B p : Nat) (b : List (BitVec 8)) (i i' : Nat) (e' : Int) (x : List (BitVec 8)) (u : World) (H : kM 32 b (i, 0) = ((i', e'), x)) (R : RdS B p b i u) : Calls Tryz.prog 104 #[.pointer (some ⟨p, 0, none⟩)] u (RPost B p b u (i', e') fun v _ => v = .agg (x.map b8).toArray ∧ x.length = 32) := by
  have hle := R.le
  have hT0 := tk_nx (n := 32) hle
  have hlen : x.length = 32 := by have q := kM_len (n := 32) (b := b) (s := (i, 0)) hle; rw [H] at q; exact q
  have HX : Hid ((nxM b 32 i).2 = 0 → x = (b.drop i).take 32) := Lib.hid (by intro h; have hT2 : tkE b.length i 0 32 = (nxM b 32 i).2 := congrArg Prod.snd hT0; simp only [kM, gkX, Prod.mk.injEq] at H; rw [hT2, if_pos h] at H; exact H.2.symm)
  have HS : Hid (nxM b 32 i = (i', e')) := Lib.hid (by rw [← hT0]; simp only [kM, Prod.mk.injEq] at H; rw [H.1.1, H.1.2])
  have E := Lib.hid (Rm.start R)
  clear H hT0 R
  go_enter Tryz.func104, Tryz.ntmps104
  go_upto_region 0 with fail; refine wp_region_lit ?_
  refine qaa (qa3 (vs := z8 32) rfl (by kernel_rfl)) rfl ?_; (try simp only [Act.put, lyy])
  replace E := Lib.hid (E.out.new (z8 32) 27)
  generalize u.alloc (.cells (z8 32).toArray 27) = a1 at *
  obtain ⟨g1, hg1⟩ : ∃ g1, g1 = u.heap.size := ⟨_, rfl⟩
  rw [← hg1] at E ⊢
  clear hg1
  refine qab ?_
  go_upto_region 1 with fail; refine wp_region_lit ?_
  refine qaa (qad (v := .pointer (some ⟨p, 0, none⟩)) rfl rfl) rfl ?_; (try simp only [Act.put, lyy])
  refine qaj (qaf qc0 rfl rfl rfl rfl) rfl (rnext_any B p b i 32 _ E.out.rd) (fun v a2 hs hk hr hT => ?_) (fun a2 hs hk => ?pana2)
  case pana2 =>
    go_wp2_with fail
    rw [HS.out] at hs ⊢
    exact ⟨rfl, E.out.panic hk, .inr ⟨hs, rfl⟩⟩
  (try simp only [Act.put, lyy])
  have hx := HX.out hs
  obtain ⟨av, cv, rfl, hS⟩ := hT
  rw [← hx] at hS
  rw [HS.out] at hr hs
  replace E := Lib.hid (E.out.call hk hr (H0 := fun _ => True) fun _ _ => trivial)
  clear hk hr hx
  obtain ⟨g, f, cc, hve, hgl, hrange⟩ := hS.adr (by omega)
  rw [hlen] at hve
  simp only [Value.slice.injEq] at hve
  obtain ⟨rfl, -, rfl⟩ := hve
  have HC := Lib.hid hrange
  clear hS hrange
  refine qaa (run_s2aR rfl Tryz.underlying27 rfl (by omega)) rfl ?_; (try simp only [Act.put, lyy])
  refine qaa (qat (vs := x.map b8) rfl Tryz.underlying27 rfl (szR (by rw [List.length_map, hlen]) (by kernel_rfl)) rfl HC.out) rfl ?_; (try simp only [Act.put, lyy])
  refine qal (qa0 (vs := x.map b8) rfl (szR (by rw [List.length_map, hlen]) (by kernel_rfl)) rfl rfl (One.all (One.b8 _)) ((E.out.get (i := 0) rfl).thereM (by have q1 : (x.map b8).length = 32 := (by rw [List.length_map, hlen]); have q2 := qac 32; omega))) rfl rfl ?_
  replace E := Lib.hid (E.out.put 0 rfl (m := x.map b8) (by rw [qac, List.length_map, hlen]))
  replace E := Lib.hid (show Rm _ _ _ _ _ [(g1, x.map b8)] _ _ from E.out)
  generalize a2.setCells g1 0 (x.map b8) = a3 at *
  refine qab ?_
  go_wp2_with fail
  exact bodyPost_ret (v := .agg (x.map b8).toArray) (qbj Tryz.results104 rfl Tryz.underlying27 rfl (szR (by rw [List.length_map, hlen]) (by kernel_rfl)) (E.out.get (i := 0) rfl).range) rfl ⟨E.out.kp, .inl ⟨(by first | exact hs | rfl), E.out.rd, _, rfl, (by first | exact ⟨rfl, hlen⟩ | rfl | simp [hlen])⟩⟩
theorem enters_rsig : Enters 107 := qan Tryz.func107 (by kernel_rfl) rfl
set_option maxHeartbeats 8000000 in
theorem rsig_any (B p : Nat) (b : List (BitVec 8)) (i i' : Nat) (e' : Int) (x : List (BitVec 8)) (u : World) (H : kM 64 b (i, 0) = ((i', e'), x)) (R : RdS B p b i u) : Calls Tryz.prog 107 #[.pointer (some ⟨p, 0, none⟩)] u (RPost B p b u (i', e') fun v _ => v = .agg (x.map b8).toArray ∧ x.length = 64) := by
  have hle := R.le
  have hT0 := tk_nx (n := 64) hle
  have hlen : x.length = 64 := by have q := kM_len (n := 64) (b := b) (s := (i, 0)) hle; rw [H] at q; exact q
  have HX : Hid ((nxM b 64 i).2 = 0 → x = (b.drop i).take 64) := Lib.hid (by intro h; have hT2 : tkE b.length i 0 64 = (nxM b 64 i).2 := congrArg Prod.snd hT0; simp only [kM, gkX, Prod.mk.injEq] at H; rw [hT2, if_pos h] at H; exact H.2.symm)
  have HS : Hid (nxM b 64 i = (i', e')) := Lib.hid (by rw [← hT0]; simp only [kM, Prod.mk.injEq] at H; rw [H.1.1, H.1.2])
  have E := Lib.hid (Rm.start R)
  clear H hT0 R
  go_enter Tryz.func107, Tryz.ntmps107
  go_upto_region 0 with fail; refine wp_region_lit ?_
  refine qaa (qa3 (vs := z8 64) rfl (by kernel_rfl)) rfl ?_; (try simp only [Act.put, lyy])
  replace E := Lib.hid (E.out.new (z8 64) 30)
  generalize u.alloc (.cells (z8 64).toArray 30) = a1 at *
  obtain ⟨g1, hg1⟩ : ∃ g1, g1 = u.heap.size := ⟨_, rfl⟩
  rw [← hg1] at E ⊢
  clear hg1
  refine qab ?_
  go_upto_region 1 with fail; refine wp_region_lit ?_
  refine qaa (qad (v := .pointer (some ⟨p, 0, none⟩)) rfl rfl) rfl ?_; (try simp only [Act.put, lyy])
  refine qaj (qaf qc0 rfl rfl rfl rfl) rfl (rnext_any B p b i 64 _ E.out.rd) (fun v a2 hs hk hr hT => ?_) (fun a2 hs hk => ?pana2)
  case pana2 =>
    go_wp2_with fail
    rw [HS.out] at hs ⊢
    exact ⟨rfl, E.out.panic hk, .inr ⟨hs, rfl⟩⟩
  (try simp only [Act.put, lyy])
  have hx := HX.out hs
  obtain ⟨av, cv, rfl, hS⟩ := hT
  rw [← hx] at hS
  rw [HS.out] at hr hs
  replace E := Lib.hid (E.out.call hk hr (H0 := fun _ => True) fun _ _ => trivial)
  clear hk hr hx
  obtain ⟨g, f, cc, hve, hgl, hrange⟩ := hS.adr (by omega)
  rw [hlen] at hve
  simp only [Value.slice.injEq] at hve
  obtain ⟨rfl, -, rfl⟩ := hve
  have HC := Lib.hid hrange
  clear hS hrange
  refine qaa (run_s2aR rfl Tryz.underlying30 rfl (by omega)) rfl ?_; (try simp only [Act.put, lyy])
  refine qaa (qat (vs := x.map b8) rfl Tryz.underlying30 rfl (szR (by rw [List.length_map, hlen]) (by kernel_rfl)) rfl HC.out) rfl ?_; (try simp only [Act.put, lyy])
  refine qal (qa0 (vs := x.map b8) rfl (szR (by rw [List.length_map, hlen]) (by kernel_rfl)) rfl rfl (One.all (One.b8 _)) ((E.out.get (i := 0) rfl).thereM (by have q1 : (x.map b8).length = 64 := (by rw [List.length_map, hlen]); have q2 := qac 64; omega))) rfl rfl ?_
  replace E := Lib.hid (E.out.put 0 rfl (m := x.map b8) (by rw [qac, List.length_map, hlen]))
  replace E := Lib.hid (show Rm _ _ _ _ _ [(g1, x.map b8)] _ _ from E.out)
  generalize a2.setCells g1 0 (x.map b8) = a3 at *
  refine qab ?_
  go_wp2_with fail
  exact bodyPost_ret (v := .agg (x.map b8).toArray) (qbj Tryz.results107 rfl Tryz.underlying30 rfl (szR (by rw [List.length_map, hlen]) (by kernel_rfl)) (E.out.get (i := 0) rfl).range) rfl ⟨E.out.kp, .inl ⟨(by first | exact hs | rfl), E.out.rd, _, rfl, (by first | exact ⟨rfl, hlen⟩ | rfl | simp [hlen])⟩⟩
theorem enters_rtxt : Enters 123 := qan Tryz.func123 (by kernel_rfl) rfl
set_option maxHeartbeats 8000000 in
theorem rtxt_any (B p : Nat) (b : List (BitVec 8)) (i i' : Nat) (e' : Int) (x : List (BitVec 8)) (u : World) (H : byM b (i, 0) = ((i', e'), x)) (R : RdS B p b i u) : Calls Tryz.prog 123 #[.pointer (some ⟨p, 0, none⟩)] u (RPost B p b u (i', e') fun v _ => v = .string (strOf x)) := by
  rcases HN : nM b 60000 (i, 0) with ⟨⟨i0, e0⟩, N⟩
  have hn0 := nM_num (b := b) (most := 60000) (s := (i, 0)) (by omega)
  rw [HN] at hn0
  obtain ⟨n, hn⟩ : ∃ n : Nat, N = (n : Int) := ⟨N.toNat, by omega⟩
  subst hn
  have hnn : n ≤ 60000 := by have := hn0.2; simp only at this; omega
  clear hn0
  simp only [byM, HN, Int.toNat_natCast, Prod.mk.injEq] at H
  obtain ⟨⟨h1, h2⟩, h3⟩ := H
  have S1 : Hid (e0 ≠ 0 → i' = i0 ∧ e' = e0) := Lib.hid (by intro h; have q1 : tkE b.length i0 e0 n = e0 := (by unfold tkE; rw [if_neg (fun h2 => h h2.1)]); rw [q1] at h2; refine ⟨?_, h2.symm⟩; rw [← h1]; unfold tkI; rw [q1, if_neg h])
  have S2 : Hid (e0 = 0 → i0 ≤ b.length → nxM b n i0 = (i', e') ∧ (e' = 0 → x = (b.drop i0).take n)) := Lib.hid (by intro h hle; subst h; have q := tk_nx (n := n) hle; rw [h1, h2] at q; refine ⟨q.symm, fun h => ?_⟩; rw [h2, if_pos h] at h3; exact h3.symm)
  clear h1 h2 h3
  have HR := Lib.hid R
  clear R
  go_enter Tryz.func123, Tryz.ntmps123
  go_upto_region 0 with fail; refine wp_region_lit ?_
  refine qaa (qak (v := .string { data := #[] }) rfl rfl) rfl ?_; (try simp only [Act.put, lyy])
  refine qab ?_
  go_upto_region 1 with fail; refine wp_region_lit ?_
  refine qaa (qad (v := .pointer (some ⟨p, 0, none⟩)) rfl rfl) rfl ?_; (try simp only [Act.put, lyy])
  refine qaa (qad (v := .pointer (some ⟨p, 0, none⟩)) rfl rfl) rfl ?_; (try simp only [Act.put, lyy])
  refine qaj (qaq qcr rfl rfl rfl) rfl (rcnt_any B p b i i0 e0 _ _ HN HR.out) (fun v a1 hs hk hr hT => ?_) (fun a1 hs hk => ?pana1)
  case pana1 =>
    go_wp2_with fail
    obtain ⟨-, rfl⟩ := S1.out hs
    exact ⟨rfl, hk, .inr ⟨hs, rfl⟩⟩
  (try simp only [Act.put, lyy])
  subst hT
  obtain ⟨hS1, hS2⟩ := S2.out hs hr.le
  replace HR := Lib.hid hr
  have HK := Lib.hid hk
  clear hk hr hs S1 S2
  refine qaj (qaf qc0 rfl rfl rfl rfl) rfl (rnext_any B p b i0 n _ HR.out) (fun v a2 hs hk hr hT => ?_) (fun a2 hs hk => ?pana2)
  case pana2 =>
    go_wp2_with fail
    rw [hS1] at hs
    (try rw [hS1])
    exact ⟨rfl, HK.out.trans hk, .inr ⟨hs, rfl⟩⟩
  (try simp only [Act.put, lyy])
  obtain ⟨av, cv, rfl, hSl⟩ := hT
  rw [hS1] at hs hr
  have hx := hS2 hs
  rw [← hx] at hSl
  replace HK := Lib.hid (HK.out.trans hk)
  replace HR := Lib.hid hr
  have HSl := Lib.hid hSl
  clear hk hr hSl hx hS1 hS2
  refine qaa (run_str rfl rfl HSl.out) rfl ?_; (try simp only [Act.put, lyy])
  refine qaa (qak (v := .string (strOf x)) rfl rfl) rfl ?_; (try simp only [Act.put, lyy])
  refine qab ?_
  go_wp2_with fail
  exact bodyPost_ret (results_tmp Tryz.results123 _ _ _) rfl ⟨HK.out, .inl ⟨(by first | exact hs | rfl), HR.out, _, rfl, rfl⟩⟩
theorem enters_rbyt : Enters 116 := qan Tryz.func116 (by kernel_rfl) rfl
set_option maxHeartbeats 8000000 in
theorem rbyt_any (B p : Nat) (b : List (BitVec 8)) (i i' : Nat) (e' : Int) (x : List (BitVec 8)) (u : World) (H : byM b (i, 0) = ((i', e'), x)) (R : RdS B p b i u) : Calls Tryz.prog 116 #[.pointer (some ⟨p, 0, none⟩)] u (RPost B p b u (i', e') fun v u' => ∃ a c, v = .slice a x.length c ∧ Fro u.heap.size (Sl (.slice a x.length c) x) u') := by
  rcases HN : nM b 60000 (i, 0) with ⟨⟨i0, e0⟩, N⟩
  have hn0 := nM_num (b := b) (most := 60000) (s := (i, 0)) (by omega)
  rw [HN] at hn0
  obtain ⟨n, hn⟩ : ∃ n : Nat, N = (n : Int) := ⟨N.toNat, by omega⟩
  subst hn
  have hnn : n ≤ 60000 := by have := hn0.2; simp only at this; omega
  clear hn0
  simp only [byM, HN, Int.toNat_natCast, Prod.mk.injEq] at H
  obtain ⟨⟨h1, h2⟩, h3⟩ := H
  have S1 : Hid (e0 ≠ 0 → i' = i0 ∧ e' = e0) := Lib.hid (by intro h; have q1 : tkE b.length i0 e0 n = e0 := (by unfold tkE; rw [if_neg (fun h2 => h h2.1)]); rw [q1] at h2; refine ⟨?_, h2.symm⟩; rw [← h1]; unfold tkI; rw [q1, if_neg h])
  have S2 : Hid (e0 = 0 → i0 ≤ b.length → nxM b n i0 = (i', e') ∧ (e' = 0 → x = (b.drop i0).take n)) := Lib.hid (by intro h hle; subst h; have q := tk_nx (n := n) hle; rw [h1, h2] at q; refine ⟨q.symm, fun h => ?_⟩; rw [h2, if_pos h] at h3; exact h3.symm)
  clear h1 h2 h3
  have HR := Lib.hid R
  have HR0 := Lib.hid R.Bu
  clear R
  go_enter Tryz.func116, Tryz.ntmps116
  go_upto_region 0 with fail; refine wp_region_lit ?_
  refine qaa (qak (v := .slice none 0 0) rfl rfl) rfl ?_; (try simp only [Act.put, lyy])
  refine qab ?_
  go_upto_region 1 with fail; refine wp_region_lit ?_
  refine qaa (qad (v := .pointer (some ⟨p, 0, none⟩)) rfl rfl) rfl ?_; (try simp only [Act.put, lyy])
  refine qaa (qad (v := .pointer (some ⟨p, 0, none⟩)) rfl rfl) rfl ?_; (try simp only [Act.put, lyy])
  refine qaj (qaq qcr rfl rfl rfl) rfl (rcnt_any B p b i i0 e0 _ _ HN HR.out) (fun v a1 hs hk hr hT => ?_) (fun a1 hs hk => ?pana1)
  case pana1 =>
    go_wp2_with fail
    obtain ⟨-, rfl⟩ := S1.out hs
    exact ⟨rfl, hk, .inr ⟨hs, rfl⟩⟩
  (try simp only [Act.put, lyy])
  subst hT
  obtain ⟨hS1, hS2⟩ := S2.out hs hr.le
  replace HR := Lib.hid hr
  have HK := Lib.hid hk
  clear hk hr hs S1 S2
  refine qaj (qaf qc0 rfl rfl rfl rfl) rfl (rnext_any B p b i0 n _ HR.out) (fun v a2 hs hk hr hT => ?_) (fun a2 hs hk => ?pana2)
  case pana2 =>
    go_wp2_with fail
    rw [hS1] at hs
    (try rw [hS1])
    exact ⟨rfl, HK.out.trans hk, .inr ⟨hs, rfl⟩⟩
  (try simp only [Act.put, lyy])
  obtain ⟨av, cv, rfl, hSl⟩ := hT
  rw [hS1] at hs hr
  have hx := hS2 hs
  rw [← hx] at hSl
  replace HK := Lib.hid (HK.out.trans hk)
  replace HR := Lib.hid hr
  have HSl := Lib.hid hSl
  clear hk hr hSl hx hS1 hS2
  have hxl : x.length ≤ 60000 := by obtain ⟨_, _, hq, _⟩ := HSl.out; simp only [Value.slice.injEq] at hq; omega
  refine wpList_appG (l := []) (base := u.heap.size) rfl rfl rfl (World.ownsRow_nil _ _ _ _) rfl HSl.out (by omega) HK.out.size (fun v3 a3 ho hb => ?_); (try simp only [Act.put, lyy])
  rw [List.nil_append] at ho
  have HO : Hid (a3.ownsRow u.heap.size 5 1 v3 x.length (x.map b8)) := Lib.hid (by have h := ho; rwa [Nat.zero_add] at h)
  replace HK := Lib.hid (HK.out.fresh hb (Nat.le_refl _))
  replace HR := Lib.hid (HR.out.step (hb.mono HR0.out))
  clear ho hb HSl
  obtain ⟨a4, c4, rfl, -, -⟩ := Sl.own HO.out
  refine qaa (qak (v := .slice a4 x.length c4) rfl rfl) rfl ?_; (try simp only [Act.put, lyy])
  refine qab ?_
  go_wp2_with fail
  exact bodyPost_ret (results_tmp Tryz.results116 _ _ _) rfl ⟨HK.out, .inl ⟨(by first | exact hs | rfl), HR.out, _, rfl, _, _, rfl, fro_sl HO.out⟩⟩
end Go.Proofs.YtcgbgmbnagmohaaGreat
