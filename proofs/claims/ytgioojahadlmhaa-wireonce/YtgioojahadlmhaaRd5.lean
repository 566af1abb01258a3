import Derived.Test.YtgioojahadlmhaaEv
import Derived.Test.YtgioojahadlmhaaSt
import Derived.Test.YtgioojahadlmhaaGenA
import Derived.Test.YtgioojahadlmhaaGen
import Derived.Test.YtgioojahadlmhaaTy10
import Derived.Test.YtgioojahadlmhaaCpy
import Derived.Test.YtgioojahadlmhaaWr5
import Derived.Test.YtgioojahadlmhaaLateG
import Derived.Test.YtgioojahadlmhaaWr4
namespace Go.Proofs.Ytgioojahadlmhaa
open Go.RowKit
set_option maxRecDepth 20000
section
variable {w : World} {ρ : Operand → Value} {o : Oper} {t e : TypeId} {x y : Operand}
theorem qaz {d : TypeDesc} {g i : Nat} {v : Value} (ho : o.op = .load t x) (ht : Try.prog.underlying t = some d) (hd : d.isRow = false) (hx : ρ x = .pointer (some ⟨g, i, none⟩)) (hc : w.cell? ⟨g, i, none⟩ = some v) : (execOp ρ o).run Try.prog w = .ok (.value v) w := by
  have hagg : (isAgg t).run Try.prog w = .ok false w := by
    unfold isAgg
    rw [Sem.run_bind, run_underlying ht w]
    cases d <;> simp_all
  unfold execOp
  simp only [ho, hx]
  simp [Instr.loadAt, Instr.sureAddr, loadVar, Sem.run_bind, hagg, go_sem, hc]
theorem qb2 {g i : Nat} {v v0 : Value} (ho : o.op = .store t x y) (hi : (Try.prog.info? t).map (·.size) = some 1) (hx : ρ x = .pointer (some ⟨g, i, none⟩)) (hy : ρ y = v) (hv : v.cells = #[v]) (h1 : v.oneCell' = true) (hc : w.cell? ⟨g, i, none⟩ = some v0) (hf : w.frozen? ⟨g, i, none⟩ = false) : (execOp ρ o).run Try.prog w = .ok .skip (w.setCell ⟨g, i, none⟩ v) := by
  have e1 : storeVar t ⟨g, i, none⟩ v = storeVar t ⟨g, i, none⟩ (.agg #[v]) := by unfold storeVar; rw [hv]; rfl
  have ht : w.there g i (#[v] : Array Value).size := fun j hj => by
    obtain rfl : j = 0 := by simpa using hj
    exact ⟨by rw [Nat.add_zero, hc]; rfl, by rw [Nat.add_zero]; exact hf⟩
  have h2 := run_storeVar_mid (P := Try.prog) w g i t #[v] ht hi (by simpa using h1)
  unfold execOp
  simp only [ho, hx, hy, Instr.storeAt, Instr.sureAddr, Sem.run_bind, Sem.run_pure, Result.andThen_ok, e1, h2]
  rfl
end
theorem qa8 {w : World} {ρ : Operand → Value} {o : Oper} {t : TypeId} {parts : Array (Nat × Operand)} {ps : List (Nat × Value)} {cells : Array Value} (ho : o.op = .build t parts) (hp : parts.toList.map (fun (i, x) => (i, ρ x)) = ps) (h : Try.prog.built t ps = some cells) : (execOp ρ o).run Try.prog w = .ok (.value (.agg cells)) w := run_bld ho (by rw [Array.toList_map, hp]; exact h)
theorem run_bsl1 {w : World} {ρ : Operand → Value} {o : Oper} {t e : TypeId} {x : Operand} {z : Nat} {m : List Value} {zv : Value} (ho : o.op = .buildSlice t 1 #[(0, x)]) (ht : Try.prog.underlying t = some (.slice e)) (hi : (Try.prog.info? e).map (fun i => (i.size, i.zero)) = some (z, some zv)) (hx : ρ x = .agg m.toArray) (hl : m.length = z) (hz : 0 < z) (hz2 : z ≤ 100000) : (execOp ρ o).run Try.prog w = .ok (.value (.slice (some ⟨w.heap.size, 0, none⟩) 1 1)) (w.alloc (.cells m.toArray e)) := by
  obtain ⟨inf, h1, h2⟩ := Option.map_eq_some_iff.1 hi
  obtain ⟨e1, e2⟩ : inf.size = z ∧ inf.zero = some zv := by simpa using h2
  have hp : ((#[(0, x)] : Array (Nat × Operand)).map fun (i, x) => (i, ρ x)).toList = [(0, .agg m.toArray)] := by simp [hx]
  have hf : Instr.fill (fun i => some (i * z, z)) ((Array.range (1 * z)).map (zv.cells[· % zv.cells.size]!)) [(0, .agg m.toArray)] = some m.toArray := by
    have h := fill_one (place := fun i => some (i * z, z)) (z := (Array.range (1 * z)).map (zv.cells[· % zv.cells.size]!)) (vs := m) (by simp [hl]) (by simp [hl])
    rw [h, List.drop_of_length_le (by simp [hl]), List.append_nil]
  have h := run_buildSlice (P := Try.prog) w t e 1 ((#[(0, x)] : Array (Nat × Operand)).map fun (i, x) => (i, ρ x)) m.toArray inf zv ht h1 e2 (by rw [e1]; omega) (by rw [e1]; omega) (by rw [e1, hp]; exact hf)
  unfold execOp
  simp only [ho, Sem.run_bind, h]
  simp [go_sem]
structure SlR {α : Type} (z : Nat) (R : α → List Value → World → Prop) (l : List α) (a : Option Addr) (c : Nat) (u : World) : Prop where
  cap : l.length ≤ c
  ex : ∃ css : List (List Value), css.length = l.length ∧ (∀ x ∈ css, x.length = z) ∧ (∀ (i : Nat) (m : α) (cs : List Value), l[i]? = some m → css[i]? = some cs → R m cs u) ∧ (l ≠ [] → ∃ g f, a = some ⟨g, f, none⟩ ∧ g < u.heap.size ∧ u.rangeAt g f css.flatten)
structure Gw (w : World) (L : List (Nat × List Value)) (e : TypeId) (z : Nat) (v : Value) (n : Nat) (cs : List Value) (F H : World → Prop) (u : World) : Prop where
  ev : Ev w L v.ownBlock.toList F H u
  row : u.ownsRow w.heap.size e z v n cs
  ap : ∀ p ∈ L, v.ownBlock ≠ some p.1
section
variable {w u u' : World} {L : List (Nat × List Value)} {e : TypeId} {z n : Nat} {v : Value} {cs : List Value} {F H F0 H0 : World → Prop}
theorem ownsRow_at {B : Nat} (h : u.ownsRow B e z v n cs) (hk : ∀ k, v.ownBlock = some k → u'.heap[k]? = u.heap[k]?) : u'.ownsRow B e z v n cs := by
  refine ⟨h.1, ?_⟩
  rcases h.2 with h2 | ⟨g, cap, cur, rfl, h3, h4, h5⟩
  · exact .inl h2
  · exact .inr ⟨g, cap, cur, rfl, h3, (hk g rfl).trans h4, h5⟩
theorem qa2 {B : Nat} (h : u.ownsRow B e z v n cs) {k : Nat} (hk : v.ownBlock = some k) : B ≤ k ∧ k < u.heap.size := by
  rcases h.2 with ⟨rfl, _⟩ | ⟨g, cap, cur, rfl, h3, h4, _⟩
  · cases hk
  · simp only [Value.ownBlock, Option.some.injEq] at hk
    subst hk
    exact ⟨h3, (Array.getElem?_eq_some_iff.1 h4).1⟩
theorem Gw.start (h : Ev w L [] F H u) (e : TypeId) (z : Nat) : Gw w L e z (.slice none 0 0) 0 [] F H u :=
  ⟨h, ⟨by simp, .inl ⟨rfl, rfl⟩⟩, fun _ _ h => by cases h⟩
theorem Gw.below (h : Gw w L e z v n cs F H u) (hb : Below u.heap.size u u') : Gw w L e z v n cs F H u' :=
  ⟨h.ev.below hb, ownsRow_at h.row fun k hk => hb.block k (qa2 h.row hk).2, h.ap⟩
theorem Gw.new (h : Gw w L e z v n cs F H u) (l : List Value) (t : TypeId) : Gw w ((u.heap.size, l) :: L) e z v n cs F H (u.alloc (.cells l.toArray t)) := by
  have hb : Below u.heap.size u (u.alloc (.cells l.toArray t)) := (Below.refl _ _).alloc (Nat.le_refl _) _
  refine ⟨h.ev.new l t, ownsRow_at h.row fun k hk => hb.block k (qa2 h.row hk).2, fun p hp he => ?_⟩
  rcases List.mem_cons.1 hp with rfl | hp
  · have := (qa2 h.row he).2
    simp only at this; omega
  · exact h.ap p hp he
theorem Gw.turned (h : Gw w L e z v n cs F H u) {i g : Nat} {l m : List Value} (hi : L[i]? = some (g, l)) (h2 : Ev w (L.set i (g, m)) v.ownBlock.toList F H u') (ho : ∀ b, b ≠ g → u'.heap[b]? = u.heap[b]?) : Gw w (L.set i (g, m)) e z v n cs F H u' := by
  have hg := h.ap (g, l) (List.mem_of_getElem? hi)
  refine ⟨h2, ownsRow_at h.row fun k hk => ho k fun e => hg (e ▸ hk), fun p hp => ?_⟩
  rcases List.mem_or_eq_of_mem_set hp with hp | rfl
  · exact h.ap p hp
  · exact hg
theorem Gw.put (h : Gw w L e z v n cs F H u) (i : Nat) {g : Nat} {l : List Value} (hi : L[i]? = some (g, l)) {m : List Value} (hm : m.length = l.length) : Gw w (L.set i (g, m)) e z v n cs F H (u.setCells g 0 m) :=
  h.turned hi (h.ev.put i hi hm) fun _ hb => setCells_far hb m 0 u
theorem Gw.set (h : Gw w L e z v n cs F H u) (i : Nat) {g : Nat} {l : List Value} (hi : L[i]? = some (g, l)) {j : Nat} (hj : j < l.length) (x : Value) : Gw w (L.set i (g, l.set j x)) e z v n cs F H (u.setCell ⟨g, j, none⟩ x) :=
  h.turned hi (h.ev.set i hi hj x) fun _ hb => setCell_far hb j x u
theorem Gw.call (h : Gw w L e z v n cs F H u) (hb : Below u.heap.size u u') (h0 : Fro u.heap.size H0 u') : Gw w L e z v n cs F (fun V => H0 V ∧ H V) u' :=
  ⟨h.ev.call hb h0, ownsRow_at h.row fun k hk => hb.block k (qa2 h.row hk).2, h.ap⟩
theorem Gw.know (h : Gw w L e z v n cs F H u) (hk : ∀ V, H V → H0 V) : Gw w L e z v n cs F H0 u := ⟨h.ev.knowH hk, h.row, h.ap⟩
theorem Gw.bl (h : Gw w L e z v n cs F H u) : Below w.heap.size w u := h.ev.bl
theorem Gw.get (h : Gw w L e z v n cs F H u) {i g : Nat} {l : List Value} (hi : L[i]? = some (g, l)) : Arr g l u := h.ev.get hi
theorem Gw.done (h : Gw w L e z v n cs F H u) : Ev w L [] F (fun V => V.ownsRow w.heap.size e z v n cs ∧ H V) u :=
  ⟨h.ev.mv, (fun _ hk => by cases hk), fun V hV => h.ev.fs V (hV.mono (Nat.le_refl _) fun b hb => List.mem_append.2 (.inr (by simpa using hb))),
   fun V hV => ⟨ownsRow_at h.row fun k hk => hV.block k (qa2 h.row hk).1 (qa2 h.row hk).2 (fun hm => by
      obtain ⟨p, hp, he⟩ := List.mem_map.1 (by simpa using hm : k ∈ L.map (·.1))
      exact h.ap p hp (he ▸ hk)), h.ev.hs V (hV.mono (Nat.le_refl _) fun b hb => List.mem_append.2 (.inr (by simpa using hb)))⟩⟩
theorem wpList_grow {ops : Array Oper} {Q : Exit → Act → World → Prop} {rest : List Oper} {o : Oper} {a : Act} {s x : Operand} {t : TypeId} {bw : Nat} {zv : Value} (hg : o.guard = none) (ho : o.op = .call { callee := .builtin .append, args := #[s, x], argTypes := #[t, t] })
    (ht : Try.prog.underlying t = some (.slice e)) (hi : (Try.prog.info? e).map (fun i => (i.size, i.bytes, i.zero)) = some (z, bw, some zv)) (hzs : zv.cells.size = z) (hz : 0 < z)
    (hs : a.eval s = v) {g f c : Nat} {m : List Value} (hx : a.eval x = .slice (some ⟨g, f, none⟩) 1 c) (hr : u.rangeAt g f m) (hl : m.length = z) (h1 : One m)
    (hn : n < 100000) (hbw : bw ≤ 1000000) (G : Gw w L e z v n cs F H u)
    (h : ∀ v' u', Gw w L e z v' (n + 1) (cs ++ m) F H u' → wpList Try.prog ops Q rest (a.put o.dst v') u') : wpList Try.prog ops Q (o :: rest) a u := by
  obtain ⟨inf, q1, q2⟩ := Option.map_eq_some_iff.1 hi
  obtain ⟨e1, e2, e3⟩ : inf.size = z ∧ inf.bytes = bw ∧ inf.zero = some zv := by simpa using q2
  have hc : ∀ j w', m[j]? = some w' → u.cell? ((⟨g, f, none⟩ : Addr).add j) = some w' := fun j w' hw => by rw [Addr.add_mid]; exact hr j w' hw
  have hby : (n + 1) * bw ≤ 140737488355328 := Nat.le_trans (Nat.mul_le_mul (show n + 1 ≤ 100000 by omega) hbw) (by omega)
  have hbase : w.heap.size ≤ u.heap.size := G.bl.size
  obtain ⟨v', w', hrun, h3, h4, _⟩ := run_append_own (P := Try.prog) u w.heap.size t o.type e inf zv z bw ht q1 e3 e1 e2 hzs hz v n cs G.row ⟨g, f, none⟩ 1 c m (by rw [hl, Nat.one_mul]) hc h1 (by unfold maxLen; omega) hby hbase
  have hw := append_where (P := Try.prog) w.heap.size t o.type e inf zv z bw ht q1 e3 e1 e2 hzs hz v n cs G.row ⟨g, f, none⟩ 1 c m (by rw [hl, Nat.one_mul]) hc h1 (by unfold maxLen; omega) hby (by omega) hrun
  have hb : Below w.heap.size u w' := below_grown h4 (fun k hk => (qa2 G.row hk).1) hbase
  have hap : ∀ p ∈ L, v'.ownBlock ≠ some p.1 := fun p hp he => by
    rcases hw with hw | hw
    · exact G.ap p hp (hw ▸ he)
    · rw [hw] at he
      have h6 := (G.ev.mv.all p hp).2.lt
      injection he with he
      omega
  have key : ∀ B V, Ext B (v'.ownBlock.toList ++ L.map (·.1)) w' V → Ext B (v.ownBlock.toList ++ L.map (·.1)) u V := fun B V hV =>
    ⟨Nat.le_trans h4.size hV.size, fun b k1 k2 k3 => by
      have n1 : v.ownBlock ≠ some b := fun he => k3 (List.mem_append.2 (.inl (by simp [he])))
      have n2 : b ∉ v'.ownBlock.toList ++ L.map (·.1) := fun hm => by
        rcases List.mem_append.1 hm with hm | hm
        · have he : v'.ownBlock = some b := by simpa using hm
          rcases hw with hw | hw
          · exact n1 (hw ▸ he)
          · rw [hw] at he
            injection he with he
            omega
        · exact k3 (List.mem_append.2 (.inr hm))
      exact (hV.block b k1 (Nat.lt_of_lt_of_le k2 h4.size) n2).trans (h4.block b k2 fun he => n1 he.symm)⟩
  have hmv : Mv w L w' := ⟨G.bl.trans hb, G.ev.mv.nd, fun p hp => ⟨(G.ev.mv.all p hp).1, (G.ev.mv.all p hp).2.same h4.size (h4.block _ (G.ev.mv.all p hp).2.lt fun he => G.ap p hp he.symm)⟩⟩
  have hG : Gw w L e z v' (n + 1) (cs ++ m) F H w' := ⟨⟨hmv, fun k hk => (qa2 h3 (by simpa using hk)).2, fun V hV => G.ev.fs V (key 0 V hV), fun V hV => G.ev.hs V (key _ V hV)⟩, h3, hap⟩
  refine qaa (v := v') (w' := w') ?_ hg (h v' w' hG)
  unfold execOp
  simp [ho, resolve, invoke, builtin, hs, hx, hrun, Result.andThen]
end
end Go.Proofs.Ytgioojahadlmhaa
namespace Go.Proofs.Ytgioojahadlmhaa
open Go.RowKit
set_option maxRecDepth 20000
theorem results_rowT {fn : Func} {p q : Tmp} {t : TypeId} {d : TypeDesc} (h : fn.results = #[.cell p t, .tmp q]) {tmps : Array Value} {w : World} {g : Nat} {l : List Value} (ht : tmps.getD p undef = .pointer (some ⟨g, 0, none⟩)) (hu : Try.prog.underlying t = some d) (hd : d.isRow = true) (hl : (Try.prog.info? t).map (·.size) = some l.length) (hr : w.rangeAt g 0 l) :
    (results fn tmps).run Try.prog w = .ok (.tuple #[.agg l.toArray, tmps.getD q undef]) w := by
  have e := run_loadVar_mid (P := Try.prog) w g 0 t l d hr hu hd hl
  rw [Array.getD_eq_getD_getElem?] at ht
  simp only [results, h]
  simp [ht, asAddr, e, Result.andThen]
end Go.Proofs.Ytgioojahadlmhaa
namespace Go.Proofs.Ytgioojahadlmhaa
open Go.RowKit
set_option maxRecDepth 20000
attribute [local irreducible] wpList
theorem qae (n : Nat) : (z8 n).length = n := by unfold z8; rw [List.length_map, List.length_replicate]
section
variable {w : World} {ρ : Operand → Value} {o : Oper} {t t' : TypeId} {x y : Operand}
theorem qb0 {vs : Array Value} {i : Nat} {v : Value} (ho : o.op = .extract x i) (hx : ρ x = .tuple vs) (hv : vs[i]? = some v) : (execOp ρ o).run Try.prog w = .ok (.value v) w := by
  obtain ⟨dst, op, type, pos, after, guard⟩ := o
  subst ho
  go_simp
end
def tkE (m i : Nat) (e : Int) (n : Nat) : Int := if e = 0 ∧ (m : Int) - (i : Int) < (n : Int) then 10 else e
def tkI (m i : Nat) (e : Int) (n : Nat) : Nat := if tkE m i e n = 0 then i + n else i
end Go.Proofs.Ytgioojahadlmhaa
namespace Go.Proofs.Ytgioojahadlmhaa
open Go.RowKit
set_option maxRecDepth 20000
attribute [local irreducible] wpList
theorem Sl.ext {v : Value} {l : List (BitVec 8)} {u V : World} (h : Sl v l u) (hV : Ext 0 [] u V) : Sl v l V := by
  obtain ⟨ao, c, h1, h2, h3⟩ := h
  refine ⟨ao, c, h1, h2, fun hn => ?_⟩
  obtain ⟨b, f, h4, h5, h6⟩ := h3 hn
  exact ⟨b, f, h4, Nat.lt_of_lt_of_le h5 hV.size, fun j x hx => (World.cell?_of_block (a := ⟨b, f + j, none⟩) (hV.block b (Nat.zero_le _) h5 (by simp))).trans (h6 j x hx)⟩
theorem Ev.drop {w u : World} {L : List (Nat × List Value)} {K : List Nat} {F H : World → Prop} {p : Nat × List Value} (h : Ev w (p :: L) K F H u) : Ev w L K F H u :=
  have hm : ∀ b ∈ K ++ L.map (·.1), b ∈ K ++ (p :: L).map (·.1) := fun b hb => by
    rcases List.mem_append.1 hb with hb | hb
    · exact List.mem_append.2 (.inl hb)
    · exact List.mem_append.2 (.inr (List.mem_cons_of_mem _ hb))
  ⟨h.mv.drop, h.kb, fun V hV => h.fs V (hV.mono (Nat.le_refl _) hm), fun V hV => h.hs V (hV.mono (Nat.le_refl _) hm)⟩
section
variable {w : World} {ρ : Operand → Value} {o : Oper} {t t' : TypeId} {x y : Operand} {a b : Nat}
theorem run_cvu8N (ho : o.op = .convert 5 3 x) (hx : ρ x = .int .u8 (a : Int)) (ha : a < 256) : (execOp ρ o).run Try.prog w = .ok (.value (.int .i64 (a : Int))) w := by
  rw [run_cv ho Try.underlying5 Try.underlying3 hx, i64_fit (by omega) (by omega)]
end
def gnL (b : List (BitVec 8)) (most : Int) : Nat → Nat → Nat → Nat → Nat × Int × Int
  | 0, i, _, _ => (i, 11, 0)
  | k + 1, i, n, t => if b.length ≤ i then (i, 10, 0) else
    if (b.getD i 0).toNat < 128 then
      (if ((b.getD i 0).toNat = 0 ∧ k < 5) ∨ most < ((n + (b.getD i 0).toNat % 128 * t : Nat) : Int) then (i + 1, 11, 0) else (i + 1, 0, ((n + (b.getD i 0).toNat % 128 * t : Nat) : Int)))
    else gnL b most k (i + 1) (n + (b.getD i 0).toNat % 128 * t) (t * 128)
def gn (b : List (BitVec 8)) (most : Int) (i : Nat) (e : Int) : Nat × Int × Int := if e = 0 then gnL b most 6 i 0 1 else (i, e, 0)
end Go.Proofs.Ytgioojahadlmhaa
namespace Go.Proofs.Ytgioojahadlmhaa
open Go.RowKit
set_option maxRecDepth 20000
attribute [local irreducible] wpList
def gkX (n : Nat) (b : List (BitVec 8)) (i : Nat) (e : Int) : List (BitVec 8) := if tkE b.length i e n = 0 then (b.drop i).take n else List.replicate n 0
theorem tk_room {m i n : Nat} {e : Int} (_hi : i ≤ m) (h : tkE m i e n = 0) : i + n ≤ m := by
  unfold tkE at h
  by_cases h1 : e = 0 ∧ (m : Int) - (i : Int) < (n : Int)
  · rw [if_pos h1] at h; omega
  · rw [if_neg h1] at h; subst h
    have : ¬ ((m : Int) - (i : Int) < (n : Int)) := fun h2 => h1 ⟨rfl, h2⟩
    omega
theorem gkX_len {n : Nat} {b : List (BitVec 8)} {i : Nat} {e : Int} (hi : i ≤ b.length) : (gkX n b i e).length = n := by
  unfold gkX
  split
  · rename_i h
    have := tk_room hi h
    rw [List.length_take, List.length_drop]; omega
  · exact List.length_replicate
end Go.Proofs.Ytgioojahadlmhaa
namespace Go.Proofs.Ytgioojahadlmhaa
open Go.RowKit
set_option maxRecDepth 20000
attribute [local irreducible] wpList
def nM (b : List (BitVec 8)) (most : Int) (s : Nat × Int) : (Nat × Int) × Int := (((gn b most s.1 s.2).1, (gn b most s.1 s.2).2.1), (gn b most s.1 s.2).2.2)
def kM (n : Nat) (b : List (BitVec 8)) (s : Nat × Int) : (Nat × Int) × List (BitVec 8) := ((tkI b.length s.1 s.2 n, tkE b.length s.1 s.2 n), gkX n b s.1 s.2)
theorem kM_len {n : Nat} {b : List (BitVec 8)} {s : Nat × Int} (h : s.1 ≤ b.length) : (kM n b s).2.length = n := gkX_len h
theorem pkC_row {p : MPk} : pkC p = pkR (.int .i64 p.id) (p.key.map b8) := by unfold pkC pkR; rfl
theorem hdC_row {h : MHd} : hdC h = hdR (h.r.map b8) (.int .i64 h.prev) (.int .i64 h.n) := by unfold hdC hdR; rfl
def pkM (b : List (BitVec 8)) (s : Nat × Int) : (Nat × Int) × MPk :=
  let r1 := nM b 1099511627776 s
  let r2 := kM 32 b r1.1
  (r2.1, ⟨r1.2, r2.2⟩)
def hdM (b : List (BitVec 8)) (s : Nat × Int) : (Nat × Int) × MHd :=
  let r1 := kM 32 b s
  let r2 := nM b 1099511627776 r1.1
  let r3 := nM b 1099511627776 r2.1
  (r3.1, ⟨r1.2, r2.2, r3.2⟩)
end Go.Proofs.Ytgioojahadlmhaa
namespace Go.Proofs.Ytgioojahadlmhaa
open Go.RowKit
set_option maxRecDepth 20000
attribute [local irreducible] wpList
theorem gnL_num {b : List (BitVec 8)} {most : Int} (h0 : 0 ≤ most) : ∀ {k i n t : Nat}, 0 ≤ (gnL b most k i n t).2.2 ∧ (gnL b most k i n t).2.2 ≤ most
  | 0, _, _, _ => ⟨Int.le_refl _, h0⟩
  | k + 1, i, n, t => by
    unfold gnL
    split
    · exact ⟨Int.le_refl _, h0⟩
    · split
      · split
        · exact ⟨Int.le_refl _, h0⟩
        · rename_i h
          have : ¬ most < ((n + (b.getD i 0).toNat % 128 * t : Nat) : Int) := fun h2 => h (.inr h2)
          show 0 ≤ ((n + (b.getD i 0).toNat % 128 * t : Nat) : Int) ∧ ((n + (b.getD i 0).toNat % 128 * t : Nat) : Int) ≤ most
          omega
      · exact gnL_num h0
theorem nM_num {b : List (BitVec 8)} {most : Int} {s : Nat × Int} (h0 : 0 ≤ most) : 0 ≤ (nM b most s).2 ∧ (nM b most s).2 ≤ most := by
  unfold nM gn
  by_cases he : s.2 = 0
  · rw [if_pos he]; exact gnL_num h0
  · rw [if_neg he]; exact ⟨Int.le_refl _, h0⟩
def rowsM {α : Type} (g : Nat × Int → (Nat × Int) × α) : Nat → Nat × Int → (Nat × Int) × List α
  | 0, s => (s, [])
  | k + 1, s => if s.2 = 0 then ((rowsM g k (g s).1).1, (g s).2 :: (rowsM g k (g s).1).2) else (s, [])
theorem rowsM_zero {α : Type} (g : Nat × Int → (Nat × Int) × α) (s : Nat × Int) : rowsM g 0 s = (s, []) := rfl
theorem qb8 {α : Type} (g : Nat × Int → (Nat × Int) × α) (k : Nat) {s : Nat × Int} (h : s.2 ≠ 0) : rowsM g k s = (s, []) := by
  cases k with
  | zero => rfl
  | succ k => unfold rowsM; rw [if_neg h]
theorem rowsM_step {α : Type} (g : Nat × Int → (Nat × Int) × α) (k : Nat) {s : Nat × Int} (h : s.2 = 0) : rowsM g (k + 1) s = ((rowsM g k (g s).1).1, (g s).2 :: (rowsM g k (g s).1).2) := by
  conv => lhs; unfold rowsM
  rw [if_pos h]
theorem slR_own {α : Type} {z : Nat} {Rr : α → List Value → World → Prop} {B e n : Nat} {v : Value} {css : List (List Value)} {l : List α} {V : World} (h : V.ownsRow B e z v n css.flatten) (hn : n = l.length) (hc : css.length = l.length) (hz : ∀ x ∈ css, x.length = z) (hR : ∀ (i : Nat) (m : α) (cs : List Value), l[i]? = some m → css[i]? = some cs → Rr m cs V) : ∃ a c, v = .slice a l.length c ∧ SlR z Rr l a c V := by
  subst hn
  rcases h.2 with ⟨rfl, h2⟩ | ⟨g, cap, cur, rfl, h3, h4, h5, h6, h7, h8⟩
  · refine ⟨none, 0, by rw [h2], ⟨by omega, css, hc, hz, hR, fun hne => absurd (List.length_eq_zero_iff.1 h2) hne⟩⟩
  · refine ⟨some ⟨g, 0, none⟩, cap, rfl, ⟨h5, css, hc, hz, hR, fun _ => ⟨g, 0, rfl, (Array.getElem?_eq_some_iff.1 h4).1, fun j x hx => ?_⟩⟩⟩
    rw [Nat.zero_add]
    rw [← h8] at hx
    have hlt : j < l.length * z := by
      rcases Nat.lt_or_ge j (l.length * z) with h9 | h9
      · exact h9
      · rw [List.getElem?_eq_none (by rw [List.length_take]; omega)] at hx; cases hx
    rw [List.getElem?_take_of_lt hlt] at hx
    simp only [World.cell?, h4]
    simpa using hx
def pkAt (p : MPk) (cs : List Value) (_ : World) : Prop := cs = pkC p
theorem Gw.drop {w u : World} {p : Nat × List Value} {L : List (Nat × List Value)} {e : TypeId} {z n : Nat} {v : Value} {cs : List Value} {F H : World → Prop} (h : Gw w (p :: L) e z v n cs F H u) : Gw w L e z v n cs F H u := ⟨h.ev.drop, h.row, fun q hq => h.ap q (List.mem_cons_of_mem _ hq)⟩
theorem pkC_len' {p : MPk} (h : p.key.length = 32) : (pkC p).length = 33 := pkC_len h
theorem pkC_one {p : MPk} (_h : p.key.length = 32) : One (pkC p) := by rw [pkC_row]; exact qca rfl (One.b8 _)
def psM (b : List (BitVec 8)) (s : Nat × Int) : (Nat × Int) × List MPk := rowsM (pkM b) (nM b 60000 s).2.toNat (nM b 60000 s).1
end Go.Proofs.Ytgioojahadlmhaa
