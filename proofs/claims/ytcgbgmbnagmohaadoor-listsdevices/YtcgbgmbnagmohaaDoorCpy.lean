import Derived.Test.YtcgbgmbnagmohaaDoorStr
import Derived.Test.YtcgbgmbnagmohaaDoorStr
namespace Go.Proofs.YtcgbgmbnagmohaaDoor
open Go.RowKit
set_option maxRecDepth 20000
section
variable {w : World} {ρ : Operand → Value} {o : Oper} {t t' : TypeId} {x y z : Operand}
theorem run_slA {e : TypeId} {n g f : Nat} (ho : o.op = .slice t x none none none) (ht : Tryd.prog.underlying t = some (.array n e)) (hs : (Tryd.prog.info? e).map (·.size) = some 1) (hx : ρ x = .pointer (some ⟨g, f, none⟩)) : (execOp ρ o).run Tryd.prog w = .ok (.value (.slice (some ⟨g, f, none⟩) n n)) w := by
 have el : Tryd.prog.elem t = e := by unfold Program.elem; rw [ht]
 have al : Tryd.prog.arrayLen t = n := by unfold Program.arrayLen; rw [ht]
 have h1 := run_sliceAt_array_all (P := Tryd.prog) w t ⟨g, f, none⟩ (by rw [al, el]; exact ht)
 obtain ⟨inf, hi, h2⟩ := Option.map_eq_some_iff.1 hs
 have hz : (sizeOf e).run Tryd.prog w = .ok 1 w := by simp [sizeOf, typeInfo, go_sem, hi, h2]
 rw [el, hz, al] at h1
 unfold execOp
 simp only [ho, hx, Option.map_none, Sem.run_bind, h1]
 simp [slicedAt, Addr.add_mid]
theorem run_eqstrG {s s' : ByteArray} (ho : o.op = .binOp .eql t x y t') (hx : ρ x = .string s) (hy : ρ y = .string s') : (execOp ρ o).run Tryd.prog w = .ok (.value (.bool (s.toList == s'.toList))) w := by
 obtain ⟨dst, op, type, pos, after, guard⟩ := o
 subst ho
 go_simp
theorem qdh {n : Int} (ho : o.op = .convert 5 3 x) (hx : ρ x = .int .u8 n) (h0 : 0 ≤ n) (h1 : n < 65536) : (execOp ρ o).run Tryd.prog w = .ok (.value (.int .i64 n)) w := by
 rw [run_cv ho Tryd.underlying5 Tryd.underlying3 hx, i64_fit (by omega) (by omega)]
end
theorem Sl.adr {v : Value} {l : List (BitVec 8)} {u : World} (h : Sl v l u) (hn : 0 < l.length) : ∃ b f c, v = .slice (some ⟨b, f, none⟩) l.length c ∧ b < u.heap.size ∧ u.rangeAt b f (l.map b8) := by
 obtain ⟨ao, c, rfl, _, h3⟩ := h
 obtain ⟨b, f, rfl, h4, h5⟩ := h3 (by intro e; rw [e] at hn; exact absurd hn (Nat.lt_irrefl _))
 exact ⟨b, f, c, rfl, h4, h5⟩
theorem run_app0 {w : World} {base : Nat} {v : Value} {n : Nat} {xs : List Value} {ao : Option Addr} {c : Nat} {ty : TypeId} (hown : w.ownsRow base 5 1 v n xs) : (Builtin.append_ #[22, 22] ty #[v, .slice ao 0 c]).run Tryd.prog w = .ok v w := by
 have hi : (Tryd.prog.info? 5).map (·.size) = some 1 := by kernel_rfl
 obtain ⟨inf, h1, h2⟩ := Option.map_eq_some_iff.1 hi
 have hl : ∀ b : Addr, (loadCells b 0).run Tryd.prog w = .ok #[] w := fun b => by simpa using run_loadCells_list (P := Tryd.prog) w b [] (by simp)
 rcases hown.2 with ⟨rfl, _⟩ | ⟨g, cap, cur, rfl, _, _, h3, _⟩
 ·cases ao <;> simp [Builtin.append_, run_underlying Tryd.underlying22, sizeOf, typeInfo, h1, Builtin.lenOf, Builtin.firstCells, hl]
 ·cases ao <;> simp [Builtin.append_, run_underlying Tryd.underlying22, sizeOf, typeInfo, h1, Builtin.lenOf, Builtin.firstCells, hl, h3, storeCells]
theorem wpList_appG {w : World} {ops : Array Oper} {Q : Exit → Act → World → Prop} {rest : List Oper} {o : Oper} {a : Act} {s x : Operand} {base : Nat} {v vx : Value} {n : Nat} {l m : List (BitVec 8)} (hg : o.guard = none) (ho : o.op = .call { callee := .builtin .append, args := #[s, x], argTypes := #[22, 22] }) (hs : a.eval s = v) (hown : w.ownsRow base 5 1 v n (l.map b8)) (hx : a.eval x = vx) (hv : Sl vx m w) (hn : n + m.length ≤ 16777216) (hbase : base ≤ w.heap.size)
  (h : ∀ v' w', w'.ownsRow base 5 1 v' (n + m.length) ((l ++ m).map b8) → Below base w w' → wpList Tryd.prog ops Q rest (a.put o.dst v') w') : wpList Tryd.prog ops Q (o :: rest) a w := by
 by_cases he : m = []
 ·subst he
  obtain ⟨ao, c, rfl, _, _⟩ := hv
  refine qaa (v := v) (w' := w) ?_ hg (h v w (by rw [List.append_nil]; exact hown) (Below.refl _ _))
  have hr := run_app0 (ao := ao) (c := c) (ty := o.type) hown
  unfold execOp
  simp [ho, resolve, invoke, builtin, hs, hx, hr, Result.andThen]
 ·obtain ⟨b, f, c, rfl, _, hr⟩ := hv.adr (List.length_pos_iff.2 he)
  exact wpList_app (f := b8) (fun _ => rfl) (l := l) (m := m) (bw := 1) (z := .int .u8 0) hg ho Tryd.underlying22 (by kernel_rfl) rfl (by omega) hs hown hx hr hn hbase h
theorem Sl.part {ao : Option Addr} {n c lo hi : Nat} {l : List (BitVec 8)} {u : World} (h : Sl (.slice ao n c) l u) (h1 : lo ≤ hi) (h2 : hi ≤ l.length) : Sl (cutO ao hi c lo) ((l.take hi).drop lo) u := by
 have e : (l.take hi).length = hi := by rw [List.length_take]; omega
 have h3 : Sl (.slice ao (l.take hi).length c) (l.take hi) u := by rw [e]; exact h.front h2
 have h4 := h3.cut (k := lo) (by rw [e]; exact h1)
 rwa [e] at h4
section
variable {P : Program} {ops : Array Oper} {Q : Exit → Act → World → Prop} {S S' : Array Bool → World → Prop}
theorem qbg (h : ∀ L w, S' L w → S L w) : ∀ (fuel : Nat) (listed : Array Bool) (a : Act) (w : World), qb5 P ops Q S' fuel listed a w → qb5 P ops Q S fuel listed a w
 | 0, _, _, _, h1 => h1
 | fuel + 1, _, _, _, h1 => ⟨h1.1, fun i hi => wpOp_mono (fun a' w' h' => ⟨h _ _ h'.1, qbg h fuel _ a' w' h'.2⟩) (h1.2 i hi)⟩
end
end Go.Proofs.YtcgbgmbnagmohaaDoor
