/- Arrays as slices, copies into the midst of a row, slices of three indices, appends of any bytes, texts held against each other. -/
import Derived.Test.YtgioojahadlmhaaStr
import Derived.Test.YtgioojahadlmhaaLateD
namespace Go.Proofs.Ytgioojahadlmhaa
open Go.RowKit
set_option maxRecDepth 20000

section
variable {w : World} {ρ : Operand → Value} {o : Oper} {t t' : TypeId} {x y z : Operand}
/-- a[:], of an array. -/
theorem run_slA {e : TypeId} {n g f : Nat} (ho : o.op = .slice t x none none none) (ht : Try.prog.underlying t = some (.array n e)) (hs : (Try.prog.info? e).map (·.size) = some 1) (hx : ρ x = .pointer (some ⟨g, f, none⟩)) : (execOp ρ o).run Try.prog w = .ok (.value (.slice (some ⟨g, f, none⟩) n n)) w := by
  have el : Try.prog.elem t = e := by unfold Program.elem; rw [ht]
  have al : Try.prog.arrayLen t = n := by unfold Program.arrayLen; rw [ht]
  have h1 := run_sliceAt_array_all (P := Try.prog) w t ⟨g, f, none⟩ (by rw [al, el]; exact ht)
  obtain ⟨inf, hi, h2⟩ := Option.map_eq_some_iff.1 hs
  have hz : (sizeOf e).run Try.prog w = .ok 1 w := by simp [sizeOf, typeInfo, go_sem, hi, h2]
  rw [el, hz, al] at h1
  unfold execOp
  simp only [ho, hx, Option.map_none, Sem.run_bind, h1]
  simp [slicedAt, Addr.add_mid]
/-- b[:h:m] -/
theorem run_sl3 {e : TypeId} {ao : Option Addr} {n c h m : Nat} {k k' : IntKind} (ho : o.op = .slice t x none (some y) (some z)) (ht : Try.prog.underlying t = some (.slice e)) (hs : (Try.prog.info? e).map (·.size) = some 1) (hx : ρ x = .slice ao n c) (hy : ρ y = .int k (h : Int)) (hz : ρ z = .int k' (m : Int)) (h1 : h ≤ m) (h2 : m ≤ c) : (execOp ρ o).run Try.prog w = .ok (.value (.slice ao h m)) w := by
  have el : Try.prog.elem t = e := by unfold Program.elem; rw [ht]
  have ht' : Try.prog.underlying t = some (.slice (Try.prog.elem t)) := by rw [el]; exact ht
  have h3 := run_slice_hm (P := Try.prog) (w := w) t ao n c ht' k k' (h : Int) (m : Int) (by omega) (by omega) (by omega)
  obtain ⟨inf, hi, hj⟩ := Option.map_eq_some_iff.1 hs
  have hz' : (sizeOf e).run Try.prog w = .ok 1 w := by simp [sizeOf, typeInfo, go_sem, hi, hj]
  rw [el, hz'] at h3
  have h4 := run_sliceAt_slice (P := Try.prog) (w := w) t (.slice ao n c) none (some (.int k (h : Int))) (some (.int k' (m : Int))) ht'
  unfold execOp
  simp only [ho, hx, hy, hz, Option.map_some, Option.map_none, Sem.run_bind, h4, h3]
  simp [go_sem, Addr.add]
/-- copy(out[f:], b), as many as there is room for. -/
theorem run_cpyG {g f n c : Nat} {v : Value} {l : List (BitVec 8)} {m : List Value} (ho : o.op = .call { callee := .builtin .copy, args := #[x, y], argTypes := #[22, t'] }) (hx : ρ x = .slice (some ⟨g, f, none⟩) n c) (hy : ρ y = v) (hv : Sl v l w) (hA : Arr g m w) (hm : f + (l.take n).length ≤ m.length) : (execOp ρ o).run Try.prog w = .ok (.value (.int .i64 ((l.take n).length : Int))) (w.setCells g f ((l.take n).map b8)) := by
  obtain ⟨ao, c', rfl, h2, h3⟩ := hv
  by_cases he : l.take n = []
  · have e : Nat.min l.length n = 0 := by
      have := congrArg List.length he
      rw [List.length_take, Nat.min_comm] at this
      exact this
    have h := run_copy_none (P := Try.prog) w 22 t' o.type 5 (some ⟨g, f, none⟩) ao n c l.length c' Try.underlying22 (by kernel_rfl) e
    rw [he]
    unfold execOp
    simp [ho, resolve, invoke, builtin, hx, hy, h, Result.andThen, goInt, World.setCells]
  · obtain ⟨b, f', rfl, h4, h5⟩ := h3 (by intro e; apply he; rw [e]; simp)
    have h := run_copy_cells (P := Try.prog) w 22 t' o.type 5 g f n c ⟨b, f', none⟩ l.length c' ((l.take n).map b8) Try.underlying22 (by kernel_rfl) (by rw [List.length_map, List.length_take]; exact Nat.min_comm _ _)
      (fun j v hv => by rw [Addr.add_mid]; rw [List.map_take] at hv; exact rangeAt_take h5 j v hv) (fun j hj => by rw [List.length_map] at hj; rw [hA.c (f + j) _ (List.getElem?_eq_getElem (by omega))]; rfl) (fun j _ => hA.f _) (fun v hv => by rw [List.mem_map] at hv; obtain ⟨x, _, rfl⟩ := hv; rfl)
    rw [List.length_map] at h
    unfold execOp
    simp [ho, resolve, invoke, builtin, hx, hy, h, Result.andThen, goInt]
theorem run_eqstrG {s s' : ByteArray} (ho : o.op = .binOp .eql t x y t') (hx : ρ x = .string s) (hy : ρ y = .string s') : (execOp ρ o).run Try.prog w = .ok (.value (.bool (s.toList == s'.toList))) w := by
  obtain ⟨dst, op, type, pos, after, guard⟩ := o
  subst ho
  go_simp
theorem run_eqbl {a b : Bool} (ho : o.op = .binOp .eql 4 x y t') (hx : ρ x = .bool a) (hy : ρ y = .bool b) : (execOp ρ o).run Try.prog w = .ok (.value (.bool (a == b))) w := by
  obtain ⟨dst, op, type, pos, after, guard⟩ := o
  subst ho
  have hu := Try.underlying4
  go_simp
theorem run_neq8 {a b : BitVec 8} {c : Bool} (ho : o.op = .binOp .neq t x y t') (hx : ρ x = b8 a) (hy : ρ y = b8 b) (h : decide (a ≠ b) = c) : (execOp ρ o).run Try.prog w = .ok (.value (.bool c)) w := by
  refine run_neqb (k := .u8) ho hx hy ?_
  rw [← h, Bool.eq_iff_iff]
  simp [← BitVec.toNat_inj]
  omega
theorem run_rem8n {a b : Int} (ho : o.op = .binOp .rem t x y t') (hx : ρ x = .int .u8 a) (hy : ρ y = .int .u8 b) (h0 : 0 ≤ a) (h2 : 0 < b) : (execOp ρ o).run Try.prog w = .ok (.value (.int .u8 (a % b))) w := by
  obtain ⟨dst, op, type, pos, after, guard⟩ := o
  subst ho
  have hb : ¬ b = 0 := by omega
  go_simp
  rw [Int.tmod_eq_emod_of_nonneg h0]
theorem run_cv8n {n : Int} (ho : o.op = .convert 5 3 x) (hx : ρ x = .int .u8 n) (h0 : 0 ≤ n) (h1 : n < 65536) : (execOp ρ o).run Try.prog w = .ok (.value (.int .i64 n)) w := by
  rw [run_cv ho Try.underlying5 Try.underlying3 hx, i64_fit (by omega) (by omega)]
end
theorem strOf_data : ∀ (l : List (BitVec 8)) (r : ByteArray), ((l.map fun x => (x.toNat : Int)).foldl (fun r n => r.push (UInt8.ofNat n.toNat)) r).data.toList = r.data.toList ++ l.map fun x => UInt8.ofNat x.toNat
  | [], r => by simp
  | x :: l, r => by
    rw [List.map_cons, List.foldl_cons, strOf_data l]
    simp [ByteArray.push]
theorem strOf_inj {l m : List (BitVec 8)} (h : strOf l = strOf m) : l = m := by
  unfold strOf at h
  have h1 := congrArg (fun b : ByteArray => b.data.toList) h
  simp only [strOf_data] at h1
  have h2 : (l.map fun x : BitVec 8 => UInt8.ofNat x.toNat) = m.map fun x => UInt8.ofNat x.toNat := by simpa using h1
  exact List.map_inj_right (fun x y hxy => by
    have := congrArg UInt8.toNat hxy
    simp only [UInt8.toNat_ofNat'] at this
    exact BitVec.eq_of_toNat_eq (by omega)) |>.1 h2
theorem strOf_beq (l m : List (BitVec 8)) : ((strOf l).toList == (strOf m).toList) = decide (l = m) := by
  rw [Bool.eq_iff_iff, ByteArray.toList_eq, ByteArray.toList_eq]
  simp only [beq_iff_eq, decide_eq_true_eq]
  exact ⟨fun h => strOf_inj (ByteArray.ext (Array.toList_inj.1 h)), fun h => by rw [h]⟩
theorem Sl.adr {v : Value} {l : List (BitVec 8)} {u : World} (h : Sl v l u) (hn : 0 < l.length) : ∃ b f c, v = .slice (some ⟨b, f, none⟩) l.length c ∧ b < u.heap.size ∧ u.rangeAt b f (l.map b8) := by
  obtain ⟨ao, c, rfl, _, h3⟩ := h
  obtain ⟨b, f, rfl, h4, h5⟩ := h3 (by intro e; rw [e] at hn; exact absurd hn (Nat.lt_irrefl _))
  exact ⟨b, f, c, rfl, h4, h5⟩
/-- append of nothing. -/
theorem run_app0 {w : World} {base : Nat} {v : Value} {n : Nat} {xs : List Value} {ao : Option Addr} {c : Nat} {ty : TypeId} (hown : w.ownsRow base 5 1 v n xs) : (Builtin.append_ #[22, 22] ty #[v, .slice ao 0 c]).run Try.prog w = .ok v w := by
  have hi : (Try.prog.info? 5).map (·.size) = some 1 := by kernel_rfl
  obtain ⟨inf, h1, h2⟩ := Option.map_eq_some_iff.1 hi
  have hl : ∀ b : Addr, (loadCells b 0).run Try.prog w = .ok #[] w := fun b => by simpa using run_loadCells_list (P := Try.prog) w b [] (by simp)
  rcases hown.2 with ⟨rfl, _⟩ | ⟨g, cap, cur, rfl, _, _, h3, _⟩
  · cases ao <;> simp [Builtin.append_, run_underlying Try.underlying22, sizeOf, typeInfo, h1, Builtin.lenOf, Builtin.firstCells, hl]
  · cases ao <;> simp [Builtin.append_, run_underlying Try.underlying22, sizeOf, typeInfo, h1, Builtin.lenOf, Builtin.firstCells, hl, h3, storeCells]
/-- append of any bytes to what is owned. -/
theorem wpList_appG {w : World} {ops : Array Oper} {Q : Exit → Act → World → Prop} {rest : List Oper} {o : Oper} {a : Act} {s x : Operand} {base : Nat} {v vx : Value} {n : Nat} {l m : List (BitVec 8)} (hg : o.guard = none) (ho : o.op = .call { callee := .builtin .append, args := #[s, x], argTypes := #[22, 22] }) (hs : a.eval s = v) (hown : w.ownsRow base 5 1 v n (l.map b8)) (hx : a.eval x = vx) (hv : Sl vx m w) (hn : n + m.length ≤ 16777216) (hbase : base ≤ w.heap.size)
    (h : ∀ v' w', w'.ownsRow base 5 1 v' (n + m.length) ((l ++ m).map b8) → Below base w w' → wpList Try.prog ops Q rest (a.put o.dst v') w') : wpList Try.prog ops Q (o :: rest) a w := by
  by_cases he : m = []
  · subst he
    obtain ⟨ao, c, rfl, _, _⟩ := hv
    refine wpList_val (v := v) (w' := w) ?_ hg (h v w (by rw [List.append_nil]; exact hown) (Below.refl _ _))
    have hr := run_app0 (ao := ao) (c := c) (ty := o.type) hown
    unfold execOp
    simp [ho, resolve, invoke, builtin, hs, hx, hr, Result.andThen]
  · obtain ⟨b, f, c, rfl, _, hr⟩ := hv.adr (List.length_pos_iff.2 he)
    exact wpList_app (f := b8) (fun _ => rfl) (l := l) (m := m) (bw := 1) (z := .int .u8 0) hg ho Try.underlying22 (by kernel_rfl) rfl (by omega) hs hown hx hr hn hbase h
theorem run_slhi {w : World} {ρ : Operand → Value} {o : Oper} {t e : TypeId} {x y z : Operand} {ao : Option Addr} {n c lo hi : Nat} {k k' : IntKind} (ho : o.op = .slice t x (some y) (some z) none) (ht : Try.prog.underlying t = some (.slice e)) (hs : (Try.prog.info? e).map (·.size) = some 1) (hx : ρ x = .slice ao n c) (hy : ρ y = .int k (lo : Int)) (hz : ρ z = .int k' (hi : Int)) (h1 : lo ≤ hi) (h2 : hi ≤ c) : (execOp ρ o).run Try.prog w = .ok (.value (cutO ao hi c lo)) w := by
  have el : Try.prog.elem t = e := by unfold Program.elem; rw [ht]
  have ht' : Try.prog.underlying t = some (.slice (Try.prog.elem t)) := by rw [el]; exact ht
  have h3 := run_slice_lh (P := Try.prog) (w := w) t ao n c ht' k k' (lo : Int) (hi : Int) (by omega) (by omega) (by omega)
  obtain ⟨inf, hi1, hi2⟩ := Option.map_eq_some_iff.1 hs
  have hz' : (sizeOf e).run Try.prog w = .ok 1 w := by simp [sizeOf, typeInfo, go_sem, hi1, hi2]
  rw [el, hz'] at h3
  have h4 := run_sliceAt_slice (P := Try.prog) (w := w) t (.slice ao n c) (some (.int k (lo : Int))) (some (.int k' (hi : Int))) none ht'
  unfold execOp cutO
  simp only [ho, hx, hy, hz, Option.map_some, Option.map_none, Sem.run_bind, h4, h3]
  simp [go_sem]
theorem Sl.part {ao : Option Addr} {n c lo hi : Nat} {l : List (BitVec 8)} {u : World} (h : Sl (.slice ao n c) l u) (h1 : lo ≤ hi) (h2 : hi ≤ l.length) : Sl (cutO ao hi c lo) ((l.take hi).drop lo) u := by
  have e : (l.take hi).length = hi := by rw [List.length_take]; omega
  have h3 : Sl (.slice ao (l.take hi).length c) (l.take hi) u := by rw [e]; exact h.front h2
  have h4 := h3.cut (k := lo) (by rw [e]; exact h1)
  rwa [e] at h4
theorem getD_set8 (l : List (BitVec 8)) (i j : Nat) (v : BitVec 8) (h : i < l.length) : (l.set i v).getD j 0 = if i = j then v else l.getD j 0 := by
  simp only [List.getD_eq_getElem?_getD, List.getElem?_set]
  by_cases e : i = j
  · subst e; simp [h]
  · simp [e]
theorem take_snoc8 (l : List (BitVec 8)) (t : Nat) (h : t < l.length) : l.take (t + 1) = l.take t ++ [l.getD t 0] := by
  rw [List.take_succ_eq_append_getElem h]; simp [h]
section
variable {P : Program} {ops : Array Oper} {Q : Exit → Act → World → Prop} {S S' : Array Bool → World → Prop}
/-- What must hold behind each operation may be said anew, if that says more. -/
theorem wpAnyL_weak (h : ∀ L w, S' L w → S L w) : ∀ (fuel : Nat) (listed : Array Bool) (a : Act) (w : World), wpAnyL P ops Q S' fuel listed a w → wpAnyL P ops Q S fuel listed a w
  | 0, _, _, _, h1 => h1
  | fuel + 1, _, _, _, h1 => ⟨h1.1, fun i hi => wpOp_mono (fun a' w' h' => ⟨h _ _ h'.1, wpAnyL_weak h fuel _ a' w' h'.2⟩) (h1.2 i hi)⟩
end
end Go.Proofs.Ytgioojahadlmhaa
