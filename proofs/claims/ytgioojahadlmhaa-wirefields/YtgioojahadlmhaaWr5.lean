/- Slices of things in memory; what keywardref10's prekeys and Envelope answer. -/
import Derived.Test.YtgioojahadlmhaaWr4
namespace Go.Proofs.Ytgioojahadlmhaa
open Go.RowKit
set_option maxRecDepth 20000

section
variable {w : World} {ρ : Operand → Value} {o : Oper} {t t' e : TypeId} {x y : Operand}
/-- A place of a slice of things of so many cells. -/
theorem run_ixZ {z g i off n c : Nat} {k : IntKind} (ho : o.op = .indexAddr t x y) (ht : Try.prog.underlying t = some (.slice e)) (hs : (Try.prog.info? e).map (·.size) = some z) (hx : ρ x = .slice (some ⟨g, off, none⟩) n c) (hy : ρ y = .int k (i : Int)) (hi : i < n) : (execOp ρ o).run Try.prog w = .ok (.value (.pointer (some ⟨g, off + i * z, none⟩))) w := by
  have el : Try.prog.elem t = e := by unfold Program.elem; rw [ht]
  have h := run_indexAt_slice (P := Try.prog) (w := w) t ⟨g, off, none⟩ n c k (i : Int) (by rw [el]; exact ht)
  rw [el, if_pos ⟨by omega, by omega⟩] at h
  obtain ⟨inf, h1, h2⟩ := Option.map_eq_some_iff.1 hs
  have hz : (sizeOf e).run Try.prog w = .ok z w := by simp [sizeOf, typeInfo, go_sem, h1, h2]
  rw [hz] at h
  unfold execOp
  simp only [ho, hx, hy, Sem.run_bind, h]
  simp [go_sem, Addr.add_mid]
theorem run_ldb {g i : Nat} {v : Value} (ho : o.op = .load 4 x) (hx : ρ x = .pointer (some ⟨g, i, none⟩)) (hc : w.cell? ⟨g, i, none⟩ = some v) : (execOp ρ o).run Try.prog w = .ok (.value v) w := by
  obtain ⟨dst, op, type, pos, after, guard⟩ := o
  subst ho
  go_simp
theorem run_geqI {k : IntKind} {a b : Int} {c : Bool} (ho : o.op = .binOp .geq t x y t') (hx : ρ x = .int k a) (hy : ρ y = .int k b) (h : decide (b ≤ a) = c) : (execOp ρ o).run Try.prog w = .ok (.value (.bool c)) w := by
  obtain ⟨dst, op, type, pos, after, guard⟩ := o
  subst ho
  subst h
  go_simp
end
/-- A slice of things of z cells each, that reads these. -/
structure Lz (z : Nat) (a : Option Addr) (cs : List (List Value)) (c : Nat) (u : World) : Prop where
  cap : cs.length ≤ c
  each : ∀ x ∈ cs, x.length = z
  at_ : cs ≠ [] → ∃ g f, a = some ⟨g, f, none⟩ ∧ g < u.heap.size ∧ u.rangeAt g f cs.flatten
theorem Lz.below {z : Nat} {a : Option Addr} {cs : List (List Value)} {c : Nat} {u u' : World} (h : Lz z a cs c u) (hb : Below u.heap.size u u') : Lz z a cs c u' :=
  ⟨h.cap, h.each, fun hn => by obtain ⟨g, f, h1, h2, h3⟩ := h.at_ hn; exact ⟨g, f, h1, Nat.lt_of_lt_of_le h2 hb.size, rangeAt_below h3 h2 hb⟩⟩
theorem flat_len {z : Nat} : ∀ {cs : List (List Value)}, (∀ x ∈ cs, x.length = z) → cs.flatten.length = cs.length * z
  | [], _ => by simp
  | x :: cs, h => by
    rw [List.flatten_cons, List.length_append, flat_len (fun y hy => h y (List.mem_cons_of_mem _ hy)), h x (List.mem_cons_self ..), List.length_cons, Nat.succ_mul, Nat.add_comm]
theorem Lz.get {z : Nat} {a : Option Addr} {cs : List (List Value)} {c : Nat} {u : World} (h : Lz z a cs c u) {i : Nat} (hi : i < cs.length) : ∃ g f, a = some ⟨g, f, none⟩ ∧ g < u.heap.size ∧ u.rangeAt g (f + i * z) (cs.getD i []) := by
  obtain ⟨g, f, h1, h2, h3⟩ := h.at_ (by intro e; rw [e] at hi; cases hi)
  refine ⟨g, f, h1, h2, ?_⟩
  have e1 : cs = cs.take i ++ (cs[i] :: cs.drop (i + 1)) := by rw [← List.drop_eq_getElem_cons hi, List.take_append_drop]
  have hl : ((cs.take i).flatten).length = i * z := by
    rw [flat_len (fun x hx => h.each x (List.mem_of_mem_take hx)), List.length_take, Nat.min_eq_left (by omega)]
  have e2 : cs.flatten = (cs.take i).flatten ++ (cs[i] ++ (cs.drop (i + 1)).flatten) := by
    conv => lhs; rw [e1]
    rw [List.flatten_append, List.flatten_cons]
  rw [e2] at h3
  have h4 := rangeAt_drop (k := (cs.take i).flatten.length) h3
  rw [List.drop_left' rfl, hl] at h4
  have h5 := rangeAt_take (k := cs[i].length) h4
  rw [List.take_left' rfl] at h5
  rw [show cs.getD i [] = cs[i] by simp [hi]]
  exact h5
def psB (ps : List MPk) (i : Nat) : List (BitVec 8) := viB (ps.length : Int) ++ (ps.take i).flatMap pkB
theorem psB_succ {ps : List MPk} {i : Nat} (h : i < ps.length) : psB ps (i + 1) = psB ps i ++ pkB ps[i] := by
  unfold psB
  rw [List.take_succ_eq_append_getElem h, List.flatMap_append]
  simp
theorem pkB_len {p : MPk} (h : p.key.length = 32) : (pkB p).length ≤ 38 := by have := viB_len p.id; unfold pkB; rw [List.length_append]; omega
theorem psB_len {ps : List MPk} (h : ∀ p ∈ ps, p.key.length = 32) (i : Nat) : (psB ps i).length ≤ 6 + i * 38 := by
  induction i with
  | zero => have := viB_len (ps.length : Int); simp [psB]; exact this
  | succ i ih =>
    by_cases hi : i < ps.length
    · rw [psB_succ hi, List.length_append]
      have := pkB_len (h _ (List.getElem_mem hi))
      omega
    · have e : psB ps (i + 1) = psB ps i := by unfold psB; rw [List.take_of_length_le (by omega), List.take_of_length_le (by omega)]
      rw [e]; omega
theorem enters_prekeys10 : Enters 64 := enters_of Try.func64 (by kernel_rfl) rfl
set_option maxHeartbeats 8000000 in
theorem prekeys10_any (a : Option Addr) (c : Nat) (ps : List MPk) (w : World) (hp : ∀ p ∈ ps, p.key.length = 32) (hl : ps.length ≤ 60000) (hv : Lz 33 a (ps.map pkC) c w) : Calls Try.prog 64 #[.slice a ps.length c] w fun e w' => ∃ v', e = .returned v' ∧ S5 w v' (psB ps ps.length) w' := by
  have HV := Lib.hid hv; clear hv
  have CN : Hid (∀ u : World, Calls Try.prog 58 #[.int .i64 (ps.length : Int)] u fun e w' => ∃ v', e = .returned v' ∧ S5 u v' (psB ps 0) w') := Lib.hid fun u => by
    have h := number10_any (ps.length : Int) u
    simpa [psB] using h
  have HE : Hid (∀ i, i < ps.length → ∃ g f k out, a = some ⟨g, f, none⟩ ∧ psB ps (i + 1) = psB ps i ++ out ∧ out.length ≤ 38 ∧ (Try.prog.info? 42).map (·.size) = some (k : List Value).length ∧ (∀ u, Below w.heap.size w u → u.rangeAt g (f + i * 33) k) ∧ (∀ u : World, Calls Try.prog 63 #[.agg k.toArray] u fun e w' => ∃ v', e = .returned v' ∧ S5 u v' out w')) := Lib.hid fun i hi => by
    obtain ⟨g, f, h1, h2, h3⟩ := HV.out.get (i := i) (by rw [List.length_map]; exact hi)
    have e : (ps.map pkC).getD i [] = pkC ps[i] := by simp [hi]
    rw [e] at h3
    have hk := hp _ (List.getElem_mem hi)
    exact ⟨g, f, pkC ps[i], pkB ps[i], h1, psB_succ hi, pkB_len hk, szPk hk, fun u hu => rangeAt_below h3 h2 hu, fun u => prekey10_any ps[i] u hk⟩
  have HL : Hid (∀ i, (psB ps i).length ≤ 6 + i * 38) := Lib.hid (psB_len hp)
  obtain ⟨F, hF⟩ : ∃ F, F = psB ps := ⟨_, rfl⟩
  rw [← hF] at CN HE HL ⊢
  clear hF HV hp
  generalize ps.length = n at *
  go_enter Try.func64, Try.ntmps64
  go_upto_region 0 with fail; refine wp_region_lit ?_
  refine wpList_val (run_asg (v := .slice none 0 0) rfl rfl) rfl ?_; (try simp only [Act.put, List.setIfInBounds_toArray, List.set_cons_zero, List.set_cons_succ])
  refine wpList_end ?_
  go_upto_region 1 with fail; refine wp_region_lit ?_
  refine wpList_val (run_mv (v := .slice a n c) rfl rfl) rfl ?_; (try simp only [Act.put, List.setIfInBounds_toArray, List.set_cons_zero, List.set_cons_succ])
  refine wpList_val (run_len rfl Try.underlying43 rfl) rfl ?_; (try simp only [Act.put, List.setIfInBounds_toArray, List.set_cons_zero, List.set_cons_succ])
  refine wpList_callR (run_call1 enters_number10 rfl rfl rfl) rfl (CN.out _) (fun v1 a1 hR => ?_); (try simp only [Act.put, List.setIfInBounds_toArray, List.set_cons_zero, List.set_cons_succ])
  have hI := Lib.hid hR
  clear hR
  refine wpList_val (run_asg (v := v1) rfl rfl) rfl ?_; (try simp only [Act.put, List.setIfInBounds_toArray, List.set_cons_zero, List.set_cons_succ])
  refine wpList_end ?_
  go_upto_region 2 with fail; refine wp_region_lit ?_
  refine wpList_val (run_asg (v := .int .i64 0) rfl rfl) rfl ?_; (try simp only [Act.put, List.setIfInBounds_toArray, List.set_cons_zero, List.set_cons_succ])
  refine wpList_end ?_
  go_wp2_with fail
  go_loopw [3, 4] (fun s3 s4 u => ∃ i : Nat, i ≤ n ∧ s4 = .int .i64 (i : Int) ∧ S5 w s3 (F i) u) (fun _ s4 _ => (n - intOf s4).toNat)
  case atStart => exact ⟨0, by omega, rfl, hI.out⟩
  case round =>
    obtain ⟨i, hi, rfl, hJ⟩ := hrel
    replace hI := Lib.hid hJ
    clear hJ
    go_upto_region 3 with fail; refine wp_region_lit ?_
    refine wpList_val (run_mv (v := .int _ _) rfl rfl) rfl ?_; (try simp only [Act.put, List.setIfInBounds_toArray, List.set_cons_zero, List.set_cons_succ])
    refine wpList_val (run_mv (v := .slice a n c) rfl rfl) rfl ?_; (try simp only [Act.put, List.setIfInBounds_toArray, List.set_cons_zero, List.set_cons_succ])
    refine wpList_val (run_len rfl Try.underlying43 rfl) rfl ?_; (try simp only [Act.put, List.setIfInBounds_toArray, List.set_cons_zero, List.set_cons_succ])
    by_cases hik : i = n
    · subst hik
      refine wpList_val (run_lssb (c := false) rfl rfl rfl (decide_eq_false (by omega))) rfl ?_; (try simp only [Act.put, List.setIfInBounds_toArray, List.set_cons_zero, List.set_cons_succ])
      refine wpList_end ?_
      go_upto_region 6 with fail; refine wp_region_lit ?_
      refine wpList_val (run_mv (v := u3) rfl rfl) rfl ?_; (try simp only [Act.put, List.setIfInBounds_toArray, List.set_cons_zero, List.set_cons_succ])
      refine wpList_val (run_asg (v := u3) rfl rfl) rfl ?_; (try simp only [Act.put, List.setIfInBounds_toArray, List.set_cons_zero, List.set_cons_succ])
      refine wpList_end ?_
      go_wp2_with fail
      exact bodyPost_ret (results_tmp Try.results64 _ _ _) rfl ⟨_, rfl, hI.out⟩
    · refine wpList_val (run_lssb (c := true) rfl rfl rfl (decide_eq_true (by omega))) rfl ?_; (try simp only [Act.put, List.setIfInBounds_toArray, List.set_cons_zero, List.set_cons_succ])
      refine wpList_end ?_
      obtain ⟨g, f, k, out, rfl, x2, x3, x4, x5, x6⟩ := HE.out i (by omega)
      have X2 := Lib.hid x2
      have X4 := Lib.hid x4
      have X5 := Lib.hid x5
      have X6 := Lib.hid x6
      have hfl := HL.out i
      clear x2 x4 x5 x6
      have HI := Lib.hid hI.out.sl
      have bl := hI.out.bl
      clear hI
      generalize hFi : F i = Fi at *
      clear hFi
      obtain ⟨y1, c1, hy, -, -⟩ := id HI.out
      subst hy
      go_upto_region 5 with fail; refine wp_region_lit ?_
      refine wpList_val (run_mv (v := .slice y1 Fi.length c1) rfl rfl) rfl ?_; (try simp only [Act.put, List.setIfInBounds_toArray, List.set_cons_zero, List.set_cons_succ])
      refine wpList_val (run_mv (v := .slice (some ⟨g, f, none⟩) n c) rfl rfl) rfl ?_; (try simp only [Act.put, List.setIfInBounds_toArray, List.set_cons_zero, List.set_cons_succ])
      refine wpList_val (run_mv (v := .int .i64 (i : Int)) rfl rfl) rfl ?_; (try simp only [Act.put, List.setIfInBounds_toArray, List.set_cons_zero, List.set_cons_succ])
      refine wpList_val (run_ixZ (z := 33) (i := i) rfl Try.underlying43 (by kernel_rfl) rfl rfl (by omega)) rfl ?_; (try simp only [Act.put, List.setIfInBounds_toArray, List.set_cons_zero, List.set_cons_succ])
      refine wpList_val (run_ldM (vs := k) rfl Try.underlying42 rfl X4.out rfl (X5.out _ bl)) rfl ?_; (try simp only [Act.put, List.setIfInBounds_toArray, List.set_cons_zero, List.set_cons_succ])
      refine wpList_callR (run_call1 enters_prekey10 rfl rfl rfl) rfl (X6.out _) (fun vb1 ub1 hR => ?_); (try simp only [Act.put, List.setIfInBounds_toArray, List.set_cons_zero, List.set_cons_succ])
      have hb := hR.bl
      have HB1 := Lib.hid hR.sl
      clear hR
      replace bl := bl.trans (hb.mono bl.size)
      replace HI := Lib.hid (HI.out.below hb)
      clear hb
      obtain ⟨xa1, xc1, rfl, -, -⟩ := id HB1.out
      have HC : Hid (Cat ub1.heap.size [.slice y1 Fi.length c1, .slice xa1 out.length xc1] [Fi, out] (ub1.alloc (.cells #[.slice y1 Fi.length c1, .slice xa1 out.length xc1] 22))) := Lib.hid (cat_row ub1 _ [Fi, out] fun i hi => match i, hi with
        | 0, _ => ⟨_, rfl, HI.out⟩
        | 1, _ => ⟨_, rfl, HB1.out⟩)
      have hb : Below ub1.heap.size ub1 (ub1.alloc (.cells #[.slice y1 Fi.length c1, .slice xa1 out.length xc1] 22)) := (Below.refl _ _).alloc (Nat.le_refl _) _
      refine wpList_val (run_bsl (cells := #[.slice y1 Fi.length c1, .slice xa1 out.length xc1]) (z := .slice none 0 0) rfl Try.underlying122 (by kernel_rfl) (by omega) (by omega) (by kernel_rfl)) rfl ?_; (try simp only [Act.put, List.setIfInBounds_toArray, List.set_cons_zero, List.set_cons_succ])
      replace bl := bl.trans (hb.mono bl.size)
      clear hb
      generalize ub1.alloc (.cells #[.slice y1 Fi.length c1, .slice xa1 out.length xc1] 22) = uc at *
      generalize ub1.heap.size = gc at *
      refine wpList_callR (run_call1 enters_all10 rfl rfl rfl) rfl (all10_any gc _ [Fi, out] 2 _ HC.out rfl (by omega) (by simp; omega)) (fun VL uz hR => ?_); (try simp only [Act.put, List.setIfInBounds_toArray, List.set_cons_zero, List.set_cons_succ])
      have HL2 := Lib.hid hR
      have hbu := bl
      replace bl := bl.trans (hR.bl.mono bl.size)
      clear hR
      refine wpList_val (run_asg (v := VL) rfl rfl) rfl ?_; (try simp only [Act.put, List.setIfInBounds_toArray, List.set_cons_zero, List.set_cons_succ])
      refine wpList_end ?_
      have hI2 : Hid (S5 w VL (F (i + 1)) uz) := Lib.hid (by
        have h := HL2.out.mono hbu
        rw [X2.out]
        simpa using h)
      clear HL2
      go_wp2_with fail
      go_roundw
      case rel => exact ⟨i + 1, by omega, by go_num, hI2.out⟩
      case measure => simp [intOf]; omega
end Go.Proofs.Ytgioojahadlmhaa
