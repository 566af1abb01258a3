/- What keywardlaw02.LadderPairs answers: the walk. -/
import Derived.Test.YtegebgbmnddopaaDoorLawPairs
namespace Go.Proofs.YtegebgbmnddopaaDoor
open Go.RowKit Go.Sort

theorem quiet_calm {P : Program} {ops : Array Oper} {Q : Act → Prop} {a : Act} {w0 : World} {o : Oper} {rest : List Oper} (v : Value) (hw : Region.wanted o (yielded ops a.tmps) = true) (h : ∀ V, Below w0.heap.size w0 V → calmUpon P V v ((execOp a.eval o).run P V))
    (h' : wpQuiet P ops (fun w' => ∃ p : Regrown, w' = grow (redrawn w0 p.d) p.os) Q rest (a.put o.dst v)) : wpQuiet P ops (fun w' => ∃ p : Regrown, w' = grow (redrawn w0 p.d) p.os) Q (o :: rest) a := by
  unfold wpQuiet
  rw [if_pos hw]
  refine ⟨v, fun V ⟨p, hp⟩ => ?_, h'⟩
  have hV : Below w0.heap.size w0 V := hp ▸ below_regrown w0 p.d p.os
  have hc := h V hV
  unfold Oper.quietAt
  generalize (execOp a.eval o).run P V = r at *
  cases r with
  | ok n w' =>
    cases n <;> simp only [calmUpon] at hc <;> simp only [Oper.quietUpon]
    case value u => exact hc
    case enter f args => exact ⟨hc.1, hc.2.mono fun e w'' ⟨he, hb⟩ => ⟨he, regrown_of_below (hV.trans (hb.mono hV.size))⟩⟩
  | halt x w' => simp only [calmUpon] at hc
theorem run_call0 {w : World} {ρ : Operand → Value} {o : Oper} {f : FuncId} {ts : Array TypeId} (hE : Enters f) (ho : o.op = .call { callee := .value (.func f), args := #[], argTypes := ts }) (hf : ρ (.func f) = .func (.func f) #[] #[]) : (execOp ρ o).run Tryd.prog w = .ok (.enter f #[]) w := by
  rw [run_call hE ho hf]
  have e : (#[] : Array Operand).map ρ = #[] := by simp
  rw [e]
theorem enters_known2 : Enters 6 := enters_of Tryd.func6 (by kernel_rfl) rfl
theorem run_alloc_pair (ρ : Operand → Value) (w : World) (o : Oper) (h : o.op = .alloc 25) : (execOp ρ o).run Tryd.prog w = .ok (.value (.pointer (some ⟨w.heap.size, 0, none⟩))) (w.alloc (.cells #[Value.int .u8 0, Value.int .u8 0, Value.int .u8 0, Value.int .u8 0, Value.int .u8 0, Value.int .u8 0, Value.int .u8 0, Value.int .u8 0, Value.int .u8 0, Value.int .u8 0, Value.int .u8 0, Value.int .u8 0, Value.int .u8 0, Value.int .u8 0, Value.int .u8 0, Value.int .u8 0, Value.int .u8 0, Value.int .u8 0, Value.int .u8 0, Value.int .u8 0, Value.int .u8 0, Value.int .u8 0, Value.int .u8 0, Value.int .u8 0, Value.int .u8 0, Value.int .u8 0, Value.int .u8 0, Value.int .u8 0, Value.int .u8 0, Value.int .u8 0, Value.int .u8 0, Value.int .u8 0, Value.int .u8 0, Value.int .u8 0, Value.int .u8 0, Value.int .u8 0, Value.int .u8 0, Value.int .u8 0, Value.int .u8 0, Value.int .u8 0, Value.int .u8 0, Value.int .u8 0, Value.int .u8 0, Value.int .u8 0, Value.int .u8 0, Value.int .u8 0, Value.int .u8 0, Value.int .u8 0, Value.int .u8 0, Value.int .u8 0, Value.int .u8 0, Value.int .u8 0, Value.int .u8 0, Value.int .u8 0, Value.int .u8 0, Value.int .u8 0, Value.int .u8 0, Value.int .u8 0, Value.int .u8 0, Value.int .u8 0, Value.int .u8 0, Value.int .u8 0, Value.int .u8 0, Value.int .u8 0] 25)) := by
  obtain ⟨dst, op, type, pos, after, guard⟩ := o
  subst h
  go_simp
theorem run_picked {w : World} {ρ : Operand → Value} {o : Oper} {x y z : Operand} (ho : o.op = .pick x y z) (hx : ρ x = .bool true) (hy : ρ y = .bool true) : (execOp ρ o).run Tryd.prog w = .ok (.value (.bool true)) w := by
  obtain ⟨dst, op, type, pos, after, guard⟩ := o
  subst ho
  go_simp
theorem run_assigned {w : World} {ρ : Operand → Value} {o : Oper} {x : Operand} {v : Value} (ho : o.op = .assign x) (hx : ρ x = v) : (execOp ρ o).run Tryd.prog w = .ok (.value v) w := by
  obtain ⟨dst, op, type, pos, after, guard⟩ := o
  subst ho
  go_simp
theorem run_field0 {w : World} {ρ : Operand → Value} {o : Oper} {x : Operand} {g : Nat} (ho : o.op = .fieldAddr 25 x 0) (hx : ρ x = .pointer (some ⟨g, 0, none⟩)) : (execOp ρ o).run Tryd.prog w = .ok (.value (.pointer (some ⟨g, 0, none⟩))) w := by
  obtain ⟨dst, op, type, pos, after, guard⟩ := o
  subst ho
  go_simp
theorem run_field1 {w : World} {ρ : Operand → Value} {o : Oper} {x : Operand} {g : Nat} (ho : o.op = .fieldAddr 25 x 1) (hx : ρ x = .pointer (some ⟨g, 0, none⟩)) : (execOp ρ o).run Tryd.prog w = .ok (.value (.pointer (some ⟨g, 32, none⟩))) w := by
  obtain ⟨dst, op, type, pos, after, guard⟩ := o
  subst ho
  go_simp
theorem run_eq_key {l : List Int} (hl : l.length = 32) {w : World} {ρ : Operand → Value} {o : Oper} {x y : Operand} {t : TypeId} (ho : o.op = .binOp .eql 23 x y t) (hx : ρ x = kV l) (hy : ρ y = kV l) : (execOp ρ o).run Tryd.prog w = .ok (.value (.bool true)) w := by
  obtain ⟨dst, op, type, pos, after, guard⟩ := o
  subst ho
  have hE := eqKey_same hl w
  go_simp
theorem run_at31 {w : World} {ρ : Operand → Value} {o : Oper} {x : Operand} {g off : Nat} (ho : o.op = .indexAddr 23 x (.const (.int .i64 31))) (hx : ρ x = .pointer (some ⟨g, off, none⟩)) (hc : ρ (.const (.int .i64 31)) = .int .i64 31) : (execOp ρ o).run Tryd.prog w = .ok (.value (.pointer (some ⟨g, off + 31, none⟩))) w := by
  obtain ⟨dst, op, type, pos, after, guard⟩ := o
  subst ho
  go_simp
theorem run_load_byte {w : World} {ρ : Operand → Value} {o : Oper} {x : Operand} {g off : Nat} {b : Int} (ho : o.op = .load 5 x) (hx : ρ x = .pointer (some ⟨g, off, none⟩)) (hc : w.cell? ⟨g, off, none⟩ = some (.int .u8 b)) : (execOp ρ o).run Tryd.prog w = .ok (.value (.int .u8 b)) w := by
  obtain ⟨dst, op, type, pos, after, guard⟩ := o
  subst ho
  go_simp
theorem run_below128 {w : World} {ρ : Operand → Value} {o : Oper} {x : Operand} {b : Int} {t : TypeId} (ho : o.op = .binOp .lss 5 x (.const (.int .u8 128)) t) (hx : ρ x = .int .u8 b) (hc : ρ (.const (.int .u8 128)) = .int .u8 128) (hb : b < 128) : (execOp ρ o).run Tryd.prog w = .ok (.value (.bool true)) w := by
  obtain ⟨dst, op, type, pos, after, guard⟩ := o
  subst ho
  go_simp
theorem Row.prefix {b : Nat} {l m : List Int} {u : World} (h : Row b (l ++ m) u) : u.rangeAt b 0 (l.map (Value.int .u8)) := fun j v hv => by
  have hj := (List.getElem?_eq_some_iff.1 hv).1
  refine h.range j v ?_
  rw [List.map_append, List.getElem?_append_left hj]
  exact hv
theorem Row.suffix {b : Nat} {l m : List Int} {u : World} (h : Row b (l ++ m) u) (hl : l.length = 32) : u.rangeAt b 32 (m.map (Value.int .u8)) := fun j v hv => by
  have := h.range (32 + j) v (by rw [List.map_append, List.getElem?_append_right (by simp [hl]), List.length_map, hl, Nat.add_sub_cancel_left]; exact hv)
  rwa [Nat.zero_add] at this

set_option maxHeartbeats 2000000 in
theorem pairs_any (k u : List Int) (w : World) (hk : k.length = 32) (hkB : Bytes8 k) (hu : u.length = 32) (huB : Bytes8 u) (hG : LG w) :
    Calls Tryd.prog 3 #[kV k, kV u] w fun e w' => e = .returned (.bool true) ∧ Below w.heap.size w w' := by
  have HK := Lib.hid hk; clear hk
  have HU := Lib.hid hu; clear hu
  have HP := Lib.hid (pair_len k HK.out)
  have E63 : Hid (nth (k ++ mulL k nineL) (32 + 31) = nth (mulL k nineL) 31) := Lib.hid (by unfold nth; rw [List.getElem?_append_right (by rw [HK.out]; omega), HK.out])
  go_enter Tryd.func3, Tryd.ntmps3
  go_upto_region 1 with fail
  have RK := Lib.hid (Row.new w k)
  have b1 : Below w.heap.size w (w.alloc (.cells (k.map (Value.int .u8)).toArray 23)) := (Below.refl _ _).alloc (Nat.le_refl _) _
  have hs : w.heap.size + 1 = (w.alloc (.cells (k.map (Value.int .u8)).toArray 23)).heap.size := by simp
  rw [hs]
  generalize w.alloc (.cells (k.map (Value.int .u8)).toArray 23) = u0 at *
  clear hs
  have RU := Lib.hid (Row.new u0 u)
  have b2 : Below u0.heap.size u0 (u0.alloc (.cells (u.map (Value.int .u8)).toArray 23)) := (Below.refl _ _).alloc (Nat.le_refl _) _
  replace RK := Lib.hid (RK.out.below b2)
  replace b1 := b1.trans (b2.mono b1.size)
  generalize u0.alloc (.cells (u.map (Value.int .u8)).toArray 23) = u1 at *
  generalize u0.heap.size = g3 at *
  clear b2 u0
  replace hG := hG.below b1
  refine wp_region_lit ?_
  refine wpList_val (run_load_key RK.out.range HK.out rfl (by kernel_rfl)) rfl ?_; (try simp only [Act.put, List.setIfInBounds_toArray, List.set_cons_zero, List.set_cons_succ])
  refine wpList_enter (run_call1 enters_make rfl rfl (by kernel_rfl)) rfl (make_any k _ HK.out hkB hG) (fun u2 hb => ?_); (try simp only [Act.put, List.setIfInBounds_toArray, List.set_cons_zero, List.set_cons_succ])
  refine wpList_val (run_alloc_pair _ _ _ rfl) rfl ?_; (try simp only [Act.put, List.setIfInBounds_toArray, List.set_cons_zero, List.set_cons_succ])
  have RP : Row u2.heap.size (List.replicate 64 0) (u2.alloc (.cells #[Value.int .u8 0, Value.int .u8 0, Value.int .u8 0, Value.int .u8 0, Value.int .u8 0, Value.int .u8 0, Value.int .u8 0, Value.int .u8 0, Value.int .u8 0, Value.int .u8 0, Value.int .u8 0, Value.int .u8 0, Value.int .u8 0, Value.int .u8 0, Value.int .u8 0, Value.int .u8 0, Value.int .u8 0, Value.int .u8 0, Value.int .u8 0, Value.int .u8 0, Value.int .u8 0, Value.int .u8 0, Value.int .u8 0, Value.int .u8 0, Value.int .u8 0, Value.int .u8 0, Value.int .u8 0, Value.int .u8 0, Value.int .u8 0, Value.int .u8 0, Value.int .u8 0, Value.int .u8 0, Value.int .u8 0, Value.int .u8 0, Value.int .u8 0, Value.int .u8 0, Value.int .u8 0, Value.int .u8 0, Value.int .u8 0, Value.int .u8 0, Value.int .u8 0, Value.int .u8 0, Value.int .u8 0, Value.int .u8 0, Value.int .u8 0, Value.int .u8 0, Value.int .u8 0, Value.int .u8 0, Value.int .u8 0, Value.int .u8 0, Value.int .u8 0, Value.int .u8 0, Value.int .u8 0, Value.int .u8 0, Value.int .u8 0, Value.int .u8 0, Value.int .u8 0, Value.int .u8 0, Value.int .u8 0, Value.int .u8 0, Value.int .u8 0, Value.int .u8 0, Value.int .u8 0, Value.int .u8 0] 25)) := row_new_any u2 (List.replicate 64 0) 25
  refine wpList_store_row (l' := k ++ mulL k nineL) RP (by rw [HP.out]; rfl) (pair_size HP.out) rfl rfl rfl (by kernel_rfl) (by kernel_rfl) ?_
  replace RP := Lib.hid (RP.storeAll (l' := k ++ mulL k nineL) (by rw [HP.out]; rfl))
  have b2 : Below u2.heap.size u2 (u2.alloc (.cells #[Value.int .u8 0, Value.int .u8 0, Value.int .u8 0, Value.int .u8 0, Value.int .u8 0, Value.int .u8 0, Value.int .u8 0, Value.int .u8 0, Value.int .u8 0, Value.int .u8 0, Value.int .u8 0, Value.int .u8 0, Value.int .u8 0, Value.int .u8 0, Value.int .u8 0, Value.int .u8 0, Value.int .u8 0, Value.int .u8 0, Value.int .u8 0, Value.int .u8 0, Value.int .u8 0, Value.int .u8 0, Value.int .u8 0, Value.int .u8 0, Value.int .u8 0, Value.int .u8 0, Value.int .u8 0, Value.int .u8 0, Value.int .u8 0, Value.int .u8 0, Value.int .u8 0, Value.int .u8 0, Value.int .u8 0, Value.int .u8 0, Value.int .u8 0, Value.int .u8 0, Value.int .u8 0, Value.int .u8 0, Value.int .u8 0, Value.int .u8 0, Value.int .u8 0, Value.int .u8 0, Value.int .u8 0, Value.int .u8 0, Value.int .u8 0, Value.int .u8 0, Value.int .u8 0, Value.int .u8 0, Value.int .u8 0, Value.int .u8 0, Value.int .u8 0, Value.int .u8 0, Value.int .u8 0, Value.int .u8 0, Value.int .u8 0, Value.int .u8 0, Value.int .u8 0, Value.int .u8 0, Value.int .u8 0, Value.int .u8 0, Value.int .u8 0, Value.int .u8 0, Value.int .u8 0, Value.int .u8 0] 25)) := (Below.refl _ _).alloc (Nat.le_refl _) _
  replace b2 := Below.setCells (Nat.le_refl u2.heap.size) ((k ++ mulL k nineL).map (Value.int .u8)) 0 b2
  replace b2 := hb.trans (b2.mono hb.size)
  generalize (u2.alloc (.cells #[Value.int .u8 0, Value.int .u8 0, Value.int .u8 0, Value.int .u8 0, Value.int .u8 0, Value.int .u8 0, Value.int .u8 0, Value.int .u8 0, Value.int .u8 0, Value.int .u8 0, Value.int .u8 0, Value.int .u8 0, Value.int .u8 0, Value.int .u8 0, Value.int .u8 0, Value.int .u8 0, Value.int .u8 0, Value.int .u8 0, Value.int .u8 0, Value.int .u8 0, Value.int .u8 0, Value.int .u8 0, Value.int .u8 0, Value.int .u8 0, Value.int .u8 0, Value.int .u8 0, Value.int .u8 0, Value.int .u8 0, Value.int .u8 0, Value.int .u8 0, Value.int .u8 0, Value.int .u8 0, Value.int .u8 0, Value.int .u8 0, Value.int .u8 0, Value.int .u8 0, Value.int .u8 0, Value.int .u8 0, Value.int .u8 0, Value.int .u8 0, Value.int .u8 0, Value.int .u8 0, Value.int .u8 0, Value.int .u8 0, Value.int .u8 0, Value.int .u8 0, Value.int .u8 0, Value.int .u8 0, Value.int .u8 0, Value.int .u8 0, Value.int .u8 0, Value.int .u8 0, Value.int .u8 0, Value.int .u8 0, Value.int .u8 0, Value.int .u8 0, Value.int .u8 0, Value.int .u8 0, Value.int .u8 0, Value.int .u8 0, Value.int .u8 0, Value.int .u8 0, Value.int .u8 0, Value.int .u8 0] 25)).setCells u2.heap.size 0 ((k ++ mulL k nineL).map (Value.int .u8)) = u3 at *
  generalize u2.heap.size = g5 at *
  replace RK := Lib.hid (RK.out.below b2)
  replace RU := Lib.hid (RU.out.below b2)
  replace hG := hG.below b2
  replace b1 := b1.trans (b2.mono b1.size)
  clear hb b2 u1 u2
  refine wpList_done ?_
  go_upto_region 2 with fail
  refine wp_region_lit ?_
  refine wpList_val (run_load_key RK.out.range HK.out rfl (by kernel_rfl)) rfl ?_; (try simp only [Act.put, List.setIfInBounds_toArray, List.set_cons_zero, List.set_cons_succ])
  refine wpList_val (run_load_key RU.out.range HU.out rfl (by kernel_rfl)) rfl ?_; (try simp only [Act.put, List.setIfInBounds_toArray, List.set_cons_zero, List.set_cons_succ])
  refine wpList_enter (run_call2 enters_lmul rfl rfl (by kernel_rfl) (by kernel_rfl)) rfl (lmul_any k u _ HK.out hkB HU.out huB hG.O hG.T) (fun u2 hb => ?_); (try simp only [Act.put, List.setIfInBounds_toArray, List.set_cons_zero, List.set_cons_succ])
  refine wpList_val (run_alloc_key _ _ _ rfl) rfl ?_; (try simp only [Act.put, List.setIfInBounds_toArray, List.set_cons_zero, List.set_cons_succ])
  have RX := Row.zero u2
  refine wpList_store_row (l' := mulL k u) RX (by rw [mulL_len]; rfl) (kV_size (mulL_len _ _)) rfl rfl rfl (by kernel_rfl) (by kernel_rfl) ?_
  replace RX := Lib.hid (RX.storeAll (l' := mulL k u) (by rw [mulL_len]; rfl))
  have b2 : Below u2.heap.size u2 (u2.alloc (.cells #[.int .u8 0, .int .u8 0, .int .u8 0, .int .u8 0, .int .u8 0, .int .u8 0, .int .u8 0, .int .u8 0, .int .u8 0, .int .u8 0, .int .u8 0, .int .u8 0, .int .u8 0, .int .u8 0, .int .u8 0, .int .u8 0, .int .u8 0, .int .u8 0, .int .u8 0, .int .u8 0, .int .u8 0, .int .u8 0, .int .u8 0, .int .u8 0, .int .u8 0, .int .u8 0, .int .u8 0, .int .u8 0, .int .u8 0, .int .u8 0, .int .u8 0, .int .u8 0] 23)) := (Below.refl _ _).alloc (Nat.le_refl _) _
  replace b2 := Below.setCells (Nat.le_refl u2.heap.size) ((mulL k u).map (Value.int .u8)) 0 b2
  replace b2 := hb.trans (b2.mono hb.size)
  generalize (u2.alloc (.cells #[.int .u8 0, .int .u8 0, .int .u8 0, .int .u8 0, .int .u8 0, .int .u8 0, .int .u8 0, .int .u8 0, .int .u8 0, .int .u8 0, .int .u8 0, .int .u8 0, .int .u8 0, .int .u8 0, .int .u8 0, .int .u8 0, .int .u8 0, .int .u8 0, .int .u8 0, .int .u8 0, .int .u8 0, .int .u8 0, .int .u8 0, .int .u8 0, .int .u8 0, .int .u8 0, .int .u8 0, .int .u8 0, .int .u8 0, .int .u8 0, .int .u8 0, .int .u8 0] 23)).setCells u2.heap.size 0 ((mulL k u).map (Value.int .u8)) = u4 at *
  generalize u2.heap.size = g6 at *
  replace RK := Lib.hid (RK.out.below b2)
  replace RP := Lib.hid (RP.out.below b2)
  replace hG := hG.below b2
  replace b1 := b1.trans (b2.mono b1.size)
  clear RU hb b2 u2 u3
  refine wpList_done ?_
  go_upto_region 3 with fail
  refine wp_region_quiet_below (by kernel_rfl) (by kernel_rfl) ?_
  refine quiet_calm (.bool true) (by kernel_rfl) (fun V hV => by rw [run_call0 enters_known2 rfl rfl]; exact ⟨rfl, known2_any V (hG.below hV)⟩) ?_; (try simp only [Act.put, List.setIfInBounds_toArray, List.set_cons_zero, List.set_cons_succ])
  refine quiet_calm (.bool true) (by kernel_rfl) (fun V hV => calm_run (run_moved rfl (by kernel_rfl))) ?_; (try simp only [Act.put, List.setIfInBounds_toArray, List.set_cons_zero, List.set_cons_succ])
  refine quiet_calm (.pointer (some ⟨g5, 0, none⟩)) (by kernel_rfl) (fun V hV => calm_run (run_field0 rfl (by kernel_rfl))) ?_; (try simp only [Act.put, List.setIfInBounds_toArray, List.set_cons_zero, List.set_cons_succ])
  refine quiet_calm (kV k) (by kernel_rfl) (fun V hV => calm_run (run_load_key (RP.out.below hV).prefix HK.out rfl (by kernel_rfl))) ?_; (try simp only [Act.put, List.setIfInBounds_toArray, List.set_cons_zero, List.set_cons_succ])
  refine quiet_calm (kV k) (by kernel_rfl) (fun V hV => calm_run (run_load_key (RK.out.below hV).range HK.out rfl (by kernel_rfl))) ?_; (try simp only [Act.put, List.setIfInBounds_toArray, List.set_cons_zero, List.set_cons_succ])
  refine quiet_calm (.bool true) (by kernel_rfl) (fun V hV => calm_run (run_eq_key HK.out rfl (by kernel_rfl) (by kernel_rfl))) ?_; (try simp only [Act.put, List.setIfInBounds_toArray, List.set_cons_zero, List.set_cons_succ])
  refine quiet_calm (.bool true) (by kernel_rfl) (fun V hV => calm_run (run_picked rfl (by kernel_rfl) (by kernel_rfl))) ?_; (try simp only [Act.put, List.setIfInBounds_toArray, List.set_cons_zero, List.set_cons_succ])
  refine quiet_calm (.bool true) (by kernel_rfl) (fun V hV => calm_run (run_moved rfl (by kernel_rfl))) ?_; (try simp only [Act.put, List.setIfInBounds_toArray, List.set_cons_zero, List.set_cons_succ])
  refine quiet_calm (.pointer (some ⟨g5, 32, none⟩)) (by kernel_rfl) (fun V hV => calm_run (run_field1 rfl (by kernel_rfl))) ?_; (try simp only [Act.put, List.setIfInBounds_toArray, List.set_cons_zero, List.set_cons_succ])
  refine quiet_calm (kV (mulL k nineL)) (by kernel_rfl) (fun V hV => calm_run (run_load_key ((RP.out.below hV).suffix HK.out) (mulL_len _ _) rfl (by kernel_rfl))) ?_; (try simp only [Act.put, List.setIfInBounds_toArray, List.set_cons_zero, List.set_cons_succ])
  refine quiet_calm (kV k) (by kernel_rfl) (fun V hV => calm_run (run_load_key (RK.out.below hV).range HK.out rfl (by kernel_rfl))) ?_; (try simp only [Act.put, List.setIfInBounds_toArray, List.set_cons_zero, List.set_cons_succ])
  refine quiet_calm (kV nineL) (by kernel_rfl) (fun V hV => calm_run (run_build_nine rfl rfl)) ?_; (try simp only [Act.put, List.setIfInBounds_toArray, List.set_cons_zero, List.set_cons_succ])
  refine quiet_calm (kV (mulL k nineL)) (by kernel_rfl) (fun V hV => calm_call2 enters_lmul rfl rfl (by kernel_rfl) (by kernel_rfl) (lmul_any k nineL V HK.out hkB nineL_len nineL_bytes (hG.below hV).O (hG.below hV).T)) ?_; (try simp only [Act.put, List.setIfInBounds_toArray, List.set_cons_zero, List.set_cons_succ])
  refine quiet_calm (.bool true) (by kernel_rfl) (fun V hV => calm_run (run_eq_key (mulL_len k nineL) rfl (by kernel_rfl) (by kernel_rfl))) ?_; (try simp only [Act.put, List.setIfInBounds_toArray, List.set_cons_zero, List.set_cons_succ])
  refine quiet_calm (.bool true) (by kernel_rfl) (fun V hV => calm_run (run_picked rfl (by kernel_rfl) (by kernel_rfl))) ?_; (try simp only [Act.put, List.setIfInBounds_toArray, List.set_cons_zero, List.set_cons_succ])
  refine quiet_calm (.bool true) (by kernel_rfl) (fun V hV => calm_run (run_moved rfl (by kernel_rfl))) ?_; (try simp only [Act.put, List.setIfInBounds_toArray, List.set_cons_zero, List.set_cons_succ])
  refine quiet_calm (.pointer (some ⟨g6, 0 + 31, none⟩)) (by kernel_rfl) (fun V hV => calm_run (run_at31 rfl (by kernel_rfl) rfl)) ?_; (try simp only [Act.put, List.setIfInBounds_toArray, List.set_cons_zero, List.set_cons_succ])
  refine quiet_calm (.int .u8 (nth (mulL k u) 31)) (by kernel_rfl) (fun V hV => calm_run (run_load_byte rfl (by kernel_rfl) ((RX.out.below hV).c (0 + 31) (by rw [mulL_len]; omega)))) ?_; (try simp only [Act.put, List.setIfInBounds_toArray, List.set_cons_zero, List.set_cons_succ])
  refine quiet_calm (.bool true) (by kernel_rfl) (fun V hV => calm_run (run_below128 rfl (by kernel_rfl) rfl (mulL_top k u))) ?_; (try simp only [Act.put, List.setIfInBounds_toArray, List.set_cons_zero, List.set_cons_succ])
  refine quiet_calm (.bool true) (by kernel_rfl) (fun V hV => calm_run (run_picked rfl (by kernel_rfl) (by kernel_rfl))) ?_; (try simp only [Act.put, List.setIfInBounds_toArray, List.set_cons_zero, List.set_cons_succ])
  refine quiet_calm (.bool true) (by kernel_rfl) (fun V hV => calm_run (run_moved rfl (by kernel_rfl))) ?_; (try simp only [Act.put, List.setIfInBounds_toArray, List.set_cons_zero, List.set_cons_succ])
  refine quiet_calm (.pointer (some ⟨g5, 32, none⟩)) (by kernel_rfl) (fun V hV => calm_run (run_field1 rfl (by kernel_rfl))) ?_; (try simp only [Act.put, List.setIfInBounds_toArray, List.set_cons_zero, List.set_cons_succ])
  refine quiet_calm (.pointer (some ⟨g5, 32 + 31, none⟩)) (by kernel_rfl) (fun V hV => calm_run (run_at31 rfl (by kernel_rfl) rfl)) ?_; (try simp only [Act.put, List.setIfInBounds_toArray, List.set_cons_zero, List.set_cons_succ])
  refine quiet_calm (.int .u8 (nth (mulL k nineL) 31)) (by kernel_rfl) (fun V hV => calm_run (run_load_byte rfl (by kernel_rfl) (by have h := (RP.out.below hV).c (32 + 31) (by rw [HP.out]; omega); rw [E63.out] at h; exact h))) ?_; (try simp only [Act.put, List.setIfInBounds_toArray, List.set_cons_zero, List.set_cons_succ])
  refine quiet_calm (.bool true) (by kernel_rfl) (fun V hV => calm_run (run_below128 rfl (by kernel_rfl) rfl (mulL_top k nineL))) ?_; (try simp only [Act.put, List.setIfInBounds_toArray, List.set_cons_zero, List.set_cons_succ])
  refine quiet_calm (.bool true) (by kernel_rfl) (fun V hV => calm_run (run_picked rfl (by kernel_rfl) (by kernel_rfl))) ?_; (try simp only [Act.put, List.setIfInBounds_toArray, List.set_cons_zero, List.set_cons_succ])
  refine quiet_calm (.bool true) (by kernel_rfl) (fun V hV => calm_run (run_assigned rfl (by kernel_rfl))) ?_; (try simp only [Act.put, List.setIfInBounds_toArray, List.set_cons_zero, List.set_cons_succ])
  refine wpQuiet_nil ?_
  intro V hV
  obtain ⟨p, hp⟩ := hV
  have hb : Below u4.heap.size u4 V := hp ▸ below_regrown u4 p.d p.os
  clear hp p
  go_wp2_with fail
  go_ret
  exact ⟨rfl, b1.trans (hb.mono b1.size)⟩
end Go.Proofs.YtegebgbmnddopaaDoor
