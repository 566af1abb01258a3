/- What keywardlaw03.known does. -/
import Derived.Test.YtkjlaoaaifliaaaDoorShaKnum
import Derived.Great.BuildSlice
import Derived.Lib.SlBytesConst
namespace Go.Proofs.YtkjlaoaaifliaaaDoor
open Go.RowKit

section
variable {w : World} {ρ : Operand → Value} {o : Oper} {x y : Operand}
/-- A slice literal of numbers. -/
theorem run_bsl {t e : TypeId} {n : Nat} {parts : Array (Nat × Operand)} {cells : Array Value} {z : Value} (ho : o.op = .buildSlice t n parts) (ht : Tryd.prog.underlying t = some (.slice e)) (hi : (Tryd.prog.info? e).map (fun i => (i.size, i.zero)) = some (1, some z)) (hn : n ≤ 1000) (hp : 0 < n)
    (hf : Instr.fill (fun i => some (i * 1, 1)) ((Array.range (n * 1)).map (z.cells[· % z.cells.size]!)) (parts.map fun (i, x) => (i, ρ x)).toList = some cells) : (execOp ρ o).run Tryd.prog w = .ok (.value (.slice (some ⟨w.heap.size, 0, none⟩) n n)) (w.alloc (.cells cells e)) := by
  obtain ⟨inf, h1, h2⟩ := Option.map_eq_some_iff.1 hi
  obtain ⟨e1, e2⟩ : inf.size = 1 ∧ inf.zero = some z := by simpa using h2
  have h := run_buildSlice (P := Tryd.prog) w t e n (parts.map fun (i, x) => (i, ρ x)) cells inf z ht h1 e2 (by rw [e1]; omega) (by rw [e1]; omega) (by rw [e1]; exact hf)
  unfold execOp
  simp only [ho, Sem.run_bind, h]
  simp [go_sem]
/-- A slice of bytes that was laid just now, marked as a text's. -/
theorem run_cvb {C : Array Value} {n c : Nat} (ho : o.op = .convert 23 23 x) (hx : ρ x = .slice (some ⟨w.heap.size, 0, none⟩) n c) : (execOp ρ o).run Tryd.prog (w.alloc (.cells C 5)) = .ok (.value (.slice (some ⟨w.heap.size, 0, none⟩) n c)) (w.alloc (.cells C 5 (C.size, C.size + 1))) := by
  have h := Lib.run_convert_bytes_const (P := Tryd.prog) w 23 5 C n c Tryd.underlying23 Tryd.underlying5
  unfold execOp
  simp only [ho, hx, Sem.run_bind, h]
  simp [go_sem]
theorem run_eq8 {t t' : TypeId} {a : BitVec 8} {n : Int} (ho : o.op = .binOp .eql t x y t') (hx : ρ x = b8 a) (hy : ρ y = .int .u8 n) (h : (a.toNat : Int) = n) : (execOp ρ o).run Tryd.prog w = .ok (.value (.bool true)) w := by
  rw [run_eql (k := .u8) (a := (a.toNat : Int)) (b := n) ho hx hy, h]; simp
end
/-- A guarded operation whose guard says yes. -/
theorem wpList_valG {ops : Array Oper} {Q : Exit → Act → World → Prop} {rest : List Oper} {o : Oper} {a : Act} {w w' : World} {v : Value} (hr : (execOp a.eval o).run Tryd.prog w = .ok (.value v) w') (hw : Region.wanted o (yielded ops a.tmps) = true) (h : wpList Tryd.prog ops Q rest (a.put o.dst v) w') : wpList Tryd.prog ops Q (o :: rest) a w := by
  simp only [wpList, hw, if_true]
  refine .inl ?_
  unfold Oper.wp
  rw [hr]
  exact h
theorem abc_row (w : World) : Sl (.slice (some ⟨w.heap.size, 0, none⟩) 3 3) abc (w.alloc (.cells (abc.map b8).toArray 5 (3, 4))) := by
  refine ⟨_, 3, rfl, Nat.le_refl _, fun _ => ⟨w.heap.size, 0, rfl, by simp, fun j v hv => ?_⟩⟩
  rw [Nat.zero_add]
  simp only [World.cell?, World.alloc, Array.getElem?_push_size]
  simpa using hv
theorem enters_known : Enters 11 := enters_of Tryd.func11 (by kernel_rfl) rfl
set_option maxRecDepth 100000 in
set_option maxHeartbeats 1000000 in
theorem known_any (w : World) (hT : Tabs w) : Calls Tryd.prog 11 #[] w fun e w' => e = .returned (.bool true) ∧ Below w.heap.size w w' := by
  have HT := Lib.hid hT; clear hT
  go_enter Tryd.func11, Tryd.ntmps11
  go_upto_region 1 with fail; refine wp_region_lit ?_
  refine wpList_val (run_bsl (cells := (abc.map b8).toArray) (z := .int .u8 0) rfl Tryd.underlying23 (by kernel_rfl) (by omega) (by omega) (by kernel_rfl)) rfl ?_; (try simp only [Act.put, List.setIfInBounds_toArray, List.set_cons_zero, List.set_cons_succ])
  refine wpList_val (run_cvb rfl rfl) rfl ?_; (try simp only [Act.put, List.setIfInBounds_toArray, List.set_cons_zero, List.set_cons_succ])
  have b32 : Below w.heap.size w (w.alloc (.cells (abc.map b8).toArray 5 ((abc.map b8).toArray.size, (abc.map b8).toArray.size + 1))) := (Below.refl _ _).alloc (Nat.le_refl _) _
  have S1 : Hid (Sl (.slice (some ⟨w.heap.size, 0, none⟩) 3 3) abc (w.alloc (.cells (abc.map b8).toArray 5 ((abc.map b8).toArray.size, (abc.map b8).toArray.size + 1)))) := Lib.hid (abc_row w)
  generalize w.alloc (.cells (abc.map b8).toArray 5 ((abc.map b8).toArray.size, (abc.map b8).toArray.size + 1)) = u1 at *
  refine wpList_enter (run_call1 enters_sum32 rfl rfl rfl) rfl (sum32_any _ abc _ S1.out (by decide) (HT.out.below b32)) (fun v32 hb2 => ?_); (try simp only [Act.put, List.setIfInBounds_toArray, List.set_cons_zero, List.set_cons_succ])
  replace b32 := b32.trans (hb2.mono b32.size)
  clear hb2 S1
  rw [abc32]
  have hz32 := b32.size
  refine wpList_val (run_alc (vs := z8 32) rfl (by kernel_rfl)) rfl ?_; (try simp only [Act.put, List.setIfInBounds_toArray, List.set_cons_zero, List.set_cons_succ])
  have A1 := Arr.new v32 (z8 32) 25
  replace b32 := b32.alloc hz32 (.cells (z8 32).toArray 25)
  generalize hL : (v32.alloc (.cells (z8 32).toArray 25)) = v2 at *
  clear hL
  have hs := sum_len32 abc
  rw [abc32] at hs
  refine wpList_skip (run_stA rfl (size_d32 hs) rfl rfl (one8 _) (by rw [List.length_map]; exact A1.there)) rfl rfl ?_
  refine wpList_end ?_
  have HA32 := Lib.hid (A1.put (l' := (sum32 abc).map b8) (by rw [List.length_map, sum_len32]; rfl))
  rw [abc32] at HA32
  replace b32 := below_setCells hz32 ((sum32 abc).map b8) 0 b32
  rw [abc32] at b32
  generalize hE : World.setCells v2 _ _ _ = w32 at *
  clear hE A1 hs v2 u1
  generalize v32.heap.size = g32 at *
  clear v32 hz32
  replace HT := Lib.hid (HT.out.below b32)
  go_upto_region 2 with fail; refine wp_region_lit ?_
  refine wpList_val (run_bsl (cells := (abc.map b8).toArray) (z := .int .u8 0) rfl Tryd.underlying23 (by kernel_rfl) (by omega) (by omega) (by kernel_rfl)) rfl ?_; (try simp only [Act.put, List.setIfInBounds_toArray, List.set_cons_zero, List.set_cons_succ])
  refine wpList_val (run_cvb rfl rfl) rfl ?_; (try simp only [Act.put, List.setIfInBounds_toArray, List.set_cons_zero, List.set_cons_succ])
  have b64 : Below w32.heap.size w32 (w32.alloc (.cells (abc.map b8).toArray 5 ((abc.map b8).toArray.size, (abc.map b8).toArray.size + 1))) := (Below.refl _ _).alloc (Nat.le_refl _) _
  have S1 : Hid (Sl (.slice (some ⟨w32.heap.size, 0, none⟩) 3 3) abc (w32.alloc (.cells (abc.map b8).toArray 5 ((abc.map b8).toArray.size, (abc.map b8).toArray.size + 1)))) := Lib.hid (abc_row w32)
  generalize w32.alloc (.cells (abc.map b8).toArray 5 ((abc.map b8).toArray.size, (abc.map b8).toArray.size + 1)) = u1 at *
  refine wpList_enter (run_call1 enters_sum64 rfl rfl rfl) rfl (sum64_any _ abc _ S1.out (by decide) (HT.out.below b64)) (fun v64 hb2 => ?_); (try simp only [Act.put, List.setIfInBounds_toArray, List.set_cons_zero, List.set_cons_succ])
  replace b64 := b64.trans (hb2.mono b64.size)
  clear hb2 S1
  rw [abc64]
  have hz64 := b64.size
  refine wpList_val (run_alc (vs := z8 64) rfl (by kernel_rfl)) rfl ?_; (try simp only [Act.put, List.setIfInBounds_toArray, List.set_cons_zero, List.set_cons_succ])
  have A1 := Arr.new v64 (z8 64) 28
  replace b64 := b64.alloc hz64 (.cells (z8 64).toArray 28)
  generalize hL : (v64.alloc (.cells (z8 64).toArray 28)) = v2 at *
  clear hL
  have hs := sum_len64 abc
  rw [abc64] at hs
  refine wpList_skip (run_stA rfl (size_d64 hs) rfl rfl (one8 _) (by rw [List.length_map]; exact A1.there)) rfl rfl ?_
  refine wpList_end ?_
  have HA64 := Lib.hid (A1.put (l' := (sum64 abc).map b8) (by rw [List.length_map, sum_len64]; rfl))
  rw [abc64] at HA64
  replace b64 := below_setCells hz64 ((sum64 abc).map b8) 0 b64
  rw [abc64] at b64
  generalize hE : World.setCells v2 _ _ _ = w64 at *
  clear hE A1 hs v2 u1
  generalize v64.heap.size = g64 at *
  clear v64 hz64
  replace HA32 := Lib.hid (HA32.out.below b64)
  have bl := b32.trans (b64.mono b32.size)
  clear b32 b64
  go_upto_region 3 with fail; refine wp_region_lit ?_
  refine wpList_val (run_ix0 (i := 0) rfl Tryd.underlying25 (by kernel_rfl) rfl rfl (by omega)) rfl ?_; (try simp only [Act.put, List.setIfInBounds_toArray, List.set_cons_zero, List.set_cons_succ])
  refine wpList_val (run_ld8 (v := b8 186#8) rfl rfl (HA32.out.c 0 _ rfl)) rfl ?_; (try simp only [Act.put, List.setIfInBounds_toArray, List.set_cons_zero, List.set_cons_succ])
  refine wpList_val (run_eq8 rfl rfl rfl rfl) rfl ?_; (try simp only [Act.put, List.setIfInBounds_toArray, List.set_cons_zero, List.set_cons_succ])
  refine wpList_val (run_mv (v := .bool true) rfl rfl) rfl ?_; (try simp only [Act.put, List.setIfInBounds_toArray, List.set_cons_zero, List.set_cons_succ])
  refine wpList_valG (run_ix0 (i := 1) rfl Tryd.underlying25 (by kernel_rfl) rfl rfl (by omega)) rfl ?_; (try simp only [Act.put, List.setIfInBounds_toArray, List.set_cons_zero, List.set_cons_succ])
  refine wpList_valG (run_ld8 (v := b8 120#8) rfl rfl (HA32.out.c 1 _ rfl)) rfl ?_; (try simp only [Act.put, List.setIfInBounds_toArray, List.set_cons_zero, List.set_cons_succ])
  refine wpList_valG (run_eq8 rfl rfl rfl rfl) rfl ?_; (try simp only [Act.put, List.setIfInBounds_toArray, List.set_cons_zero, List.set_cons_succ])
  refine wpList_val (run_pick (b := true) (v := .bool true) rfl rfl rfl) rfl ?_; (try simp only [Act.put, List.setIfInBounds_toArray, List.set_cons_zero, List.set_cons_succ])
  refine wpList_val (run_mv (v := .bool true) rfl rfl) rfl ?_; (try simp only [Act.put, List.setIfInBounds_toArray, List.set_cons_zero, List.set_cons_succ])
  refine wpList_valG (run_ix0 (i := 2) rfl Tryd.underlying25 (by kernel_rfl) rfl rfl (by omega)) rfl ?_; (try simp only [Act.put, List.setIfInBounds_toArray, List.set_cons_zero, List.set_cons_succ])
  refine wpList_valG (run_ld8 (v := b8 22#8) rfl rfl (HA32.out.c 2 _ rfl)) rfl ?_; (try simp only [Act.put, List.setIfInBounds_toArray, List.set_cons_zero, List.set_cons_succ])
  refine wpList_valG (run_eq8 rfl rfl rfl rfl) rfl ?_; (try simp only [Act.put, List.setIfInBounds_toArray, List.set_cons_zero, List.set_cons_succ])
  refine wpList_val (run_pick (b := true) (v := .bool true) rfl rfl rfl) rfl ?_; (try simp only [Act.put, List.setIfInBounds_toArray, List.set_cons_zero, List.set_cons_succ])
  refine wpList_val (run_mv (v := .bool true) rfl rfl) rfl ?_; (try simp only [Act.put, List.setIfInBounds_toArray, List.set_cons_zero, List.set_cons_succ])
  refine wpList_valG (run_ix0 (i := 31) rfl Tryd.underlying25 (by kernel_rfl) rfl rfl (by omega)) rfl ?_; (try simp only [Act.put, List.setIfInBounds_toArray, List.set_cons_zero, List.set_cons_succ])
  refine wpList_valG (run_ld8 (v := b8 173#8) rfl rfl (HA32.out.c 31 _ rfl)) rfl ?_; (try simp only [Act.put, List.setIfInBounds_toArray, List.set_cons_zero, List.set_cons_succ])
  refine wpList_valG (run_eq8 rfl rfl rfl rfl) rfl ?_; (try simp only [Act.put, List.setIfInBounds_toArray, List.set_cons_zero, List.set_cons_succ])
  refine wpList_val (run_pick (b := true) (v := .bool true) rfl rfl rfl) rfl ?_; (try simp only [Act.put, List.setIfInBounds_toArray, List.set_cons_zero, List.set_cons_succ])
  refine wpList_val (run_mv (v := .bool true) rfl rfl) rfl ?_; (try simp only [Act.put, List.setIfInBounds_toArray, List.set_cons_zero, List.set_cons_succ])
  refine wpList_valG (run_ix0 (i := 0) rfl Tryd.underlying28 (by kernel_rfl) rfl rfl (by omega)) rfl ?_; (try simp only [Act.put, List.setIfInBounds_toArray, List.set_cons_zero, List.set_cons_succ])
  refine wpList_valG (run_ld8 (v := b8 221#8) rfl rfl (HA64.out.c 0 _ rfl)) rfl ?_; (try simp only [Act.put, List.setIfInBounds_toArray, List.set_cons_zero, List.set_cons_succ])
  refine wpList_valG (run_eq8 rfl rfl rfl rfl) rfl ?_; (try simp only [Act.put, List.setIfInBounds_toArray, List.set_cons_zero, List.set_cons_succ])
  refine wpList_val (run_pick (b := true) (v := .bool true) rfl rfl rfl) rfl ?_; (try simp only [Act.put, List.setIfInBounds_toArray, List.set_cons_zero, List.set_cons_succ])
  refine wpList_val (run_mv (v := .bool true) rfl rfl) rfl ?_; (try simp only [Act.put, List.setIfInBounds_toArray, List.set_cons_zero, List.set_cons_succ])
  refine wpList_valG (run_ix0 (i := 1) rfl Tryd.underlying28 (by kernel_rfl) rfl rfl (by omega)) rfl ?_; (try simp only [Act.put, List.setIfInBounds_toArray, List.set_cons_zero, List.set_cons_succ])
  refine wpList_valG (run_ld8 (v := b8 175#8) rfl rfl (HA64.out.c 1 _ rfl)) rfl ?_; (try simp only [Act.put, List.setIfInBounds_toArray, List.set_cons_zero, List.set_cons_succ])
  refine wpList_valG (run_eq8 rfl rfl rfl rfl) rfl ?_; (try simp only [Act.put, List.setIfInBounds_toArray, List.set_cons_zero, List.set_cons_succ])
  refine wpList_val (run_pick (b := true) (v := .bool true) rfl rfl rfl) rfl ?_; (try simp only [Act.put, List.setIfInBounds_toArray, List.set_cons_zero, List.set_cons_succ])
  refine wpList_val (run_mv (v := .bool true) rfl rfl) rfl ?_; (try simp only [Act.put, List.setIfInBounds_toArray, List.set_cons_zero, List.set_cons_succ])
  refine wpList_valG (run_ix0 (i := 63) rfl Tryd.underlying28 (by kernel_rfl) rfl rfl (by omega)) rfl ?_; (try simp only [Act.put, List.setIfInBounds_toArray, List.set_cons_zero, List.set_cons_succ])
  refine wpList_valG (run_ld8 (v := b8 159#8) rfl rfl (HA64.out.c 63 _ rfl)) rfl ?_; (try simp only [Act.put, List.setIfInBounds_toArray, List.set_cons_zero, List.set_cons_succ])
  refine wpList_valG (run_eq8 rfl rfl rfl rfl) rfl ?_; (try simp only [Act.put, List.setIfInBounds_toArray, List.set_cons_zero, List.set_cons_succ])
  refine wpList_val (run_pick (b := true) (v := .bool true) rfl rfl rfl) rfl ?_; (try simp only [Act.put, List.setIfInBounds_toArray, List.set_cons_zero, List.set_cons_succ])
  refine wpList_val (run_asg (v := .bool true) rfl rfl) rfl ?_
  simp only [Act.put, List.setIfInBounds_toArray, List.set_cons_zero]
  refine wpList_end ?_
  go_wp2_with fail
  go_ret
  exact ⟨rfl, bl⟩
end Go.Proofs.YtkjlaoaaifliaaaDoor
