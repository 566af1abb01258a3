/- Keys and pairs, one operation at a time, in frames of any size. -/
import Derived.Test.YtegebgbmnddopaaDoorLadMul
import Derived.Test.YtegebgbmnddopaaDoorEqKey
namespace Go.Proofs.YtegebgbmnddopaaDoor
open Go.RowKit

def nineL : List Int := 9 :: List.replicate 31 0
theorem nineL_len : nineL.length = 32 := rfl
theorem nineL_bytes : Bytes8 nineL := fun b hb => by
  simp only [nineL, List.mem_cons, List.mem_replicate] at hb
  omega
theorem run_build_nine {w : World} {ρ : Operand → Value} {o : Oper} (ho : o.op = .build 23 #[(0, .const (.int .u8 9))]) (h9 : ρ (.const (.int .u8 9)) = .int .u8 9) : (execOp ρ o).run Tryd.prog w = .ok (.value (kV nineL)) w := by
  obtain ⟨dst, op, type, pos, after, guard⟩ := o
  subst ho
  go_simp
  rfl

theorem fold_over (o : Nat) (post : List Value) : ∀ (l mid done : List Value) (n : Nat), mid.length = l.length → done.length = o + n →
    (l.zipIdx n).foldl (fun (cs : Array Value) x => cs.setIfInBounds (o + x.snd) x.fst) (done ++ mid ++ post).toArray = (done ++ l ++ post).toArray
  | [], [], done, n, _, _ => by simp
  | [], _ :: _, _, _, h, _ => by cases h
  | _ :: _, [], _, _, h, _ => by cases h
  | v :: l, m :: mid, done, n, h, hd => by
    have h' : mid.length = l.length := by simpa using h
    have e : (done ++ m :: mid ++ post).toArray.setIfInBounds (o + n) v = ((done ++ [v]) ++ mid ++ post).toArray := by
      rw [← hd]
      simp
    rw [List.zipIdx_cons, List.foldl_cons]
    simp only
    rw [e, fold_over o post l mid (done ++ [v]) (n + 1) h' (by simp; omega)]
    simp
set_option maxRecDepth 100000 in
theorem run_build_pair {k p : List Int} (hk : k.length = 32) (hp : p.length = 32) {w : World} {ρ : Operand → Value} {o : Oper} {x y : Operand} (ho : o.op = .build 25 #[(0, x), (1, y)]) (hx : ρ x = kV k) (hy : ρ y = kV p) : (execOp ρ o).run Tryd.prog w = .ok (.value (kV (k ++ p))) w := by
  obtain ⟨dst, op, type, pos, after, guard⟩ := o
  subst ho
  have e1 := fold_over 0 (List.replicate 32 (Value.int .u8 0)) (k.map (Value.int .u8)) (List.replicate 32 (Value.int .u8 0)) [] 0 (by simp [hk]) rfl
  have e2 := fold_over 32 [] (p.map (Value.int .u8)) (List.replicate 32 (Value.int .u8 0)) (k.map (Value.int .u8)) 0 (by simp [hp]) (by simp [hk])
  simp only [Nat.zero_add, List.nil_append, List.append_nil] at e1 e2
  have E1 := Lib.hid e1
  have E2 := Lib.hid e2
  clear e1 e2
  have z : (List.replicate 32 (Value.int .u8 0) ++ List.replicate 32 (Value.int .u8 0)).toArray = #[Value.int .u8 0, Value.int .u8 0, Value.int .u8 0, Value.int .u8 0, Value.int .u8 0, Value.int .u8 0, Value.int .u8 0, Value.int .u8 0, Value.int .u8 0, Value.int .u8 0, Value.int .u8 0, Value.int .u8 0, Value.int .u8 0, Value.int .u8 0, Value.int .u8 0, Value.int .u8 0, Value.int .u8 0, Value.int .u8 0, Value.int .u8 0, Value.int .u8 0, Value.int .u8 0, Value.int .u8 0, Value.int .u8 0, Value.int .u8 0, Value.int .u8 0, Value.int .u8 0, Value.int .u8 0, Value.int .u8 0, Value.int .u8 0, Value.int .u8 0, Value.int .u8 0, Value.int .u8 0, Value.int .u8 0, Value.int .u8 0, Value.int .u8 0, Value.int .u8 0, Value.int .u8 0, Value.int .u8 0, Value.int .u8 0, Value.int .u8 0, Value.int .u8 0, Value.int .u8 0, Value.int .u8 0, Value.int .u8 0, Value.int .u8 0, Value.int .u8 0, Value.int .u8 0, Value.int .u8 0, Value.int .u8 0, Value.int .u8 0, Value.int .u8 0, Value.int .u8 0, Value.int .u8 0, Value.int .u8 0, Value.int .u8 0, Value.int .u8 0, Value.int .u8 0, Value.int .u8 0, Value.int .u8 0, Value.int .u8 0, Value.int .u8 0, Value.int .u8 0, Value.int .u8 0, Value.int .u8 0] := rfl
  rw [z] at E1
  go_simp
  rw [E1.out, if_neg (by simp [hk]), E2.out]
  simp [go_sem]

theorem run_load_key {w : World} {g off : Nat} {l : List Int} (hr : w.rangeAt g off (l.map (Value.int .u8))) (hl : l.length = 32) {ρ : Operand → Value} {o : Oper} {x : Operand} (ho : o.op = .load 23 x) (hx : ρ x = .pointer (some ⟨g, off, none⟩)) : (execOp ρ o).run Tryd.prog w = .ok (.value (kV l)) w := by
  unfold execOp
  simp only [ho, hx, Sem.run_bind, run_loadAt_mid w g off 23 (l.map (Value.int .u8)) (.array 32 5) hr Tryd.underlying23 rfl (kV_size hl), Result.andThen_ok, Sem.run_pure]
theorem run_call1 {w : World} {ρ : Operand → Value} {o : Oper} {f : FuncId} {x : Operand} {a : Value} {ts : Array TypeId} (hE : Enters f) (ho : o.op = .call { callee := .value (.func f), args := #[x], argTypes := ts }) (hf : ρ (.func f) = .func (.func f) #[] #[]) (hx : ρ x = a) : (execOp ρ o).run Tryd.prog w = .ok (.enter f #[a]) w := by
  rw [run_call hE ho hf]
  have e : (#[x] : Array Operand).map ρ = #[a] := by simp [hx]
  rw [e]
theorem run_call2 {w : World} {ρ : Operand → Value} {o : Oper} {f : FuncId} {x y : Operand} {a b : Value} {ts : Array TypeId} (hE : Enters f) (ho : o.op = .call { callee := .value (.func f), args := #[x, y], argTypes := ts }) (hf : ρ (.func f) = .func (.func f) #[] #[]) (hx : ρ x = a) (hy : ρ y = b) : (execOp ρ o).run Tryd.prog w = .ok (.enter f #[a, b]) w := by
  rw [run_call hE ho hf]
  have e : (#[x, y] : Array Operand).map ρ = #[a, b] := by simp [hx, hy]
  rw [e]
/-- What yields one value and lets the world stand is calm. -/
theorem calm_run {w : World} {v : Value} {r : Result Next} (h : r = .ok (.value v) w) : calmUpon Tryd.prog w v r := by rw [h]; exact ⟨rfl, rfl⟩
theorem pair_size {l : List Int} (h : l.length = 64) : (Tryd.prog.info? 25).map (·.size) = some (l.map (Value.int .u8)).length := by
  rw [List.length_map, h]; kernel_rfl
/-- Bytes of whatever type, in a new block. -/
theorem row_new_any (w : World) (l : List Int) (t : TypeId) : Row w.heap.size l (w.alloc (.cells (l.map (Value.int .u8)).toArray t)) := by
  refine ⟨by simp, fun i hi => ?_, fun i => by simp [go_sem]⟩
  rw [World.cell?_alloc_new]
  simp [hi, nth]
theorem wpList_store_row {ops : Array Oper} {Q : Exit → Act → World → Prop} {rest : List Oper} {o : Oper} {a : Act} {w : World} {g : Nat} {l l' : List Int} {t : TypeId} {x y : Operand} (h : Row g l w) (hl : l'.length = l.length) (hi : (Tryd.prog.info? t).map (·.size) = some (l'.map (Value.int .u8)).length) (ho : o.op = .store t x y) (hd : o.dst = none) (hg : o.guard = none)
    (hx : a.eval x = .pointer (some ⟨g, 0, none⟩)) (hy : a.eval y = kV l') (hr : wpList Tryd.prog ops Q rest a (w.setCells g 0 (l'.map (Value.int .u8)))) : wpList Tryd.prog ops Q (o :: rest) a w := by
  refine wpList_store_mid hg t x y ho g 0 (l'.map (Value.int .u8)).toArray hx hy (by simpa [hl] using h.thereAt) (by simpa using hi) (kV_one _) ?_
  rw [hd]
  exact hr
theorem enters_lmul : Enters 5 := enters_of Tryd.func5 (by kernel_rfl) rfl
theorem enters_public : Enters 7 := enters_of Tryd.func7 (by kernel_rfl) rfl
theorem enters_make : Enters 4 := enters_of Tryd.func4 (by kernel_rfl) rfl
/-- The package's two numbers stand. -/
structure LG (w : World) : Prop where
  O : GCell 1 pp w
  T : GCell 0 (pp - 2) w
theorem LG.below {w w' : World} (h : LG w) (hb : Below w.heap.size w w') : LG w' := ⟨h.O.below hb, h.T.below hb⟩

set_option maxHeartbeats 1000000 in
theorem public_any (k : List Int) (w : World) (hk : k.length = 32) (hB : Bytes8 k) (hG : LG w) :
    Calls Tryd.prog 7 #[kV k] w fun e w' => e = .returned (kV (mulL k nineL)) ∧ Below w.heap.size w w' := by
  have HK := Lib.hid hk; clear hk
  have b1 : Below w.heap.size w (w.alloc (.cells (k.map (Value.int .u8)).toArray 23)) := (Below.refl _ _).alloc (Nat.le_refl _) _
  have R1 := Row.new w k
  go_enter Tryd.func7, Tryd.ntmps7
  go_upto_region 1 with fail
  have hs : w.heap.size + 1 = (w.alloc (.cells (k.map (Value.int .u8)).toArray 23)).heap.size := by simp
  rw [hs]
  have l0 := R1.lt
  generalize w.alloc (.cells (k.map (Value.int .u8)).toArray 23) = u0 at *
  clear hs
  have hR := Row.zero u0
  have b2 : Below u0.heap.size u0 (u0.alloc (.cells #[.int .u8 0, .int .u8 0, .int .u8 0, .int .u8 0, .int .u8 0, .int .u8 0, .int .u8 0, .int .u8 0, .int .u8 0, .int .u8 0, .int .u8 0, .int .u8 0, .int .u8 0, .int .u8 0, .int .u8 0, .int .u8 0, .int .u8 0, .int .u8 0, .int .u8 0, .int .u8 0, .int .u8 0, .int .u8 0, .int .u8 0, .int .u8 0, .int .u8 0, .int .u8 0, .int .u8 0, .int .u8 0, .int .u8 0, .int .u8 0, .int .u8 0, .int .u8 0] 23)) := (Below.refl _ _).alloc (Nat.le_refl _) _
  replace R1 := R1.below b2
  replace b1 := b1.trans (b2.mono b1.size)
  generalize u0.alloc (.cells #[.int .u8 0, .int .u8 0, .int .u8 0, .int .u8 0, .int .u8 0, .int .u8 0, .int .u8 0, .int .u8 0, .int .u8 0, .int .u8 0, .int .u8 0, .int .u8 0, .int .u8 0, .int .u8 0, .int .u8 0, .int .u8 0, .int .u8 0, .int .u8 0, .int .u8 0, .int .u8 0, .int .u8 0, .int .u8 0, .int .u8 0, .int .u8 0, .int .u8 0, .int .u8 0, .int .u8 0, .int .u8 0, .int .u8 0, .int .u8 0, .int .u8 0, .int .u8 0] 23) = u1 at *
  generalize u0.heap.size = g1 at *
  clear b2 u0
  replace hG := hG.below b1
  refine wp_region_lit ?_
  refine wpList_val (run_load_key R1.range HK.out rfl (by kernel_rfl)) rfl ?_; (try simp only [Act.put, List.setIfInBounds_toArray, List.set_cons_zero, List.set_cons_succ])
  refine wpList_val (run_build_nine rfl rfl) rfl ?_; (try simp only [Act.put, List.setIfInBounds_toArray, List.set_cons_zero, List.set_cons_succ])
  refine wpList_enter (run_call2 enters_lmul rfl rfl (by kernel_rfl) (by kernel_rfl)) rfl (lmul_any k nineL _ HK.out hB nineL_len nineL_bytes hG.O hG.T) (fun uu hb => ?_); (try simp only [Act.put, List.setIfInBounds_toArray, List.set_cons_zero, List.set_cons_succ])
  replace hR := hR.below hb
  replace b1 := b1.trans (hb.mono b1.size)
  refine wpList_store_row (l' := mulL k nineL) hR (by rw [mulL_len]; rfl) (kV_size (mulL_len _ _)) rfl rfl rfl (by kernel_rfl) (by kernel_rfl) ?_
  have hT := (hR.storeAll (l' := mulL k nineL) (by rw [mulL_len]; rfl)).range
  replace b1 := Below.setCells (show w.heap.size ≤ g1 by omega) ((mulL k nineL).map (Value.int .u8)) 0 b1
  generalize uu.setCells g1 0 ((mulL k nineL).map (Value.int .u8)) = u2 at *
  refine wpList_done ?_
  go_wp2_with fail
  exact bodyPost_ret (v := kV (mulL k nineL)) (results_key Tryd.results7 rfl (mulL_len _ _) hT) rfl ⟨rfl, b1⟩
end Go.Proofs.YtegebgbmnddopaaDoor
