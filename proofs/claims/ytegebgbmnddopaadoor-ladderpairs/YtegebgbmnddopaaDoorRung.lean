/- What ladder.rung does. -/
import Derived.Test.YtegebgbmnddopaaDoorSquare
namespace Go.Proofs.YtegebgbmnddopaaDoor
open Go.RowKit

def rgA (X2 Z2 : Int) : Int := (X2 + Z2) % pp
def rgB (X2 Z2 : Int) : Int := (X2 - Z2) % pp
def rgDA (X2 Z2 X3 Z3 : Int) : Int := (X3 - Z3) % pp * ((X2 + Z2) % pp) % pp
def rgCB (X2 Z2 X3 Z3 : Int) : Int := (X3 + Z3) % pp * ((X2 - Z2) % pp) % pp
def sq (X : Int) : Int := X * X % pp
def rgE (X2 Z2 : Int) : Int := (sq (rgA X2 Z2) - sq (rgB X2 Z2)) % pp
def rgX3 (X2 Z2 X3 Z3 : Int) : Int := sq ((rgDA X2 Z2 X3 Z3 + rgCB X2 Z2 X3 Z3) % pp)
def rgZ3 (X1 X2 Z2 X3 Z3 : Int) : Int := X1 * sq ((rgDA X2 Z2 X3 Z3 - rgCB X2 Z2 X3 Z3) % pp) % pp
def rgX2 (X2 Z2 : Int) : Int := sq (rgA X2 Z2) * sq (rgB X2 Z2) % pp
def rgZ2 (X2 Z2 : Int) : Int := rgE X2 Z2 * ((sq (rgA X2 Z2) + 121665 * rgE X2 Z2 % pp) % pp) % pp

/-- Five numbers come in, four places for what goes out. -/
structure Nine (w : World) (X1 X2 Z2 X3 Z3 : Int) (u : World) : Prop where
  bl : Below w.heap.size w u
  sz : u.heap.size = w.heap.size + 9
  v1 : Var4 w.heap.size X1 u
  v2 : Var4 (w.heap.size + 1) X2 u
  v3 : Var4 (w.heap.size + 1 + 1) Z2 u
  v4 : Var4 (w.heap.size + 1 + 1 + 1) X3 u
  v5 : Var4 (w.heap.size + 1 + 1 + 1 + 1) Z3 u
  r1 : Var4 (w.heap.size + 1 + 1 + 1 + 1 + 1) 0 u
  r2 : Var4 (w.heap.size + 1 + 1 + 1 + 1 + 1 + 1) 0 u
  r3 : Var4 (w.heap.size + 1 + 1 + 1 + 1 + 1 + 1 + 1) 0 u
  r4 : Var4 (w.heap.size + 1 + 1 + 1 + 1 + 1 + 1 + 1 + 1) 0 u
theorem nine (w : World) (X1 X2 Z2 X3 Z3 : Int) : Nine w X1 X2 Z2 X3 Z3 (((((((((w.alloc (.cells #[.int .u64 (w0 X1), .int .u64 (w1 X1), .int .u64 (w2 X1), .int .u64 (w3 X1)] 33)).alloc (.cells #[.int .u64 (w0 X2), .int .u64 (w1 X2), .int .u64 (w2 X2), .int .u64 (w3 X2)] 33)).alloc (.cells #[.int .u64 (w0 Z2), .int .u64 (w1 Z2), .int .u64 (w2 Z2), .int .u64 (w3 Z2)] 33)).alloc (.cells #[.int .u64 (w0 X3), .int .u64 (w1 X3), .int .u64 (w2 X3), .int .u64 (w3 X3)] 33)).alloc (.cells #[.int .u64 (w0 Z3), .int .u64 (w1 Z3), .int .u64 (w2 Z3), .int .u64 (w3 Z3)] 33)).alloc (.cells #[.int .u64 (w0 0), .int .u64 (w1 0), .int .u64 (w2 0), .int .u64 (w3 0)] 33)).alloc (.cells #[.int .u64 (w0 0), .int .u64 (w1 0), .int .u64 (w2 0), .int .u64 (w3 0)] 33)).alloc (.cells #[.int .u64 (w0 0), .int .u64 (w1 0), .int .u64 (w2 0), .int .u64 (w3 0)] 33)).alloc (.cells #[.int .u64 (w0 0), .int .u64 (w1 0), .int .u64 (w2 0), .int .u64 (w3 0)] 33)) := by
  have a1 := Var4.new' (u := w) rfl X1
  have s1 : (w.alloc (.cells #[.int .u64 (w0 X1), .int .u64 (w1 X1), .int .u64 (w2 X1), .int .u64 (w3 X1)] 33)).heap.size = w.heap.size + 1 := by simp
  have b1 : Below w.heap.size w (w.alloc (.cells #[.int .u64 (w0 X1), .int .u64 (w1 X1), .int .u64 (w2 X1), .int .u64 (w3 X1)] 33)) := (Below.refl _ _).alloc (Nat.le_refl _) _
  generalize w.alloc (.cells #[.int .u64 (w0 X1), .int .u64 (w1 X1), .int .u64 (w2 X1), .int .u64 (w3 X1)] 33) = u1 at *
  have a2 := Var4.new' s1 X2
  replace a1 := a1.later (.cells #[.int .u64 (w0 X2), .int .u64 (w1 X2), .int .u64 (w2 X2), .int .u64 (w3 X2)] 33)
  have s2 : (u1.alloc (.cells #[.int .u64 (w0 X2), .int .u64 (w1 X2), .int .u64 (w2 X2), .int .u64 (w3 X2)] 33)).heap.size = w.heap.size + 1 + 1 := by simp [s1]
  replace b1 := b1.alloc (by omega) (.cells #[.int .u64 (w0 X2), .int .u64 (w1 X2), .int .u64 (w2 X2), .int .u64 (w3 X2)] 33)
  generalize u1.alloc (.cells #[.int .u64 (w0 X2), .int .u64 (w1 X2), .int .u64 (w2 X2), .int .u64 (w3 X2)] 33) = u2 at *
  have a3 := Var4.new' s2 Z2
  replace a1 := a1.later (.cells #[.int .u64 (w0 Z2), .int .u64 (w1 Z2), .int .u64 (w2 Z2), .int .u64 (w3 Z2)] 33)
  replace a2 := a2.later (.cells #[.int .u64 (w0 Z2), .int .u64 (w1 Z2), .int .u64 (w2 Z2), .int .u64 (w3 Z2)] 33)
  have s3 : (u2.alloc (.cells #[.int .u64 (w0 Z2), .int .u64 (w1 Z2), .int .u64 (w2 Z2), .int .u64 (w3 Z2)] 33)).heap.size = w.heap.size + 1 + 1 + 1 := by simp [s2]
  replace b1 := b1.alloc (by omega) (.cells #[.int .u64 (w0 Z2), .int .u64 (w1 Z2), .int .u64 (w2 Z2), .int .u64 (w3 Z2)] 33)
  generalize u2.alloc (.cells #[.int .u64 (w0 Z2), .int .u64 (w1 Z2), .int .u64 (w2 Z2), .int .u64 (w3 Z2)] 33) = u3 at *
  have a4 := Var4.new' s3 X3
  replace a1 := a1.later (.cells #[.int .u64 (w0 X3), .int .u64 (w1 X3), .int .u64 (w2 X3), .int .u64 (w3 X3)] 33)
  replace a2 := a2.later (.cells #[.int .u64 (w0 X3), .int .u64 (w1 X3), .int .u64 (w2 X3), .int .u64 (w3 X3)] 33)
  replace a3 := a3.later (.cells #[.int .u64 (w0 X3), .int .u64 (w1 X3), .int .u64 (w2 X3), .int .u64 (w3 X3)] 33)
  have s4 : (u3.alloc (.cells #[.int .u64 (w0 X3), .int .u64 (w1 X3), .int .u64 (w2 X3), .int .u64 (w3 X3)] 33)).heap.size = w.heap.size + 1 + 1 + 1 + 1 := by simp [s3]
  replace b1 := b1.alloc (by omega) (.cells #[.int .u64 (w0 X3), .int .u64 (w1 X3), .int .u64 (w2 X3), .int .u64 (w3 X3)] 33)
  generalize u3.alloc (.cells #[.int .u64 (w0 X3), .int .u64 (w1 X3), .int .u64 (w2 X3), .int .u64 (w3 X3)] 33) = u4 at *
  have a5 := Var4.new' s4 Z3
  replace a1 := a1.later (.cells #[.int .u64 (w0 Z3), .int .u64 (w1 Z3), .int .u64 (w2 Z3), .int .u64 (w3 Z3)] 33)
  replace a2 := a2.later (.cells #[.int .u64 (w0 Z3), .int .u64 (w1 Z3), .int .u64 (w2 Z3), .int .u64 (w3 Z3)] 33)
  replace a3 := a3.later (.cells #[.int .u64 (w0 Z3), .int .u64 (w1 Z3), .int .u64 (w2 Z3), .int .u64 (w3 Z3)] 33)
  replace a4 := a4.later (.cells #[.int .u64 (w0 Z3), .int .u64 (w1 Z3), .int .u64 (w2 Z3), .int .u64 (w3 Z3)] 33)
  have s5 : (u4.alloc (.cells #[.int .u64 (w0 Z3), .int .u64 (w1 Z3), .int .u64 (w2 Z3), .int .u64 (w3 Z3)] 33)).heap.size = w.heap.size + 1 + 1 + 1 + 1 + 1 := by simp [s4]
  replace b1 := b1.alloc (by omega) (.cells #[.int .u64 (w0 Z3), .int .u64 (w1 Z3), .int .u64 (w2 Z3), .int .u64 (w3 Z3)] 33)
  generalize u4.alloc (.cells #[.int .u64 (w0 Z3), .int .u64 (w1 Z3), .int .u64 (w2 Z3), .int .u64 (w3 Z3)] 33) = u5 at *
  have a6 := Var4.new' s5 0
  have s6 : (u5.alloc (.cells #[.int .u64 (w0 0), .int .u64 (w1 0), .int .u64 (w2 0), .int .u64 (w3 0)] 33)).heap.size = w.heap.size + 1 + 1 + 1 + 1 + 1 + 1 := by simp [s5]
  have c6 : Below u5.heap.size u5 (u5.alloc (.cells #[.int .u64 (w0 0), .int .u64 (w1 0), .int .u64 (w2 0), .int .u64 (w3 0)] 33)) := (Below.refl _ _).alloc (Nat.le_refl _) _
  generalize u5.alloc (.cells #[.int .u64 (w0 0), .int .u64 (w1 0), .int .u64 (w2 0), .int .u64 (w3 0)] 33) = u6 at *
  have a7 := Var4.new' s6 0
  replace a6 := a6.later (.cells #[.int .u64 (w0 0), .int .u64 (w1 0), .int .u64 (w2 0), .int .u64 (w3 0)] 33)
  have s7 : (u6.alloc (.cells #[.int .u64 (w0 0), .int .u64 (w1 0), .int .u64 (w2 0), .int .u64 (w3 0)] 33)).heap.size = w.heap.size + 1 + 1 + 1 + 1 + 1 + 1 + 1 := by simp [s6]
  replace c6 := c6.alloc (by omega) (.cells #[.int .u64 (w0 0), .int .u64 (w1 0), .int .u64 (w2 0), .int .u64 (w3 0)] 33)
  generalize u6.alloc (.cells #[.int .u64 (w0 0), .int .u64 (w1 0), .int .u64 (w2 0), .int .u64 (w3 0)] 33) = u7 at *
  have a8 := Var4.new' s7 0
  replace a6 := a6.later (.cells #[.int .u64 (w0 0), .int .u64 (w1 0), .int .u64 (w2 0), .int .u64 (w3 0)] 33)
  replace a7 := a7.later (.cells #[.int .u64 (w0 0), .int .u64 (w1 0), .int .u64 (w2 0), .int .u64 (w3 0)] 33)
  have s8 : (u7.alloc (.cells #[.int .u64 (w0 0), .int .u64 (w1 0), .int .u64 (w2 0), .int .u64 (w3 0)] 33)).heap.size = w.heap.size + 1 + 1 + 1 + 1 + 1 + 1 + 1 + 1 := by simp [s7]
  replace c6 := c6.alloc (by omega) (.cells #[.int .u64 (w0 0), .int .u64 (w1 0), .int .u64 (w2 0), .int .u64 (w3 0)] 33)
  generalize u7.alloc (.cells #[.int .u64 (w0 0), .int .u64 (w1 0), .int .u64 (w2 0), .int .u64 (w3 0)] 33) = u8 at *
  have a9 := Var4.new' s8 0
  replace a6 := a6.later (.cells #[.int .u64 (w0 0), .int .u64 (w1 0), .int .u64 (w2 0), .int .u64 (w3 0)] 33)
  replace a7 := a7.later (.cells #[.int .u64 (w0 0), .int .u64 (w1 0), .int .u64 (w2 0), .int .u64 (w3 0)] 33)
  replace a8 := a8.later (.cells #[.int .u64 (w0 0), .int .u64 (w1 0), .int .u64 (w2 0), .int .u64 (w3 0)] 33)
  have s9 : (u8.alloc (.cells #[.int .u64 (w0 0), .int .u64 (w1 0), .int .u64 (w2 0), .int .u64 (w3 0)] 33)).heap.size = w.heap.size + 9 := by simp [s8]
  replace c6 := c6.alloc (by omega) (.cells #[.int .u64 (w0 0), .int .u64 (w1 0), .int .u64 (w2 0), .int .u64 (w3 0)] 33)
  exact ⟨b1.trans (c6.mono (by omega)), s9, a1.below c6, a2.below c6, a3.below c6, a4.below c6, a5.below c6, a6, a7, a8, a9⟩
theorem nine' (w : World) (X1 X2 Z2 X3 Z3 : Int) : Nine w X1 X2 Z2 X3 Z3 (((((((((w.alloc (.cells #[.int .u64 (w0 X1), .int .u64 (w1 X1), .int .u64 (w2 X1), .int .u64 (w3 X1)] 33)).alloc (.cells #[.int .u64 (w0 X2), .int .u64 (w1 X2), .int .u64 (w2 X2), .int .u64 (w3 X2)] 33)).alloc (.cells #[.int .u64 (w0 Z2), .int .u64 (w1 Z2), .int .u64 (w2 Z2), .int .u64 (w3 Z2)] 33)).alloc (.cells #[.int .u64 (w0 X3), .int .u64 (w1 X3), .int .u64 (w2 X3), .int .u64 (w3 X3)] 33)).alloc (.cells #[.int .u64 (w0 Z3), .int .u64 (w1 Z3), .int .u64 (w2 Z3), .int .u64 (w3 Z3)] 33)).alloc (.cells #[.int .u64 0, .int .u64 0, .int .u64 0, .int .u64 0] 33)).alloc (.cells #[.int .u64 0, .int .u64 0, .int .u64 0, .int .u64 0] 33)).alloc (.cells #[.int .u64 0, .int .u64 0, .int .u64 0, .int .u64 0] 33)).alloc (.cells #[.int .u64 0, .int .u64 0, .int .u64 0, .int .u64 0] 33)) := nine w X1 X2 Z2 X3 Z3

set_option maxHeartbeats 4000000 in
set_option maxRecDepth 100000 in
theorem rung_any (X1 X2 Z2 X3 Z3 : Int) (w : World) (h1 : Num X1) (h2 : Num X2) (h3 : Num Z2) (h4 : Num X3) (h5 : Num Z3) (hG : GCell 1 pp w) :
    Calls Tryd.prog 11 #[feV X1, feV X2, feV Z2, feV X3, feV Z3] w fun e w' => e = .returned (.tuple #[feV (rgX2 X2 Z2), feV (rgZ2 X2 Z2), feV (rgX3 X2 Z2 X3 Z3), feV (rgZ3 X1 X2 Z2 X3 Z3)]) ∧ Below w.heap.size w w' := by
  have N := Lib.hid (nine' w X1 X2 Z2 X3 Z3)
  go_enter Tryd.func11, Tryd.ntmps11
  go_upto_region 1 with fail
  generalize (((((((((w.alloc (.cells #[.int .u64 (w0 X1), .int .u64 (w1 X1), .int .u64 (w2 X1), .int .u64 (w3 X1)] 33)).alloc (.cells #[.int .u64 (w0 X2), .int .u64 (w1 X2), .int .u64 (w2 X2), .int .u64 (w3 X2)] 33)).alloc (.cells #[.int .u64 (w0 Z2), .int .u64 (w1 Z2), .int .u64 (w2 Z2), .int .u64 (w3 Z2)] 33)).alloc (.cells #[.int .u64 (w0 X3), .int .u64 (w1 X3), .int .u64 (w2 X3), .int .u64 (w3 X3)] 33)).alloc (.cells #[.int .u64 (w0 Z3), .int .u64 (w1 Z3), .int .u64 (w2 Z3), .int .u64 (w3 Z3)] 33)).alloc (.cells #[.int .u64 0, .int .u64 0, .int .u64 0, .int .u64 0] 33)).alloc (.cells #[.int .u64 0, .int .u64 0, .int .u64 0, .int .u64 0] 33)).alloc (.cells #[.int .u64 0, .int .u64 0, .int .u64 0, .int .u64 0] 33)).alloc (.cells #[.int .u64 0, .int .u64 0, .int .u64 0, .int .u64 0] 33)) = u0 at *
  obtain ⟨bl, sz, v1, v2, v3, v4, v5, r1, r2, r3, r4⟩ := N.out
  clear N
  have SZ : Hid (u0.heap.size = w.heap.size + 9) := Lib.hid sz; clear sz
  have gO : 1 < w.heap.size := hG.lt
  replace hG := hG.below bl
  refine wp_region_sow2 6 33 (by kernel_rfl) rfl rfl (by kernel_rfl) run_alloc_fe ?_
  refine wpCalm_step _ (fun V hV => calm_load (Var4.below v2 hV) rfl (by kernel_rfl)) ?_; (try simp only [Act.put, List.setIfInBounds_toArray, List.set_cons_zero, List.set_cons_succ])
  refine wpCalm_step _ (fun V hV => calm_load (Var4.below v3 hV) rfl (by kernel_rfl)) ?_; (try simp only [Act.put, List.setIfInBounds_toArray, List.set_cons_zero, List.set_cons_succ])
  refine wpCalm_step _ (fun V hV => calm_call2 enters_add rfl rfl (by kernel_rfl) (by kernel_rfl) (add_any X2 Z2 V h2 h3 (hG.below hV))) ?_; (try simp only [Act.put, List.setIfInBounds_toArray, List.set_cons_zero, List.set_cons_succ])
  refine wpCalm_step _ (fun V hV => calm_load (Var4.below v2 hV) rfl (by kernel_rfl)) ?_; (try simp only [Act.put, List.setIfInBounds_toArray, List.set_cons_zero, List.set_cons_succ])
  refine wpCalm_step _ (fun V hV => calm_load (Var4.below v3 hV) rfl (by kernel_rfl)) ?_; (try simp only [Act.put, List.setIfInBounds_toArray, List.set_cons_zero, List.set_cons_succ])
  refine wpCalm_step _ (fun V hV => calm_call2 enters_sub rfl rfl (by kernel_rfl) (by kernel_rfl) (sub_any X2 Z2 V h2 h3 (hG.below hV))) ?_; (try simp only [Act.put, List.setIfInBounds_toArray, List.set_cons_zero, List.set_cons_succ])
  refine wpCalm_done ?_; intro ga gb uu hpb s1 s2 hne; simp only [List.drop_succ_cons, List.drop_zero, List.setIfInBounds_toArray, List.set_cons_zero, List.set_cons_succ]; refine wpList_store_fe (Z := (X2 + Z2) % pp) s1.var rfl rfl rfl (by kernel_rfl) (by kernel_rfl) ?_; refine wpList_store_fe (Z := (X2 - Z2) % pp) (var_far4 s2.var hne _) rfl rfl rfl (by kernel_rfl) (by kernel_rfl) ?_; refine wpList_done ?_; obtain ⟨hb', xga, xgb⟩ := pair_after hpb s1 s2 hne ((X2 + Z2) % pp) ((X2 - Z2) % pp); have lga := s1.1; have lgb := s2.1; clear s1 s2 hpb; generalize set4 (set4 uu ga ((X2 + Z2) % pp)) gb ((X2 - Z2) % pp) = u1 at *; clear uu
  replace bl := bl.trans (hb'.mono bl.size)
  have S1 := hb'.size
  replace hG := hG.below hb'
  replace v1 := v1.below hb'
  replace v2 := v2.below hb'
  replace v3 := v3.below hb'
  replace v4 := v4.below hb'
  replace v5 := v5.below hb'
  replace r1 := r1.below hb'
  replace r2 := r2.below hb'
  replace r3 := r3.below hb'
  replace r4 := r4.below hb'
  clear hb'
  have ha := num_emod_pp (X2 + Z2)
  have hb := num_emod_pp (X2 - Z2)
  go_upto_region 2 with fail
  refine wp_region_sow2 6 33 (by kernel_rfl) rfl rfl (by kernel_rfl) run_alloc_fe ?_
  refine wpCalm_step _ (fun V hV => calm_load (Var4.below v4 hV) rfl (by kernel_rfl)) ?_; (try simp only [Act.put, List.setIfInBounds_toArray, List.set_cons_zero, List.set_cons_succ])
  refine wpCalm_step _ (fun V hV => calm_load (Var4.below v5 hV) rfl (by kernel_rfl)) ?_; (try simp only [Act.put, List.setIfInBounds_toArray, List.set_cons_zero, List.set_cons_succ])
  refine wpCalm_step _ (fun V hV => calm_call2 enters_add rfl rfl (by kernel_rfl) (by kernel_rfl) (add_any X3 Z3 V h4 h5 (hG.below hV))) ?_; (try simp only [Act.put, List.setIfInBounds_toArray, List.set_cons_zero, List.set_cons_succ])
  refine wpCalm_step _ (fun V hV => calm_load (Var4.below v4 hV) rfl (by kernel_rfl)) ?_; (try simp only [Act.put, List.setIfInBounds_toArray, List.set_cons_zero, List.set_cons_succ])
  refine wpCalm_step _ (fun V hV => calm_load (Var4.below v5 hV) rfl (by kernel_rfl)) ?_; (try simp only [Act.put, List.setIfInBounds_toArray, List.set_cons_zero, List.set_cons_succ])
  refine wpCalm_step _ (fun V hV => calm_call2 enters_sub rfl rfl (by kernel_rfl) (by kernel_rfl) (sub_any X3 Z3 V h4 h5 (hG.below hV))) ?_; (try simp only [Act.put, List.setIfInBounds_toArray, List.set_cons_zero, List.set_cons_succ])
  refine wpCalm_done ?_; intro gc gd uu hpb s1 s2 hne; simp only [List.drop_succ_cons, List.drop_zero, List.setIfInBounds_toArray, List.set_cons_zero, List.set_cons_succ]; refine wpList_store_fe (Z := (X3 + Z3) % pp) s1.var rfl rfl rfl (by kernel_rfl) (by kernel_rfl) ?_; refine wpList_store_fe (Z := (X3 - Z3) % pp) (var_far4 s2.var hne _) rfl rfl rfl (by kernel_rfl) (by kernel_rfl) ?_; refine wpList_done ?_; obtain ⟨hb', xgc, xgd⟩ := pair_after hpb s1 s2 hne ((X3 + Z3) % pp) ((X3 - Z3) % pp); have lgc := s1.1; have lgd := s2.1; clear s1 s2 hpb; generalize set4 (set4 uu gc ((X3 + Z3) % pp)) gd ((X3 - Z3) % pp) = u2 at *; clear uu
  replace bl := bl.trans (hb'.mono bl.size)
  have q2 := hb'.size
  replace hG := hG.below hb'
  replace v1 := v1.below hb'
  replace v2 := v2.below hb'
  replace v3 := v3.below hb'
  replace v4 := v4.below hb'
  replace v5 := v5.below hb'
  replace r1 := r1.below hb'
  replace r2 := r2.below hb'
  replace r3 := r3.below hb'
  replace r4 := r4.below hb'
  replace xga := xga.below hb'
  replace xgb := xgb.below hb'
  clear hb'
  have hc := num_emod_pp (X3 + Z3)
  have hd := num_emod_pp (X3 - Z3)
  have EDA : Hid (rgDA X2 Z2 X3 Z3 = (X3 - Z3) % pp * ((X2 + Z2) % pp) % pp) := Lib.hid rfl
  have ECB : Hid (rgCB X2 Z2 X3 Z3 = (X3 + Z3) % pp * ((X2 - Z2) % pp) % pp) := Lib.hid rfl
  have EA : Hid (rgA X2 Z2 = (X2 + Z2) % pp) := Lib.hid rfl
  have EB : Hid (rgB X2 Z2 = (X2 - Z2) % pp) := Lib.hid rfl
  generalize (X2 + Z2) % pp = A at *
  generalize (X2 - Z2) % pp = B at *
  generalize (X3 + Z3) % pp = C at *
  generalize (X3 - Z3) % pp = D at *
  go_upto_region 3 with fail
  refine wp_region_sow2 6 33 (by kernel_rfl) rfl rfl (by kernel_rfl) run_alloc_fe ?_
  refine wpCalm_step _ (fun V hV => calm_load (Var4.below xgd hV) rfl (by kernel_rfl)) ?_; (try simp only [Act.put, List.setIfInBounds_toArray, List.set_cons_zero, List.set_cons_succ])
  refine wpCalm_step _ (fun V hV => calm_load (Var4.below xga hV) rfl (by kernel_rfl)) ?_; (try simp only [Act.put, List.setIfInBounds_toArray, List.set_cons_zero, List.set_cons_succ])
  refine wpCalm_step _ (fun V hV => calm_call2 enters_mul rfl rfl (by kernel_rfl) (by kernel_rfl) (mul_any D A V hd ha (hG.below hV))) ?_; (try simp only [Act.put, List.setIfInBounds_toArray, List.set_cons_zero, List.set_cons_succ])
  refine wpCalm_step _ (fun V hV => calm_load (Var4.below xgc hV) rfl (by kernel_rfl)) ?_; (try simp only [Act.put, List.setIfInBounds_toArray, List.set_cons_zero, List.set_cons_succ])
  refine wpCalm_step _ (fun V hV => calm_load (Var4.below xgb hV) rfl (by kernel_rfl)) ?_; (try simp only [Act.put, List.setIfInBounds_toArray, List.set_cons_zero, List.set_cons_succ])
  refine wpCalm_step _ (fun V hV => calm_call2 enters_mul rfl rfl (by kernel_rfl) (by kernel_rfl) (mul_any C B V hc hb (hG.below hV))) ?_; (try simp only [Act.put, List.setIfInBounds_toArray, List.set_cons_zero, List.set_cons_succ])
  refine wpCalm_done ?_; intro ge gf uu hpb s1 s2 hne; simp only [List.drop_succ_cons, List.drop_zero, List.setIfInBounds_toArray, List.set_cons_zero, List.set_cons_succ]; refine wpList_store_fe (Z := D * A % pp) s1.var rfl rfl rfl (by kernel_rfl) (by kernel_rfl) ?_; refine wpList_store_fe (Z := C * B % pp) (var_far4 s2.var hne _) rfl rfl rfl (by kernel_rfl) (by kernel_rfl) ?_; refine wpList_done ?_; obtain ⟨hb', xge, xgf⟩ := pair_after hpb s1 s2 hne (D * A % pp) (C * B % pp); have lge := s1.1; have lgf := s2.1; clear s1 s2 hpb; generalize set4 (set4 uu ge (D * A % pp)) gf (C * B % pp) = u3 at *; clear uu
  replace bl := bl.trans (hb'.mono bl.size)
  have q3 := hb'.size
  replace hG := hG.below hb'
  replace v1 := v1.below hb'
  replace v2 := v2.below hb'
  replace v3 := v3.below hb'
  replace v4 := v4.below hb'
  replace v5 := v5.below hb'
  replace r1 := r1.below hb'
  replace r2 := r2.below hb'
  replace r3 := r3.below hb'
  replace r4 := r4.below hb'
  replace xga := xga.below hb'
  replace xgb := xgb.below hb'
  clear hb'
  have hda := num_emod_pp (D * A)
  have hcb := num_emod_pp (C * B)
  generalize D * A % pp = DA at *
  generalize C * B % pp = CB at *
  clear xgc xgd
  go_upto_region 4 with fail
  refine wp_region_sow2 4 33 (by kernel_rfl) rfl rfl (by kernel_rfl) run_alloc_fe ?_
  refine wpCalm_step _ (fun V hV => calm_load (Var4.below xga hV) rfl (by kernel_rfl)) ?_; (try simp only [Act.put, List.setIfInBounds_toArray, List.set_cons_zero, List.set_cons_succ])
  refine wpCalm_step _ (fun V hV => calm_call1 enters_square rfl rfl (by kernel_rfl) (square_any A V ha (hG.below hV))) ?_; (try simp only [Act.put, List.setIfInBounds_toArray, List.set_cons_zero, List.set_cons_succ])
  refine wpCalm_step _ (fun V hV => calm_load (Var4.below xgb hV) rfl (by kernel_rfl)) ?_; (try simp only [Act.put, List.setIfInBounds_toArray, List.set_cons_zero, List.set_cons_succ])
  refine wpCalm_step _ (fun V hV => calm_call1 enters_square rfl rfl (by kernel_rfl) (square_any B V hb (hG.below hV))) ?_; (try simp only [Act.put, List.setIfInBounds_toArray, List.set_cons_zero, List.set_cons_succ])
  refine wpCalm_done ?_; intro gh gi uu hpb s1 s2 hne; simp only [List.drop_succ_cons, List.drop_zero, List.setIfInBounds_toArray, List.set_cons_zero, List.set_cons_succ]; refine wpList_store_fe (Z := A * A % pp) s1.var rfl rfl rfl (by kernel_rfl) (by kernel_rfl) ?_; refine wpList_store_fe (Z := B * B % pp) (var_far4 s2.var hne _) rfl rfl rfl (by kernel_rfl) (by kernel_rfl) ?_; refine wpList_done ?_; obtain ⟨hb', xgh, xgi⟩ := pair_after hpb s1 s2 hne (A * A % pp) (B * B % pp); have lgh := s1.1; have lgi := s2.1; clear s1 s2 hpb; generalize set4 (set4 uu gh (A * A % pp)) gi (B * B % pp) = u4 at *; clear uu
  replace bl := bl.trans (hb'.mono bl.size)
  have q4 := hb'.size
  replace hG := hG.below hb'
  replace v1 := v1.below hb'
  replace v2 := v2.below hb'
  replace v3 := v3.below hb'
  replace v4 := v4.below hb'
  replace v5 := v5.below hb'
  replace r1 := r1.below hb'
  replace r2 := r2.below hb'
  replace r3 := r3.below hb'
  replace r4 := r4.below hb'
  replace xge := xge.below hb'
  replace xgf := xgf.below hb'
  clear hb'
  have haa := num_emod_pp (A * A)
  have hbb := num_emod_pp (B * B)
  have EAA : Hid (sq (rgA X2 Z2) = A * A % pp) := Lib.hid (by rw [EA.out]; rfl)
  have EBB : Hid (sq (rgB X2 Z2) = B * B % pp) := Lib.hid (by rw [EB.out]; rfl)
  generalize A * A % pp = AA at *
  generalize B * B % pp = BB at *
  clear xga xgb
  go_upto_region 5 with fail
  obtain ⟨tl, t0, t1, t2, t3, t4, t5, t6, t7⟩ := id xgh
  obtain ⟨kl, k0, k1, k2, k3, k4, k5, k6, k7⟩ := id xgi
  go_wp2_with fail
  refine (sub_any AA BB _ haa hbb hG).mono ?_
  clear tl t0 t1 t2 t3 t4 t5 t6 t7 kl k0 k1 k2 k3 k4 k5 k6 k7
  rintro e u5 ⟨rfl, hb'⟩
  replace bl := bl.trans (hb'.mono bl.size)
  have q5 := hb'.size
  replace hG := hG.below hb'
  replace v1 := v1.below hb'
  replace v2 := v2.below hb'
  replace v3 := v3.below hb'
  replace v4 := v4.below hb'
  replace v5 := v5.below hb'
  replace r1 := r1.below hb'
  replace r2 := r2.below hb'
  replace r3 := r3.below hb'
  replace r4 := r4.below hb'
  replace xge := xge.below hb'
  replace xgf := xgf.below hb'
  replace xgh := xgh.below hb'
  replace xgi := xgi.below hb'
  clear hb'
  have hee := num_emod_pp (AA - BB)
  have EE : Hid (rgE X2 Z2 = (AA - BB) % pp) := Lib.hid (by unfold rgE; rw [EAA.out, EBB.out])
  generalize (AA - BB) % pp = E at *
  go_upto_region 6 with fail
  have xgj := Var4.new u5 E
  have hb' : Below u5.heap.size u5 (u5.alloc (.cells #[.int .u64 (w0 E), .int .u64 (w1 E), .int .u64 (w2 E), .int .u64 (w3 E)] 33)) := (Below.refl _ _).alloc (Nat.le_refl _) _
  have lgj : u4.heap.size ≤ u5.heap.size := q5
  replace bl := bl.trans (hb'.mono bl.size)
  replace hG := hG.below hb'
  replace v1 := v1.below hb'
  replace v2 := v2.below hb'
  replace v3 := v3.below hb'
  replace v4 := v4.below hb'
  replace v5 := v5.below hb'
  replace r1 := r1.below hb'
  replace r2 := r2.below hb'
  replace r3 := r3.below hb'
  replace r4 := r4.below hb'
  replace xge := xge.below hb'
  replace xgf := xgf.below hb'
  replace xgh := xgh.below hb'
  replace xgi := xgi.below hb'
  clear hb'
  generalize u5.alloc (.cells #[.int .u64 (w0 E), .int .u64 (w1 E), .int .u64 (w2 E), .int .u64 (w3 E)] 33) = u6 at *
  generalize u5.heap.size = gj at *
  have SZ' := SZ.out
  have nge : w.heap.size + 9 ≤ ge := by omega
  have ngf : w.heap.size + 9 ≤ gf := by omega
  have ngh : w.heap.size + 9 ≤ gh := by omega
  have ngi : w.heap.size + 9 ≤ gi := by omega
  have ngj : w.heap.size + 9 ≤ gj := by omega
  clear SZ SZ' lga lgb lgc lgd lge lgf lgh lgi lgj S1 q2 q3 q4 q5
  have hs := num_emod_pp (DA + CB)
  have hd' := num_emod_pp (DA - CB)
  have hsd := num_emod_pp ((DA - CB) % pp * ((DA - CB) % pp))
  refine wp_region_calm 10 (by kernel_rfl) (by kernel_rfl) ?_
  refine wpCalm_step _ (fun V hV => calm_load (Var4.below xge hV) rfl (by kernel_rfl)) ?_; (try simp only [Act.put, List.setIfInBounds_toArray, List.set_cons_zero, List.set_cons_succ])
  refine wpCalm_step _ (fun V hV => calm_load (Var4.below xgf hV) rfl (by kernel_rfl)) ?_; (try simp only [Act.put, List.setIfInBounds_toArray, List.set_cons_zero, List.set_cons_succ])
  refine wpCalm_step _ (fun V hV => calm_call2 enters_add rfl rfl (by kernel_rfl) (by kernel_rfl) (add_any DA CB V hda hcb (hG.below hV))) ?_; (try simp only [Act.put, List.setIfInBounds_toArray, List.set_cons_zero, List.set_cons_succ])
  refine wpCalm_step _ (fun V hV => calm_call1 enters_square rfl rfl (by kernel_rfl) (square_any ((DA + CB) % pp) V hs (hG.below hV))) ?_; (try simp only [Act.put, List.setIfInBounds_toArray, List.set_cons_zero, List.set_cons_succ])
  refine wpCalm_step _ (fun V hV => calm_load (Var4.below v1 hV) rfl (by kernel_rfl)) ?_; (try simp only [Act.put, List.setIfInBounds_toArray, List.set_cons_zero, List.set_cons_succ])
  refine wpCalm_step _ (fun V hV => calm_load (Var4.below xge hV) rfl (by kernel_rfl)) ?_; (try simp only [Act.put, List.setIfInBounds_toArray, List.set_cons_zero, List.set_cons_succ])
  refine wpCalm_step _ (fun V hV => calm_load (Var4.below xgf hV) rfl (by kernel_rfl)) ?_; (try simp only [Act.put, List.setIfInBounds_toArray, List.set_cons_zero, List.set_cons_succ])
  refine wpCalm_step _ (fun V hV => calm_call2 enters_sub rfl rfl (by kernel_rfl) (by kernel_rfl) (sub_any DA CB V hda hcb (hG.below hV))) ?_; (try simp only [Act.put, List.setIfInBounds_toArray, List.set_cons_zero, List.set_cons_succ])
  refine wpCalm_step _ (fun V hV => calm_call1 enters_square rfl rfl (by kernel_rfl) (square_any ((DA - CB) % pp) V hd' (hG.below hV))) ?_; (try simp only [Act.put, List.setIfInBounds_toArray, List.set_cons_zero, List.set_cons_succ])
  refine wpCalm_step _ (fun V hV => calm_call2 enters_mul rfl rfl (by kernel_rfl) (by kernel_rfl) (mul_any X1 ((DA - CB) % pp * ((DA - CB) % pp) % pp) V h1 hsd (hG.below hV))) ?_; (try simp only [Act.put, List.setIfInBounds_toArray, List.set_cons_zero, List.set_cons_succ])
  refine wpCalm_done ?_
  intro uu hpb
  simp only [List.drop_succ_cons, List.drop_zero]
  refine wpList_store_fe (Z := (DA + CB) % pp * ((DA + CB) % pp) % pp) (v4.below hpb) rfl rfl rfl (by kernel_rfl) (by kernel_rfl) ?_
  refine wpList_store_fe (Z := X1 * ((DA - CB) % pp * ((DA - CB) % pp) % pp) % pp) (var_far4 (v5.below hpb) (by omega) _) rfl rfl rfl (by kernel_rfl) (by kernel_rfl) ?_
  refine wpList_done ?_
  replace bl : Below w.heap.size w (set4 (set4 uu (w.heap.size + 1 + 1 + 1) ((DA + CB) % pp * ((DA + CB) % pp) % pp)) (w.heap.size + 1 + 1 + 1 + 1) (X1 * ((DA - CB) % pp * ((DA - CB) % pp) % pp) % pp)) := set4_below (by omega) (set4_below (by omega) (bl.trans (hpb.mono bl.size)) _) _
  replace hG := ((hG.below hpb).set4 (g := (w.heap.size + 1 + 1 + 1)) (by omega) ((DA + CB) % pp * ((DA + CB) % pp) % pp)).set4 (g := (w.heap.size + 1 + 1 + 1 + 1)) (by omega) (X1 * ((DA - CB) % pp * ((DA - CB) % pp) % pp) % pp)
  replace v4 := var_far4 (Var4.set4 (v4.below hpb) ((DA + CB) % pp * ((DA + CB) % pp) % pp)) (c := (w.heap.size + 1 + 1 + 1 + 1)) (by omega) (X1 * ((DA - CB) % pp * ((DA - CB) % pp) % pp) % pp)
  replace v5 := Var4.set4 (var_far4 (v5.below hpb) (c := (w.heap.size + 1 + 1 + 1)) (by omega) ((DA + CB) % pp * ((DA + CB) % pp) % pp)) (X1 * ((DA - CB) % pp * ((DA - CB) % pp) % pp) % pp)
  replace v2 := var_far4 (var_far4 (v2.below hpb) (c := (w.heap.size + 1 + 1 + 1)) (by omega) ((DA + CB) % pp * ((DA + CB) % pp) % pp)) (c := (w.heap.size + 1 + 1 + 1 + 1)) (by omega) (X1 * ((DA - CB) % pp * ((DA - CB) % pp) % pp) % pp)
  replace v3 := var_far4 (var_far4 (v3.below hpb) (c := (w.heap.size + 1 + 1 + 1)) (by omega) ((DA + CB) % pp * ((DA + CB) % pp) % pp)) (c := (w.heap.size + 1 + 1 + 1 + 1)) (by omega) (X1 * ((DA - CB) % pp * ((DA - CB) % pp) % pp) % pp)
  replace r1 := var_far4 (var_far4 (r1.below hpb) (c := (w.heap.size + 1 + 1 + 1)) (by omega) ((DA + CB) % pp * ((DA + CB) % pp) % pp)) (c := (w.heap.size + 1 + 1 + 1 + 1)) (by omega) (X1 * ((DA - CB) % pp * ((DA - CB) % pp) % pp) % pp)
  replace r2 := var_far4 (var_far4 (r2.below hpb) (c := (w.heap.size + 1 + 1 + 1)) (by omega) ((DA + CB) % pp * ((DA + CB) % pp) % pp)) (c := (w.heap.size + 1 + 1 + 1 + 1)) (by omega) (X1 * ((DA - CB) % pp * ((DA - CB) % pp) % pp) % pp)
  replace r3 := var_far4 (var_far4 (r3.below hpb) (c := (w.heap.size + 1 + 1 + 1)) (by omega) ((DA + CB) % pp * ((DA + CB) % pp) % pp)) (c := (w.heap.size + 1 + 1 + 1 + 1)) (by omega) (X1 * ((DA - CB) % pp * ((DA - CB) % pp) % pp) % pp)
  replace r4 := var_far4 (var_far4 (r4.below hpb) (c := (w.heap.size + 1 + 1 + 1)) (by omega) ((DA + CB) % pp * ((DA + CB) % pp) % pp)) (c := (w.heap.size + 1 + 1 + 1 + 1)) (by omega) (X1 * ((DA - CB) % pp * ((DA - CB) % pp) % pp) % pp)
  replace xgh := var_far4 (var_far4 (xgh.below hpb) (c := (w.heap.size + 1 + 1 + 1)) (by omega) ((DA + CB) % pp * ((DA + CB) % pp) % pp)) (c := (w.heap.size + 1 + 1 + 1 + 1)) (by omega) (X1 * ((DA - CB) % pp * ((DA - CB) % pp) % pp) % pp)
  replace xgi := var_far4 (var_far4 (xgi.below hpb) (c := (w.heap.size + 1 + 1 + 1)) (by omega) ((DA + CB) % pp * ((DA + CB) % pp) % pp)) (c := (w.heap.size + 1 + 1 + 1 + 1)) (by omega) (X1 * ((DA - CB) % pp * ((DA - CB) % pp) % pp) % pp)
  replace xgj := var_far4 (var_far4 (xgj.below hpb) (c := (w.heap.size + 1 + 1 + 1)) (by omega) ((DA + CB) % pp * ((DA + CB) % pp) % pp)) (c := (w.heap.size + 1 + 1 + 1 + 1)) (by omega) (X1 * ((DA - CB) % pp * ((DA - CB) % pp) % pp) % pp)
  clear hpb
  generalize set4 (set4 uu (w.heap.size + 1 + 1 + 1) ((DA + CB) % pp * ((DA + CB) % pp) % pp)) (w.heap.size + 1 + 1 + 1 + 1) (X1 * ((DA - CB) % pp * ((DA - CB) % pp) % pp) % pp) = u7 at *
  clear uu v1 xge xgf u6
  have EX3 : Hid (rgX3 X2 Z2 X3 Z3 = (DA + CB) % pp * ((DA + CB) % pp) % pp) := Lib.hid (by unfold rgX3 sq; rw [EDA.out, ECB.out])
  have EZ3 : Hid (rgZ3 X1 X2 Z2 X3 Z3 = X1 * ((DA - CB) % pp * ((DA - CB) % pp) % pp) % pp) := Lib.hid (by unfold rgZ3 sq; rw [EDA.out, ECB.out])
  generalize (DA + CB) % pp * ((DA + CB) % pp) % pp = x3 at *
  generalize X1 * ((DA - CB) % pp * ((DA - CB) % pp) % pp) % pp = z3 at *
  have hm := num_emod_pp (121665 * E)
  have hn := num_emod_pp (AA + 121665 * E % pp)
  go_upto_region 7 with fail
  refine wp_region_calm 10 (by kernel_rfl) (by kernel_rfl) ?_
  refine wpCalm_step _ (fun V hV => calm_load (Var4.below xgh hV) rfl (by kernel_rfl)) ?_; (try simp only [Act.put, List.setIfInBounds_toArray, List.set_cons_zero, List.set_cons_succ])
  refine wpCalm_step _ (fun V hV => calm_load (Var4.below xgi hV) rfl (by kernel_rfl)) ?_; (try simp only [Act.put, List.setIfInBounds_toArray, List.set_cons_zero, List.set_cons_succ])
  refine wpCalm_step _ (fun V hV => calm_call2 enters_mul rfl rfl (by kernel_rfl) (by kernel_rfl) (mul_any AA BB V haa hbb (hG.below hV))) ?_; (try simp only [Act.put, List.setIfInBounds_toArray, List.set_cons_zero, List.set_cons_succ])
  refine wpCalm_step _ (fun V hV => calm_load (Var4.below xgj hV) rfl (by kernel_rfl)) ?_; (try simp only [Act.put, List.setIfInBounds_toArray, List.set_cons_zero, List.set_cons_succ])
  refine wpCalm_step _ (fun V hV => calm_load (Var4.below xgh hV) rfl (by kernel_rfl)) ?_; (try simp only [Act.put, List.setIfInBounds_toArray, List.set_cons_zero, List.set_cons_succ])
  refine wpCalm_step _ (fun V hV => calm_call1 enters_small rfl rfl (by kernel_rfl) (small_any 121665 V (by omega) (by omega))) ?_; (try simp only [Act.put, List.setIfInBounds_toArray, List.set_cons_zero, List.set_cons_succ])
  refine wpCalm_step _ (fun V hV => calm_load (Var4.below xgj hV) rfl (by kernel_rfl)) ?_; (try simp only [Act.put, List.setIfInBounds_toArray, List.set_cons_zero, List.set_cons_succ])
  refine wpCalm_step _ (fun V hV => calm_call2 enters_mul rfl rfl (by kernel_rfl) (by kernel_rfl) (mul_any 121665 E V (num_small (by omega) (by omega)) hee (hG.below hV))) ?_; (try simp only [Act.put, List.setIfInBounds_toArray, List.set_cons_zero, List.set_cons_succ])
  refine wpCalm_step _ (fun V hV => calm_call2 enters_add rfl rfl (by kernel_rfl) (by kernel_rfl) (add_any AA (121665 * E % pp) V haa hm (hG.below hV))) ?_; (try simp only [Act.put, List.setIfInBounds_toArray, List.set_cons_zero, List.set_cons_succ])
  refine wpCalm_step _ (fun V hV => calm_call2 enters_mul rfl rfl (by kernel_rfl) (by kernel_rfl) (mul_any E ((AA + 121665 * E % pp) % pp) V hee hn (hG.below hV))) ?_; (try simp only [Act.put, List.setIfInBounds_toArray, List.set_cons_zero, List.set_cons_succ])
  refine wpCalm_done ?_
  intro uu hpb
  simp only [List.drop_succ_cons, List.drop_zero]
  refine wpList_store_fe (Z := AA * BB % pp) (v2.below hpb) rfl rfl rfl (by kernel_rfl) (by kernel_rfl) ?_
  refine wpList_store_fe (Z := E * ((AA + 121665 * E % pp) % pp) % pp) (var_far4 (v3.below hpb) (by omega) _) rfl rfl rfl (by kernel_rfl) (by kernel_rfl) ?_
  refine wpList_done ?_
  replace bl : Below w.heap.size w (set4 (set4 uu (w.heap.size + 1) (AA * BB % pp)) (w.heap.size + 1 + 1) (E * ((AA + 121665 * E % pp) % pp) % pp)) := set4_below (by omega) (set4_below (by omega) (bl.trans (hpb.mono bl.size)) _) _
  replace hG := ((hG.below hpb).set4 (g := (w.heap.size + 1)) (by omega) (AA * BB % pp)).set4 (g := (w.heap.size + 1 + 1)) (by omega) (E * ((AA + 121665 * E % pp) % pp) % pp)
  replace v2 := var_far4 (Var4.set4 (v2.below hpb) (AA * BB % pp)) (c := (w.heap.size + 1 + 1)) (by omega) (E * ((AA + 121665 * E % pp) % pp) % pp)
  replace v3 := Var4.set4 (var_far4 (v3.below hpb) (c := (w.heap.size + 1)) (by omega) (AA * BB % pp)) (E * ((AA + 121665 * E % pp) % pp) % pp)
  replace v4 := var_far4 (var_far4 (v4.below hpb) (c := (w.heap.size + 1)) (by omega) (AA * BB % pp)) (c := (w.heap.size + 1 + 1)) (by omega) (E * ((AA + 121665 * E % pp) % pp) % pp)
  replace v5 := var_far4 (var_far4 (v5.below hpb) (c := (w.heap.size + 1)) (by omega) (AA * BB % pp)) (c := (w.heap.size + 1 + 1)) (by omega) (E * ((AA + 121665 * E % pp) % pp) % pp)
  replace r1 := var_far4 (var_far4 (r1.below hpb) (c := (w.heap.size + 1)) (by omega) (AA * BB % pp)) (c := (w.heap.size + 1 + 1)) (by omega) (E * ((AA + 121665 * E % pp) % pp) % pp)
  replace r2 := var_far4 (var_far4 (r2.below hpb) (c := (w.heap.size + 1)) (by omega) (AA * BB % pp)) (c := (w.heap.size + 1 + 1)) (by omega) (E * ((AA + 121665 * E % pp) % pp) % pp)
  replace r3 := var_far4 (var_far4 (r3.below hpb) (c := (w.heap.size + 1)) (by omega) (AA * BB % pp)) (c := (w.heap.size + 1 + 1)) (by omega) (E * ((AA + 121665 * E % pp) % pp) % pp)
  replace r4 := var_far4 (var_far4 (r4.below hpb) (c := (w.heap.size + 1)) (by omega) (AA * BB % pp)) (c := (w.heap.size + 1 + 1)) (by omega) (E * ((AA + 121665 * E % pp) % pp) % pp)
  clear hpb hG
  generalize set4 (set4 uu (w.heap.size + 1) (AA * BB % pp)) (w.heap.size + 1 + 1) (E * ((AA + 121665 * E % pp) % pp) % pp) = u8 at *
  clear uu xgh xgi xgj u7
  have EX2 : Hid (rgX2 X2 Z2 = AA * BB % pp) := Lib.hid (by unfold rgX2; rw [EAA.out, EBB.out])
  have EZ2 : Hid (rgZ2 X2 Z2 = E * ((AA + 121665 * E % pp) % pp) % pp) := Lib.hid (by unfold rgZ2; rw [EAA.out, EE.out])
  generalize AA * BB % pp = x2 at *
  generalize E * ((AA + 121665 * E % pp) % pp) % pp = z2 at *
  go_upto_region 8 with fail
  refine wp_region_noPanic ?_
  refine wp_region_held_drew (S := fun V => Var4 (w.heap.size + 1) x2 V ∧ Var4 (w.heap.size + 1 + 1) z2 V ∧ Var4 (w.heap.size + 1 + 1 + 1) x3 V ∧ Var4 (w.heap.size + 1 + 1 + 1 + 1) z3 V) (by kernel_rfl) ⟨v2.drew, v3.drew, v4.drew, v5.drew⟩ (fun hHeld => ?_)
  refine wpAnyH_load_fe (i := 0) (X := x2) rfl rfl rfl rfl (by kernel_rfl) (by kernel_rfl) (by kernel_rfl) (fun _ _ _ h => h) (by kernel_rfl) (fun V hV => hV.1) hHeld ?_; (try simp only [Act.put, List.setIfInBounds_toArray, List.set_cons_zero, List.set_cons_succ])
  refine wpAnyH_load_fe (i := 1) (X := z2) rfl rfl rfl rfl (by kernel_rfl) (by kernel_rfl) (by kernel_rfl) (fun _ _ _ h => h) (by kernel_rfl) (fun V hV => hV.2.1) hHeld ?_; (try simp only [Act.put, List.setIfInBounds_toArray, List.set_cons_zero, List.set_cons_succ])
  refine wpAnyH_load_fe (i := 2) (X := x3) rfl rfl rfl rfl (by kernel_rfl) (by kernel_rfl) (by kernel_rfl) (fun _ _ _ h => h) (by kernel_rfl) (fun V hV => hV.2.2.1) hHeld ?_; (try simp only [Act.put, List.setIfInBounds_toArray, List.set_cons_zero, List.set_cons_succ])
  refine wpAnyH_load_fe (i := 3) (X := z3) rfl rfl rfl rfl (by kernel_rfl) (by kernel_rfl) (by kernel_rfl) (fun _ _ _ h => h) (by kernel_rfl) (fun V hV => hV.2.2.2) hHeld ?_; (try simp only [Act.put, List.setIfInBounds_toArray, List.set_cons_zero, List.set_cons_succ])
  have f1 := four_far (c := (w.heap.size + 1 + 1 + 1 + 1 + 1)) (Z := x2) hHeld (by omega) (by omega) (by omega) (by omega)
  have f2 := four_far (c := (w.heap.size + 1 + 1 + 1 + 1 + 1 + 1)) (Z := z2) f1 (by omega) (by omega) (by omega) (by omega)
  have f3 := four_far (c := (w.heap.size + 1 + 1 + 1 + 1 + 1 + 1 + 1)) (Z := x3) f2 (by omega) (by omega) (by omega) (by omega)
  have f4 := four_far (c := (w.heap.size + 1 + 1 + 1 + 1 + 1 + 1 + 1 + 1)) (Z := z3) f3 (by omega) (by omega) (by omega) (by omega)
  refine wpAnyH_store_fe (i := 4) (Z := x2) (by kernel_rfl) rfl rfl rfl rfl (by kernel_rfl) (by kernel_rfl) r1.drew f1 ?_
  refine wpAnyH_store_fe (i := 5) (Z := z2) (by kernel_rfl) rfl rfl rfl rfl (by kernel_rfl) (by kernel_rfl) (var_far4 r2.drew (by omega) _) f2 ?_
  refine wpAnyH_store_fe (i := 6) (Z := x3) (by kernel_rfl) rfl rfl rfl rfl (by kernel_rfl) (by kernel_rfl) (var_far4 (var_far4 r3.drew (by omega) _) (by omega) _) f3 ?_
  refine wpAnyH_store_fe (i := 7) (Z := z3) (by kernel_rfl) rfl rfl rfl rfl (by kernel_rfl) (by kernel_rfl) (var_far4 (var_far4 (var_far4 r4.drew (by omega) _) (by omega) _) (by omega) _) f4 ?_
  refine wpAnyH_done (by kernel_rfl) ?_ _
  refine NoPanic.normal ?_
  clear f1 f2 f3 f4 hHeld
  have o1 := var_far4 (var_far4 (var_far4 (Var4.set4 r1.drew x2) (c := (w.heap.size + 1 + 1 + 1 + 1 + 1 + 1)) (by omega) z2) (c := (w.heap.size + 1 + 1 + 1 + 1 + 1 + 1 + 1)) (by omega) x3) (c := (w.heap.size + 1 + 1 + 1 + 1 + 1 + 1 + 1 + 1)) (by omega) z3
  have o2 := var_far4 (var_far4 (Var4.set4 (var_far4 r2.drew (c := (w.heap.size + 1 + 1 + 1 + 1 + 1)) (by omega) x2) z2) (c := (w.heap.size + 1 + 1 + 1 + 1 + 1 + 1 + 1)) (by omega) x3) (c := (w.heap.size + 1 + 1 + 1 + 1 + 1 + 1 + 1 + 1)) (by omega) z3
  have o3 := var_far4 (Var4.set4 (var_far4 (var_far4 r3.drew (c := (w.heap.size + 1 + 1 + 1 + 1 + 1)) (by omega) x2) (c := (w.heap.size + 1 + 1 + 1 + 1 + 1 + 1)) (by omega) z2) x3) (c := (w.heap.size + 1 + 1 + 1 + 1 + 1 + 1 + 1 + 1)) (by omega) z3
  have o4 := Var4.set4 (var_far4 (var_far4 (var_far4 r4.drew (c := (w.heap.size + 1 + 1 + 1 + 1 + 1)) (by omega) x2) (c := (w.heap.size + 1 + 1 + 1 + 1 + 1 + 1)) (by omega) z2) (c := (w.heap.size + 1 + 1 + 1 + 1 + 1 + 1 + 1)) (by omega) x3) z3
  have bl' := set4_below (g := (w.heap.size + 1 + 1 + 1 + 1 + 1 + 1 + 1 + 1)) (by omega) (set4_below (g := (w.heap.size + 1 + 1 + 1 + 1 + 1 + 1 + 1)) (by omega) (set4_below (g := (w.heap.size + 1 + 1 + 1 + 1 + 1 + 1)) (by omega) (set4_below (g := (w.heap.size + 1 + 1 + 1 + 1 + 1)) (by omega) bl.drew x2) z2) x3) z3
  generalize set4 (set4 (set4 (set4 u8.drew (w.heap.size + 1 + 1 + 1 + 1 + 1) x2) (w.heap.size + 1 + 1 + 1 + 1 + 1 + 1) z2) (w.heap.size + 1 + 1 + 1 + 1 + 1 + 1 + 1) x3) (w.heap.size + 1 + 1 + 1 + 1 + 1 + 1 + 1 + 1) z3 = u9 at *
  obtain ⟨a0, a1, a2, a3, a4, a5, a6, a7, a8⟩ := o1
  obtain ⟨b0, b1, b2, b3, b4, b5, b6, b7, b8⟩ := o2
  obtain ⟨c0, c1, c2, c3, c4, c5, c6, c7, c8⟩ := o3
  obtain ⟨d0, d1, d2, d3, d4, d5, d6, d7, d8⟩ := o4
  go_wp2_with fail
  refine bodyPost_ret (v := .tuple #[feV x2, feV z2, feV x3, feV z3]) (by simp [results, Tryd.results11, go_sem, a1, a2, a3, a4, b1, b2, b3, b4, c1, c2, c3, c4, d1, d2, d3, d4]) rfl ⟨by rw [EX2.out, EZ2.out, EX3.out, EZ3.out], bl'⟩
end Go.Proofs.YtegebgbmnddopaaDoor
