/- What field.minus does. -/
import Derived.Test.YtfdjmdfaidiliaaDoorNums
import Derived.WalkSpells
import Derived.Lib.Hide
namespace Go.Proofs.YtfdjmdfaidiliaaDoor
open Go.RowKit
set_option maxRecDepth 20000

set_option maxHeartbeats 400000 in
theorem minus_raw (x0 x1 x2 x3 y0 y1 y2 y3 : Int) (w : World) (hx0 : Word x0) (hx1 : Word x1) (hx2 : Word x2) (hx3 : Word x3) (hy0 : Word y0) (hy1 : Word y1) (hy2 : Word y2) (hy3 : Word y3) :
    Calls Tryd.prog 81 #[.agg #[.int .u64 x0, .int .u64 x1, .int .u64 x2, .int .u64 x3], .agg #[.int .u64 y0, .int .u64 y1, .int .u64 y2, .int .u64 y3]] w fun e w' => 
      e = .returned (.tuple #[.agg #[.int .u64 (sbW x0 y0 0), .int .u64 (sbW x1 y1 (sbB x0 y0 0)), .int .u64 (sbW x2 y2 (sbB x1 y1 (sbB x0 y0 0))), .int .u64 (sbW x3 y3 (sbB x2 y2 (sbB x1 y1 (sbB x0 y0 0))))], .bool (sbB x3 y3 (sbB x2 y2 (sbB x1 y1 (sbB x0 y0 0))) == 1)]) ∧ Below w.heap.size w w' := by
  go_enter Tryd.func81, Tryd.ntmps81
  go_wp2_with (simp only [run_sub64_at hx0 hy0 bit0, run_sub64_at hx1 hy1 (sbB_bit _ _ _), run_sub64_at hx2 hy2 (sbB_bit _ _ _), run_sub64_at hx3 hy3 (sbB_bit _ _ _)])
  refine bodyPost_ret (v := .tuple #[.agg #[.int .u64 (sbW x0 y0 0), .int .u64 (sbW x1 y1 (sbB x0 y0 0)), .int .u64 (sbW x2 y2 (sbB x1 y1 (sbB x0 y0 0))), .int .u64 (sbW x3 y3 (sbB x2 y2 (sbB x1 y1 (sbB x0 y0 0))))], .bool (sbB x3 y3 (sbB x2 y2 (sbB x1 y1 (sbB x0 y0 0))) == 1)]) (by simp [results, Tryd.results81, go_sem]) rfl ⟨rfl, ?_⟩
  repeat' (first | exact Below.refl _ _ | refine Below.setCell ?_ ?_ _ | refine Below.alloc ?_ ?_ _ | refine Below.drew ?_)
  all_goals (simp <;> omega)

/-- The same, its answer as numbers: the difference by 2^256; true: the second is the greater one. -/
theorem minus_at (x0 x1 x2 x3 Y : Int) (w : World) (hx0 : Word x0) (hx1 : Word x1) (hx2 : Word x2) (hx3 : Word x3) (hY : Num Y) :
    Calls Tryd.prog 81 #[.agg #[.int .u64 x0, .int .u64 x1, .int .u64 x2, .int .u64 x3], feV Y] w fun e w' =>
      e = .returned (.tuple #[feV ((val x0 x1 x2 x3 - Y) % 115792089237316195423570985008687907853269984665640564039457584007913129639936), .bool (decide (val x0 x1 x2 x3 < Y))]) ∧ Below w.heap.size w w' := by
  refine (minus_raw _ _ _ _ _ _ _ _ w hx0 hx1 hx2 hx3 (w0_word Y) (w1_word Y) (w2_word Y) (w3_word Y)).mono ?_
  rintro e w' ⟨rfl, hb⟩
  refine ⟨?_, hb⟩
  have hm := minus_math hx0 hx1 hx2 hx3 (w0_word Y) (w1_word Y) (w2_word Y) (w3_word Y)
  rw [val_w hY] at hm
  rw [hm.2, ← hm.1, feV_val (sbW_word _ _ _) (sbW_word _ _ _) (sbW_word _ _ _) (sbW_word _ _ _)]
theorem minus_any (X Y : Int) (w : World) (hX : Num X) (hY : Num Y) :
    Calls Tryd.prog 81 #[feV X, feV Y] w fun e w' =>
      e = .returned (.tuple #[feV ((X - Y) % 115792089237316195423570985008687907853269984665640564039457584007913129639936), .bool (decide (X < Y))]) ∧ Below w.heap.size w w' := by
  have h := minus_at (w0 X) (w1 X) (w2 X) (w3 X) Y w (w0_word X) (w1_word X) (w2_word X) (w3_word X) hY
  rw [val_w hX] at h
  exact h

/-- What stands below a bound stays: the cells, and whether they may be written. -/
theorem bcell {W w1 : World} (hb : Below W.heap.size W w1) : (∀ b o, b < W.heap.size → w1.cell? ⟨b, o, none⟩ = W.cell? ⟨b, o, none⟩) ∧ (∀ b o, b < W.heap.size → w1.frozen? ⟨b, o, none⟩ = W.frozen? ⟨b, o, none⟩) :=
  ⟨fun b o h => hb.cell (p := ⟨b, o, none⟩) h, fun b o h => hb.frozen (p := ⟨b, o, none⟩) h⟩
end Go.Proofs.YtfdjmdfaidiliaaDoor
