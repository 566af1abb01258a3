/- What field.Sub and field.Neg do. -/
import Derived.Test.YtefaihdhnnldmaaDoorAdd
import Derived.Deep.DeepCutAuto
namespace Go.Proofs.YtefaihdhnnldmaaDoor
open Go.RowKit
set_option maxRecDepth 20000

/-- What stands in a number's block. -/
def Cells4 (b : Nat) (N : Int) (u : World) : Prop := u.cell? ⟨b, 0, none⟩ = some (.int .u64 (w0 N)) ∧ u.cell? ⟨b, 1, none⟩ = some (.int .u64 (w1 N)) ∧ u.cell? ⟨b, 2, none⟩ = some (.int .u64 (w2 N)) ∧ u.cell? ⟨b, 3, none⟩ = some (.int .u64 (w3 N))
theorem Cells4.of_below {b : Nat} {N : Int} {u V : World} (h : Cells4 b N u) (hlt : b < u.heap.size) (hb : Below u.heap.size u V) : Cells4 b N V := by
  obtain ⟨h0, h1, h2, h3⟩ := h
  refine ⟨?_, ?_, ?_, ?_⟩
  · rw [hb.cell (p := ⟨b, 0, none⟩) hlt]; exact h0
  · rw [hb.cell (p := ⟨b, 1, none⟩) hlt]; exact h1
  · rw [hb.cell (p := ⟨b, 2, none⟩) hlt]; exact h2
  · rw [hb.cell (p := ⟨b, 3, none⟩) hlt]; exact h3
theorem GCell.cells {b : Nat} {N : Int} {w : World} (h : GCell b N w) : Cells4 b N w := ⟨h.c0, h.c1, h.c2, h.c3⟩
theorem Box2.xcells {w u : World} {X Y : Int} (h : Box2 w X Y u) : Cells4 w.heap.size X u := ⟨h.x0, h.x1, h.x2, h.x3⟩
theorem Box2.ycells {w u : World} {X Y : Int} (h : Box2 w X Y u) : Cells4 (w.heap.size + 1) Y u := ⟨h.y0, h.y1, h.y2, h.y3⟩

/-- A number was put into a block that is newer than a world, and nothing else of that world turned. -/
def Made (u0 : World) (Z : Int) (s : Value) (u : World) : Prop := ∃ g : Nat, s = .pointer (some ⟨g, 0, none⟩) ∧ u0.heap.size ≤ g ∧ g < u.heap.size ∧ Below u0.heap.size u0 u ∧ Cells4 g Z u
theorem made_new {u0 u : World} {Z : Int} (hb : Below u0.heap.size u0 u) : Made u0 Z (.pointer (some ⟨u.heap.size, 0, none⟩)) (u.alloc (.cells #[.int .u64 (w0 Z), .int .u64 (w1 Z), .int .u64 (w2 Z), .int .u64 (w3 Z)] 40)) := by
  refine ⟨u.heap.size, rfl, hb.size, by simp, hb.alloc hb.size _, ?_⟩
  unfold Cells4; simp [go_sem]
theorem read4 {u : World} {g : Nat} {Z : Int} (q0 : (u.cell? ⟨g, 0, none⟩).isSome = true) (q1 : (u.cell? ⟨g, 1, none⟩).isSome = true) (q2 : (u.cell? ⟨g, 2, none⟩).isSome = true) (q3 : (u.cell? ⟨g, 3, none⟩).isSome = true) :
    Cells4 g Z ((((u.setCell ⟨g, 0, none⟩ (.int .u64 (w0 Z))).setCell ⟨g, 1, none⟩ (.int .u64 (w1 Z))).setCell ⟨g, 2, none⟩ (.int .u64 (w2 Z))).setCell ⟨g, 3, none⟩ (.int .u64 (w3 Z))) := by
  unfold Cells4; simp [go_sem, q0, q1, q2, q3]
theorem made_old {u0 u : World} {Z : Int} {g : Nat} (hg : u0.heap.size ≤ g) (hlt : g < u.heap.size) (hb : Below u0.heap.size u0 u) (q0 : (u.cell? ⟨g, 0, none⟩).isSome = true) (q1 : (u.cell? ⟨g, 1, none⟩).isSome = true) (q2 : (u.cell? ⟨g, 2, none⟩).isSome = true) (q3 : (u.cell? ⟨g, 3, none⟩).isSome = true) :
    Made u0 Z (.pointer (some ⟨g, 0, none⟩)) ((((u.setCell ⟨g, 0, none⟩ (.int .u64 (w0 Z))).setCell ⟨g, 1, none⟩ (.int .u64 (w1 Z))).setCell ⟨g, 2, none⟩ (.int .u64 (w2 Z))).setCell ⟨g, 3, none⟩ (.int .u64 (w3 Z))) :=
  ⟨g, rfl, hg, by simpa using hlt, (((hb.setCell hg _).setCell hg _).setCell hg _).setCell hg _, read4 q0 q1 q2 q3⟩

theorem num0 : Num 0 := by unfold Num; omega
theorem sub_num (Y : Int) : Num ((pp - Y % pp) % 115792089237316195423570985008687907853269984665640564039457584007913129639936) := by unfold Num pp; omega
theorem sub_math (X Y : Int) : (X + (pp - Y % pp) % 115792089237316195423570985008687907853269984665640564039457584007913129639936) % pp = (X - Y) % pp := by
  have h : (pp - Y % pp) % 115792089237316195423570985008687907853269984665640564039457584007913129639936 = pp - Y % pp := by unfold pp; omega
  rw [h]; unfold pp; omega
set_option maxHeartbeats 1000000 in
theorem sub_any (X Y : Int) (w : World) (hX : Num X) (hY : Num Y) (hG : GCell 3 pp w) :
    Calls Tryd.prog 49 #[feV X, feV Y] w fun e w' => e = .returned (feV ((X - Y) % pp)) ∧ Below w.heap.size w w' := by
  have B := Lib.hid (Box2.start w X Y)
  replace hG := hG.below B.out.bl
  go_enter Tryd.func49, Tryd.ntmps49
  go_upto_region 1 with fail
  generalize (((w.alloc (.cells #[.int .u64 (w0 X), .int .u64 (w1 X), .int .u64 (w2 X), .int .u64 (w3 X)] 40)).alloc (.cells #[.int .u64 (w0 Y), .int .u64 (w1 Y), .int .u64 (w2 Y), .int .u64 (w3 Y)] 40)).alloc (.cells #[.int .u64 0, .int .u64 0, .int .u64 0, .int .u64 0] 40)) = u0 at *
  have HS : Hid (∀ V, Below u0.heap.size u0 V → Cells4 3 pp V ∧ Cells4 (w.heap.size + 1) Y V) := Lib.hid fun V hV => ⟨hG.cells.of_below hG.lt hV, B.out.ycells.of_below B.out.l1 hV⟩
  obtain ⟨bl, l0, l1, l2, x0, x1, x2, x3, y0, y1, y2, y3, r0, r1, r2, r3, f0, f1, f2, f3⟩ := B.out
  have gl := hG.lt
  go_cut [5] (fun s5 u => Made u0 ((pp - Y % pp) % 115792089237316195423570985008687907853269984665640564039457584007913129639936) s5 u)
  case first =>
    unfold Cells4 at HS
    go_region_held3 (fun u => (u.cell? ⟨3, 0, none⟩ = some (.int .u64 (w0 pp)) ∧ u.cell? ⟨3, 1, none⟩ = some (.int .u64 (w1 pp)) ∧ u.cell? ⟨3, 2, none⟩ = some (.int .u64 (w2 pp)) ∧ u.cell? ⟨3, 3, none⟩ = some (.int .u64 (w3 pp))) ∧
      (u.cell? ⟨w.heap.size + 1, 0, none⟩ = some (.int .u64 (w0 Y)) ∧ u.cell? ⟨w.heap.size + 1, 1, none⟩ = some (.int .u64 (w1 Y)) ∧ u.cell? ⟨w.heap.size + 1, 2, none⟩ = some (.int .u64 (w2 Y)) ∧ u.cell? ⟨w.heap.size + 1, 3, none⟩ = some (.int .u64 (w3 Y)))) (exact HS.out _ (by repeat' (first | exact Below.refl _ _ | assumption | refine Below.setCell ?_ ?_ _ | refine Below.alloc ?_ ?_ _ | refine Below.drew ?_ | refine Below.trans ?_ (Below.mono (by assumption) ?_) | (simp; done) | (simp; omega))))
      (first | (go_at_call 67; refine (canon_any Y _ hY (hG.below (by repeat' (first | exact Below.refl _ _ | assumption | refine Below.setCell ?_ ?_ _ | refine Below.alloc ?_ ?_ _ | refine Below.drew ?_ | refine Below.trans ?_ (Below.mono (by assumption) ?_) | (simp; done) | (simp; omega))))).mono ?_; rintro e u1 ⟨rfl, hu1⟩; have bu1 : Below u0.heap.size u0 u1 := (by repeat' (first | exact Below.refl _ _ | assumption | refine Below.setCell ?_ ?_ _ | refine Below.alloc ?_ ?_ _ | refine Below.drew ?_ | refine Below.trans ?_ (Below.mono (by assumption) ?_) | (simp; done) | (simp; omega))); have su1 : u0.heap.size ≤ u1.heap.size := Below.size bu1; obtain ⟨cu1, fu1⟩ := bcell hu1; have tu1 := Below.size hu1; (try simp at tu1); (try rw [Nat.add_one_le_iff] at tu1)) | (go_at_call 66; refine (minus_any _ _ _ num_pp (num_emod_pp Y)).mono ?_; rintro e u2 ⟨rfl, hu2⟩; have bu2 : Below u0.heap.size u0 u2 := (by repeat' (first | exact Below.refl _ _ | assumption | refine Below.setCell ?_ ?_ _ | refine Below.alloc ?_ ?_ _ | refine Below.drew ?_ | refine Below.trans ?_ (Below.mono (by assumption) ?_) | (simp; done) | (simp; omega))); have su2 : u0.heap.size ≤ u2.heap.size := Below.size bu2; obtain ⟨cu2, fu2⟩ := bcell hu2; have tu2 := Below.size hu2; (try simp at tu2); (try rw [Nat.add_one_le_iff] at tu2)))
    all_goals (go_wp2_with fail; go_meet; first | ((with_reducible refine made_new ?_); repeat' (first | exact Below.refl _ _ | assumption | refine Below.setCell ?_ ?_ _ | refine Below.alloc ?_ ?_ _ | refine Below.drew ?_ | refine Below.trans ?_ (Below.mono (by assumption) ?_) | (simp; done) | (simp; omega)); done) | ((with_reducible refine made_old ?_ ?_ ?_ ?_ ?_ ?_ ?_) <;> (first | exact Nat.le_refl _ | assumption | omega | (first | (rw [cu2 _ _ (by simp; done)]; simp [go_sem]; done) | (rw [cu2 _ _ tu1, cu1 _ _ (by simp; done)]; simp [go_sem]; done)) | (repeat' (first | exact Below.refl _ _ | assumption | refine Below.setCell ?_ ?_ _ | refine Below.alloc ?_ ?_ _ | refine Below.drew ?_ | refine Below.trans ?_ (Below.mono (by assumption) ?_) | (simp; done) | (simp; omega)); done))))
  case rest =>
    obtain ⟨g, rfl, hg1, hg2, hb, c0, c1, c2, c3⟩ := hcut
    clear bl l0 l1 l2 x0 x1 x2 x3 y0 y1 y2 y3 r0 r1 r2 r3 f0 f1 f2 f3
    replace hG := hG.below hb
    replace B := Lib.hid (B.out.next hb); obtain ⟨bl, l0, l1, l2, x0, x1, x2, x3, y0, y1, y2, y3, r0, r1, r2, r3, f0, f1, f2, f3⟩ := B.out; clear hb
    go_wp2_with fail
    refine (add_any X _ _ hX (sub_num Y) hG).mono ?_
    clear bl l0 l1 l2 x0 x1 x2 x3 y0 y1 y2 y3 r0 r1 r2 r3 f0 f1 f2 f3
    rintro e u ⟨rfl, hb⟩
    rw [sub_math]
    replace B := Lib.hid (B.out.next hb); obtain ⟨bl, l0, l1, l2, x0, x1, x2, x3, y0, y1, y2, y3, r0, r1, r2, r3, f0, f1, f2, f3⟩ := B.out; clear hb
    go_wp2_with fail
    refine bodyPost_ret (v := feV ((X - Y) % pp)) (by simp [results, Tryd.results49, go_sem, r0, r1, r2, r3]) rfl ⟨rfl, ?_⟩
    repeat' (first | exact Below.refl _ _ | assumption | refine Below.setCell ?_ ?_ _ | refine Below.alloc ?_ ?_ _ | refine Below.drew ?_ | refine Below.trans ?_ (Below.mono (by assumption) ?_) | (simp; done) | (simp; omega))

theorem Box1.xcells {w u : World} {X : Int} (h : Box1 w X u) : Cells4 w.heap.size X u := ⟨h.x0, h.x1, h.x2, h.x3⟩
/-- A store into another block. -/
theorem Cells4.far {b c : Nat} {N : Int} {V : World} (hne : c ≠ b) (v0 v1 v2 v3 : Value) (h : Cells4 b N V) : Cells4 b N ((((V.setCell ⟨c, 0, none⟩ v0).setCell ⟨c, 1, none⟩ v1).setCell ⟨c, 2, none⟩ v2).setCell ⟨c, 3, none⟩ v3) := by
  obtain ⟨h0, h1, h2, h3⟩ := h
  refine ⟨?_, ?_, ?_, ?_⟩ <;> (rw [World.cell?_setCell_far _ ⟨c, _, none⟩ ⟨b, _, none⟩ _ hne, World.cell?_setCell_far _ ⟨c, _, none⟩ ⟨b, _, none⟩ _ hne, World.cell?_setCell_far _ ⟨c, _, none⟩ ⟨b, _, none⟩ _ hne, World.cell?_setCell_far _ ⟨c, _, none⟩ ⟨b, _, none⟩ _ hne]; assumption)

end Go.Proofs.YtefaihdhnnldmaaDoor
