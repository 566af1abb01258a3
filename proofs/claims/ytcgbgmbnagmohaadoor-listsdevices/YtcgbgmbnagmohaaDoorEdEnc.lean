import Derived.Test.YtcgbgmbnagmohaaDoorRoot1
import Derived.Test.YtcgbgmbnagmohaaDoorBase
import Derived.Test.YtcgbgmbnagmohaaDoorPw
import Derived.Test.YtcgbgmbnagmohaaDoorEMath
import Derived.Test.YtcgbgmbnagmohaaDoorBytes
import Derived.Test.YtcgbgmbnagmohaaDoorOf
import Derived.Test.YtcgbgmbnagmohaaDoorEdEq
import Derived.Test.YtcgbgmbnagmohaaDoorEqKeyB
import Derived.Test.YtcgbgmbnagmohaaDoorLy
import Derived.Test.YtcgbgmbnagmohaaDoorLateG
namespace Go.Proofs.YtcgbgmbnagmohaaDoor
open Go.RowKit
set_option maxRecDepth 20000
def rootB (X Y : Int) : Bool := (Y * (qb8 X Y * qb8 X Y % pp) % pp == X % pp) || (Y * (qb8 X Y * qb8 X Y % pp) % pp == -X % pp)
def rootN (X Y : Int) : Int := if Y * (qb8 X Y * qb8 X Y % pp) % pp = X % pp then evn (qb8 X Y) else if Y * (qb8 X Y * qb8 X Y % pp) % pp = -X % pp then evn (qb8 X Y * (2 ^ mp.toNat % pp) % pp) else 0
theorem near_num (X Y : Int) : Num (qb8 X Y) := qa0 _
set_option maxHeartbeats 2000000 in
theorem root_any (X Y : Int) (w : World) (hX : Num X) (hY : Num Y) (hG : GCell 5 pp w) (hR : GCell 7 rp w) (hM : GCell 4 mp w) :
  Calls Tryd.prog 79 #[feV X, feV Y] w fun e w' => e = .returned (.tuple #[feV (rootN X Y), .bool (rootB X Y)]) ∧ Below w.heap.size w w' := by
 have B := Lib.hid (Box2.start w X Y)
 replace hG := hG.below B.out.bl
 have gM : 4 < w.heap.size := hM.lt
 replace hR := hR.below B.out.bl
 replace hM := hM.below B.out.bl
 have hN := near_num X Y
 have ER : Hid (rootN X Y = if Y * (qb8 X Y * qb8 X Y % pp) % pp = X % pp then evn (qb8 X Y) else if Y * (qb8 X Y * qb8 X Y % pp) % pp = -X % pp then evn (qb8 X Y * (2 ^ mp.toNat % pp) % pp) else 0) := Lib.hid rfl
 have EB : Hid (rootB X Y = ((Y * (qb8 X Y * qb8 X Y % pp) % pp == X % pp) || (Y * (qb8 X Y * qb8 X Y % pp) % pp == -X % pp))) := Lib.hid rfl
 go_enter Tryd.func79, Tryd.ntmps79
 go_wp2_with fail
 refine (nearRoot_any X Y _ hX hY hG hR).mono ?_
 rintro e u ⟨rfl, hb⟩
 generalize qb8 X Y = N at *
 replace hG := hG.below hb
 replace hM := hM.below hb
 replace B := Lib.hid (B.out.next hb); obtain ⟨bl, l0, l1, l2, x0, x1, x2, x3, y0, y1, y2, y3, r0, r1, r2, r3, f0, f1, f2, f3⟩ := B.out; clear hb
 go_upto_region 2 with fail
 have hV := Var4.new u N
 have hb1 : Below u.heap.size u (u.alloc (.cells #[.int .u64 (w0 N), .int .u64 (w1 N), .int .u64 (w2 N), .int .u64 (w3 N)] 66)) := (Below.refl _ _).alloc (Nat.le_refl _) _
 replace B := Lib.hid (B.out.next hb1)
 replace hG := hG.below hb1
 replace hM := hM.below hb1
 have ng : w.heap.size + 1 + 1 < u.heap.size := l2
 clear bl l0 l1 l2 x0 x1 x2 x3 y0 y1 y2 y3 r0 r1 r2 r3 f0 f1 f2 f3
 clear hb1
 generalize u.alloc (.cells #[.int .u64 (w0 N), .int .u64 (w1 N), .int .u64 (w2 N), .int .u64 (w3 N)] 66) = u0 at *
 generalize u.heap.size = g at *
 have HS : Hid (∀ V, Below u0.heap.size u0 V → Cells4 (w.heap.size + 1) Y V ∧ Cells4 g N V) := Lib.hid fun V hV' => ⟨B.out.ycells.of_below B.out.l1 hV', Cells4.of_below ⟨hV.c0, hV.c1, hV.c2, hV.c3⟩ hV.lt hV'⟩
 obtain ⟨bl, l0, l1, l2, x0, x1, x2, x3, y0, y1, y2, y3, r0, r1, r2, r3, f0, f1, f2, f3⟩ := B.out
 obtain ⟨vl, v0, v1, v2, v3, vf0, vf1, vf2, vf3⟩ := id hV
 go_cut [7] (fun s7 u => Made u0 (Y * (N * N % pp) % pp) s7 u)
 case first =>
  unfold Cells4 at HS
  go_region_held3 (fun u => (u.cell? ⟨(w.heap.size + 1), 0, none⟩ = some (.int .u64 (w0 Y)) ∧ u.cell? ⟨(w.heap.size + 1), 1, none⟩ = some (.int .u64 (w1 Y)) ∧ u.cell? ⟨(w.heap.size + 1), 2, none⟩ = some (.int .u64 (w2 Y)) ∧ u.cell? ⟨(w.heap.size + 1), 3, none⟩ = some (.int .u64 (w3 Y))) ∧ (u.cell? ⟨g, 0, none⟩ = some (.int .u64 (w0 N)) ∧ u.cell? ⟨g, 1, none⟩ = some (.int .u64 (w1 N)) ∧ u.cell? ⟨g, 2, none⟩ = some (.int .u64 (w2 N)) ∧ u.cell? ⟨g, 3, none⟩ = some (.int .u64 (w3 N)))) (exact HS.out _ (by repeat' (first | exact Below.refl _ _ | assumption | refine Below.setCell ?_ ?_ _ | refine Below.alloc ?_ ?_ _ | refine Below.drew ?_ | refine Below.trans ?_ (Below.mono (by assumption) ?_) | (simp; done) | (simp; omega))))
   (first | ((go_at_call_of 82 (N * N % pp)); (go_at_call 82; refine (qby Y (N * N % pp) _ hY (qa0 _) (hG.below (by repeat' (first | exact Below.refl _ _ | assumption | refine Below.setCell ?_ ?_ _ | refine Below.alloc ?_ ?_ _ | refine Below.drew ?_ | refine Below.trans ?_ (Below.mono (by assumption) ?_) | (simp; done) | (simp; omega))))).mono ?_; rintro e u2 ⟨rfl, hu2⟩; have bu2 : Below u0.heap.size u0 u2 := (by repeat' (first | exact Below.refl _ _ | assumption | refine Below.setCell ?_ ?_ _ | refine Below.alloc ?_ ?_ _ | refine Below.drew ?_ | refine Below.trans ?_ (Below.mono (by assumption) ?_) | (simp; done) | (simp; omega))); have su2 : u0.heap.size ≤ u2.heap.size := Below.size bu2; obtain ⟨cu2, fu2⟩ := bcell hu2; have tu2 := Below.size hu2; (try simp at tu2); (try rw [Nat.add_one_le_iff] at tu2))) | (go_at_call 82; refine (qby N N _ hN hN (hG.below (by repeat' (first | exact Below.refl _ _ | assumption | refine Below.setCell ?_ ?_ _ | refine Below.alloc ?_ ?_ _ | refine Below.drew ?_ | refine Below.trans ?_ (Below.mono (by assumption) ?_) | (simp; done) | (simp; omega))))).mono ?_; rintro e u1 ⟨rfl, hu1⟩; have bu1 : Below u0.heap.size u0 u1 := (by repeat' (first | exact Below.refl _ _ | assumption | refine Below.setCell ?_ ?_ _ | refine Below.alloc ?_ ?_ _ | refine Below.drew ?_ | refine Below.trans ?_ (Below.mono (by assumption) ?_) | (simp; done) | (simp; omega))); have su1 : u0.heap.size ≤ u1.heap.size := Below.size bu1; obtain ⟨cu1, fu1⟩ := bcell hu1; have tu1 := Below.size hu1; (try simp at tu1); (try rw [Nat.add_one_le_iff] at tu1)))
  all_goals (go_wp2_with fail; go_meet; first | ((with_reducible refine made_new ?_); repeat' (first | exact Below.refl _ _ | assumption | refine Below.setCell ?_ ?_ _ | refine Below.alloc ?_ ?_ _ | refine Below.drew ?_ | refine Below.trans ?_ (Below.mono (by assumption) ?_) | (simp; done) | (simp; omega)); done) | ((with_reducible refine made_old ?_ ?_ ?_ ?_ ?_ ?_ ?_) <;> (first | exact Nat.le_refl _ | assumption | omega | (first | (rw [cu2 _ _ (by simp; done)]; simp [go_sem]; done) | (rw [cu2 _ _ tu1, cu1 _ _ (by simp; done)]; simp [go_sem]; done)) | (repeat' (first | exact Below.refl _ _ | assumption | refine Below.setCell ?_ ?_ _ | refine Below.alloc ?_ ?_ _ | refine Below.drew ?_ | refine Below.trans ?_ (Below.mono (by assumption) ?_) | (simp; done) | (simp; omega)); done))))
 case rest =>
  obtain ⟨q, rfl, hq1, hq2, hb, hd⟩ := hcut
  have nq : w.heap.size + 1 + 1 < q := by omega
  clear bl l0 l1 l2 x0 x1 x2 x3 y0 y1 y2 y3 r0 r1 r2 r3 f0 f1 f2 f3
  clear vl v0 v1 v2 v3 vf0 vf1 vf2 vf3
  clear HS
  replace hG := hG.below hb
  replace hM := hM.below hb
  replace B := Lib.hid (B.out.next hb)
  replace hV := hV.below hb
  clear hb hq1
  have hZ := qa0 (Y * (N * N % pp))
  generalize Y * (N * N % pp) % pp = M at *
  clear u0
  generalize wc = u0 at *
  go_upto_region 3 with fail
  have HS : Hid (∀ V, Below u0.heap.size u0 V → Cells4 w.heap.size X V ∧ Cells4 q M V) := Lib.hid fun V hV' => ⟨B.out.xcells.of_below B.out.l0 hV', hd.of_below hq2 hV'⟩
  unfold Cells4 at HS
  obtain ⟨bl, l0, l1, l2, x0, x1, x2, x3, y0, y1, y2, y3, r0, r1, r2, r3, f0, f1, f2, f3⟩ := B.out
  obtain ⟨vl, v0, v1, v2, v3, vf0, vf1, vf2, vf3⟩ := id hV
  obtain ⟨d0, d1, d2, d3⟩ := id hd
  have hXp := qa0 X
  by_cases hm : M = X % pp
  ·have hE := eqFe_true hZ hm
   have HM := Lib.hid hm; clear hm
   go_region_held3 (fun u => (u.cell? ⟨w.heap.size, 0, none⟩ = some (.int .u64 (w0 X)) ∧ u.cell? ⟨w.heap.size, 1, none⟩ = some (.int .u64 (w1 X)) ∧ u.cell? ⟨w.heap.size, 2, none⟩ = some (.int .u64 (w2 X)) ∧ u.cell? ⟨w.heap.size, 3, none⟩ = some (.int .u64 (w3 X))) ∧ (u.cell? ⟨q, 0, none⟩ = some (.int .u64 (w0 M)) ∧ u.cell? ⟨q, 1, none⟩ = some (.int .u64 (w1 M)) ∧ u.cell? ⟨q, 2, none⟩ = some (.int .u64 (w2 M)) ∧ u.cell? ⟨q, 3, none⟩ = some (.int .u64 (w3 M)))) (exact HS.out _ (by repeat' (first | exact Below.refl _ _ | assumption | refine Below.setCell ?_ ?_ _ | refine Below.alloc ?_ ?_ _ | refine Below.drew ?_ | refine Below.trans ?_ (Below.mono (by assumption) ?_) | (simp; done) | (simp; omega))))
    (first | ((go_at_call 72; refine (canon_any X _ hX (hG.below (by repeat' (first | exact Below.refl _ _ | assumption | refine Below.setCell ?_ ?_ _ | refine Below.alloc ?_ ?_ _ | refine Below.drew ?_ | refine Below.trans ?_ (Below.mono (by assumption) ?_) | (simp; done) | (simp; omega))))).mono ?_; rintro e u1 ⟨rfl, hu1⟩; have bu1 : Below u0.heap.size u0 u1 := (by repeat' (first | exact Below.refl _ _ | assumption | refine Below.setCell ?_ ?_ _ | refine Below.alloc ?_ ?_ _ | refine Below.drew ?_ | refine Below.trans ?_ (Below.mono (by assumption) ?_) | (simp; done) | (simp; omega))); have su1 : u0.heap.size ≤ u1.heap.size := Below.size bu1; obtain ⟨cu1, fu1⟩ := bcell hu1; have tu1 := Below.size hu1; (try simp at tu1); (try rw [Nat.add_one_le_iff] at tu1)); obtain ⟨bl, l0, l1, l2, x0, x1, x2, x3, y0, y1, y2, y3, r0, r1, r2, r3, f0, f1, f2, f3⟩ := B.out.next bu1))
   have hV1 := hV.below bu1
   have hG1 := hG.below bu1
   clear vl v0 v1 v2 v3 vf0 vf1 vf2 vf3
   obtain ⟨vl, v0, v1, v2, v3, vf0, vf1, vf2, vf3⟩ := hV1
   go_wp2_with fail
   refine (even_any N _ hN hG1).mono ?_
   rintro e u2 ⟨rfl, hb⟩
   replace B := Lib.hid ((B.out.next bu1).next hb)
   clear bl l0 l1 l2 x0 x1 x2 x3 y0 y1 y2 y3 r0 r1 r2 r3 f0 f1 f2 f3
   obtain ⟨bl, l0, l1, l2, x0, x1, x2, x3, y0, y1, y2, y3, r0, r1, r2, r3, f0, f1, f2, f3⟩ := B.out
   go_wp2_with fail
   refine bodyPost_ret (v := .tuple #[feV (evn N), .bool true]) (by simp [results, Tryd.results79, go_sem, r0, r1, r2, r3]) rfl ⟨by rw [ER.out, EB.out, if_pos HM.out, HM.out]; simp, ?_⟩
   repeat' (first | exact Below.refl _ _ | assumption | refine Below.setCell ?_ ?_ _ | refine Below.alloc ?_ ?_ _ | refine Below.drew ?_ | refine Below.trans ?_ (Below.mono (by assumption) ?_) | (simp; done) | (simp; omega))
  ·have hE := eqFe_false hZ hXp hm
   have HM := Lib.hid hm; clear hm
   go_region_held3 (fun u => (u.cell? ⟨w.heap.size, 0, none⟩ = some (.int .u64 (w0 X)) ∧ u.cell? ⟨w.heap.size, 1, none⟩ = some (.int .u64 (w1 X)) ∧ u.cell? ⟨w.heap.size, 2, none⟩ = some (.int .u64 (w2 X)) ∧ u.cell? ⟨w.heap.size, 3, none⟩ = some (.int .u64 (w3 X))) ∧ (u.cell? ⟨q, 0, none⟩ = some (.int .u64 (w0 M)) ∧ u.cell? ⟨q, 1, none⟩ = some (.int .u64 (w1 M)) ∧ u.cell? ⟨q, 2, none⟩ = some (.int .u64 (w2 M)) ∧ u.cell? ⟨q, 3, none⟩ = some (.int .u64 (w3 M)))) (exact HS.out _ (by repeat' (first | exact Below.refl _ _ | assumption | refine Below.setCell ?_ ?_ _ | refine Below.alloc ?_ ?_ _ | refine Below.drew ?_ | refine Below.trans ?_ (Below.mono (by assumption) ?_) | (simp; done) | (simp; omega))))
    (first | ((go_at_call 72; refine (canon_any X _ hX (hG.below (by repeat' (first | exact Below.refl _ _ | assumption | refine Below.setCell ?_ ?_ _ | refine Below.alloc ?_ ?_ _ | refine Below.drew ?_ | refine Below.trans ?_ (Below.mono (by assumption) ?_) | (simp; done) | (simp; omega))))).mono ?_; rintro e u1 ⟨rfl, hu1⟩; have bu1 : Below u0.heap.size u0 u1 := (by repeat' (first | exact Below.refl _ _ | assumption | refine Below.setCell ?_ ?_ _ | refine Below.alloc ?_ ?_ _ | refine Below.drew ?_ | refine Below.trans ?_ (Below.mono (by assumption) ?_) | (simp; done) | (simp; omega))); have su1 : u0.heap.size ≤ u1.heap.size := Below.size bu1; obtain ⟨cu1, fu1⟩ := bcell hu1; have tu1 := Below.size hu1; (try simp at tu1); (try rw [Nat.add_one_le_iff] at tu1)); obtain ⟨bl, l0, l1, l2, x0, x1, x2, x3, y0, y1, y2, y3, r0, r1, r2, r3, f0, f1, f2, f3⟩ := B.out.next bu1))
   go_upto_region 5 with fail
   replace B := Lib.hid (B.out.next bu1)
   replace hV := hV.below bu1
   replace hG := hG.below bu1
   replace hM := hM.below bu1
   replace hd := hd.of_below hq2 bu1
   replace hq2 := Nat.lt_of_lt_of_le hq2 bu1.size
   clear vl v0 v1 v2 v3 vf0 vf1 vf2 vf3
   clear HS hE hu1 cu1 fu1 tu1 su1 bu1 d0 d1 d2 d3
   clear bl l0 l1 l2 x0 x1 x2 x3 y0 y1 y2 y3 r0 r1 r2 r3 f0 f1 f2 f3
   clear bl l0 l1 l2 x0 x1 x2 x3 y0 y1 y2 y3 r0 r1 r2 r3 f0 f1 f2 f3 u0
   obtain ⟨u0, hu0⟩ : ∃ u', u' = u1 := ⟨_, rfl⟩
   subst hu0
   have HS : Hid (∀ V, Below u0.heap.size u0 V → Cells4 w.heap.size X V ∧ Cells4 q M V) := Lib.hid fun V hV' => ⟨B.out.xcells.of_below B.out.l0 hV', hd.of_below hq2 hV'⟩
   unfold Cells4 at HS
   obtain ⟨bl, l0, l1, l2, x0, x1, x2, x3, y0, y1, y2, y3, r0, r1, r2, r3, f0, f1, f2, f3⟩ := B.out
   obtain ⟨d0, d1, d2, d3⟩ := id hd
   have hXn := qa0 (-X)
   by_cases hm : M = -X % pp
   ·have hE := eqFe_true hZ hm
    have HN := Lib.hid hm; clear hm
    go_region_held3 (fun u => (u.cell? ⟨w.heap.size, 0, none⟩ = some (.int .u64 (w0 X)) ∧ u.cell? ⟨w.heap.size, 1, none⟩ = some (.int .u64 (w1 X)) ∧ u.cell? ⟨w.heap.size, 2, none⟩ = some (.int .u64 (w2 X)) ∧ u.cell? ⟨w.heap.size, 3, none⟩ = some (.int .u64 (w3 X))) ∧ (u.cell? ⟨q, 0, none⟩ = some (.int .u64 (w0 M)) ∧ u.cell? ⟨q, 1, none⟩ = some (.int .u64 (w1 M)) ∧ u.cell? ⟨q, 2, none⟩ = some (.int .u64 (w2 M)) ∧ u.cell? ⟨q, 3, none⟩ = some (.int .u64 (w3 M)))) (exact HS.out _ (by repeat' (first | exact Below.refl _ _ | assumption | refine Below.setCell ?_ ?_ _ | refine Below.alloc ?_ ?_ _ | refine Below.drew ?_ | refine Below.trans ?_ (Below.mono (by assumption) ?_) | (simp; done) | (simp; omega))))
     (first | ((go_at_call 83; refine (neg_any X _ hX (hG.below (by repeat' (first | exact Below.refl _ _ | assumption | refine Below.setCell ?_ ?_ _ | refine Below.alloc ?_ ?_ _ | refine Below.drew ?_ | refine Below.trans ?_ (Below.mono (by assumption) ?_) | (simp; done) | (simp; omega))))).mono ?_; rintro e u1 ⟨rfl, hu1⟩; have bu1 : Below u0.heap.size u0 u1 := (by repeat' (first | exact Below.refl _ _ | assumption | refine Below.setCell ?_ ?_ _ | refine Below.alloc ?_ ?_ _ | refine Below.drew ?_ | refine Below.trans ?_ (Below.mono (by assumption) ?_) | (simp; done) | (simp; omega))); have su1 : u0.heap.size ≤ u1.heap.size := Below.size bu1; obtain ⟨cu1, fu1⟩ := bcell hu1; have tu1 := Below.size hu1; (try simp at tu1); (try rw [Nat.add_one_le_iff] at tu1)); obtain ⟨bl, l0, l1, l2, x0, x1, x2, x3, y0, y1, y2, y3, r0, r1, r2, r3, f0, f1, f2, f3⟩ := B.out.next bu1))
    go_upto_region 6 with fail
    replace B := Lib.hid (B.out.next bu1)
    replace hV := hV.below bu1
    replace hG := hG.below bu1
    replace hM := hM.below bu1
    clear HS hE hu1 cu1 fu1 tu1 su1 bu1 d0 d1 d2 d3 hd hq2
    clear bl l0 l1 l2 x0 x1 x2 x3 y0 y1 y2 y3 r0 r1 r2 r3 f0 f1 f2 f3
    clear bl l0 l1 l2 x0 x1 x2 x3 y0 y1 y2 y3 r0 r1 r2 r3 f0 f1 f2 f3
    clear u0
    obtain ⟨u0, hu0⟩ : ∃ u', u' = u1 := ⟨_, rfl⟩
    subst hu0
    have HS : Hid (∀ V, Below u0.heap.size u0 V → Cells4 g N V ∧ Cells4 4 mp V) := Lib.hid fun V hV' => ⟨Cells4.of_below ⟨hV.c0, hV.c1, hV.c2, hV.c3⟩ hV.lt hV', hM.cells.of_below hM.lt hV'⟩
    have HF : Hid (∀ V v0 v1 v2 v3, (Cells4 g N V ∧ Cells4 4 mp V) → (fun V => Cells4 g N V ∧ Cells4 4 mp V) ((((V.setCell ⟨w.heap.size + 1 + 1, 0, none⟩ v0).setCell ⟨w.heap.size + 1 + 1, 1, none⟩ v1).setCell ⟨w.heap.size + 1 + 1, 2, none⟩ v2).setCell ⟨w.heap.size + 1 + 1, 3, none⟩ v3)) := Lib.hid fun V v0 v1 v2 v3 h => ⟨h.1.far (by omega) v0 v1 v2 v3, h.2.far (by omega) v0 v1 v2 v3⟩
    unfold Cells4 at HS HF
    obtain ⟨bl, l0, l1, l2, x0, x1, x2, x3, y0, y1, y2, y3, r0, r1, r2, r3, f0, f1, f2, f3⟩ := B.out
    obtain ⟨vl, v0, v1, v2, v3, vf0, vf1, vf2, vf3⟩ := id hV
    obtain ⟨e0, e1, e2, e3, e4⟩ := id hM
    go_region_held3 (fun u => (u.cell? ⟨g, 0, none⟩ = some (.int .u64 (w0 N)) ∧ u.cell? ⟨g, 1, none⟩ = some (.int .u64 (w1 N)) ∧ u.cell? ⟨g, 2, none⟩ = some (.int .u64 (w2 N)) ∧ u.cell? ⟨g, 3, none⟩ = some (.int .u64 (w3 N))) ∧ (u.cell? ⟨4, 0, none⟩ = some (.int .u64 (w0 mp)) ∧ u.cell? ⟨4, 1, none⟩ = some (.int .u64 (w1 mp)) ∧ u.cell? ⟨4, 2, none⟩ = some (.int .u64 (w2 mp)) ∧ u.cell? ⟨4, 3, none⟩ = some (.int .u64 (w3 mp)))) (first | ((with_reducible refine HF.out _ _ _ _ _ ?_); exact HS.out _ (by repeat' (first | exact Below.refl _ _ | assumption | refine Below.setCell ?_ ?_ _ | refine Below.alloc ?_ ?_ _ | refine Below.drew ?_ | refine Below.trans ?_ (Below.mono (by assumption) ?_) | (simp; done) | (simp; omega)))) | (exact HS.out _ (by repeat' (first | exact Below.refl _ _ | assumption | refine Below.setCell ?_ ?_ _ | refine Below.alloc ?_ ?_ _ | refine Below.drew ?_ | refine Below.trans ?_ (Below.mono (by assumption) ?_) | (simp; done) | (simp; omega)))))
     (first | ((go_at_call 77; refine (small_any 2 _ (by omega) (by omega)).mono ?_; rintro e u1 ⟨rfl, hu1⟩; have bu1 : Below u0.heap.size u0 u1 := (by repeat' (first | exact Below.refl _ _ | assumption | refine Below.setCell ?_ ?_ _ | refine Below.alloc ?_ ?_ _ | refine Below.drew ?_ | refine Below.trans ?_ (Below.mono (by assumption) ?_) | (simp; done) | (simp; omega))); have su1 : u0.heap.size ≤ u1.heap.size := Below.size bu1; obtain ⟨cu1, fu1⟩ := bcell hu1; have tu1 := Below.size hu1; (try simp at tu1); (try rw [Nat.add_one_le_iff] at tu1)); obtain ⟨bl, l0, l1, l2, x0, x1, x2, x3, y0, y1, y2, y3, r0, r1, r2, r3, f0, f1, f2, f3⟩ := B.out.next bu1) | ((go_at_call 91; refine (pow_any 2 mp _ (by unfold Num; omega) num_mp (hG.below (by repeat' (first | exact Below.refl _ _ | assumption | refine Below.setCell ?_ ?_ _ | refine Below.alloc ?_ ?_ _ | refine Below.drew ?_ | refine Below.trans ?_ (Below.mono (by assumption) ?_) | (simp; done) | (simp; omega))))).mono ?_; rintro e u2 ⟨rfl, hu2⟩; have bu2 : Below u0.heap.size u0 u2 := (by repeat' (first | exact Below.refl _ _ | assumption | refine Below.setCell ?_ ?_ _ | refine Below.alloc ?_ ?_ _ | refine Below.drew ?_ | refine Below.trans ?_ (Below.mono (by assumption) ?_) | (simp; done) | (simp; omega))); have su2 : u0.heap.size ≤ u2.heap.size := Below.size bu2; obtain ⟨cu2, fu2⟩ := bcell hu2; have tu2 := Below.size hu2; (try simp at tu2); (try rw [Nat.add_one_le_iff] at tu2)); obtain ⟨bl, l0, l1, l2, x0, x1, x2, x3, y0, y1, y2, y3, r0, r1, r2, r3, f0, f1, f2, f3⟩ := B.out.next bu2) | ((go_at_call 82; refine (qby N (2 ^ mp.toNat % pp) _ hN (qa0 _) (hG.below (by repeat' (first | exact Below.refl _ _ | assumption | refine Below.setCell ?_ ?_ _ | refine Below.alloc ?_ ?_ _ | refine Below.drew ?_ | refine Below.trans ?_ (Below.mono (by assumption) ?_) | (simp; done) | (simp; omega))))).mono ?_; rintro e u3 ⟨rfl, hu3⟩; have bu3 : Below u0.heap.size u0 u3 := (by repeat' (first | exact Below.refl _ _ | assumption | refine Below.setCell ?_ ?_ _ | refine Below.alloc ?_ ?_ _ | refine Below.drew ?_ | refine Below.trans ?_ (Below.mono (by assumption) ?_) | (simp; done) | (simp; omega))); have su3 : u0.heap.size ≤ u3.heap.size := Below.size bu3; obtain ⟨cu3, fu3⟩ := bcell hu3; have tu3 := Below.size hu3; (try simp at tu3); (try rw [Nat.add_one_le_iff] at tu3)); obtain ⟨bl, l0, l1, l2, x0, x1, x2, x3, y0, y1, y2, y3, r0, r1, r2, r3, f0, f1, f2, f3⟩ := B.out.next bu3) | ((go_at_call 90; refine (even_any (N * (2 ^ mp.toNat % pp) % pp) _ (qa0 _) (hG.below (by repeat' (first | exact Below.refl _ _ | assumption | refine Below.setCell ?_ ?_ _ | refine Below.alloc ?_ ?_ _ | refine Below.drew ?_ | refine Below.trans ?_ (Below.mono (by assumption) ?_) | (simp; done) | (simp; omega))))).mono ?_; rintro e u4 ⟨rfl, hu4⟩; have bu4 : Below u0.heap.size u0 u4 := (by repeat' (first | exact Below.refl _ _ | assumption | refine Below.setCell ?_ ?_ _ | refine Below.alloc ?_ ?_ _ | refine Below.drew ?_ | refine Below.trans ?_ (Below.mono (by assumption) ?_) | (simp; done) | (simp; omega))); have su4 : u0.heap.size ≤ u4.heap.size := Below.size bu4; obtain ⟨cu4, fu4⟩ := bcell hu4; have tu4 := Below.size hu4; (try simp at tu4); (try rw [Nat.add_one_le_iff] at tu4)); obtain ⟨bl, l0, l1, l2, x0, x1, x2, x3, y0, y1, y2, y3, r0, r1, r2, r3, f0, f1, f2, f3⟩ := B.out.next bu4))
    go_wp2_with fail
    refine bodyPost_ret (v := .tuple #[feV (evn (N * (2 ^ mp.toNat % pp) % pp)), .bool true]) (by simp [results, Tryd.results79, go_sem, r0, r1, r2, r3]) rfl ⟨by rw [ER.out, EB.out, if_neg HM.out, if_pos HN.out, HN.out]; simp, ?_⟩
    repeat' (first | exact Below.refl _ _ | assumption | refine Below.setCell ?_ ?_ _ | refine Below.alloc ?_ ?_ _ | refine Below.drew ?_ | refine Below.trans ?_ (Below.mono (by assumption) ?_) | (simp; done) | (simp; omega))
   ·have hE := eqFe_false hZ hXn hm
    have HN := Lib.hid hm; clear hm
    go_region_held3 (fun u => (u.cell? ⟨w.heap.size, 0, none⟩ = some (.int .u64 (w0 X)) ∧ u.cell? ⟨w.heap.size, 1, none⟩ = some (.int .u64 (w1 X)) ∧ u.cell? ⟨w.heap.size, 2, none⟩ = some (.int .u64 (w2 X)) ∧ u.cell? ⟨w.heap.size, 3, none⟩ = some (.int .u64 (w3 X))) ∧ (u.cell? ⟨q, 0, none⟩ = some (.int .u64 (w0 M)) ∧ u.cell? ⟨q, 1, none⟩ = some (.int .u64 (w1 M)) ∧ u.cell? ⟨q, 2, none⟩ = some (.int .u64 (w2 M)) ∧ u.cell? ⟨q, 3, none⟩ = some (.int .u64 (w3 M)))) (exact HS.out _ (by repeat' (first | exact Below.refl _ _ | assumption | refine Below.setCell ?_ ?_ _ | refine Below.alloc ?_ ?_ _ | refine Below.drew ?_ | refine Below.trans ?_ (Below.mono (by assumption) ?_) | (simp; done) | (simp; omega))))
     (first | ((go_at_call 83; refine (neg_any X _ hX (hG.below (by repeat' (first | exact Below.refl _ _ | assumption | refine Below.setCell ?_ ?_ _ | refine Below.alloc ?_ ?_ _ | refine Below.drew ?_ | refine Below.trans ?_ (Below.mono (by assumption) ?_) | (simp; done) | (simp; omega))))).mono ?_; rintro e u1 ⟨rfl, hu1⟩; have bu1 : Below u0.heap.size u0 u1 := (by repeat' (first | exact Below.refl _ _ | assumption | refine Below.setCell ?_ ?_ _ | refine Below.alloc ?_ ?_ _ | refine Below.drew ?_ | refine Below.trans ?_ (Below.mono (by assumption) ?_) | (simp; done) | (simp; omega))); have su1 : u0.heap.size ≤ u1.heap.size := Below.size bu1; obtain ⟨cu1, fu1⟩ := bcell hu1; have tu1 := Below.size hu1; (try simp at tu1); (try rw [Nat.add_one_le_iff] at tu1)); obtain ⟨bl, l0, l1, l2, x0, x1, x2, x3, y0, y1, y2, y3, r0, r1, r2, r3, f0, f1, f2, f3⟩ := B.out.next bu1))
    go_wp2_with fail
    refine bodyPost_ret (v := .tuple #[.agg #[.int .u64 0, .int .u64 0, .int .u64 0, .int .u64 0], .bool false]) (by simp [results, Tryd.results79, go_sem, r0, r1, r2, r3]) rfl ⟨by rw [ER.out, EB.out, if_neg HM.out, if_neg HN.out, beq_false_of_ne HM.out, beq_false_of_ne HN.out]; rfl, ?_⟩
    repeat' (first | exact Below.refl _ _ | assumption | refine Below.setCell ?_ ?_ _ | refine Below.alloc ?_ ?_ _ | refine Below.drew ?_ | refine Below.trans ?_ (Below.mono (by assumption) ?_) | (simp; done) | (simp; omega))
end Go.Proofs.YtcgbgmbnagmohaaDoor
namespace Go.Proofs.YtcgbgmbnagmohaaDoor
set_option maxRecDepth 20000
def mpBits : List Bool := ones 250 ++ [false, true, true]
theorem mpBits_num : bn mpBits 0 = mp.toNat := by decide +kernel
theorem two_mp : (2 : Int) ^ mp.toNat % pp = 19681161376707505956807079304988542015446066515923890162744021073123829784752 := by
 rw [pp_nat]
 have h := ipow_eval 2 57896044618658097711785492504343953926634992332820282019728792003956564819949 mp.toNat mpBits mpBits_num
 exact h.trans (by decide +kernel)
end Go.Proofs.YtcgbgmbnagmohaaDoor
namespace Go.Proofs.YtcgbgmbnagmohaaDoor
set_option maxRecDepth 20000
theorem cube_E (V : Int) : E (cubeOf V) (V ^ 3) := by
 unfold cubeOf
 refine (E.rest _).trans (((E.rfl' V).mul (E.rest (V * V))).trans (E.of_eq ?_))
 rw [Int.pow_succ, Int.pow_succ, Int.pow_succ, Int.pow_zero, Int.one_mul, Int.mul_comm]
theorem sev_E (V : Int) : E (sevOf V) (V ^ 7) := by
 unfold sevOf
 refine (E.rest _).trans (((E.rfl' V).mul ((E.rest _).trans ((cube_E V).mul (cube_E V)))).trans (E.of_eq ?_))
 rw [← Int.pow_add, Int.mul_comm, ← Int.pow_succ]
theorem near_E (Z V : Int) : E (qb8 Z V) (Z * V ^ 3 * (Z * V ^ 7) ^ rp.toNat) := by
 unfold qb8
 refine (E.rest _).trans (E.mul ((E.rest _).trans ((E.rfl' Z).mul (cube_E V))) ((E.rest _).trans (E.pow ((E.rest _).trans ((E.rfl' Z).mul (sev_E V))) _)))
theorem half_sign {t : Int} (h : t % pp ≠ 0) : E (t ^ (4 * rp.toNat + 2)) 1 ∨ E (t ^ (4 * rp.toNat + 2)) (-1) := by
 have h1 : t ^ (4 * rp.toNat + 2) * t ^ (4 * rp.toNat + 2) % pp = 1 := by
  rw [← Int.pow_add, show 4 * rp.toNat + 2 + (4 * rp.toNat + 2) = pN - 1 by decide +kernel, fermat_int h]
 generalize t ^ (4 * rp.toNat + 2) = s at *
 have h2 : (s - 1) * (s + 1) % pp = 0 := by
  rw [show (s - 1) * (s + 1) = s * s - 1 by grind]
  unfold pp at *; omega
 rcases no_zero h2 with h3 | h3
 ·left; show s % pp = 1 % pp; unfold pp at *; omega
 ·right; show s % pp = (-1) % pp; unfold pp at *; omega
theorem evn_facts {A : Int} (h0 : 0 ≤ A) (h1 : A < pp) : 0 ≤ evn A ∧ evn A < pp ∧ evn A % 2 = 0 ∧ E (evn A * evn A) (A * A) := by
 unfold evn
 by_cases h : A % 2 = 1
 ·rw [if_pos h]
  have hv : -A % pp = pp - A := by unfold pp at *; omega
  refine ⟨by rw [hv]; omega, by rw [hv]; omega, by rw [hv]; unfold pp at *; omega, ?_⟩
  exact ((E.rest (-A)).mul (E.rest (-A))).trans (E.of_eq (by rw [Int.neg_mul_neg]))
 ·rw [if_neg h]
  exact ⟨h0, h1, by omega, E.rfl' _⟩
theorem imag_E : E ((2 : Int) ^ mp.toNat % pp * ((2 : Int) ^ mp.toNat % pp)) (-1) := by
 show _ % pp = _ % pp
 rw [two_mp]; unfold pp; decide +kernel
end Go.Proofs.YtcgbgmbnagmohaaDoor
namespace Go.Proofs.YtcgbgmbnagmohaaDoor
open Go.RowKit
set_option maxRecDepth 20000
end Go.Proofs.YtcgbgmbnagmohaaDoor
namespace Go.Proofs.YtcgbgmbnagmohaaDoor
open Go.RowKit
set_option maxRecDepth 20000
def toI (l : List (BitVec 8)) : List Int := l.map fun b => (b.toNat : Int)
theorem kV_toI (l : List (BitVec 8)) : kV (toI l) = .agg (l.map b8).toArray := by
 unfold kV toI
 rw [List.map_map]
 rfl
theorem toI_len (l : List (BitVec 8)) : (toI l).length = l.length := List.length_map _
theorem toI_bytes (l : List (BitVec 8)) : Bytes8 (toI l) := fun b hb => by
 unfold toI at hb
 rw [List.mem_map] at hb
 obtain ⟨x, _, rfl⟩ := hb
 have := x.isLt
 omega
theorem le_toI : ∀ l : List (BitVec 8), le (toI l) = (leB l : Int)
 | [] => rfl
 | b :: l => by
  show le ((b.toNat : Int) :: toI l) = _
  rw [le, le_toI l, leB]
  omega
theorem skD_range (n : Nat) : ∀ k, skD n k = (List.range k).map fun i => n / 256 ^ i % 256 := fun k => by
 induction k generalizing n with
 | zero => rfl
 | succ k ih =>
  rw [skD, ih, List.range_succ_eq_map, List.map_cons, List.map_map, Nat.pow_zero, Nat.div_one]
  congr 1
  refine List.map_congr_left fun i _ => ?_
  show n / 256 / 256 ^ i % 256 = n / 256 ^ (i + 1) % 256
  rw [Nat.div_div_eq_div_mul, Nat.pow_succ, Nat.mul_comm 256]
theorem bzAll_sk (n : Nat) : bzAll (n : Int) = toI (sk n) := by
 have e : toI (sk n) = (skD n 32).map fun a : Nat => (a : Int) := by
  rw [← sk_nat n, List.map_map]; rfl
 rw [e, skD_range, List.map_map]
 unfold bzAll
 refine List.map_congr_left fun i _ => ?_
 unfold bz
 simp
theorem nat_mod (X : Int) : (((X % pp).toNat : Nat) : Int) = X % pp := Int.toNat_of_nonneg (qca X).1
theorem bytesB_any (X : Int) (w : World) (hX : Num X) (hG : GCell 5 pp w) : Calls Tryd.prog 57 #[feV X] w fun e w' => e = .returned (.agg ((sk (X % pp).toNat).map b8).toArray) ∧ Below w.heap.size w w' := by
 have h := bytes_any X w hX hG
 rw [← nat_mod, bzAll_sk, kV_toI] at h
 exact h
def mskB (l : List (BitVec 8)) : List (BitVec 8) := l.set 31 (l.getD 31 0 &&& 127)
theorem mskB_len (l : List (BitVec 8)) : (mskB l).length = l.length := List.length_set
theorem and127 : ∀ b : BitVec 8, (b &&& 127).toNat = b.toNat % 128 := by decide +kernel
theorem leB_set {l : List (BitVec 8)} {i : Nat} (h : i < l.length) (b : BitVec 8) : leB (l.set i b) + 256 ^ i * (l.getD i 0).toNat = leB l + 256 ^ i * b.toNat := by
 have := dv_set (l.map (·.toNat)) i b.toNat (by rw [List.length_map]; exact h)
 rw [← List.map_set, ← leB_dv, ← leB_dv] at this
 have e : (l.map (·.toNat)).getD i 0 = (l.getD i 0).toNat := by
  rw [List.getD_eq_getElem?_getD, List.getD_eq_getElem?_getD, List.getElem?_map, List.getElem?_eq_getElem h]; rfl
 rwa [e] at this
theorem leB_top {l : List (BitVec 8)} (h : l.length = 32) : ∃ r, r < 256 ^ 31 ∧ leB l = r + 256 ^ 31 * (l.getD 31 0).toNat := by
 refine ⟨leB (l.set 31 0), ?_, ?_⟩
 ·have h1 := leB_set (l := l) (i := 31) (by omega) 0
  have h2 : dv ((l.set 31 0).map (·.toNat)) = dv (((l.set 31 0).map (·.toNat)).take 31) + 256 ^ 31 * dv (((l.set 31 0).map (·.toNat)).drop 31) := dv_split _ 31 (by rw [List.length_map, List.length_set]; omega)
  have h3 : ((l.set 31 0).map (·.toNat)).drop 31 = [0] := by
   rw [← List.map_drop, List.drop_set, if_neg (by omega)]
   have : (l.drop 31).length = 1 := by rw [List.length_drop]; omega
   match hm : l.drop 31, this with
   | [x], _ => rfl
  rw [leB_dv, h2, h3]
  have h4 := dv_lt _ ((dg_bytes (l.set 31 0)).take 31)
  rw [List.length_take, List.length_map, List.length_set, Nat.min_eq_left (by omega)] at h4
  simpa [dv] using h4
 ·have h1 := leB_set (l := l) (i := 31) (by omega) 0
  rw [show (0 : BitVec 8).toNat = 0 from rfl, Nat.mul_zero, Nat.add_zero] at h1
  exact h1.symm
theorem msk_num {l : List (BitVec 8)} (h : l.length = 32) : leB (mskB l) = leB l % 2 ^ 255 := by
 obtain ⟨r, hr, e⟩ := leB_top h
 have h1 := leB_set (l := l) (i := 31) (by omega) (l.getD 31 0 &&& 127)
 rw [and127] at h1
 unfold mskB
 have hp : (2 : Nat) ^ 255 = 256 ^ 31 * 128 := by decide +kernel
 rw [e] at h1 ⊢
 rw [hp]
 generalize (l.getD 31 0).toNat = t at *
 generalize leB (l.set 31 (l.getD 31 0 &&& 127)) = D at *
 generalize (256 : Nat) ^ 31 = P at *
 have e2 : P * (128 * (t / 128) + t % 128) = P * t := by rw [Nat.div_add_mod]
 rw [Nat.mul_add, ← Nat.mul_assoc] at e2
 have hD : D = r + P * (t % 128) := by omega
 have h5 : P * (t % 128 + 1) ≤ P * 128 := Nat.mul_le_mul_left _ (Nat.mod_lt _ (by omega))
 rw [Nat.mul_add, Nat.mul_one] at h5
 have e6 : r + P * t = r + P * (t % 128) + P * 128 * (t / 128) := by omega
 rw [e6, Nat.add_mul_mod_self_left, Nat.mod_eq_of_lt (by omega)]
 exact hD
theorem mask_toI {l : List (BitVec 8)} (h : l.length = 32) : mask (toI l) = toI (mskB l) := by
 unfold mask mskB toI nth
 rw [List.map_set]
 congr 1
 rw [and127, List.getElem?_map, List.getElem?_eq_getElem (by omega), List.getD_eq_getElem?_getD, List.getElem?_eq_getElem (by omega)]
 simp
theorem ofB_any (l : List (BitVec 8)) (w : World) (hl : l.length = 32) (hG : GCell 5 pp w) : Calls Tryd.prog 55 #[.agg (l.map b8).toArray] w fun e w' => e = .returned (feV (((leB l % 2 ^ 255 : Nat) : Int) % pp)) ∧ Below w.heap.size w w' := by
 have h := of_any (toI l) w (by rw [toI_len, hl]) (toI_bytes l) hG
 rw [kV_toI, mask_toI hl, le_toI, msk_num hl] at h
 exact h
theorem near_v {u v x : Int} (h : E (v * (x * x)) u) : E (v * (qb8 u v * qb8 u v)) (u * (x * v ^ 4) ^ (4 * rp.toNat + 2)) := by
 have hN : E (qb8 u v) (v * (x * x) * v ^ 3 * (v * (x * x) * v ^ 7) ^ rp.toNat) :=
  (near_E u v).trans (E.mul (E.mul h.symm (E.rfl' _)) (E.pow (E.mul h.symm (E.rfl' _)) _))
 have e1 : v * (x * x) * v ^ 7 = (x * v ^ 4) ^ 2 := by grind
 rw [e1, ← Int.pow_mul] at hN
 refine ((E.rfl' v).mul (hN.mul hN)).trans (E.trans (E.of_eq ?_) (h.mul (E.rfl' _)))
 have e2 : 4 * rp.toNat + 2 = 2 * rp.toNat + 2 * rp.toNat + 2 := by omega
 rw [e2, Int.pow_add, Int.pow_add]
 generalize (x * v ^ 4) ^ (2 * rp.toNat) = s
 grind
theorem root_v {u v x : Int} (hv : ¬ Zr v) (h : E (v * (x * x)) u) : rootB u v = true ∧ (0 ≤ rootN u v ∧ rootN u v < pp) ∧ rootN u v % 2 = 0 ∧ E (rootN u v * rootN u v) (x * x) := by
 have hm := near_v h
 have hn : 0 ≤ qb8 u v ∧ qb8 u v < pp := by unfold qb8; exact qca _
 have key : E (v * (qb8 u v * qb8 u v)) u ∨ E (v * (qb8 u v * qb8 u v)) (-u) := by
  by_cases hx : Zr x
  ·left
   have h0 : Zr u := E.zr h.symm ((hx.mulr x).mulr v)
   have h1 : Zr (u * (x * v ^ 4) ^ (4 * rp.toNat + 2)) := by rw [Int.mul_comm]; exact h0.mulr _
   exact Eq.trans (E.zr hm h1) h0.symm
  ·have ht : (x * v ^ 4) % pp ≠ 0 := fun h0 => by
    rcases no_zero h0 with h1 | h1
    ·exact hx h1
    ·exact hv (pow_zero_of 4 h1)
   rcases half_sign ht with hs | hs
   ·left; exact hm.trans (((E.rfl' u).mul hs).trans (E.of_eq (Int.mul_one _)))
   ·right; exact hm.trans (((E.rfl' u).mul hs).trans (E.of_eq (by rw [Int.mul_neg, Int.mul_one])))
 have canc : ∀ r : Int, E (v * (r * r)) (v * (x * x)) → E (r * r) (x * x) := fun r hr => by
  have h1 := Zr.of_E hr
  rw [show v * (r * r) - v * (x * x) = v * (r * r - x * x) by grind] at h1
  exact Zr.to_E (h1.or.resolve_left hv)
 unfold rootB rootN
 generalize qb8 u v = N at *
 have eM : v * (N * N % pp) % pp = v * (N * N) % pp := mulmodr _ _
 rw [eM]
 by_cases h1 : v * (N * N) % pp = u % pp
 ·rw [if_pos h1, beq_iff_eq.2 h1, Bool.true_or]
  obtain ⟨g0, g1, g2, g3⟩ := evn_facts hn.1 hn.2
  refine ⟨rfl, ⟨g0, g1⟩, g2, canc _ ?_⟩
  exact (((E.rfl' v).mul g3).trans h1).trans h.symm
 ·have h2 : v * (N * N) % pp = -u % pp := key.resolve_left h1
  rw [if_neg h1, if_pos h2, beq_iff_eq.2 h2, Bool.or_true]
  have hi := qca (N * (2 ^ mp.toNat % pp))
  obtain ⟨g0, g1, g2, g3⟩ := evn_facts hi.1 hi.2
  refine ⟨rfl, ⟨g0, g1⟩, g2, canc _ ?_⟩
  have k1 : E (evn (N * (2 ^ mp.toNat % pp) % pp) * evn (N * (2 ^ mp.toNat % pp) % pp)) (N * N * -1) := by
   refine g3.trans (((E.rest _).mul (E.rest _)).trans ((E.of_eq ?_).trans ((E.rfl' (N * N)).mul imag_E)))
   generalize (2 : Int) ^ mp.toNat % pp = i
   grind
  refine ((E.rfl' v).mul k1).trans ((E.of_eq (show v * (N * N * -1) = -(v * (N * N)) by grind)).trans ?_)
  have k2 : E (v * (N * N)) (-u) := h2
  exact (k2.neg.trans (E.of_eq (Int.neg_neg _))).trans h.symm
theorem sq_eq {a b : Int} (ha : 0 ≤ a ∧ a < pp) (hb : 0 ≤ b ∧ b < pp) (h : E (a * a) (b * b)) : a = b ∨ a + b = pp ∨ (a = 0 ∧ b = 0) := by
 have h1 := Zr.of_E h
 rw [show a * a - b * b = (a - b) * (a + b) by grind] at h1
 rcases h1.or with h2 | h2
 ·left; exact eq_of_E ha hb (Zr.to_E h2)
 ·have h3 : (a + b) % pp = 0 := h2
  have h4 := ha.1; have h5 := ha.2; have h6 := hb.1; have h7 := hb.2
  unfold pp at *
  omega
end Go.Proofs.YtcgbgmbnagmohaaDoor
namespace Go.Proofs.YtcgbgmbnagmohaaDoor
open Go.RowKit
set_option maxRecDepth 20000
def encN (p : Pt) : Nat := (p.y % pp).toNat + 2 ^ 255 * ((p.x % pp) % 2).toNat
theorem or_top : ∀ b : BitVec 8, b.toNat < 128 → ∀ c : BitVec 8, c.toNat < 2 → (b ||| (c <<< 7)).toNat = b.toNat + 128 * c.toNat := by decide +kernel
theorem y_top (X : Int) : (X % pp).toNat < 2 ^ 255 := by
 have h := qca X
 have e : (2 : Nat) ^ 255 = 57896044618658097711785492504343953926634992332820282019728792003956564819968 := by decide +kernel
 rw [e]
 unfold pp at *
 omega
theorem top_lt {n : Nat} (h : n < 2 ^ 255) : ((sk n).getD 31 0).toNat < 128 := by
 obtain ⟨r, hr, e⟩ := leB_top (sk_len n)
 have h2 : (2 : Nat) ^ 255 = 256 ^ 31 * 128 := by decide +kernel
 have h3 : (2 : Nat) ^ 255 < 256 ^ 32 := by decide +kernel
 rw [leB_sk, Nat.mod_eq_of_lt (by omega)] at e
 rcases Nat.lt_or_ge ((sk n).getD 31 0).toNat 128 with h4 | h4
 ·exact h4
 ·have h5 : 256 ^ 31 * 128 ≤ 256 ^ 31 * ((sk n).getD 31 0).toNat := Nat.mul_le_mul_left _ h4
  omega
def encS (n : Nat) (c : BitVec 8) : List (BitVec 8) := (sk n).set 31 ((sk n).getD 31 0 ||| (c <<< 7))
theorem encS_sk {n : Nat} (h : n < 2 ^ 255) {c : BitVec 8} (hc : c.toNat < 2) : encS n c = sk (n + 2 ^ 255 * c.toNat) := by
 have h1 := leB_set (l := sk n) (i := 31) (by rw [sk_len]; omega) ((sk n).getD 31 0 ||| (c <<< 7))
 rw [or_top _ (top_lt h) c hc, leB_sk] at h1
 have h2 : (2 : Nat) ^ 255 = 256 ^ 31 * 128 := by decide +kernel
 have h3 : (2 : Nat) ^ 255 + 2 ^ 255 ≤ 256 ^ 32 := by decide +kernel
 have h4 : 2 ^ 255 * c.toNat ≤ 2 ^ 255 * 1 := Nat.mul_le_mul_left _ (by omega)
 refine leB_inj (by unfold encS; rw [List.length_set, sk_len, sk_len]) ?_
 rw [leB_sk, Nat.mod_eq_of_lt (by omega)]
 unfold encS
 rw [Nat.mod_eq_of_lt (by omega), Nat.mul_add] at h1
 rw [h2, Nat.mul_assoc]
 omega
theorem bit_lt (X : Int) : (X % pp % 2).toNat < 2 := by omega
theorem encS_enc (p : Pt) : encS (p.y % pp).toNat (BitVec.ofNat 8 (p.x % pp % 2).toNat) = sk (encN p) := by
 have e : (BitVec.ofNat 8 (p.x % pp % 2).toNat).toNat = (p.x % pp % 2).toNat := by
  rw [BitVec.toNat_ofNat]; have := bit_lt p.x; omega
 rw [encS_sk (y_top p.y) (by rw [e]; exact bit_lt p.x), e]
 rfl
section
variable {w : World} {ρ : Operand → Value} {o : Oper} {t t' : TypeId} {x y : Operand}
theorem run_and1 {Z : Int} (ho : o.op = .binOp .and t x y t') (hx : ρ x = .int .u64 (w0 Z)) (hy : ρ y = .int .u64 1) : (execOp ρ o).run Tryd.prog w = .ok (.value (.int .u64 (Z % 2))) w := by
 obtain ⟨dst, op, type, pos, after, guard⟩ := o
 subst ho
 have e := odd_eq Z
 go_simp
theorem run_cvbit {Z : Int} (ho : o.op = .convert 64 5 x) (hx : ρ x = .int .u64 (Z % 2)) : (execOp ρ o).run Tryd.prog w = .ok (.value (b8 (BitVec.ofNat 8 (Z % 2).toNat))) w := by
 rw [run_cv ho Tryd.underlying64 Tryd.underlying5 hx]
 have e : IntKind.u8.wrap (Z % 2) = ((BitVec.ofNat 8 (Z % 2).toNat).toNat : Int) := by rw [wrap8, BitVec.toNat_ofNat]; omega
 rw [e]; rfl
theorem run_shl8q {k : IntKind} {a : BitVec 8} {n : Nat} (ho : o.op = .binOp .shl t x y t') (hx : ρ x = b8 a) (hy : ρ y = .int k (n : Int)) (hn : n ≤ 8) : (execOp ρ o).run Tryd.prog w = .ok (.value (b8 (a <<< n))) w := by
 obtain ⟨dst, op, type, pos, after, guard⟩ := o
 subst ho
 unfold b8 at *
 have e : IntKind.u8.wrap ((a.toNat : Int) * 2 ^ n) = (((a <<< n).toNat : Nat) : Int) := by
  rw [wrap8, BitVec.toNat_shiftLeft, Nat.shiftLeft_eq]; simp
 generalize (a <<< n).toNat = z at *
 have hn0 : (0 : Int) ≤ (n : Int) := by omega
 go_simp
 try exact e
end
theorem szKyB {l : List (BitVec 8)} (h : l.length = 32) : (Tryd.prog.info? 24).map (·.size) = some (l.map b8).length := by rw [List.length_map, h]; kernel_rfl
theorem one8B (l : List (BitVec 8)) : (l.map b8).toArray.all (·.oneCell') = true := one_map b8 (fun _ => rfl) l
theorem z8_k32 : (z8 32).length = 32 := by unfold z8; rw [List.length_map, List.length_replicate]
theorem isAgg_u64 : ∀ w, (isAgg 64).run Tryd.prog w = .ok false w := Tryd.isAgg64
set_option maxHeartbeats 8000000 in
theorem encode_any (p : Pt) (w : World) (hp : p.Nm) (hG : EG w) : Calls Tryd.prog 47 #[.agg (ptL p).toArray] w fun e w' => e = .returned (.agg ((sk (encN p)).map b8).toArray) ∧ Below w.heap.size w w' := by
 have hM := Lib.hid (Mv.nil w)
 have HG := Lib.hid hG; clear hG
 have HE := Lib.hid (encS_enc p)
 have CB : Hid (∀ u, EG u → Calls Tryd.prog 57 #[feV p.y] u fun e w' => e = .returned (.agg ((sk (p.y % pp).toNat).map b8).toArray) ∧ Below u.heap.size u w') := Lib.hid fun u hu => bytesB_any p.y u hp.2 hu.O
 have HS : Hid (encS (p.y % pp).toNat (BitVec.ofNat 8 (p.x % pp % 2).toNat) = (sk (p.y % pp).toNat).set 31 ((sk (p.y % pp).toNat).getD 31 0 ||| (BitVec.ofNat 8 (p.x % pp % 2).toNat <<< 7))) := Lib.hid rfl
 rw [HE.out] at HS
 have hyl := sk_len (p.y % pp).toNat
 have hel := sk_len (encN p)
 clear HE
 generalize sk (p.y % pp).toNat = yl at *
 generalize sk (encN p) = el at *
 generalize hZ : p.x % pp = Z at *
 have CX : Hid (∀ u, EG u → Calls Tryd.prog 72 #[feV p.x] u fun e w' => e = .returned (feV Z) ∧ Below u.heap.size u w') := Lib.hid fun u hu => by rw [← hZ]; exact canon_any p.x u hp.1 hu.O
 clear hZ
 have SY := Lib.hid (szKyB hyl)
 have SE := Lib.hid (szKyB hel)
 have LY : Hid ((yl.map b8).length = (z8 32).length) := Lib.hid (by rw [z8_k32, List.length_map, hyl])
 have LE : Hid ((el.map b8).length = (z8 32).length) := Lib.hid (by rw [z8_k32, List.length_map, hel])
 go_enter Tryd.func47, Tryd.ntmps47
 go_upto_region 0 with fail; refine wp_region_lit ?_
 refine qaa (qcv (vs := ptL p) rfl rfl) rfl ?_; (try simp only [Act.put, lyy]); replace hM := Lib.hid (hM.out.new (ptL p) 68); generalize w.alloc (.cells (ptL p).toArray 68) = a1 at *; generalize w.heap.size = g1 at *
 refine qaa (qat (vs := z8 32) rfl (by kernel_rfl)) rfl ?_; (try simp only [Act.put, lyy])
 replace hM := Lib.hid (hM.out.new (z8 32) 24)
 generalize a1.alloc (.cells (z8 32).toArray 24) = a2 at *
 generalize a1.heap.size = g2 at *
 refine qab ?_
 go_upto_region 1 with fail; refine wp_region_lit ?_
 refine qaa (qan (s := 3) (k := 4) rfl Tryd.underlying68 rfl (by kernel_rfl) rfl rfl) rfl ?_; (try simp only [Act.put, lyy])
 refine qaa (qaj (vs := feL p.y) rfl Tryd.underlying66 rfl (szFe _) rfl (pt_y (hM.out.get (i := 1) rfl))) rfl ?_; (try simp only [Act.put, lyy])
 refine qam (qap enters_bytes rfl rfl rfl) rfl (CB.out _ (HG.out.below hM.out.bl)) (fun a3 hb => ?_); (try simp only [Act.put, lyy]); replace hM := Lib.hid (hM.out.below hb); clear hb
 refine qaa (qat (vs := z8 32) rfl (by kernel_rfl)) rfl ?_; (try simp only [Act.put, lyy])
 replace hM := Lib.hid (hM.out.new (z8 32) 24)
 generalize a3.alloc (.cells (z8 32).toArray 24) = a4 at *
 generalize a3.heap.size = g3 at *
 refine qag (qar (vs := yl.map b8) rfl SY.out rfl rfl (one8B _) (by rw [LY.out]; exact (hM.out.get (i := 0) rfl).there)) rfl rfl ?_
 replace hM := Lib.hid (hM.out.put 0 rfl (m := yl.map b8) LY.out)
 generalize a4.setCells g3 0 (yl.map b8) = a5 at *
 refine qab ?_
 have HC : Hid ((yl.map b8)[31]? = some (b8 (yl.getD 31 0))) := Lib.hid (qbv b8 0 (by omega))
 generalize yl.getD 31 0 = y31 at *
 go_upto_region 2 with fail; refine qbf 11 (by kernel_rfl) (by kernel_rfl) ?_
 refine qad _ (fun V hV => qai (qbk (i := 31) rfl Tryd.underlying24 (by kernel_rfl) rfl rfl (by omega))) ?_; (try simp only [Act.put, lyy])
 refine qad _ (fun V hV => qai (run_ld8 rfl rfl (((hM.out.below hV).get (i := 0) rfl).c 31 _ HC.out))) ?_; (try simp only [Act.put, lyy])
 refine qad _ (fun V hV => qai (qan (s := 3) (k := 0) rfl Tryd.underlying68 rfl (by kernel_rfl) rfl rfl)) ?_; (try simp only [Act.put, lyy])
 refine qad _ (fun V hV => qai (qaj (vs := feL p.x) rfl Tryd.underlying66 rfl (szFe _) rfl (pt_x ((hM.out.below hV).get (i := 2) rfl)))) ?_; (try simp only [Act.put, lyy])
 refine qad _ (fun V hV => qax (qap enters_canon rfl rfl rfl) (CX.out V (HG.out.below (hM.out.below hV).bl))) ?_; (try simp only [Act.put, lyy])
 refine qad _ (fun V hV => qai (run_ixv (i := 0) (vs := feL Z) (v := .int .u64 (w0 Z)) rfl Tryd.underlying66 (by kernel_rfl) (isAgg_u64 V) rfl rfl (by omega) rfl)) ?_; (try simp only [Act.put, lyy])
 refine qad _ (fun V hV => qai (run_and1 rfl rfl rfl)) ?_; (try simp only [Act.put, lyy])
 refine qad _ (fun V hV => qai (run_cvbit rfl rfl)) ?_; (try simp only [Act.put, lyy])
 refine qad _ (fun V hV => qai (run_shl8q (n := 7) rfl rfl rfl (by omega))) ?_; (try simp only [Act.put, lyy])
 refine qad _ (fun V hV => qai (qdj rfl rfl rfl)) ?_; (try simp only [Act.put, lyy])
 refine qad _ (fun V hV => qai (qbk (i := 31) rfl Tryd.underlying24 (by kernel_rfl) rfl rfl (by omega))) ?_; (try simp only [Act.put, lyy])
 refine qbh ?_; intro a6 hb; simp only [List.drop_succ_cons, List.drop_zero]
 replace hM := Lib.hid (hM.out.below hb)
 clear hb
 refine qag (run_st8 rfl rfl rfl ((hM.out.get (i := 0) rfl).c 31 _ HC.out) ((hM.out.get (i := 0) rfl).f 31)) rfl rfl ?_
 refine qab ?_
 have hM2 : Hid (Mv w [(g3, el.map b8), (g2, z8 32), (g1, ptL p)] (a6.setCell ⟨g3, 31, none⟩ (b8 (y31 ||| (BitVec.ofNat 8 (Z % 2).toNat <<< 7))))) := Lib.hid (by
  have h := hM.out.set 0 rfl (j := 31) (by rw [List.length_map]; omega) (b8 (y31 ||| (BitVec.ofNat 8 (Z % 2).toNat <<< 7)))
  rw [qc3, ← HS.out] at h
  exact h)
 generalize a6.setCell ⟨g3, 31, none⟩ (b8 (y31 ||| (BitVec.ofNat 8 (Z % 2).toNat <<< 7))) = a7 at *
 replace hM := hM2
 clear hM2 HC HS
 go_upto_region 3 with fail; refine wp_region_lit ?_
 refine qaa (qaj (vs := el.map b8) rfl Tryd.underlying24 rfl SE.out rfl (hM.out.get (i := 0) rfl).range) rfl ?_; (try simp only [Act.put, lyy])
 refine qag (qar (vs := el.map b8) rfl SE.out rfl rfl (one8B _) (by rw [LE.out]; exact (hM.out.get (i := 1) rfl).there)) rfl rfl ?_
 replace hM := Lib.hid (hM.out.put 1 rfl (m := el.map b8) LE.out)
 refine qab ?_; go_wp2_with fail; refine bodyPost_ret (v := .agg (el.map b8).toArray) (qa8 Tryd.results47 rfl Tryd.underlying24 rfl SE.out (hM.out.get (i := 1) rfl).range) rfl ⟨rfl, hM.out.bl⟩
theorem enters_encode : Enters 47 := qaq Tryd.func47 (by kernel_rfl) rfl
end Go.Proofs.YtcgbgmbnagmohaaDoor
