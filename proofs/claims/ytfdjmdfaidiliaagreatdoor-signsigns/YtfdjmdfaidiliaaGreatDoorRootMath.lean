import Derived.Test.YtfdjmdfaidiliaaGreatDoorRoot1
import Derived.Test.YtfdjmdfaidiliaaGreatDoorBase
import Derived.Test.YtfdjmdfaidiliaaGreatDoorPw
import Derived.Test.YtfdjmdfaidiliaaGreatDoorEMath
namespace Go.Proofs.YtfdjmdfaidiliaaGreatDoor
open Go.RowKit
set_option maxRecDepth 20000
def rootB (X Y : Int) : Bool := (Y * (qbt X Y * qbt X Y % pp) % pp == X % pp) || (Y * (qbt X Y * qbt X Y % pp) % pp == -X % pp)
def rootN (X Y : Int) : Int := if Y * (qbt X Y * qbt X Y % pp) % pp = X % pp then evn (qbt X Y) else if Y * (qbt X Y * qbt X Y % pp) % pp = -X % pp then evn (qbt X Y * (2 ^ mp.toNat % pp) % pp) else 0
theorem near_num (X Y : Int) : Num (qbt X Y) := qap _
set_option maxHeartbeats 2000000 in
theorem root_any (X Y : Int) (w : World) (hX : Num X) (hY : Num Y) (hG : GCell 5 pp w) (hR : GCell 7 rp w) (hM : GCell 4 mp w) :
    Calls Tryz.prog 78 #[feV X, feV Y] w fun e w' => e = .returned (.tuple #[feV (rootN X Y), .bool (rootB X Y)]) ∧ Below w.heap.size w w' := by
  have B := Lib.hid (Box2.start w X Y)
  replace hG := hG.below B.out.bl
  have gM : 4 < w.heap.size := hM.lt
  replace hR := hR.below B.out.bl
  replace hM := hM.below B.out.bl
  have hN := near_num X Y
  have ER : Hid (rootN X Y = if Y * (qbt X Y * qbt X Y % pp) % pp = X % pp then evn (qbt X Y) else if Y * (qbt X Y * qbt X Y % pp) % pp = -X % pp then evn (qbt X Y * (2 ^ mp.toNat % pp) % pp) else 0) := Lib.hid rfl
  have EB : Hid (rootB X Y = ((Y * (qbt X Y * qbt X Y % pp) % pp == X % pp) || (Y * (qbt X Y * qbt X Y % pp) % pp == -X % pp))) := Lib.hid rfl
  go_enter Tryz.func78, Tryz.ntmps78
  go_wp2_with fail
  refine (nearRoot_any X Y _ hX hY hG hR).mono ?_
  rintro e u ⟨rfl, hb⟩
  generalize qbt X Y = N at *
  replace hG := hG.below hb
  replace hM := hM.below hb
  replace B := Lib.hid (B.out.next hb); obtain ⟨bl, l0, l1, l2, x0, x1, x2, x3, y0, y1, y2, y3, r0, r1, r2, r3, f0, f1, f2, f3⟩ := B.out; clear hb
  go_upto_region 2 with fail
  have hV := Var4.new u N
  have hb1 : Below u.heap.size u (u.alloc (.cells #[.int .u64 (w0 N), .int .u64 (w1 N), .int .u64 (w2 N), .int .u64 (w3 N)] 47)) := (Below.refl _ _).alloc (Nat.le_refl _) _
  replace B := Lib.hid (B.out.next hb1)
  replace hG := hG.below hb1
  replace hM := hM.below hb1
  have ng : w.heap.size + 1 + 1 < u.heap.size := l2
  clear bl l0 l1 l2 x0 x1 x2 x3 y0 y1 y2 y3 r0 r1 r2 r3 f0 f1 f2 f3
  clear hb1
  generalize u.alloc (.cells #[.int .u64 (w0 N), .int .u64 (w1 N), .int .u64 (w2 N), .int .u64 (w3 N)] 47) = u0 at *
  generalize u.heap.size = g at *
  have HS : Hid (∀ V, Below u0.heap.size u0 V → Cells4 (w.heap.size + 1) Y V ∧ Cells4 g N V) := Lib.hid fun V hV' => ⟨B.out.ycells.of_below B.out.l1 hV', Cells4.of_below ⟨hV.c0, hV.c1, hV.c2, hV.c3⟩ hV.lt hV'⟩
  obtain ⟨bl, l0, l1, l2, x0, x1, x2, x3, y0, y1, y2, y3, r0, r1, r2, r3, f0, f1, f2, f3⟩ := B.out
  obtain ⟨vl, v0, v1, v2, v3, vf0, vf1, vf2, vf3⟩ := id hV
  go_cut [7] (fun s7 u => Made u0 (Y * (N * N % pp) % pp) s7 u)
  case first =>
    unfold Cells4 at HS
    go_region_held3 (fun u => (u.cell? ⟨(w.heap.size + 1), 0, none⟩ = some (.int .u64 (w0 Y)) ∧ u.cell? ⟨(w.heap.size + 1), 1, none⟩ = some (.int .u64 (w1 Y)) ∧ u.cell? ⟨(w.heap.size + 1), 2, none⟩ = some (.int .u64 (w2 Y)) ∧ u.cell? ⟨(w.heap.size + 1), 3, none⟩ = some (.int .u64 (w3 Y))) ∧ (u.cell? ⟨g, 0, none⟩ = some (.int .u64 (w0 N)) ∧ u.cell? ⟨g, 1, none⟩ = some (.int .u64 (w1 N)) ∧ u.cell? ⟨g, 2, none⟩ = some (.int .u64 (w2 N)) ∧ u.cell? ⟨g, 3, none⟩ = some (.int .u64 (w3 N)))) (exact HS.out _ (by repeat' (first | exact Below.refl _ _ | assumption | refine Below.setCell ?_ ?_ _ | refine Below.alloc ?_ ?_ _ | refine Below.drew ?_ | refine Below.trans ?_ (Below.mono (by assumption) ?_) | (simp; done) | (simp; omega))))
      (first | ((go_at_call_of 81 (N * N % pp)); (go_at_call 81; refine (qbm Y (N * N % pp) _ hY (qap _) (hG.below (by repeat' (first | exact Below.refl _ _ | assumption | refine Below.setCell ?_ ?_ _ | refine Below.alloc ?_ ?_ _ | refine Below.drew ?_ | refine Below.trans ?_ (Below.mono (by assumption) ?_) | (simp; done) | (simp; omega))))).mono ?_; rintro e u2 ⟨rfl, hu2⟩; have bu2 : Below u0.heap.size u0 u2 := (by repeat' (first | exact Below.refl _ _ | assumption | refine Below.setCell ?_ ?_ _ | refine Below.alloc ?_ ?_ _ | refine Below.drew ?_ | refine Below.trans ?_ (Below.mono (by assumption) ?_) | (simp; done) | (simp; omega))); have su2 : u0.heap.size ≤ u2.heap.size := Below.size bu2; obtain ⟨cu2, fu2⟩ := bcell hu2; have tu2 := Below.size hu2; (try simp at tu2); (try rw [Nat.add_one_le_iff] at tu2))) | (go_at_call 81; refine (qbm N N _ hN hN (hG.below (by repeat' (first | exact Below.refl _ _ | assumption | refine Below.setCell ?_ ?_ _ | refine Below.alloc ?_ ?_ _ | refine Below.drew ?_ | refine Below.trans ?_ (Below.mono (by assumption) ?_) | (simp; done) | (simp; omega))))).mono ?_; rintro e u1 ⟨rfl, hu1⟩; have bu1 : Below u0.heap.size u0 u1 := (by repeat' (first | exact Below.refl _ _ | assumption | refine Below.setCell ?_ ?_ _ | refine Below.alloc ?_ ?_ _ | refine Below.drew ?_ | refine Below.trans ?_ (Below.mono (by assumption) ?_) | (simp; done) | (simp; omega))); have su1 : u0.heap.size ≤ u1.heap.size := Below.size bu1; obtain ⟨cu1, fu1⟩ := bcell hu1; have tu1 := Below.size hu1; (try simp at tu1); (try rw [Nat.add_one_le_iff] at tu1)))
    all_goals (go_wp2_with fail; go_meet; first | ((with_reducible refine made_new ?_); repeat' (first | exact Below.refl _ _ | assumption | refine Below.setCell ?_ ?_ _ | refine Below.alloc ?_ ?_ _ | refine Below.drew ?_ | refine Below.trans ?_ (Below.mono (by assumption) ?_) | (simp; done) | (simp; omega)); done) | ((with_reducible refine made_old ?_ ?_ ?_ ?_ ?_ ?_ ?_) <;> (first | exact Nat.le_refl _ | assumption | omega | (first | (rw [cu2 _ _ (by simp; done)]; simp [go_sem]; done) | (rw [cu2 _ _ tu1, cu1 _ _ (by simp; done)]; simp [go_sem]; done)) | (repeat' (first | exact Below.refl _ _ | assumption | refine Below.setCell ?_ ?_ _ | refine Below.alloc ?_ ?_ _ | refine Below.drew ?_ | refine Below.trans ?_ (Below.mono (by assumption) ?_) | (simp; done) | (simp; omega)); done))))
  case rest =>
    obtain ⟨q, rfl, hq1, hq2, hb, hd⟩ := hcut
    have nq : w.heap.size + 1 + 1 < q := by omega
    clear bl l0 l1 l2 x0 x1 x2 x3 y0 y1 y2 y3 r0 r1 r2 r3 f0 f1 f2 f3
    clear vl v0 v1 v2 v3 vf0 vf1 vf2 vf3
    clear HS
    replace hG := hG.below hb
    replace hM := hM.below hb
    replace B := Lib.hid (B.out.next hb)
    replace hV := hV.below hb
    clear hb hq1
    have hZ := qap (Y * (N * N % pp))
    generalize Y * (N * N % pp) % pp = M at *
    clear u0
    generalize wc = u0 at *
    go_upto_region 3 with fail
    have HS : Hid (∀ V, Below u0.heap.size u0 V → Cells4 w.heap.size X V ∧ Cells4 q M V) := Lib.hid fun V hV' => ⟨B.out.xcells.of_below B.out.l0 hV', hd.of_below hq2 hV'⟩
    unfold Cells4 at HS
    obtain ⟨bl, l0, l1, l2, x0, x1, x2, x3, y0, y1, y2, y3, r0, r1, r2, r3, f0, f1, f2, f3⟩ := B.out
    obtain ⟨vl, v0, v1, v2, v3, vf0, vf1, vf2, vf3⟩ := id hV
    obtain ⟨d0, d1, d2, d3⟩ := id hd
    have hXp := qap X
    by_cases hm : M = X % pp
    · have hE := eqFe_true hZ hm
      have HM := Lib.hid hm; clear hm
      go_region_held3 (fun u => (u.cell? ⟨w.heap.size, 0, none⟩ = some (.int .u64 (w0 X)) ∧ u.cell? ⟨w.heap.size, 1, none⟩ = some (.int .u64 (w1 X)) ∧ u.cell? ⟨w.heap.size, 2, none⟩ = some (.int .u64 (w2 X)) ∧ u.cell? ⟨w.heap.size, 3, none⟩ = some (.int .u64 (w3 X))) ∧ (u.cell? ⟨q, 0, none⟩ = some (.int .u64 (w0 M)) ∧ u.cell? ⟨q, 1, none⟩ = some (.int .u64 (w1 M)) ∧ u.cell? ⟨q, 2, none⟩ = some (.int .u64 (w2 M)) ∧ u.cell? ⟨q, 3, none⟩ = some (.int .u64 (w3 M)))) (exact HS.out _ (by repeat' (first | exact Below.refl _ _ | assumption | refine Below.setCell ?_ ?_ _ | refine Below.alloc ?_ ?_ _ | refine Below.drew ?_ | refine Below.trans ?_ (Below.mono (by assumption) ?_) | (simp; done) | (simp; omega))))
        (first | ((go_at_call 60; refine (canon_any X _ hX (hG.below (by repeat' (first | exact Below.refl _ _ | assumption | refine Below.setCell ?_ ?_ _ | refine Below.alloc ?_ ?_ _ | refine Below.drew ?_ | refine Below.trans ?_ (Below.mono (by assumption) ?_) | (simp; done) | (simp; omega))))).mono ?_; rintro e u1 ⟨rfl, hu1⟩; have bu1 : Below u0.heap.size u0 u1 := (by repeat' (first | exact Below.refl _ _ | assumption | refine Below.setCell ?_ ?_ _ | refine Below.alloc ?_ ?_ _ | refine Below.drew ?_ | refine Below.trans ?_ (Below.mono (by assumption) ?_) | (simp; done) | (simp; omega))); have su1 : u0.heap.size ≤ u1.heap.size := Below.size bu1; obtain ⟨cu1, fu1⟩ := bcell hu1; have tu1 := Below.size hu1; (try simp at tu1); (try rw [Nat.add_one_le_iff] at tu1)); obtain ⟨bl, l0, l1, l2, x0, x1, x2, x3, y0, y1, y2, y3, r0, r1, r2, r3, f0, f1, f2, f3⟩ := B.out.next bu1))
      have hV1 := hV.below bu1
      have hG1 := hG.below bu1
      clear vl v0 v1 v2 v3 vf0 vf1 vf2 vf3
      obtain ⟨vl, v0, v1, v2, v3, vf0, vf1, vf2, vf3⟩ := hV1
      go_wp2_with fail
      refine (even_any N _ hN hG1).mono ?_
      rintro e u2 ⟨rfl, hb⟩
      replace B := Lib.hid ((B.out.next bu1).next hb)
      clear bl l0 l1 l2 x0 x1 x2 x3 y0 y1 y2 y3 r0 r1 r2 r3 f0 f1 f2 f3
      obtain ⟨bl, l0, l1, l2, x0, x1, x2, x3, y0, y1, y2, y3, r0, r1, r2, r3, f0, f1, f2, f3⟩ := B.out
      go_wp2_with fail
      refine bodyPost_ret (v := .tuple #[feV (evn N), .bool true]) (by simp [results, Tryz.results78, go_sem, r0, r1, r2, r3]) rfl ⟨by rw [ER.out, EB.out, if_pos HM.out, HM.out]; simp, ?_⟩
      repeat' (first | exact Below.refl _ _ | assumption | refine Below.setCell ?_ ?_ _ | refine Below.alloc ?_ ?_ _ | refine Below.drew ?_ | refine Below.trans ?_ (Below.mono (by assumption) ?_) | (simp; done) | (simp; omega))
    · have hE := eqFe_false hZ hXp hm
      have HM := Lib.hid hm; clear hm
      go_region_held3 (fun u => (u.cell? ⟨w.heap.size, 0, none⟩ = some (.int .u64 (w0 X)) ∧ u.cell? ⟨w.heap.size, 1, none⟩ = some (.int .u64 (w1 X)) ∧ u.cell? ⟨w.heap.size, 2, none⟩ = some (.int .u64 (w2 X)) ∧ u.cell? ⟨w.heap.size, 3, none⟩ = some (.int .u64 (w3 X))) ∧ (u.cell? ⟨q, 0, none⟩ = some (.int .u64 (w0 M)) ∧ u.cell? ⟨q, 1, none⟩ = some (.int .u64 (w1 M)) ∧ u.cell? ⟨q, 2, none⟩ = some (.int .u64 (w2 M)) ∧ u.cell? ⟨q, 3, none⟩ = some (.int .u64 (w3 M)))) (exact HS.out _ (by repeat' (first | exact Below.refl _ _ | assumption | refine Below.setCell ?_ ?_ _ | refine Below.alloc ?_ ?_ _ | refine Below.drew ?_ | refine Below.trans ?_ (Below.mono (by assumption) ?_) | (simp; done) | (simp; omega))))
        (first | ((go_at_call 60; refine (canon_any X _ hX (hG.below (by repeat' (first | exact Below.refl _ _ | assumption | refine Below.setCell ?_ ?_ _ | refine Below.alloc ?_ ?_ _ | refine Below.drew ?_ | refine Below.trans ?_ (Below.mono (by assumption) ?_) | (simp; done) | (simp; omega))))).mono ?_; rintro e u1 ⟨rfl, hu1⟩; have bu1 : Below u0.heap.size u0 u1 := (by repeat' (first | exact Below.refl _ _ | assumption | refine Below.setCell ?_ ?_ _ | refine Below.alloc ?_ ?_ _ | refine Below.drew ?_ | refine Below.trans ?_ (Below.mono (by assumption) ?_) | (simp; done) | (simp; omega))); have su1 : u0.heap.size ≤ u1.heap.size := Below.size bu1; obtain ⟨cu1, fu1⟩ := bcell hu1; have tu1 := Below.size hu1; (try simp at tu1); (try rw [Nat.add_one_le_iff] at tu1)); obtain ⟨bl, l0, l1, l2, x0, x1, x2, x3, y0, y1, y2, y3, r0, r1, r2, r3, f0, f1, f2, f3⟩ := B.out.next bu1))
      go_upto_region 5 with fail
      replace B := Lib.hid (B.out.next bu1)
      replace hV := hV.below bu1
      replace hG := hG.below bu1
      replace hM := hM.below bu1
      replace hd := hd.of_below hq2 bu1
      replace hq2 := Nat.lt_of_lt_of_le hq2 bu1.size
      clear vl v0 v1 v2 v3 vf0 vf1 vf2 vf3
      clear HS hE hu1 cu1 fu1 tu1 su1 bu1 d0 d1 d2 d3
      clear bl l0 l1 l2 x0 x1 x2 x3 y0 y1 y2 y3 r0 r1 r2 r3 f0 f1 f2 f3
      clear bl l0 l1 l2 x0 x1 x2 x3 y0 y1 y2 y3 r0 r1 r2 r3 f0 f1 f2 f3 u0
      obtain ⟨u0, hu0⟩ : ∃ u', u' = u1 := ⟨_, rfl⟩
      subst hu0
      have HS : Hid (∀ V, Below u0.heap.size u0 V → Cells4 w.heap.size X V ∧ Cells4 q M V) := Lib.hid fun V hV' => ⟨B.out.xcells.of_below B.out.l0 hV', hd.of_below hq2 hV'⟩
      unfold Cells4 at HS
      obtain ⟨bl, l0, l1, l2, x0, x1, x2, x3, y0, y1, y2, y3, r0, r1, r2, r3, f0, f1, f2, f3⟩ := B.out
      obtain ⟨d0, d1, d2, d3⟩ := id hd
      have hXn := qap (-X)
      by_cases hm : M = -X % pp
      · have hE := eqFe_true hZ hm
        have HN := Lib.hid hm; clear hm
        go_region_held3 (fun u => (u.cell? ⟨w.heap.size, 0, none⟩ = some (.int .u64 (w0 X)) ∧ u.cell? ⟨w.heap.size, 1, none⟩ = some (.int .u64 (w1 X)) ∧ u.cell? ⟨w.heap.size, 2, none⟩ = some (.int .u64 (w2 X)) ∧ u.cell? ⟨w.heap.size, 3, none⟩ = some (.int .u64 (w3 X))) ∧ (u.cell? ⟨q, 0, none⟩ = some (.int .u64 (w0 M)) ∧ u.cell? ⟨q, 1, none⟩ = some (.int .u64 (w1 M)) ∧ u.cell? ⟨q, 2, none⟩ = some (.int .u64 (w2 M)) ∧ u.cell? ⟨q, 3, none⟩ = some (.int .u64 (w3 M)))) (exact HS.out _ (by repeat' (first | exact Below.refl _ _ | assumption | refine Below.setCell ?_ ?_ _ | refine Below.alloc ?_ ?_ _ | refine Below.drew ?_ | refine Below.trans ?_ (Below.mono (by assumption) ?_) | (simp; done) | (simp; omega))))
          (first | ((go_at_call 82; refine (neg_any X _ hX (hG.below (by repeat' (first | exact Below.refl _ _ | assumption | refine Below.setCell ?_ ?_ _ | refine Below.alloc ?_ ?_ _ | refine Below.drew ?_ | refine Below.trans ?_ (Below.mono (by assumption) ?_) | (simp; done) | (simp; omega))))).mono ?_; rintro e u1 ⟨rfl, hu1⟩; have bu1 : Below u0.heap.size u0 u1 := (by repeat' (first | exact Below.refl _ _ | assumption | refine Below.setCell ?_ ?_ _ | refine Below.alloc ?_ ?_ _ | refine Below.drew ?_ | refine Below.trans ?_ (Below.mono (by assumption) ?_) | (simp; done) | (simp; omega))); have su1 : u0.heap.size ≤ u1.heap.size := Below.size bu1; obtain ⟨cu1, fu1⟩ := bcell hu1; have tu1 := Below.size hu1; (try simp at tu1); (try rw [Nat.add_one_le_iff] at tu1)); obtain ⟨bl, l0, l1, l2, x0, x1, x2, x3, y0, y1, y2, y3, r0, r1, r2, r3, f0, f1, f2, f3⟩ := B.out.next bu1))
        go_upto_region 6 with fail
        replace B := Lib.hid (B.out.next bu1)
        replace hV := hV.below bu1
        replace hG := hG.below bu1
        replace hM := hM.below bu1
        clear HS hE hu1 cu1 fu1 tu1 su1 bu1 d0 d1 d2 d3 hd hq2
        clear bl l0 l1 l2 x0 x1 x2 x3 y0 y1 y2 y3 r0 r1 r2 r3 f0 f1 f2 f3
        clear bl l0 l1 l2 x0 x1 x2 x3 y0 y1 y2 y3 r0 r1 r2 r3 f0 f1 f2 f3
        clear u0
        obtain ⟨u0, hu0⟩ : ∃ u', u' = u1 := ⟨_, rfl⟩
        subst hu0
        have HS : Hid (∀ V, Below u0.heap.size u0 V → Cells4 g N V ∧ Cells4 4 mp V) := Lib.hid fun V hV' => ⟨Cells4.of_below ⟨hV.c0, hV.c1, hV.c2, hV.c3⟩ hV.lt hV', hM.cells.of_below hM.lt hV'⟩
        have HF : Hid (∀ V v0 v1 v2 v3, (Cells4 g N V ∧ Cells4 4 mp V) → (fun V => Cells4 g N V ∧ Cells4 4 mp V) ((((V.setCell ⟨w.heap.size + 1 + 1, 0, none⟩ v0).setCell ⟨w.heap.size + 1 + 1, 1, none⟩ v1).setCell ⟨w.heap.size + 1 + 1, 2, none⟩ v2).setCell ⟨w.heap.size + 1 + 1, 3, none⟩ v3)) := Lib.hid fun V v0 v1 v2 v3 h => ⟨h.1.far (by omega) v0 v1 v2 v3, h.2.far (by omega) v0 v1 v2 v3⟩
        unfold Cells4 at HS HF
        obtain ⟨bl, l0, l1, l2, x0, x1, x2, x3, y0, y1, y2, y3, r0, r1, r2, r3, f0, f1, f2, f3⟩ := B.out
        obtain ⟨vl, v0, v1, v2, v3, vf0, vf1, vf2, vf3⟩ := id hV
        obtain ⟨e0, e1, e2, e3, e4⟩ := id hM
        go_region_held3 (fun u => (u.cell? ⟨g, 0, none⟩ = some (.int .u64 (w0 N)) ∧ u.cell? ⟨g, 1, none⟩ = some (.int .u64 (w1 N)) ∧ u.cell? ⟨g, 2, none⟩ = some (.int .u64 (w2 N)) ∧ u.cell? ⟨g, 3, none⟩ = some (.int .u64 (w3 N))) ∧ (u.cell? ⟨4, 0, none⟩ = some (.int .u64 (w0 mp)) ∧ u.cell? ⟨4, 1, none⟩ = some (.int .u64 (w1 mp)) ∧ u.cell? ⟨4, 2, none⟩ = some (.int .u64 (w2 mp)) ∧ u.cell? ⟨4, 3, none⟩ = some (.int .u64 (w3 mp)))) (first | ((with_reducible refine HF.out _ _ _ _ _ ?_); exact HS.out _ (by repeat' (first | exact Below.refl _ _ | assumption | refine Below.setCell ?_ ?_ _ | refine Below.alloc ?_ ?_ _ | refine Below.drew ?_ | refine Below.trans ?_ (Below.mono (by assumption) ?_) | (simp; done) | (simp; omega)))) | (exact HS.out _ (by repeat' (first | exact Below.refl _ _ | assumption | refine Below.setCell ?_ ?_ _ | refine Below.alloc ?_ ?_ _ | refine Below.drew ?_ | refine Below.trans ?_ (Below.mono (by assumption) ?_) | (simp; done) | (simp; omega)))))
          (first | ((go_at_call 76; refine (small_any 2 _ (by omega) (by omega)).mono ?_; rintro e u1 ⟨rfl, hu1⟩; have bu1 : Below u0.heap.size u0 u1 := (by repeat' (first | exact Below.refl _ _ | assumption | refine Below.setCell ?_ ?_ _ | refine Below.alloc ?_ ?_ _ | refine Below.drew ?_ | refine Below.trans ?_ (Below.mono (by assumption) ?_) | (simp; done) | (simp; omega))); have su1 : u0.heap.size ≤ u1.heap.size := Below.size bu1; obtain ⟨cu1, fu1⟩ := bcell hu1; have tu1 := Below.size hu1; (try simp at tu1); (try rw [Nat.add_one_le_iff] at tu1)); obtain ⟨bl, l0, l1, l2, x0, x1, x2, x3, y0, y1, y2, y3, r0, r1, r2, r3, f0, f1, f2, f3⟩ := B.out.next bu1) | ((go_at_call 104; refine (pow_any 2 mp _ (by unfold Num; omega) num_mp (hG.below (by repeat' (first | exact Below.refl _ _ | assumption | refine Below.setCell ?_ ?_ _ | refine Below.alloc ?_ ?_ _ | refine Below.drew ?_ | refine Below.trans ?_ (Below.mono (by assumption) ?_) | (simp; done) | (simp; omega))))).mono ?_; rintro e u2 ⟨rfl, hu2⟩; have bu2 : Below u0.heap.size u0 u2 := (by repeat' (first | exact Below.refl _ _ | assumption | refine Below.setCell ?_ ?_ _ | refine Below.alloc ?_ ?_ _ | refine Below.drew ?_ | refine Below.trans ?_ (Below.mono (by assumption) ?_) | (simp; done) | (simp; omega))); have su2 : u0.heap.size ≤ u2.heap.size := Below.size bu2; obtain ⟨cu2, fu2⟩ := bcell hu2; have tu2 := Below.size hu2; (try simp at tu2); (try rw [Nat.add_one_le_iff] at tu2)); obtain ⟨bl, l0, l1, l2, x0, x1, x2, x3, y0, y1, y2, y3, r0, r1, r2, r3, f0, f1, f2, f3⟩ := B.out.next bu2) | ((go_at_call 81; refine (qbm N (2 ^ mp.toNat % pp) _ hN (qap _) (hG.below (by repeat' (first | exact Below.refl _ _ | assumption | refine Below.setCell ?_ ?_ _ | refine Below.alloc ?_ ?_ _ | refine Below.drew ?_ | refine Below.trans ?_ (Below.mono (by assumption) ?_) | (simp; done) | (simp; omega))))).mono ?_; rintro e u3 ⟨rfl, hu3⟩; have bu3 : Below u0.heap.size u0 u3 := (by repeat' (first | exact Below.refl _ _ | assumption | refine Below.setCell ?_ ?_ _ | refine Below.alloc ?_ ?_ _ | refine Below.drew ?_ | refine Below.trans ?_ (Below.mono (by assumption) ?_) | (simp; done) | (simp; omega))); have su3 : u0.heap.size ≤ u3.heap.size := Below.size bu3; obtain ⟨cu3, fu3⟩ := bcell hu3; have tu3 := Below.size hu3; (try simp at tu3); (try rw [Nat.add_one_le_iff] at tu3)); obtain ⟨bl, l0, l1, l2, x0, x1, x2, x3, y0, y1, y2, y3, r0, r1, r2, r3, f0, f1, f2, f3⟩ := B.out.next bu3) | ((go_at_call 103; refine (even_any (N * (2 ^ mp.toNat % pp) % pp) _ (qap _) (hG.below (by repeat' (first | exact Below.refl _ _ | assumption | refine Below.setCell ?_ ?_ _ | refine Below.alloc ?_ ?_ _ | refine Below.drew ?_ | refine Below.trans ?_ (Below.mono (by assumption) ?_) | (simp; done) | (simp; omega))))).mono ?_; rintro e u4 ⟨rfl, hu4⟩; have bu4 : Below u0.heap.size u0 u4 := (by repeat' (first | exact Below.refl _ _ | assumption | refine Below.setCell ?_ ?_ _ | refine Below.alloc ?_ ?_ _ | refine Below.drew ?_ | refine Below.trans ?_ (Below.mono (by assumption) ?_) | (simp; done) | (simp; omega))); have su4 : u0.heap.size ≤ u4.heap.size := Below.size bu4; obtain ⟨cu4, fu4⟩ := bcell hu4; have tu4 := Below.size hu4; (try simp at tu4); (try rw [Nat.add_one_le_iff] at tu4)); obtain ⟨bl, l0, l1, l2, x0, x1, x2, x3, y0, y1, y2, y3, r0, r1, r2, r3, f0, f1, f2, f3⟩ := B.out.next bu4))
        go_wp2_with fail
        refine bodyPost_ret (v := .tuple #[feV (evn (N * (2 ^ mp.toNat % pp) % pp)), .bool true]) (by simp [results, Tryz.results78, go_sem, r0, r1, r2, r3]) rfl ⟨by rw [ER.out, EB.out, if_neg HM.out, if_pos HN.out, HN.out]; simp, ?_⟩
        repeat' (first | exact Below.refl _ _ | assumption | refine Below.setCell ?_ ?_ _ | refine Below.alloc ?_ ?_ _ | refine Below.drew ?_ | refine Below.trans ?_ (Below.mono (by assumption) ?_) | (simp; done) | (simp; omega))
      · have hE := eqFe_false hZ hXn hm
        have HN := Lib.hid hm; clear hm
        go_region_held3 (fun u => (u.cell? ⟨w.heap.size, 0, none⟩ = some (.int .u64 (w0 X)) ∧ u.cell? ⟨w.heap.size, 1, none⟩ = some (.int .u64 (w1 X)) ∧ u.cell? ⟨w.heap.size, 2, none⟩ = some (.int .u64 (w2 X)) ∧ u.cell? ⟨w.heap.size, 3, none⟩ = some (.int .u64 (w3 X))) ∧ (u.cell? ⟨q, 0, none⟩ = some (.int .u64 (w0 M)) ∧ u.cell? ⟨q, 1, none⟩ = some (.int .u64 (w1 M)) ∧ u.cell? ⟨q, 2, none⟩ = some (.int .u64 (w2 M)) ∧ u.cell? ⟨q, 3, none⟩ = some (.int .u64 (w3 M)))) (exact HS.out _ (by repeat' (first | exact Below.refl _ _ | assumption | refine Below.setCell ?_ ?_ _ | refine Below.alloc ?_ ?_ _ | refine Below.drew ?_ | refine Below.trans ?_ (Below.mono (by assumption) ?_) | (simp; done) | (simp; omega))))
          (first | ((go_at_call 82; refine (neg_any X _ hX (hG.below (by repeat' (first | exact Below.refl _ _ | assumption | refine Below.setCell ?_ ?_ _ | refine Below.alloc ?_ ?_ _ | refine Below.drew ?_ | refine Below.trans ?_ (Below.mono (by assumption) ?_) | (simp; done) | (simp; omega))))).mono ?_; rintro e u1 ⟨rfl, hu1⟩; have bu1 : Below u0.heap.size u0 u1 := (by repeat' (first | exact Below.refl _ _ | assumption | refine Below.setCell ?_ ?_ _ | refine Below.alloc ?_ ?_ _ | refine Below.drew ?_ | refine Below.trans ?_ (Below.mono (by assumption) ?_) | (simp; done) | (simp; omega))); have su1 : u0.heap.size ≤ u1.heap.size := Below.size bu1; obtain ⟨cu1, fu1⟩ := bcell hu1; have tu1 := Below.size hu1; (try simp at tu1); (try rw [Nat.add_one_le_iff] at tu1)); obtain ⟨bl, l0, l1, l2, x0, x1, x2, x3, y0, y1, y2, y3, r0, r1, r2, r3, f0, f1, f2, f3⟩ := B.out.next bu1))
        go_wp2_with fail
        refine bodyPost_ret (v := .tuple #[.agg #[.int .u64 0, .int .u64 0, .int .u64 0, .int .u64 0], .bool false]) (by simp [results, Tryz.results78, go_sem, r0, r1, r2, r3]) rfl ⟨by rw [ER.out, EB.out, if_neg HM.out, if_neg HN.out, beq_false_of_ne HM.out, beq_false_of_ne HN.out]; rfl, ?_⟩
        repeat' (first | exact Below.refl _ _ | assumption | refine Below.setCell ?_ ?_ _ | refine Below.alloc ?_ ?_ _ | refine Below.drew ?_ | refine Below.trans ?_ (Below.mono (by assumption) ?_) | (simp; done) | (simp; omega))
end Go.Proofs.YtfdjmdfaidiliaaGreatDoor
namespace Go.Proofs.YtfdjmdfaidiliaaGreatDoor
set_option maxRecDepth 20000
def mpBits : List Bool := ones 250 ++ [false, true, true]
theorem mpBits_num : bn mpBits 0 = mp.toNat := by decide +kernel
theorem two_mp : (2 : Int) ^ mp.toNat % pp = 19681161376707505956807079304988542015446066515923890162744021073123829784752 := by
  rw [pp_nat]
  have h := ipow_eval 2 57896044618658097711785492504343953926634992332820282019728792003956564819949 mp.toNat mpBits mpBits_num
  exact h.trans (by decide +kernel)
end Go.Proofs.YtfdjmdfaidiliaaGreatDoor
namespace Go.Proofs.YtfdjmdfaidiliaaGreatDoor
set_option maxRecDepth 20000
theorem cube_E (V : Int) : E (cubeOf V) (V ^ 3) := by
  unfold cubeOf
  refine (E.rest _).trans (((E.rfl' V).mul (E.rest (V * V))).trans (E.of_eq ?_))
  rw [Int.pow_succ, Int.pow_succ, Int.pow_succ, Int.pow_zero, Int.one_mul, Int.mul_comm]
theorem sev_E (V : Int) : E (sevOf V) (V ^ 7) := by
  unfold sevOf
  refine (E.rest _).trans (((E.rfl' V).mul ((E.rest _).trans ((cube_E V).mul (cube_E V)))).trans (E.of_eq ?_))
  rw [← Int.pow_add, Int.mul_comm, ← Int.pow_succ]
theorem near_E (Z V : Int) : E (qbt Z V) (Z * V ^ 3 * (Z * V ^ 7) ^ rp.toNat) := by
  unfold qbt
  refine (E.rest _).trans (E.mul ((E.rest _).trans ((E.rfl' Z).mul (cube_E V))) ((E.rest _).trans (E.pow ((E.rest _).trans ((E.rfl' Z).mul (sev_E V))) _)))
theorem half_sign {t : Int} (h : t % pp ≠ 0) : E (t ^ (4 * rp.toNat + 2)) 1 ∨ E (t ^ (4 * rp.toNat + 2)) (-1) := by
  have h1 : t ^ (4 * rp.toNat + 2) * t ^ (4 * rp.toNat + 2) % pp = 1 := by
    rw [← Int.pow_add, show 4 * rp.toNat + 2 + (4 * rp.toNat + 2) = pN - 1 by decide +kernel, fermat_int h]
  generalize t ^ (4 * rp.toNat + 2) = s at *
  have h2 : (s - 1) * (s + 1) % pp = 0 := by
    rw [show (s - 1) * (s + 1) = s * s - 1 by grind]
    unfold pp at *; omega
  rcases no_zero h2 with h3 | h3
  · left; show s % pp = 1 % pp; unfold pp at *; omega
  · right; show s % pp = (-1) % pp; unfold pp at *; omega
theorem evn_facts {A : Int} (h0 : 0 ≤ A) (h1 : A < pp) : 0 ≤ evn A ∧ evn A < pp ∧ evn A % 2 = 0 ∧ E (evn A * evn A) (A * A) := by
  unfold evn
  by_cases h : A % 2 = 1
  · rw [if_pos h]
    have hv : -A % pp = pp - A := by unfold pp at *; omega
    refine ⟨by rw [hv]; omega, by rw [hv]; omega, by rw [hv]; unfold pp at *; omega, ?_⟩
    exact ((E.rest (-A)).mul (E.rest (-A))).trans (E.of_eq (by rw [Int.neg_mul_neg]))
  · rw [if_neg h]
    exact ⟨h0, h1, by omega, E.rfl' _⟩
theorem imag_E : E ((2 : Int) ^ mp.toNat % pp * ((2 : Int) ^ mp.toNat % pp)) (-1) := by
  show _ % pp = _ % pp
  rw [two_mp]; unfold pp; decide +kernel
end Go.Proofs.YtfdjmdfaidiliaaGreatDoor
