import Derived.Test.YtcgbgmbnagmohaaDoorBase
namespace Go.Proofs.YtcgbgmbnagmohaaDoor
open Go.RowKit
set_option maxRecDepth 20000
def rp : Int := 7237005577332262213973186563042994240829374041602535252466099000494570602493
def mp : Int := 14474011154664524427946373126085988481658748083205070504932198000989141204987
theorem num_rp : Num rp := by unfold Num rp; omega
theorem num_mp : Num mp := by unfold Num mp; omega
def evn (X : Int) : Int := if X % 2 = 1 then -X % pp else X
theorem odd_eq (X : Int) : bits .and .u64 (w0 X) 1 = X % 2 := by
 have h := qba X
 unfold Word at h
 rw [u64_and _ _ h.1 h.2 (by omega) (by omega)]
 rw [show (1 : Int).toNat = 1 from rfl, nat_mask1]
 unfold w0 at *; omega
set_option maxHeartbeats 400000 in
theorem even_any (X : Int) (w : World) (hX : Num X) (hG : GCell 5 pp w) :
  Calls Tryd.prog 90 #[feV X] w fun e w' => e = .returned (feV (evn X)) ∧ Below w.heap.size w w' := by
 have B := Lib.hid (Box1.start w X)
 replace hG := hG.below B.out.bl
 have h2 := odd_eq X
 rcases (show X % 2 = 0 ∨ X % 2 = 1 by omega) with hx | hx
 ·have hb1 : (bits .and .u64 (w0 X) 1 == 1) = false := by rw [h2, hx]; rfl
  have E : Hid (evn X = X) := Lib.hid (by unfold evn; rw [hx]; rfl)
  clear h2 hx
  go_enter Tryd.func90, Tryd.ntmps90
  go_wp2_with fail
  refine bodyPost_ret (v := feV X) (by simp [results, Tryd.results90, go_sem]) rfl ⟨by rw [E.out], ?_⟩
  repeat' (first | exact Below.refl _ _ | assumption | refine Below.setCell ?_ ?_ _ | refine Below.alloc ?_ ?_ _ | refine Below.drew ?_ | refine Below.trans ?_ (Below.mono (by assumption) ?_) | (simp; done) | (simp; omega))
 ·have hb1 : (bits .and .u64 (w0 X) 1 == 1) = true := by rw [h2, hx]; rfl
  have E : Hid (evn X = -X % pp) := Lib.hid (by unfold evn; rw [hx]; rfl)
  clear h2 hx
  go_enter Tryd.func90, Tryd.ntmps90
  go_wp2_with fail
  refine (neg_any X _ hX hG).mono ?_
  rintro e u ⟨rfl, hb⟩
  replace B := Lib.hid (B.out.next hb); obtain ⟨bl, l0, l1, x0, x1, x2, x3, r0, r1, r2, r3, f0, f1, f2, f3⟩ := B.out; clear hb
  go_wp2_with fail
  refine bodyPost_ret (v := feV (-X % pp)) (by simp [results, Tryd.results90, go_sem, r0, r1, r2, r3]) rfl ⟨by rw [E.out], ?_⟩
  repeat' (first | exact Below.refl _ _ | assumption | refine Below.setCell ?_ ?_ _ | refine Below.alloc ?_ ?_ _ | refine Below.drew ?_ | refine Below.trans ?_ (Below.mono (by assumption) ?_) | (simp; done) | (simp; omega))
def cubeOf (Y : Int) : Int := Y * (Y * Y % pp) % pp
def sevOf (Y : Int) : Int := Y * (cubeOf Y * cubeOf Y % pp) % pp
def qb8 (X Y : Int) : Int := X * cubeOf Y % pp * ((X * sevOf Y % pp) ^ rp.toNat % pp) % pp
set_option maxHeartbeats 2000000 in
theorem nearRoot_any (X Y : Int) (w : World) (hX : Num X) (hY : Num Y) (hG : GCell 5 pp w) (hR : GCell 7 rp w) :
  Calls Tryd.prog 89 #[feV X, feV Y] w fun e w' => e = .returned (feV (qb8 X Y)) ∧ Below w.heap.size w w' := by
 have B := Lib.hid (Box2.start w X Y)
 replace hG := hG.below B.out.bl
 have gR : 7 < w.heap.size := hR.lt
 replace hR := hR.below B.out.bl
 go_enter Tryd.func89, Tryd.ntmps89
 go_upto_region 1 with fail
 generalize (((w.alloc (.cells #[.int .u64 (w0 X), .int .u64 (w1 X), .int .u64 (w2 X), .int .u64 (w3 X)] 66)).alloc (.cells #[.int .u64 (w0 Y), .int .u64 (w1 Y), .int .u64 (w2 Y), .int .u64 (w3 Y)] 66)).alloc (.cells #[.int .u64 0, .int .u64 0, .int .u64 0, .int .u64 0] 66)) = u0 at *
 have HS : Hid (∀ V, Below u0.heap.size u0 V → Cells4 (w.heap.size + 1) Y V) := Lib.hid fun V hV => B.out.ycells.of_below B.out.l1 hV
 obtain ⟨bl, l0, l1, l2, x0, x1, x2, x3, y0, y1, y2, y3, r0, r1, r2, r3, f0, f1, f2, f3⟩ := B.out
 go_cut [5] (fun s5 u => Made u0 (Y * (Y * Y % pp) % pp) s5 u)
 case first =>
  unfold Cells4 at HS
  go_region_held3 (fun u => (u.cell? ⟨(w.heap.size + 1), 0, none⟩ = some (.int .u64 (w0 Y)) ∧ u.cell? ⟨(w.heap.size + 1), 1, none⟩ = some (.int .u64 (w1 Y)) ∧ u.cell? ⟨(w.heap.size + 1), 2, none⟩ = some (.int .u64 (w2 Y)) ∧ u.cell? ⟨(w.heap.size + 1), 3, none⟩ = some (.int .u64 (w3 Y)))) (exact HS.out _ (by repeat' (first | exact Below.refl _ _ | assumption | refine Below.setCell ?_ ?_ _ | refine Below.alloc ?_ ?_ _ | refine Below.drew ?_ | refine Below.trans ?_ (Below.mono (by assumption) ?_) | (simp; done) | (simp; omega))))
   (first | ((go_at_call_of 82 (Y * Y % pp)); (go_at_call 82; refine (qby Y (Y * Y % pp) _ hY (qa0 _) (hG.below (by repeat' (first | exact Below.refl _ _ | assumption | refine Below.setCell ?_ ?_ _ | refine Below.alloc ?_ ?_ _ | refine Below.drew ?_ | refine Below.trans ?_ (Below.mono (by assumption) ?_) | (simp; done) | (simp; omega))))).mono ?_; rintro e u2 ⟨rfl, hu2⟩; have bu2 : Below u0.heap.size u0 u2 := (by repeat' (first | exact Below.refl _ _ | assumption | refine Below.setCell ?_ ?_ _ | refine Below.alloc ?_ ?_ _ | refine Below.drew ?_ | refine Below.trans ?_ (Below.mono (by assumption) ?_) | (simp; done) | (simp; omega))); have su2 : u0.heap.size ≤ u2.heap.size := Below.size bu2; obtain ⟨cu2, fu2⟩ := bcell hu2; have tu2 := Below.size hu2; (try simp at tu2); (try rw [Nat.add_one_le_iff] at tu2))) | (go_at_call 82; refine (qby Y Y _ hY hY (hG.below (by repeat' (first | exact Below.refl _ _ | assumption | refine Below.setCell ?_ ?_ _ | refine Below.alloc ?_ ?_ _ | refine Below.drew ?_ | refine Below.trans ?_ (Below.mono (by assumption) ?_) | (simp; done) | (simp; omega))))).mono ?_; rintro e u1 ⟨rfl, hu1⟩; have bu1 : Below u0.heap.size u0 u1 := (by repeat' (first | exact Below.refl _ _ | assumption | refine Below.setCell ?_ ?_ _ | refine Below.alloc ?_ ?_ _ | refine Below.drew ?_ | refine Below.trans ?_ (Below.mono (by assumption) ?_) | (simp; done) | (simp; omega))); have su1 : u0.heap.size ≤ u1.heap.size := Below.size bu1; obtain ⟨cu1, fu1⟩ := bcell hu1; have tu1 := Below.size hu1; (try simp at tu1); (try rw [Nat.add_one_le_iff] at tu1)))
  all_goals (go_wp2_with fail; go_meet; first | ((with_reducible refine made_new ?_); repeat' (first | exact Below.refl _ _ | assumption | refine Below.setCell ?_ ?_ _ | refine Below.alloc ?_ ?_ _ | refine Below.drew ?_ | refine Below.trans ?_ (Below.mono (by assumption) ?_) | (simp; done) | (simp; omega)); done) | ((with_reducible refine made_old ?_ ?_ ?_ ?_ ?_ ?_ ?_) <;> (first | exact Nat.le_refl _ | assumption | omega | (first | (rw [cu2 _ _ (by simp; done)]; simp [go_sem]; done) | (rw [cu2 _ _ tu1, cu1 _ _ (by simp; done)]; simp [go_sem]; done)) | (repeat' (first | exact Below.refl _ _ | assumption | refine Below.setCell ?_ ?_ _ | refine Below.alloc ?_ ?_ _ | refine Below.drew ?_ | refine Below.trans ?_ (Below.mono (by assumption) ?_) | (simp; done) | (simp; omega)); done))))
 case rest =>
  obtain ⟨g, rfl, hg1, hg2, hb, hc⟩ := hcut
  have ng : w.heap.size + 1 + 1 < g := by omega
  clear bl l0 l1 l2 x0 x1 x2 x3 y0 y1 y2 y3 r0 r1 r2 r3 f0 f1 f2 f3
  clear HS
  replace hG := hG.below hb
  replace hR := hR.below hb
  replace B := Lib.hid (B.out.next hb)
  clear hb
  have HC : Hid (cubeOf Y = Y * (Y * Y % pp) % pp) := Lib.hid rfl
  have hC := qa0 (Y * (Y * Y % pp))
  generalize Y * (Y * Y % pp) % pp = C at *
  clear hg1 u0
  go_upto_region 2 with fail
  generalize wc = u0 at *
  have HS : Hid (∀ V, Below u0.heap.size u0 V → Cells4 (w.heap.size + 1) Y V ∧ Cells4 g C V) := Lib.hid fun V hV => ⟨B.out.ycells.of_below B.out.l1 hV, hc.of_below hg2 hV⟩
  obtain ⟨bl, l0, l1, l2, x0, x1, x2, x3, y0, y1, y2, y3, r0, r1, r2, r3, f0, f1, f2, f3⟩ := B.out
  obtain ⟨c0, c1, c2, c3⟩ := id hc
  go_cut [6] (fun s6 u => Made u0 (Y * (C * C % pp) % pp) s6 u)
  case first =>
   unfold Cells4 at HS
   go_region_held3 (fun u => (u.cell? ⟨(w.heap.size + 1), 0, none⟩ = some (.int .u64 (w0 Y)) ∧ u.cell? ⟨(w.heap.size + 1), 1, none⟩ = some (.int .u64 (w1 Y)) ∧ u.cell? ⟨(w.heap.size + 1), 2, none⟩ = some (.int .u64 (w2 Y)) ∧ u.cell? ⟨(w.heap.size + 1), 3, none⟩ = some (.int .u64 (w3 Y))) ∧ (u.cell? ⟨g, 0, none⟩ = some (.int .u64 (w0 C)) ∧ u.cell? ⟨g, 1, none⟩ = some (.int .u64 (w1 C)) ∧ u.cell? ⟨g, 2, none⟩ = some (.int .u64 (w2 C)) ∧ u.cell? ⟨g, 3, none⟩ = some (.int .u64 (w3 C)))) (exact HS.out _ (by repeat' (first | exact Below.refl _ _ | assumption | refine Below.setCell ?_ ?_ _ | refine Below.alloc ?_ ?_ _ | refine Below.drew ?_ | refine Below.trans ?_ (Below.mono (by assumption) ?_) | (simp; done) | (simp; omega))))
    (first | ((go_at_call_of 82 (C * C % pp)); (go_at_call 82; refine (qby Y (C * C % pp) _ hY (qa0 _) (hG.below (by repeat' (first | exact Below.refl _ _ | assumption | refine Below.setCell ?_ ?_ _ | refine Below.alloc ?_ ?_ _ | refine Below.drew ?_ | refine Below.trans ?_ (Below.mono (by assumption) ?_) | (simp; done) | (simp; omega))))).mono ?_; rintro e u2 ⟨rfl, hu2⟩; have bu2 : Below u0.heap.size u0 u2 := (by repeat' (first | exact Below.refl _ _ | assumption | refine Below.setCell ?_ ?_ _ | refine Below.alloc ?_ ?_ _ | refine Below.drew ?_ | refine Below.trans ?_ (Below.mono (by assumption) ?_) | (simp; done) | (simp; omega))); have su2 : u0.heap.size ≤ u2.heap.size := Below.size bu2; obtain ⟨cu2, fu2⟩ := bcell hu2; have tu2 := Below.size hu2; (try simp at tu2); (try rw [Nat.add_one_le_iff] at tu2))) | (go_at_call 82; refine (qby C C _ hC hC (hG.below (by repeat' (first | exact Below.refl _ _ | assumption | refine Below.setCell ?_ ?_ _ | refine Below.alloc ?_ ?_ _ | refine Below.drew ?_ | refine Below.trans ?_ (Below.mono (by assumption) ?_) | (simp; done) | (simp; omega))))).mono ?_; rintro e u1 ⟨rfl, hu1⟩; have bu1 : Below u0.heap.size u0 u1 := (by repeat' (first | exact Below.refl _ _ | assumption | refine Below.setCell ?_ ?_ _ | refine Below.alloc ?_ ?_ _ | refine Below.drew ?_ | refine Below.trans ?_ (Below.mono (by assumption) ?_) | (simp; done) | (simp; omega))); have su1 : u0.heap.size ≤ u1.heap.size := Below.size bu1; obtain ⟨cu1, fu1⟩ := bcell hu1; have tu1 := Below.size hu1; (try simp at tu1); (try rw [Nat.add_one_le_iff] at tu1)))
   all_goals (go_wp2_with fail; go_meet; first | ((with_reducible refine made_new ?_); repeat' (first | exact Below.refl _ _ | assumption | refine Below.setCell ?_ ?_ _ | refine Below.alloc ?_ ?_ _ | refine Below.drew ?_ | refine Below.trans ?_ (Below.mono (by assumption) ?_) | (simp; done) | (simp; omega)); done) | ((with_reducible refine made_old ?_ ?_ ?_ ?_ ?_ ?_ ?_) <;> (first | exact Nat.le_refl _ | assumption | omega | (first | (rw [cu2 _ _ (by simp; done)]; simp [go_sem]; done) | (rw [cu2 _ _ tu1, cu1 _ _ (by simp; done)]; simp [go_sem]; done)) | (repeat' (first | exact Below.refl _ _ | assumption | refine Below.setCell ?_ ?_ _ | refine Below.alloc ?_ ?_ _ | refine Below.drew ?_ | refine Below.trans ?_ (Below.mono (by assumption) ?_) | (simp; done) | (simp; omega)); done))))
  case rest =>
   obtain ⟨q, rfl, hq1, hq2, hb, hd⟩ := hcut
   have nq : w.heap.size + 1 + 1 < q := by omega
   clear bl l0 l1 l2 x0 x1 x2 x3 y0 y1 y2 y3 r0 r1 r2 r3 f0 f1 f2 f3
   clear HS c0 c1 c2 c3
   replace hG := hG.below hb
   replace hR := hR.below hb
   replace B := Lib.hid (B.out.next hb)
   replace hc := hc.of_below hg2 hb
   replace hg2 := Nat.lt_of_lt_of_le hg2 hb.size
   clear hb hq1
   have HD : Hid (sevOf Y = Y * (C * C % pp) % pp) := Lib.hid (by unfold sevOf; rw [HC.out])
   have hD := qa0 (Y * (C * C % pp))
   generalize Y * (C * C % pp) % pp = D at *
   clear u0
   go_upto_region 3 with fail
   generalize wc = u0 at *
   have HS : Hid (∀ V, Below u0.heap.size u0 V → Cells4 w.heap.size X V ∧ Cells4 g C V ∧ Cells4 q D V ∧ Cells4 7 rp V) := Lib.hid fun V hV => ⟨B.out.xcells.of_below B.out.l0 hV, hc.of_below hg2 hV, hd.of_below hq2 hV, hR.cells.of_below hR.lt hV⟩
   have HF : Hid (∀ V v0 v1 v2 v3, (Cells4 w.heap.size X V ∧ Cells4 g C V ∧ Cells4 q D V ∧ Cells4 7 rp V) → (fun V => Cells4 w.heap.size X V ∧ Cells4 g C V ∧ Cells4 q D V ∧ Cells4 7 rp V) ((((V.setCell ⟨w.heap.size + 1 + 1, 0, none⟩ v0).setCell ⟨w.heap.size + 1 + 1, 1, none⟩ v1).setCell ⟨w.heap.size + 1 + 1, 2, none⟩ v2).setCell ⟨w.heap.size + 1 + 1, 3, none⟩ v3)) := Lib.hid fun V v0 v1 v2 v3 h => ⟨h.1.far (by omega) v0 v1 v2 v3, h.2.1.far (by omega) v0 v1 v2 v3, h.2.2.1.far (by omega) v0 v1 v2 v3, h.2.2.2.far (by omega) v0 v1 v2 v3⟩
   unfold Cells4 at HS HF
   obtain ⟨bl, l0, l1, l2, x0, x1, x2, x3, y0, y1, y2, y3, r0, r1, r2, r3, f0, f1, f2, f3⟩ := B.out
   obtain ⟨c0, c1, c2, c3⟩ := hc
   obtain ⟨d0, d1, d2, d3⟩ := hd
   obtain ⟨e0, e1, e2, e3, e4⟩ := id hR
   go_region_held3 (fun u => (u.cell? ⟨w.heap.size, 0, none⟩ = some (.int .u64 (w0 X)) ∧ u.cell? ⟨w.heap.size, 1, none⟩ = some (.int .u64 (w1 X)) ∧ u.cell? ⟨w.heap.size, 2, none⟩ = some (.int .u64 (w2 X)) ∧ u.cell? ⟨w.heap.size, 3, none⟩ = some (.int .u64 (w3 X))) ∧ (u.cell? ⟨g, 0, none⟩ = some (.int .u64 (w0 C)) ∧ u.cell? ⟨g, 1, none⟩ = some (.int .u64 (w1 C)) ∧ u.cell? ⟨g, 2, none⟩ = some (.int .u64 (w2 C)) ∧ u.cell? ⟨g, 3, none⟩ = some (.int .u64 (w3 C))) ∧ (u.cell? ⟨q, 0, none⟩ = some (.int .u64 (w0 D)) ∧ u.cell? ⟨q, 1, none⟩ = some (.int .u64 (w1 D)) ∧ u.cell? ⟨q, 2, none⟩ = some (.int .u64 (w2 D)) ∧ u.cell? ⟨q, 3, none⟩ = some (.int .u64 (w3 D))) ∧ (u.cell? ⟨7, 0, none⟩ = some (.int .u64 (w0 rp)) ∧ u.cell? ⟨7, 1, none⟩ = some (.int .u64 (w1 rp)) ∧ u.cell? ⟨7, 2, none⟩ = some (.int .u64 (w2 rp)) ∧ u.cell? ⟨7, 3, none⟩ = some (.int .u64 (w3 rp)))) (first | ((with_reducible refine HF.out _ _ _ _ _ ?_); exact HS.out _ (by repeat' (first | exact Below.refl _ _ | assumption | refine Below.setCell ?_ ?_ _ | refine Below.alloc ?_ ?_ _ | refine Below.drew ?_ | refine Below.trans ?_ (Below.mono (by assumption) ?_) | (simp; done) | (simp; omega)))) | (exact HS.out _ (by repeat' (first | exact Below.refl _ _ | assumption | refine Below.setCell ?_ ?_ _ | refine Below.alloc ?_ ?_ _ | refine Below.drew ?_ | refine Below.trans ?_ (Below.mono (by assumption) ?_) | (simp; done) | (simp; omega)))))
    (first | ((go_at_call_of 82 (X * C % pp)); ((go_at_call 82; refine (qby (X * C % pp) ((X * D % pp) ^ rp.toNat % pp) _ (qa0 _) (qa0 _) (hG.below (by repeat' (first | exact Below.refl _ _ | assumption | refine Below.setCell ?_ ?_ _ | refine Below.alloc ?_ ?_ _ | refine Below.drew ?_ | refine Below.trans ?_ (Below.mono (by assumption) ?_) | (simp; done) | (simp; omega))))).mono ?_; rintro e u4 ⟨rfl, hu4⟩; have bu4 : Below u0.heap.size u0 u4 := (by repeat' (first | exact Below.refl _ _ | assumption | refine Below.setCell ?_ ?_ _ | refine Below.alloc ?_ ?_ _ | refine Below.drew ?_ | refine Below.trans ?_ (Below.mono (by assumption) ?_) | (simp; done) | (simp; omega))); have su4 : u0.heap.size ≤ u4.heap.size := Below.size bu4; obtain ⟨cu4, fu4⟩ := bcell hu4; have tu4 := Below.size hu4; (try simp at tu4); (try rw [Nat.add_one_le_iff] at tu4)); obtain ⟨bl, l0, l1, l2, x0, x1, x2, x3, y0, y1, y2, y3, r0, r1, r2, r3, f0, f1, f2, f3⟩ := B.out.next bu4)) | ((go_at_call_of 82 (w0 C)); ((go_at_call 82; refine (qby X C _ hX hC (hG.below (by repeat' (first | exact Below.refl _ _ | assumption | refine Below.setCell ?_ ?_ _ | refine Below.alloc ?_ ?_ _ | refine Below.drew ?_ | refine Below.trans ?_ (Below.mono (by assumption) ?_) | (simp; done) | (simp; omega))))).mono ?_; rintro e u1 ⟨rfl, hu1⟩; have bu1 : Below u0.heap.size u0 u1 := (by repeat' (first | exact Below.refl _ _ | assumption | refine Below.setCell ?_ ?_ _ | refine Below.alloc ?_ ?_ _ | refine Below.drew ?_ | refine Below.trans ?_ (Below.mono (by assumption) ?_) | (simp; done) | (simp; omega))); have su1 : u0.heap.size ≤ u1.heap.size := Below.size bu1; obtain ⟨cu1, fu1⟩ := bcell hu1; have tu1 := Below.size hu1; (try simp at tu1); (try rw [Nat.add_one_le_iff] at tu1)); obtain ⟨bl, l0, l1, l2, x0, x1, x2, x3, y0, y1, y2, y3, r0, r1, r2, r3, f0, f1, f2, f3⟩ := B.out.next bu1)) | ((go_at_call_of 82 (w0 D)); ((go_at_call 82; refine (qby X D _ hX hD (hG.below (by repeat' (first | exact Below.refl _ _ | assumption | refine Below.setCell ?_ ?_ _ | refine Below.alloc ?_ ?_ _ | refine Below.drew ?_ | refine Below.trans ?_ (Below.mono (by assumption) ?_) | (simp; done) | (simp; omega))))).mono ?_; rintro e u2 ⟨rfl, hu2⟩; have bu2 : Below u0.heap.size u0 u2 := (by repeat' (first | exact Below.refl _ _ | assumption | refine Below.setCell ?_ ?_ _ | refine Below.alloc ?_ ?_ _ | refine Below.drew ?_ | refine Below.trans ?_ (Below.mono (by assumption) ?_) | (simp; done) | (simp; omega))); have su2 : u0.heap.size ≤ u2.heap.size := Below.size bu2; obtain ⟨cu2, fu2⟩ := bcell hu2; have tu2 := Below.size hu2; (try simp at tu2); (try rw [Nat.add_one_le_iff] at tu2)); obtain ⟨bl, l0, l1, l2, x0, x1, x2, x3, y0, y1, y2, y3, r0, r1, r2, r3, f0, f1, f2, f3⟩ := B.out.next bu2)) | ((go_at_call 91; refine (pow_any (X * D % pp) rp _ (qa0 _) num_rp (hG.below (by repeat' (first | exact Below.refl _ _ | assumption | refine Below.setCell ?_ ?_ _ | refine Below.alloc ?_ ?_ _ | refine Below.drew ?_ | refine Below.trans ?_ (Below.mono (by assumption) ?_) | (simp; done) | (simp; omega))))).mono ?_; rintro e u3 ⟨rfl, hu3⟩; have bu3 : Below u0.heap.size u0 u3 := (by repeat' (first | exact Below.refl _ _ | assumption | refine Below.setCell ?_ ?_ _ | refine Below.alloc ?_ ?_ _ | refine Below.drew ?_ | refine Below.trans ?_ (Below.mono (by assumption) ?_) | (simp; done) | (simp; omega))); have su3 : u0.heap.size ≤ u3.heap.size := Below.size bu3; obtain ⟨cu3, fu3⟩ := bcell hu3; have tu3 := Below.size hu3; (try simp at tu3); (try rw [Nat.add_one_le_iff] at tu3)); obtain ⟨bl, l0, l1, l2, x0, x1, x2, x3, y0, y1, y2, y3, r0, r1, r2, r3, f0, f1, f2, f3⟩ := B.out.next bu3))
   go_wp2_with fail
   refine bodyPost_ret (v := feV (X * C % pp * ((X * D % pp) ^ rp.toNat % pp) % pp)) (by simp [results, Tryd.results89, go_sem, r0, r1, r2, r3]) rfl ⟨by unfold qb8; rw [HD.out, HC.out], ?_⟩
   repeat' (first | exact Below.refl _ _ | assumption | refine Below.setCell ?_ ?_ _ | refine Below.alloc ?_ ?_ _ | refine Below.drew ?_ | refine Below.trans ?_ (Below.mono (by assumption) ?_) | (simp; done) | (simp; omega))
end Go.Proofs.YtcgbgmbnagmohaaDoor
