/- What field.Root does. -/
import Derived.Test.YtabfjdljeebjbaaDoorRoot1
namespace Go.Proofs.YtabfjdljeebjbaaDoor
open Go.RowKit

/-- Two numbers held against each other. -/
theorem run_eq4 (a0 a1 a2 a3 b0 b1 b2 b3 : Int) (w : World) : (Op.equalIn 10000 26 (.agg #[.int .u64 a0, .int .u64 a1, .int .u64 a2, .int .u64 a3]) (.agg #[.int .u64 b0, .int .u64 b1, .int .u64 b2, .int .u64 b3])).run Tryd.prog w = .ok (a0 == b0 && a1 == b1 && a2 == b2 && a3 == b3) w := by
  have hu := Tryd.underlying23
  have ha := Tryd.isAgg23
  have hz := Tryd.sizeOf23
  rw [show (10000 : Nat) = 9999 + 1 from rfl, Op.equalIn]
  simp only [Sem.run_bind, run_underlying Tryd.underlying26, Result.andThen_ok]
  simp only [Std.Legacy.Range.forIn_eq_forIn_range', Std.Legacy.Range.size, Nat.sub_zero, Nat.add_sub_cancel, Nat.div_one, List.range'_succ, List.range'_zero, List.forIn_cons, List.forIn_nil]
  go_simp
  by_cases h1 : a0 = b0 <;> by_cases h2 : a1 = b1 <;> by_cases h3 : a2 = b2 <;> by_cases h4 : a3 = b3 <;> simp [h1, h2, h3, h4]
theorem run_eqFe {M Z : Int} (hM : Num M) (hZ : Num Z) (w : World) : (Op.equalIn 10000 26 (feV M) (feV Z)).run Tryd.prog w = .ok (decide (M = Z)) w := by
  rw [run_eq4]
  congr 1
  by_cases h : M = Z
  · subst h; simp
  · have hn : ¬ (w0 M = w0 Z ∧ w1 M = w1 Z ∧ w2 M = w2 Z ∧ w3 M = w3 Z) := fun ⟨h0, h1, h2, h3⟩ => h (feV_inj hM hZ h0 h1 h2 h3)
    rw [decide_eq_false h]
    simp only [Bool.and_eq_false_iff, beq_eq_false_iff_ne]
    by_cases e0 : w0 M = w0 Z
    · by_cases e1 : w1 M = w1 Z
      · by_cases e2 : w2 M = w2 Z
        · exact .inr fun e3 => hn ⟨e0, e1, e2, e3⟩
        · exact .inl (.inr e2)
      · exact .inl (.inl (.inr e1))
    · exact .inl (.inl (.inl e0))
theorem eqFe_true {M Z : Int} (hM : Num M) (h : M = Z) : ∀ v, (Op.equalIn 10000 26 (feV M) (feV Z)).run Tryd.prog v = .ok true v := fun v => by rw [run_eqFe hM (h ▸ hM), decide_eq_true h]
theorem eqFe_false {M Z : Int} (hM : Num M) (hZ : Num Z) (h : M ≠ Z) : ∀ v, (Op.equalIn 10000 26 (feV M) (feV Z)).run Tryd.prog v = .ok false v := fun v => by rw [run_eqFe hM hZ, decide_eq_false h]

/-- What Root tells. -/
def rootB (X Y : Int) : Bool := (Y * (nearOf X Y * nearOf X Y % pp) % pp == X % pp) || (Y * (nearOf X Y * nearOf X Y % pp) % pp == -X % pp)
def rootN (X Y : Int) : Int := if Y * (nearOf X Y * nearOf X Y % pp) % pp = X % pp then evn (nearOf X Y) else if Y * (nearOf X Y * nearOf X Y % pp) % pp = -X % pp then evn (nearOf X Y * (2 ^ mp.toNat % pp) % pp) else 0
theorem near_num (X Y : Int) : Num (nearOf X Y) := num_emod_pp _

set_option maxHeartbeats 2000000 in
theorem root_any (X Y : Int) (w : World) (hX : Num X) (hY : Num Y) (hG : GCell 0 pp w) (hR : GCell 3 rp w) (hM : GCell 2 mp w) :
    Calls Tryd.prog 27 #[feV X, feV Y] w fun e w' => e = .returned (.tuple #[feV (rootN X Y), .bool (rootB X Y)]) ∧ Below w.heap.size w w' := by
  have B := Lib.hid (Box2.start w X Y)
  replace hG := hG.below B.out.bl
  have gM : 2 < w.heap.size := hM.lt
  replace hR := hR.below B.out.bl
  replace hM := hM.below B.out.bl
  have hN := near_num X Y
  have ER : Hid (rootN X Y = if Y * (nearOf X Y * nearOf X Y % pp) % pp = X % pp then evn (nearOf X Y) else if Y * (nearOf X Y * nearOf X Y % pp) % pp = -X % pp then evn (nearOf X Y * (2 ^ mp.toNat % pp) % pp) else 0) := Lib.hid rfl
  have EB : Hid (rootB X Y = ((Y * (nearOf X Y * nearOf X Y % pp) % pp == X % pp) || (Y * (nearOf X Y * nearOf X Y % pp) % pp == -X % pp))) := Lib.hid rfl
  go_enter Tryd.func27, Tryd.ntmps27
  go_wp2_with fail
  refine (nearRoot_any X Y _ hX hY hG hR).mono ?_
  rintro e u ⟨rfl, hb⟩
  generalize nearOf X Y = N at *
  replace hG := hG.below hb
  replace hM := hM.below hb
  replace B := Lib.hid (B.out.next hb); obtain ⟨bl, l0, l1, l2, x0, x1, x2, x3, y0, y1, y2, y3, r0, r1, r2, r3, f0, f1, f2, f3⟩ := B.out; clear hb
  go_upto_region 2 with fail
  have hV := Var4.new u N
  have hb1 : Below u.heap.size u (u.alloc (.cells #[.int .u64 (w0 N), .int .u64 (w1 N), .int .u64 (w2 N), .int .u64 (w3 N)] 26)) := (Below.refl _ _).alloc (Nat.le_refl _) _
  replace B := Lib.hid (B.out.next hb1)
  replace hG := hG.below hb1
  replace hM := hM.below hb1
  have ng : w.heap.size + 1 + 1 < u.heap.size := l2
  clear bl l0 l1 l2 x0 x1 x2 x3 y0 y1 y2 y3 r0 r1 r2 r3 f0 f1 f2 f3
  clear hb1
  generalize u.alloc (.cells #[.int .u64 (w0 N), .int .u64 (w1 N), .int .u64 (w2 N), .int .u64 (w3 N)] 26) = u0 at *
  generalize u.heap.size = g at *
  have HS : Hid (∀ V, Below u0.heap.size u0 V → Cells4 (w.heap.size + 1) Y V ∧ Cells4 g N V) := Lib.hid fun V hV' => ⟨B.out.ycells.of_below B.out.l1 hV', Cells4.of_below ⟨hV.c0, hV.c1, hV.c2, hV.c3⟩ hV.lt hV'⟩
  obtain ⟨bl, l0, l1, l2, x0, x1, x2, x3, y0, y1, y2, y3, r0, r1, r2, r3, f0, f1, f2, f3⟩ := B.out
  obtain ⟨vl, v0, v1, v2, v3, vf0, vf1, vf2, vf3⟩ := id hV
  go_cut [7] (fun s7 u => Made u0 (Y * (N * N % pp) % pp) s7 u)
  case first =>
    unfold Cells4 at HS
    go_region_held3 (fun u => (u.cell? ⟨(w.heap.size + 1), 0, none⟩ = some (.int .u64 (w0 Y)) ∧ u.cell? ⟨(w.heap.size + 1), 1, none⟩ = some (.int .u64 (w1 Y)) ∧ u.cell? ⟨(w.heap.size + 1), 2, none⟩ = some (.int .u64 (w2 Y)) ∧ u.cell? ⟨(w.heap.size + 1), 3, none⟩ = some (.int .u64 (w3 Y))) ∧ (u.cell? ⟨g, 0, none⟩ = some (.int .u64 (w0 N)) ∧ u.cell? ⟨g, 1, none⟩ = some (.int .u64 (w1 N)) ∧ u.cell? ⟨g, 2, none⟩ = some (.int .u64 (w2 N)) ∧ u.cell? ⟨g, 3, none⟩ = some (.int .u64 (w3 N)))) (exact HS.out _ (by repeat' (first | exact Below.refl _ _ | assumption | refine Below.setCell ?_ ?_ _ | refine Below.alloc ?_ ?_ _ | refine Below.drew ?_ | refine Below.trans ?_ (Below.mono (by assumption) ?_) | (simp; done) | (simp; omega))))
      (first | ((go_at_call_of 15 (N * N % pp)); (go_at_call 15; refine (mul_any Y (N * N % pp) _ hY (num_emod_pp _) (hG.below (by repeat' (first | exact Below.refl _ _ | assumption | refine Below.setCell ?_ ?_ _ | refine Below.alloc ?_ ?_ _ | refine Below.drew ?_ | refine Below.trans ?_ (Below.mono (by assumption) ?_) | (simp; done) | (simp; omega))))).mono ?_; rintro e u2 ⟨rfl, hu2⟩; have bu2 : Below u0.heap.size u0 u2 := (by repeat' (first | exact Below.refl _ _ | assumption | refine Below.setCell ?_ ?_ _ | refine Below.alloc ?_ ?_ _ | refine Below.drew ?_ | refine Below.trans ?_ (Below.mono (by assumption) ?_) | (simp; done) | (simp; omega))); have su2 : u0.heap.size ≤ u2.heap.size := Below.size bu2; obtain ⟨cu2, fu2⟩ := bcell hu2; have tu2 := Below.size hu2; (try simp at tu2); (try rw [Nat.add_one_le_iff] at tu2))) | (go_at_call 15; refine (mul_any N N _ hN hN (hG.below (by repeat' (first | exact Below.refl _ _ | assumption | refine Below.setCell ?_ ?_ _ | refine Below.alloc ?_ ?_ _ | refine Below.drew ?_ | refine Below.trans ?_ (Below.mono (by assumption) ?_) | (simp; done) | (simp; omega))))).mono ?_; rintro e u1 ⟨rfl, hu1⟩; have bu1 : Below u0.heap.size u0 u1 := (by repeat' (first | exact Below.refl _ _ | assumption | refine Below.setCell ?_ ?_ _ | refine Below.alloc ?_ ?_ _ | refine Below.drew ?_ | refine Below.trans ?_ (Below.mono (by assumption) ?_) | (simp; done) | (simp; omega))); have su1 : u0.heap.size ≤ u1.heap.size := Below.size bu1; obtain ⟨cu1, fu1⟩ := bcell hu1; have tu1 := Below.size hu1; (try simp at tu1); (try rw [Nat.add_one_le_iff] at tu1)))
    all_goals (go_wp2_with fail; go_meet; first | ((with_reducible refine made_new ?_); repeat' (first | exact Below.refl _ _ | assumption | refine Below.setCell ?_ ?_ _ | refine Below.alloc ?_ ?_ _ | refine Below.drew ?_ | refine Below.trans ?_ (Below.mono (by assumption) ?_) | (simp; done) | (simp; omega)); done) | ((with_reducible refine made_old ?_ ?_ ?_ ?_ ?_ ?_ ?_) <;> (first | exact Nat.le_refl _ | assumption | omega | (first | (rw [cu2 _ _ (by simp; done)]; simp [go_sem]; done) | (rw [cu2 _ _ tu1, cu1 _ _ (by simp; done)]; simp [go_sem]; done)) | (repeat' (first | exact Below.refl _ _ | assumption | refine Below.setCell ?_ ?_ _ | refine Below.alloc ?_ ?_ _ | refine Below.drew ?_ | refine Below.trans ?_ (Below.mono (by assumption) ?_) | (simp; done) | (simp; omega)); done))))
  case rest =>
    obtain ⟨q, rfl, hq1, hq2, hb, hd⟩ := hcut
    have nq : w.heap.size + 1 + 1 < q := by omega
    clear bl l0 l1 l2 x0 x1 x2 x3 y0 y1 y2 y3 r0 r1 r2 r3 f0 f1 f2 f3
    clear vl v0 v1 v2 v3 vf0 vf1 vf2 vf3
    clear HS
    replace hG := hG.below hb
    replace hM := hM.below hb
    replace B := Lib.hid (B.out.next hb)
    replace hV := hV.below hb
    clear hb hq1
    have hZ := num_emod_pp (Y * (N * N % pp))
    generalize Y * (N * N % pp) % pp = M at *
    clear u0
    generalize wc = u0 at *
    go_upto_region 3 with fail
    have HS : Hid (∀ V, Below u0.heap.size u0 V → Cells4 w.heap.size X V ∧ Cells4 q M V) := Lib.hid fun V hV' => ⟨B.out.xcells.of_below B.out.l0 hV', hd.of_below hq2 hV'⟩
    unfold Cells4 at HS
    obtain ⟨bl, l0, l1, l2, x0, x1, x2, x3, y0, y1, y2, y3, r0, r1, r2, r3, f0, f1, f2, f3⟩ := B.out
    obtain ⟨vl, v0, v1, v2, v3, vf0, vf1, vf2, vf3⟩ := id hV
    obtain ⟨d0, d1, d2, d3⟩ := id hd
    have hXp := num_emod_pp X
    by_cases hm : M = X % pp
    · have hE := eqFe_true hZ hm
      have HM := Lib.hid hm; clear hm
      go_region_held3 (fun u => (u.cell? ⟨w.heap.size, 0, none⟩ = some (.int .u64 (w0 X)) ∧ u.cell? ⟨w.heap.size, 1, none⟩ = some (.int .u64 (w1 X)) ∧ u.cell? ⟨w.heap.size, 2, none⟩ = some (.int .u64 (w2 X)) ∧ u.cell? ⟨w.heap.size, 3, none⟩ = some (.int .u64 (w3 X))) ∧ (u.cell? ⟨q, 0, none⟩ = some (.int .u64 (w0 M)) ∧ u.cell? ⟨q, 1, none⟩ = some (.int .u64 (w1 M)) ∧ u.cell? ⟨q, 2, none⟩ = some (.int .u64 (w2 M)) ∧ u.cell? ⟨q, 3, none⟩ = some (.int .u64 (w3 M)))) (exact HS.out _ (by repeat' (first | exact Below.refl _ _ | assumption | refine Below.setCell ?_ ?_ _ | refine Below.alloc ?_ ?_ _ | refine Below.drew ?_ | refine Below.trans ?_ (Below.mono (by assumption) ?_) | (simp; done) | (simp; omega))))
        (first | ((go_at_call 19; refine (canon_any X _ hX (hG.below (by repeat' (first | exact Below.refl _ _ | assumption | refine Below.setCell ?_ ?_ _ | refine Below.alloc ?_ ?_ _ | refine Below.drew ?_ | refine Below.trans ?_ (Below.mono (by assumption) ?_) | (simp; done) | (simp; omega))))).mono ?_; rintro e u1 ⟨rfl, hu1⟩; have bu1 : Below u0.heap.size u0 u1 := (by repeat' (first | exact Below.refl _ _ | assumption | refine Below.setCell ?_ ?_ _ | refine Below.alloc ?_ ?_ _ | refine Below.drew ?_ | refine Below.trans ?_ (Below.mono (by assumption) ?_) | (simp; done) | (simp; omega))); have su1 : u0.heap.size ≤ u1.heap.size := Below.size bu1; obtain ⟨cu1, fu1⟩ := bcell hu1; have tu1 := Below.size hu1; (try simp at tu1); (try rw [Nat.add_one_le_iff] at tu1)); obtain ⟨bl, l0, l1, l2, x0, x1, x2, x3, y0, y1, y2, y3, r0, r1, r2, r3, f0, f1, f2, f3⟩ := B.out.next bu1))
      have hV1 := hV.below bu1
      have hG1 := hG.below bu1
      clear vl v0 v1 v2 v3 vf0 vf1 vf2 vf3
      obtain ⟨vl, v0, v1, v2, v3, vf0, vf1, vf2, vf3⟩ := hV1
      go_wp2_with fail
      refine (even_any N _ hN hG1).mono ?_
      rintro e u2 ⟨rfl, hb⟩
      replace B := Lib.hid ((B.out.next bu1).next hb)
      clear bl l0 l1 l2 x0 x1 x2 x3 y0 y1 y2 y3 r0 r1 r2 r3 f0 f1 f2 f3
      obtain ⟨bl, l0, l1, l2, x0, x1, x2, x3, y0, y1, y2, y3, r0, r1, r2, r3, f0, f1, f2, f3⟩ := B.out
      go_wp2_with fail
      refine bodyPost_ret (v := .tuple #[feV (evn N), .bool true]) (by simp [results, Tryd.results27, go_sem, r0, r1, r2, r3]) rfl ⟨by rw [ER.out, EB.out, if_pos HM.out, HM.out]; simp, ?_⟩
      repeat' (first | exact Below.refl _ _ | assumption | refine Below.setCell ?_ ?_ _ | refine Below.alloc ?_ ?_ _ | refine Below.drew ?_ | refine Below.trans ?_ (Below.mono (by assumption) ?_) | (simp; done) | (simp; omega))
    · have hE := eqFe_false hZ hXp hm
      have HM := Lib.hid hm; clear hm
      go_region_held3 (fun u => (u.cell? ⟨w.heap.size, 0, none⟩ = some (.int .u64 (w0 X)) ∧ u.cell? ⟨w.heap.size, 1, none⟩ = some (.int .u64 (w1 X)) ∧ u.cell? ⟨w.heap.size, 2, none⟩ = some (.int .u64 (w2 X)) ∧ u.cell? ⟨w.heap.size, 3, none⟩ = some (.int .u64 (w3 X))) ∧ (u.cell? ⟨q, 0, none⟩ = some (.int .u64 (w0 M)) ∧ u.cell? ⟨q, 1, none⟩ = some (.int .u64 (w1 M)) ∧ u.cell? ⟨q, 2, none⟩ = some (.int .u64 (w2 M)) ∧ u.cell? ⟨q, 3, none⟩ = some (.int .u64 (w3 M)))) (exact HS.out _ (by repeat' (first | exact Below.refl _ _ | assumption | refine Below.setCell ?_ ?_ _ | refine Below.alloc ?_ ?_ _ | refine Below.drew ?_ | refine Below.trans ?_ (Below.mono (by assumption) ?_) | (simp; done) | (simp; omega))))
        (first | ((go_at_call 19; refine (canon_any X _ hX (hG.below (by repeat' (first | exact Below.refl _ _ | assumption | refine Below.setCell ?_ ?_ _ | refine Below.alloc ?_ ?_ _ | refine Below.drew ?_ | refine Below.trans ?_ (Below.mono (by assumption) ?_) | (simp; done) | (simp; omega))))).mono ?_; rintro e u1 ⟨rfl, hu1⟩; have bu1 : Below u0.heap.size u0 u1 := (by repeat' (first | exact Below.refl _ _ | assumption | refine Below.setCell ?_ ?_ _ | refine Below.alloc ?_ ?_ _ | refine Below.drew ?_ | refine Below.trans ?_ (Below.mono (by assumption) ?_) | (simp; done) | (simp; omega))); have su1 : u0.heap.size ≤ u1.heap.size := Below.size bu1; obtain ⟨cu1, fu1⟩ := bcell hu1; have tu1 := Below.size hu1; (try simp at tu1); (try rw [Nat.add_one_le_iff] at tu1)); obtain ⟨bl, l0, l1, l2, x0, x1, x2, x3, y0, y1, y2, y3, r0, r1, r2, r3, f0, f1, f2, f3⟩ := B.out.next bu1))
      go_upto_region 5 with fail
      replace B := Lib.hid (B.out.next bu1)
      replace hV := hV.below bu1
      replace hG := hG.below bu1
      replace hM := hM.below bu1
      replace hd := hd.of_below hq2 bu1
      replace hq2 := Nat.lt_of_lt_of_le hq2 bu1.size
      clear vl v0 v1 v2 v3 vf0 vf1 vf2 vf3
      clear HS hE hu1 cu1 fu1 tu1 su1 bu1 d0 d1 d2 d3
      clear bl l0 l1 l2 x0 x1 x2 x3 y0 y1 y2 y3 r0 r1 r2 r3 f0 f1 f2 f3
      clear bl l0 l1 l2 x0 x1 x2 x3 y0 y1 y2 y3 r0 r1 r2 r3 f0 f1 f2 f3 u0
      obtain ⟨u0, hu0⟩ : ∃ u', u' = u1 := ⟨_, rfl⟩
      subst hu0
      have HS : Hid (∀ V, Below u0.heap.size u0 V → Cells4 w.heap.size X V ∧ Cells4 q M V) := Lib.hid fun V hV' => ⟨B.out.xcells.of_below B.out.l0 hV', hd.of_below hq2 hV'⟩
      unfold Cells4 at HS
      obtain ⟨bl, l0, l1, l2, x0, x1, x2, x3, y0, y1, y2, y3, r0, r1, r2, r3, f0, f1, f2, f3⟩ := B.out
      obtain ⟨d0, d1, d2, d3⟩ := id hd
      have hXn := num_emod_pp (-X)
      by_cases hm : M = -X % pp
      · have hE := eqFe_true hZ hm
        have HN := Lib.hid hm; clear hm
        go_region_held3 (fun u => (u.cell? ⟨w.heap.size, 0, none⟩ = some (.int .u64 (w0 X)) ∧ u.cell? ⟨w.heap.size, 1, none⟩ = some (.int .u64 (w1 X)) ∧ u.cell? ⟨w.heap.size, 2, none⟩ = some (.int .u64 (w2 X)) ∧ u.cell? ⟨w.heap.size, 3, none⟩ = some (.int .u64 (w3 X))) ∧ (u.cell? ⟨q, 0, none⟩ = some (.int .u64 (w0 M)) ∧ u.cell? ⟨q, 1, none⟩ = some (.int .u64 (w1 M)) ∧ u.cell? ⟨q, 2, none⟩ = some (.int .u64 (w2 M)) ∧ u.cell? ⟨q, 3, none⟩ = some (.int .u64 (w3 M)))) (exact HS.out _ (by repeat' (first | exact Below.refl _ _ | assumption | refine Below.setCell ?_ ?_ _ | refine Below.alloc ?_ ?_ _ | refine Below.drew ?_ | refine Below.trans ?_ (Below.mono (by assumption) ?_) | (simp; done) | (simp; omega))))
          (first | ((go_at_call 20; refine (neg_any X _ hX (hG.below (by repeat' (first | exact Below.refl _ _ | assumption | refine Below.setCell ?_ ?_ _ | refine Below.alloc ?_ ?_ _ | refine Below.drew ?_ | refine Below.trans ?_ (Below.mono (by assumption) ?_) | (simp; done) | (simp; omega))))).mono ?_; rintro e u1 ⟨rfl, hu1⟩; have bu1 : Below u0.heap.size u0 u1 := (by repeat' (first | exact Below.refl _ _ | assumption | refine Below.setCell ?_ ?_ _ | refine Below.alloc ?_ ?_ _ | refine Below.drew ?_ | refine Below.trans ?_ (Below.mono (by assumption) ?_) | (simp; done) | (simp; omega))); have su1 : u0.heap.size ≤ u1.heap.size := Below.size bu1; obtain ⟨cu1, fu1⟩ := bcell hu1; have tu1 := Below.size hu1; (try simp at tu1); (try rw [Nat.add_one_le_iff] at tu1)); obtain ⟨bl, l0, l1, l2, x0, x1, x2, x3, y0, y1, y2, y3, r0, r1, r2, r3, f0, f1, f2, f3⟩ := B.out.next bu1))
        go_upto_region 6 with fail
        replace B := Lib.hid (B.out.next bu1)
        replace hV := hV.below bu1
        replace hG := hG.below bu1
        replace hM := hM.below bu1
        clear HS hE hu1 cu1 fu1 tu1 su1 bu1 d0 d1 d2 d3 hd hq2
        clear bl l0 l1 l2 x0 x1 x2 x3 y0 y1 y2 y3 r0 r1 r2 r3 f0 f1 f2 f3
        clear bl l0 l1 l2 x0 x1 x2 x3 y0 y1 y2 y3 r0 r1 r2 r3 f0 f1 f2 f3
        clear u0
        obtain ⟨u0, hu0⟩ : ∃ u', u' = u1 := ⟨_, rfl⟩
        subst hu0
        have HS : Hid (∀ V, Below u0.heap.size u0 V → Cells4 g N V ∧ Cells4 2 mp V) := Lib.hid fun V hV' => ⟨Cells4.of_below ⟨hV.c0, hV.c1, hV.c2, hV.c3⟩ hV.lt hV', hM.cells.of_below hM.lt hV'⟩
        have HF : Hid (∀ V v0 v1 v2 v3, (Cells4 g N V ∧ Cells4 2 mp V) → (fun V => Cells4 g N V ∧ Cells4 2 mp V) ((((V.setCell ⟨w.heap.size + 1 + 1, 0, none⟩ v0).setCell ⟨w.heap.size + 1 + 1, 1, none⟩ v1).setCell ⟨w.heap.size + 1 + 1, 2, none⟩ v2).setCell ⟨w.heap.size + 1 + 1, 3, none⟩ v3)) := Lib.hid fun V v0 v1 v2 v3 h => ⟨h.1.far (by omega) v0 v1 v2 v3, h.2.far (by omega) v0 v1 v2 v3⟩
        unfold Cells4 at HS HF
        obtain ⟨bl, l0, l1, l2, x0, x1, x2, x3, y0, y1, y2, y3, r0, r1, r2, r3, f0, f1, f2, f3⟩ := B.out
        obtain ⟨vl, v0, v1, v2, v3, vf0, vf1, vf2, vf3⟩ := id hV
        obtain ⟨e0, e1, e2, e3, e4⟩ := id hM
        go_region_held3 (fun u => (u.cell? ⟨g, 0, none⟩ = some (.int .u64 (w0 N)) ∧ u.cell? ⟨g, 1, none⟩ = some (.int .u64 (w1 N)) ∧ u.cell? ⟨g, 2, none⟩ = some (.int .u64 (w2 N)) ∧ u.cell? ⟨g, 3, none⟩ = some (.int .u64 (w3 N))) ∧ (u.cell? ⟨2, 0, none⟩ = some (.int .u64 (w0 mp)) ∧ u.cell? ⟨2, 1, none⟩ = some (.int .u64 (w1 mp)) ∧ u.cell? ⟨2, 2, none⟩ = some (.int .u64 (w2 mp)) ∧ u.cell? ⟨2, 3, none⟩ = some (.int .u64 (w3 mp)))) (first | ((with_reducible refine HF.out _ _ _ _ _ ?_); exact HS.out _ (by repeat' (first | exact Below.refl _ _ | assumption | refine Below.setCell ?_ ?_ _ | refine Below.alloc ?_ ?_ _ | refine Below.drew ?_ | refine Below.trans ?_ (Below.mono (by assumption) ?_) | (simp; done) | (simp; omega)))) | (exact HS.out _ (by repeat' (first | exact Below.refl _ _ | assumption | refine Below.setCell ?_ ?_ _ | refine Below.alloc ?_ ?_ _ | refine Below.drew ?_ | refine Below.trans ?_ (Below.mono (by assumption) ?_) | (simp; done) | (simp; omega)))))
          (first | ((go_at_call 14; refine (small_any 2 _ (by omega) (by omega)).mono ?_; rintro e u1 ⟨rfl, hu1⟩; have bu1 : Below u0.heap.size u0 u1 := (by repeat' (first | exact Below.refl _ _ | assumption | refine Below.setCell ?_ ?_ _ | refine Below.alloc ?_ ?_ _ | refine Below.drew ?_ | refine Below.trans ?_ (Below.mono (by assumption) ?_) | (simp; done) | (simp; omega))); have su1 : u0.heap.size ≤ u1.heap.size := Below.size bu1; obtain ⟨cu1, fu1⟩ := bcell hu1; have tu1 := Below.size hu1; (try simp at tu1); (try rw [Nat.add_one_le_iff] at tu1)); obtain ⟨bl, l0, l1, l2, x0, x1, x2, x3, y0, y1, y2, y3, r0, r1, r2, r3, f0, f1, f2, f3⟩ := B.out.next bu1) | ((go_at_call 28; refine (pow_any 2 mp _ (by unfold Num; omega) num_mp (hG.below (by repeat' (first | exact Below.refl _ _ | assumption | refine Below.setCell ?_ ?_ _ | refine Below.alloc ?_ ?_ _ | refine Below.drew ?_ | refine Below.trans ?_ (Below.mono (by assumption) ?_) | (simp; done) | (simp; omega))))).mono ?_; rintro e u2 ⟨rfl, hu2⟩; have bu2 : Below u0.heap.size u0 u2 := (by repeat' (first | exact Below.refl _ _ | assumption | refine Below.setCell ?_ ?_ _ | refine Below.alloc ?_ ?_ _ | refine Below.drew ?_ | refine Below.trans ?_ (Below.mono (by assumption) ?_) | (simp; done) | (simp; omega))); have su2 : u0.heap.size ≤ u2.heap.size := Below.size bu2; obtain ⟨cu2, fu2⟩ := bcell hu2; have tu2 := Below.size hu2; (try simp at tu2); (try rw [Nat.add_one_le_iff] at tu2)); obtain ⟨bl, l0, l1, l2, x0, x1, x2, x3, y0, y1, y2, y3, r0, r1, r2, r3, f0, f1, f2, f3⟩ := B.out.next bu2) | ((go_at_call 15; refine (mul_any N (2 ^ mp.toNat % pp) _ hN (num_emod_pp _) (hG.below (by repeat' (first | exact Below.refl _ _ | assumption | refine Below.setCell ?_ ?_ _ | refine Below.alloc ?_ ?_ _ | refine Below.drew ?_ | refine Below.trans ?_ (Below.mono (by assumption) ?_) | (simp; done) | (simp; omega))))).mono ?_; rintro e u3 ⟨rfl, hu3⟩; have bu3 : Below u0.heap.size u0 u3 := (by repeat' (first | exact Below.refl _ _ | assumption | refine Below.setCell ?_ ?_ _ | refine Below.alloc ?_ ?_ _ | refine Below.drew ?_ | refine Below.trans ?_ (Below.mono (by assumption) ?_) | (simp; done) | (simp; omega))); have su3 : u0.heap.size ≤ u3.heap.size := Below.size bu3; obtain ⟨cu3, fu3⟩ := bcell hu3; have tu3 := Below.size hu3; (try simp at tu3); (try rw [Nat.add_one_le_iff] at tu3)); obtain ⟨bl, l0, l1, l2, x0, x1, x2, x3, y0, y1, y2, y3, r0, r1, r2, r3, f0, f1, f2, f3⟩ := B.out.next bu3) | ((go_at_call 37; refine (even_any (N * (2 ^ mp.toNat % pp) % pp) _ (num_emod_pp _) (hG.below (by repeat' (first | exact Below.refl _ _ | assumption | refine Below.setCell ?_ ?_ _ | refine Below.alloc ?_ ?_ _ | refine Below.drew ?_ | refine Below.trans ?_ (Below.mono (by assumption) ?_) | (simp; done) | (simp; omega))))).mono ?_; rintro e u4 ⟨rfl, hu4⟩; have bu4 : Below u0.heap.size u0 u4 := (by repeat' (first | exact Below.refl _ _ | assumption | refine Below.setCell ?_ ?_ _ | refine Below.alloc ?_ ?_ _ | refine Below.drew ?_ | refine Below.trans ?_ (Below.mono (by assumption) ?_) | (simp; done) | (simp; omega))); have su4 : u0.heap.size ≤ u4.heap.size := Below.size bu4; obtain ⟨cu4, fu4⟩ := bcell hu4; have tu4 := Below.size hu4; (try simp at tu4); (try rw [Nat.add_one_le_iff] at tu4)); obtain ⟨bl, l0, l1, l2, x0, x1, x2, x3, y0, y1, y2, y3, r0, r1, r2, r3, f0, f1, f2, f3⟩ := B.out.next bu4))
        go_wp2_with fail
        refine bodyPost_ret (v := .tuple #[feV (evn (N * (2 ^ mp.toNat % pp) % pp)), .bool true]) (by simp [results, Tryd.results27, go_sem, r0, r1, r2, r3]) rfl ⟨by rw [ER.out, EB.out, if_neg HM.out, if_pos HN.out, HN.out]; simp, ?_⟩
        repeat' (first | exact Below.refl _ _ | assumption | refine Below.setCell ?_ ?_ _ | refine Below.alloc ?_ ?_ _ | refine Below.drew ?_ | refine Below.trans ?_ (Below.mono (by assumption) ?_) | (simp; done) | (simp; omega))
      · have hE := eqFe_false hZ hXn hm
        have HN := Lib.hid hm; clear hm
        go_region_held3 (fun u => (u.cell? ⟨w.heap.size, 0, none⟩ = some (.int .u64 (w0 X)) ∧ u.cell? ⟨w.heap.size, 1, none⟩ = some (.int .u64 (w1 X)) ∧ u.cell? ⟨w.heap.size, 2, none⟩ = some (.int .u64 (w2 X)) ∧ u.cell? ⟨w.heap.size, 3, none⟩ = some (.int .u64 (w3 X))) ∧ (u.cell? ⟨q, 0, none⟩ = some (.int .u64 (w0 M)) ∧ u.cell? ⟨q, 1, none⟩ = some (.int .u64 (w1 M)) ∧ u.cell? ⟨q, 2, none⟩ = some (.int .u64 (w2 M)) ∧ u.cell? ⟨q, 3, none⟩ = some (.int .u64 (w3 M)))) (exact HS.out _ (by repeat' (first | exact Below.refl _ _ | assumption | refine Below.setCell ?_ ?_ _ | refine Below.alloc ?_ ?_ _ | refine Below.drew ?_ | refine Below.trans ?_ (Below.mono (by assumption) ?_) | (simp; done) | (simp; omega))))
          (first | ((go_at_call 20; refine (neg_any X _ hX (hG.below (by repeat' (first | exact Below.refl _ _ | assumption | refine Below.setCell ?_ ?_ _ | refine Below.alloc ?_ ?_ _ | refine Below.drew ?_ | refine Below.trans ?_ (Below.mono (by assumption) ?_) | (simp; done) | (simp; omega))))).mono ?_; rintro e u1 ⟨rfl, hu1⟩; have bu1 : Below u0.heap.size u0 u1 := (by repeat' (first | exact Below.refl _ _ | assumption | refine Below.setCell ?_ ?_ _ | refine Below.alloc ?_ ?_ _ | refine Below.drew ?_ | refine Below.trans ?_ (Below.mono (by assumption) ?_) | (simp; done) | (simp; omega))); have su1 : u0.heap.size ≤ u1.heap.size := Below.size bu1; obtain ⟨cu1, fu1⟩ := bcell hu1; have tu1 := Below.size hu1; (try simp at tu1); (try rw [Nat.add_one_le_iff] at tu1)); obtain ⟨bl, l0, l1, l2, x0, x1, x2, x3, y0, y1, y2, y3, r0, r1, r2, r3, f0, f1, f2, f3⟩ := B.out.next bu1))
        go_wp2_with fail
        refine bodyPost_ret (v := .tuple #[.agg #[.int .u64 0, .int .u64 0, .int .u64 0, .int .u64 0], .bool false]) (by simp [results, Tryd.results27, go_sem, r0, r1, r2, r3]) rfl ⟨by rw [ER.out, EB.out, if_neg HM.out, if_neg HN.out, beq_false_of_ne HM.out, beq_false_of_ne HN.out]; rfl, ?_⟩
        repeat' (first | exact Below.refl _ _ | assumption | refine Below.setCell ?_ ?_ _ | refine Below.alloc ?_ ?_ _ | refine Below.drew ?_ | refine Below.trans ?_ (Below.mono (by assumption) ?_) | (simp; done) | (simp; omega))
end Go.Proofs.YtabfjdljeebjbaaDoor
