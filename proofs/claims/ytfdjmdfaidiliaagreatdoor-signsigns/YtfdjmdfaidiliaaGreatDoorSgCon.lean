import Derived.Test.YtfdjmdfaidiliaaGreatDoorSgDef
import Derived.Test.YtfdjmdfaidiliaaGreatDoorEqKeyB
import Derived.Test.YtfdjmdfaidiliaaGreatDoorLy
import Derived.Test.YtfdjmdfaidiliaaGreatDoorEqKeyB
import Derived.Test.YtfdjmdfaidiliaaGreatDoorMixB
import Derived.Test.YtfdjmdfaidiliaaGreatDoorLateG
import Derived.Test.YtfdjmdfaidiliaaGreatDoorScLess
import Derived.Test.YtfdjmdfaidiliaaGreatDoorSl
import Derived.Test.YtfdjmdfaidiliaaGreatDoorScOps
namespace Go.Proofs.YtfdjmdfaidiliaaGreatDoor
open Go.RowKit
set_option maxRecDepth 20000
def kSec : List (BitVec 8) := [157#8, 97#8, 177#8, 157#8, 239#8, 253#8, 90#8, 96#8, 186#8, 132#8, 74#8, 244#8, 146#8, 236#8, 44#8, 196#8, 68#8, 73#8, 197#8, 105#8, 123#8, 50#8, 105#8, 25#8, 112#8, 59#8, 172#8, 3#8, 28#8, 174#8, 127#8, 96#8]
def kPub : List (BitVec 8) := [215#8, 90#8, 152#8, 1#8, 130#8, 177#8, 10#8, 183#8, 213#8, 75#8, 254#8, 211#8, 201#8, 100#8, 7#8, 58#8, 14#8, 225#8, 114#8, 243#8, 218#8, 166#8, 35#8, 37#8, 175#8, 2#8, 26#8, 104#8, 247#8, 7#8, 81#8, 26#8]
def knBits : List Bool := [true, false, false, true, true, true, true, true, true, true, false, true, false, false, true, false, true, false, false, true, true, false, true, true, false, false, true, false, false, false, false, false, false, false, false, false, true, true, false, true, true, true, true, false, false, false, false, false, false, true, false, false, false, false, false, true, false, true, false, false, true, false, true, true, false, true, false, false, false, true, true, true, true, false, false, false, false, false, false, true, false, false, false, false, false, false, false, true, true, false, true, true, false, false, true, false, true, true, false, true, false, false, false, false, false, true, false, false, true, true, true, true, true, true, true, true, true, true, true, true, true, true, true, true, true, false, true, false, false, true, true, true, true, false, false, false, false, false, false, false, false, false, true, false, false, false, false, true, false, true, false, true, true, false, false, false, false, false, false, true, true, true, true, false, false, false, true, false, false, true, false, true, true, true, false, false, true, true, true, true, false, true, false, false, true, false, false, false, false, true, false, true, true, false, false, true, false, true, true, false, false, true, true, false, false, true, true, false, false, true, false, true, false, false, false, false, true, false, false, true, true, true, true, true, false, false, false, false, true, true, false, true, false, false, false, false, false, true, true, false, true, true, true, true, true, false, false, false, false, true, true, false, false, false, false]
theorem rep_is {W : Wd} {P : Pt} {X Y : Int} (h : W.Rep P) (hP : P.Ok) (hX : 0 ≤ X ∧ X < pp) (hY : 0 ≤ Y ∧ Y < pp) (hx : W.x % pp = X * W.z % pp) (hy : W.y % pp = Y * W.z % pp) : P = ⟨X, Y⟩ := by
  have g : ∀ {a b w : Int}, E w (a * W.z) → w % pp = b * W.z % pp → E a b := fun {a b w} h1 h2 => by
    have k : Zr (W.z * (a - b)) := by
      have := Zr.of_E (h1.symm.trans (show E w (b * W.z) from h2))
      rwa [show a * W.z - b * W.z = W.z * (a - b) by grind] at this
    exact Zr.to_E (k.or.resolve_left h.nz)
  have e1 : P.x = X := eq_of_E hP.1 hX (g h.hx hx)
  have e2 : P.y = Y := eq_of_E hP.2 hY (g h.hy hy)
  cases P
  simp only at e1 e2
  rw [e1, e2]
def kX : Int := 38815646466658113194383306759739515082307681141926459231621296960732224964046
def kY : Int := 11903303657706407974989296177215005343713679411332034699907763981919547054807
theorem kX_ok : 0 ≤ kX ∧ kX < pp := by unfold kX pp; decide +kernel
theorem kY_ok : 0 ≤ kY ∧ kY < pp := by unfold kY pp; decide +kernel
theorem kn_run : (wbits ⟨bs.x, bs.y, 1, bs.x * bs.y % pp⟩ knBits ⟨0, 1, 1, 0⟩).x % pp = kX * (wbits ⟨bs.x, bs.y, 1, bs.x * bs.y % pp⟩ knBits ⟨0, 1, 1, 0⟩).z % pp ∧ (wbits ⟨bs.x, bs.y, 1, bs.x * bs.y % pp⟩ knBits ⟨0, 1, 1, 0⟩).y % pp = kY * (wbits ⟨bs.x, bs.y, 1, bs.x * bs.y % pp⟩ knBits ⟨0, 1, 1, 0⟩).z % pp := by decide +kernel
theorem kn_pmul : pmul bs (bn knBits 0) = ⟨kX, kY⟩ := rep_is (rep_bits rep_bs bs_on knBits ⟨0, 1, 1, 0⟩ 0 rep_none) (qdi _ _) kX_ok kY_ok kn_run.1 kn_run.2
set_option maxRecDepth 100000 in
theorem kn_sec : leB (secA kSec) = bn knBits 0 := by decide +kernel
theorem kn_enc : sk (encN ⟨kX, kY⟩) = kPub := by decide +kernel
theorem pub_known : pubB kSec = kPub := by rw [pubB, kn_sec, tmB, kn_pmul, kn_enc]
def q4 : Pt := ⟨19681161376707505956807079304988542015446066515923890162744021073123829784752, 0⟩
theorem q4_on : q4.On := by unfold Pt.On q4 onE Zr dd pp; decide +kernel
theorem q4_ok : q4.Ok := by unfold Pt.Ok q4 pp; decide +kernel
theorem q4_enc : encN q4 = 0 := by decide +kernel
theorem q4_dec : decR 0 = (q4, true) := by have h := dec_enc q4_ok q4_on; rwa [q4_enc] at h
theorem rep_q4 : (⟨q4.x, q4.y, 1, q4.x * q4.y % pp⟩ : Wd).Rep q4 := by have := rep_widen q4; rwa [can_id q4_ok] at this
theorem q4_run : (wbits ⟨q4.x, q4.y, 1, q4.x * q4.y % pp⟩ [true, false, false] ⟨0, 1, 1, 0⟩).x % pp = 0 ∧ (wbits ⟨q4.x, q4.y, 1, q4.x * q4.y % pp⟩ [true, false, false] ⟨0, 1, 1, 0⟩).y % pp = (wbits ⟨q4.x, q4.y, 1, q4.x * q4.y % pp⟩ [true, false, false] ⟨0, 1, 1, 0⟩).z % pp := by decide +kernel
theorem q4_four : pmul q4 4 = nonePt := by
  have h := rep_bits rep_q4 q4_on [true, false, false] ⟨0, 1, 1, 0⟩ 0 rep_none
  rw [show bn [true, false, false] 0 = 4 by decide +kernel] at h
  exact rep_is_none h (qdi _ _) q4_run.1 q4_run.2
theorem ell_four : ell % 4 = 1 := by decide +kernel
theorem q4_ell : pmul q4 ell = q4 := by
  rw [← pmul_rest q4_on q4_four, ell_four, pmul_one q4_ok]
theorem q4_not (m : Nat) : q4 ≠ pmul bs m := fun h => by
  have h1 : pmul q4 ell = nonePt := by rw [h, ← pmul_mul bs_on, Nat.mul_comm, pmul_mul bs_on, ell_none, pmul_none]
  rw [q4_ell] at h1
  have h2 : q4.y = nonePt.y := by rw [h1]
  exact absurd h2 (by decide +kernel)
theorem q4_sum (m : Nat) : padd q4 (pmul bs m) ≠ nonePt := fun h => by
  have e1 : padd (pmul bs m) (pmul bs (m * (ell - 1))) = nonePt := by
    rw [← pmul_add bs_on, show m + m * (ell - 1) = m * ell by rw [Nat.mul_sub, Nat.mul_one]; have : m ≤ m * ell := Nat.le_mul_of_pos_right _ ell_pos; omega, pmul_mul bs_on, ell_none, pmul_none]
  have e2 : q4 = pmul bs (m * (ell - 1)) := by
    have e3 := padd_assoc q4_on (qdh bs_on m) (qdh bs_on (m * (ell - 1)))
    rw [h, e1, padd_none (qdi _ _), padd_none' q4_ok] at e3
    exact e3.symm
  exact q4_not _ e2
theorem zeros_take : (List.replicate 64 (0 : BitVec 8)).take 32 = List.replicate 32 0 ∧ (List.replicate 64 (0 : BitVec 8)).drop 32 = List.replicate 32 0 := by decide
theorem zeros_num : leB (List.replicate 32 0) = 0 := by decide +kernel
theorem ver_known : verB kPub [] (List.replicate 64 0) = false := by
  unfold verB
  rw [zeros_take.1, zeros_take.2, zeros_num, q4_dec, ← pub_known, pubB, dec_tmB, mul_bs, pmul_zero]
  generalize leB (nmB _) = k
  generalize leB (secA kSec) = a
  have h : ¬ (nonePt = addP q4 (mulP k (pmul bs a))) := fun h => by
    rw [mulP_on (qdh bs_on _) (qdi _ _), ← pmul_mul bs_on, addP_on q4_on (qdh bs_on _) q4_ok (qdi _ _)] at h
    exact q4_sum _ h.symm
  rw [decide_eq_false h]
  simp
end Go.Proofs.YtfdjmdfaidiliaaGreatDoor
namespace Go.Proofs.YtfdjmdfaidiliaaGreatDoor
open Go.RowKit
set_option maxRecDepth 20000
set_option maxHeartbeats 2000000 in
theorem eqSgB {l m : List (BitVec 8)} (hl : l.length = 64) (hm : m.length = 64) (w : World) : (Op.equalIn 10000 28 (.agg (l.map b8).toArray) (.agg (m.map b8).toArray)).run Tryz.prog w = .ok (decide (l = m)) w := by
  have hu := Tryz.underlying5
  have ha := Tryz.isAgg5
  have hz := Tryz.sizeOf5
  rw [show (10000 : Nat) = 9999 + 1 from rfl, Op.equalIn]
  simp only [Sem.run_bind, run_underlying Tryz.underlying28, Result.andThen_ok]
  simp only [Std.Legacy.Range.forIn_eq_forIn_range', Std.Legacy.Range.size, Nat.sub_zero, Nat.add_sub_cancel, Nat.div_one]
  have he : ∀ i, i < 64 → (l.map b8)[i]? = some (.int .u8 ((l.getD i 0).toNat : Int)) := fun i hi => qa5 b8 0 (by omega)
  have he' : ∀ i, i < 64 → (m.map b8)[i]? = some (.int .u8 ((m.getD i 0).toNat : Int)) := fun i hi => qa5 b8 0 (by omega)
  have hA := all_eqB 64 hl hm
  generalize hvs : l.map b8 = vs at *
  generalize hvt : m.map b8 = vt at *
  clear hvs hvt
  obtain ⟨p, hp⟩ : ∃ p : Nat → Bool, p = fun i => (((l.getD i 0).toNat : Int) == ((m.getD i 0).toNat : Int)) := ⟨_, rfl⟩
  rw [← hp] at hA
  go_simp
  rw [forIn_find (c := (some false, ())) (p := p)]
  · rw [hA]
    by_cases h : l = m
    · simp [h]
    · simp [h]
  · intro i _ hi
    have e1 := he i (by omega)
    have e2 := he' i (by omega)
    clear he he'
    have hpi : p i = (((l.getD i 0).toNat : Int) == ((m.getD i 0).toNat : Int)) := by rw [hp]
    obtain ⟨a, ea⟩ : ∃ a : Int, a = ((l.getD i 0).toNat : Int) := ⟨_, rfl⟩
    obtain ⟨b, eb⟩ : ∃ b : Int, b = ((m.getD i 0).toNat : Int) := ⟨_, rfl⟩
    rw [← ea] at e1 hpi
    rw [← eb] at e2 hpi
    rw [hpi]
    clear hpi ea eb hA hp
    by_cases h : a = b <;> go_simp
theorem run_eqSgB {l m : List (BitVec 8)} (hl : l.length = 64) (hm : m.length = 64) {w : World} {ρ : Operand → Value} {o : Oper} {x y : Operand} {t : TypeId} {c : Bool} (ho : o.op = .binOp .eql 28 x y t) (hx : ρ x = .agg (l.map b8).toArray) (hy : ρ y = .agg (m.map b8).toArray) (hc : decide (l = m) = c) : (execOp ρ o).run Tryz.prog w = .ok (.value (.bool c)) w := by
  obtain ⟨dst, op, type, pos, after, guard⟩ := o
  subst ho
  have hE := eqSgB hl hm w
  rw [hc] at hE
  generalize (l.map b8).toArray = vs at *
  generalize (m.map b8).toArray = vt at *
  go_simp
end Go.Proofs.YtfdjmdfaidiliaaGreatDoor
namespace Go.Proofs.YtfdjmdfaidiliaaGreatDoor
open Go.RowKit
set_option maxRecDepth 20000
structure W9 (w : World) : Prop where
  e : EG w
  s : SG w
  t : Tabs w
theorem W9.below {w w' : World} (h : W9 w) (hb : Below w.heap.size w w') : W9 w' := ⟨h.e.below hb, h.s.below hb, h.t.below hb⟩
def PubC : Prop := ∀ (k : List (BitVec 8)) (u : World), k.length = 32 → W9 u → Calls Tryz.prog 5 #[.agg (k.map b8).toArray] u fun e w' => e = .returned (.agg ((pubB k).map b8).toArray) ∧ Below u.heap.size u w'
def SigC : Prop := ∀ (k : List (BitVec 8)) (vb : Value) (b : List (BitVec 8)) (u : World), k.length = 32 → Sl vb b u → b.length ≤ 300 → W9 u → Calls Tryz.prog 7 #[.agg (k.map b8).toArray, vb] u fun e w' => e = .returned (.agg ((sigB k b).map b8).toArray) ∧ Below u.heap.size u w'
def VerC : Prop := ∀ (p : List (BitVec 8)) (vb : Value) (b s : List (BitVec 8)) (u : World), p.length = 32 → s.length = 64 → Sl vb b u → b.length ≤ 300 → W9 u → Calls Tryz.prog 9 #[.agg (p.map b8).toArray, vb, .agg (s.map b8).toArray] u fun e w' => e = .returned (.bool (verB p b s)) ∧ Below u.heap.size u w'
theorem run_eqc8 {w : World} {ρ : Operand → Value} {o : Oper} {x y : Operand} {t t' : TypeId} {a : BitVec 8} {c : Int} {r : Bool} (ho : o.op = .binOp .eql t x y t') (hx : ρ x = b8 a) (hy : ρ y = .int .u8 c) (h : ((a.toNat : Int) == c) = r) : (execOp ρ o).run Tryz.prog w = .ok (.value (.bool r)) w := run_eqlb ho hx hy h
theorem enters_known9 : Enters 4 := qao Tryz.func4 (by kernel_rfl) rfl
theorem enters_spublic : Enters 5 := qao Tryz.func5 (by kernel_rfl) rfl
theorem enters_ssign : Enters 7 := qao Tryz.func7 (by kernel_rfl) rfl
theorem enters_sverify : Enters 9 := qao Tryz.func9 (by kernel_rfl) rfl
theorem sl_nilC (w : World) : Sl (.slice none 0 0) [] w := ⟨none, 0, rfl, Nat.le_refl _, fun h => absurd rfl h⟩
theorem kSig_built : Tryz.prog.built 28 [] = some ((List.replicate 64 (0 : BitVec 8)).map b8).toArray := by kernel_rfl
theorem kPub_at : kPub.getD 0 0 = 215#8 ∧ kPub.getD 1 0 = 90#8 ∧ kPub.getD 30 0 = 81#8 ∧ kPub.getD 31 0 = 26#8 := by decide +kernel
set_option maxHeartbeats 8000000 in
theorem known9_any (HP : PubC) (HV : VerC) (w : World) (hW : W9 w) : Calls Tryz.prog 4 #[] w fun e w' => e = .returned (.bool true) ∧ Below w.heap.size w w' := by
  have HW := Lib.hid hW; clear hW
  obtain ⟨K, hK⟩ : ∃ K, K = kSec := ⟨_, rfl⟩
  obtain ⟨P, hP⟩ : ∃ P, P = kPub := ⟨_, rfl⟩
  obtain ⟨Z, hZ⟩ : ∃ Z : List (BitVec 8), Z = List.replicate 64 0 := ⟨_, rfl⟩
  have lK : K.length = 32 := by rw [hK]; rfl
  have lP : P.length = 32 := by rw [hP]; rfl
  have lZ : Z.length = 64 := by rw [hZ]; exact List.length_replicate
  have EK : Hid (kSec = K) := Lib.hid hK.symm
  have BZ : Hid (Tryz.prog.built 28 [] = some (Z.map b8).toArray) := Lib.hid (by rw [hZ]; exact kSig_built)
  have CP : Hid (∀ u : World, W9 u → Calls Tryz.prog 5 #[.agg (K.map b8).toArray] u fun e w' => e = .returned (.agg (P.map b8).toArray) ∧ Below u.heap.size u w') := Lib.hid fun u h => by
    have h := HP kSec u rfl h
    rw [pub_known] at h
    rw [hK, hP]; exact h
  have CV : Hid (∀ u : World, W9 u → Calls Tryz.prog 9 #[.agg (P.map b8).toArray, .slice none 0 0, .agg (Z.map b8).toArray] u fun e w' => e = .returned (.bool false) ∧ Below u.heap.size u w') := Lib.hid fun u h => by
    have h := HV kPub (.slice none 0 0) [] (List.replicate 64 0) u rfl List.length_replicate (sl_nilC u) (by decide) h
    rw [ver_known] at h
    rw [hP, hZ]; exact h
  have A0 : Hid ((P.map b8)[0]? = some (b8 215#8)) := Lib.hid (by rw [hP, qa5 b8 0 (by decide), kPub_at.1])
  have A1 : Hid ((P.map b8)[1]? = some (b8 90#8)) := Lib.hid (by rw [hP, qa5 b8 0 (by decide), kPub_at.2.1])
  have A30 : Hid ((P.map b8)[30]? = some (b8 81#8)) := Lib.hid (by rw [hP, qa5 b8 0 (by decide), kPub_at.2.2.1])
  have A31 : Hid ((P.map b8)[31]? = some (b8 26#8)) := Lib.hid (by rw [hP, qa5 b8 0 (by decide), kPub_at.2.2.2])
  clear hK hP hZ
  have SK := Lib.hid (szKy lK)
  have SP := Lib.hid (szKy lP)
  have LK : Hid ((K.map b8).length = (z8 32).length) := Lib.hid (by rw [z8_32, List.length_map, lK])
  have LP : Hid ((P.map b8).length = (z8 32).length) := Lib.hid (by rw [z8_32, List.length_map, lP])
  have hM := Lib.hid (Mv.nil w)
  go_enter Tryz.func4, Tryz.ntmps4
  go_upto_region 0 with fail; refine wp_region_lit ?_
  refine qaa (qag (v := .bool false) rfl rfl) rfl ?_; (try simp only [Act.put, List.setIfInBounds_toArray, List.set_cons_zero])
  refine qac ?_
  go_upto_region 1 with fail; refine wp_region_lit ?_
  refine qaa (run_bld (cells := (kSec.map b8).toArray) rfl (by kernel_rfl)) rfl ?_; (try simp only [Act.put, lyy])
  rw [EK.out]
  clear EK
  refine qaa (qar (vs := z8 32) rfl (by kernel_rfl)) rfl ?_; (try simp only [Act.put, lyy]); replace hM := Lib.hid (hM.out.new (z8 32) 23); generalize w.alloc (.cells (z8 32).toArray 23) = a1 at *; generalize w.heap.size = g1 at *
  refine qae (qaq (vs := K.map b8) rfl SK.out rfl rfl (one8s _) (by rw [LK.out]; exact (hM.out.get (i := 0) rfl).there)) rfl rfl ?_; replace hM := Lib.hid (hM.out.put 0 rfl (m := K.map b8) (LK.out))
  refine qac ?_
  generalize a1.setCells g1 0 (K.map b8) = a2 at *
  go_upto_region 2 with fail; refine wp_region_lit ?_
  refine qaa (qah (vs := K.map b8) rfl Tryz.underlying23 rfl SK.out rfl ((hM.out.get (i := 0) rfl).range)) rfl ?_; (try simp only [Act.put, lyy])
  refine qai (qaj enters_spublic rfl rfl rfl) rfl (CP.out _ (HW.out.below hM.out.bl)) (fun a3 hb => ?_); (try simp only [Act.put, lyy]); replace hM := Lib.hid (hM.out.below hb); clear hb
  refine qaa (qar (vs := z8 32) rfl (by kernel_rfl)) rfl ?_; (try simp only [Act.put, lyy]); replace hM := Lib.hid (hM.out.new (z8 32) 23); generalize a3.alloc (.cells (z8 32).toArray 23) = a4 at *; generalize a3.heap.size = g2 at *
  refine qae (qaq (vs := P.map b8) rfl SP.out rfl rfl (one8s _) (by rw [LP.out]; exact (hM.out.get (i := 0) rfl).there)) rfl rfl ?_; replace hM := Lib.hid (hM.out.put 0 rfl (m := P.map b8) (LP.out))
  refine qac ?_
  generalize a4.setCells g2 0 (P.map b8) = a5 at *
  go_upto_region 3 with fail; refine wp_region_lit ?_
  refine qaa (qay (i := 0) rfl Tryz.underlying23 (by kernel_rfl) rfl rfl (by omega)) rfl ?_; (try simp only [Act.put, lyy])
  refine qaa (qby rfl rfl ((hM.out.get (i := 0) rfl).c _ _ A0.out)) rfl ?_; (try simp only [Act.put, lyy])
  refine qaa (run_eqc8 rfl rfl rfl rfl) rfl ?_; (try simp only [Act.put, lyy])
  refine qaa (qaf (v := .bool true) rfl rfl) rfl ?_; (try simp only [Act.put, lyy])
  refine qbb (qay (i := 1) rfl Tryz.underlying23 (by kernel_rfl) rfl rfl (by omega)) rfl ?_; (try simp only [Act.put, lyy])
  refine qbb (qby rfl rfl ((hM.out.get (i := 0) rfl).c _ _ A1.out)) rfl ?_; (try simp only [Act.put, lyy])
  refine qbb (run_eqc8 rfl rfl rfl rfl) rfl ?_; (try simp only [Act.put, lyy])
  refine qaa (qcc (b := true) (v := .bool true) rfl rfl rfl) rfl ?_; (try simp only [Act.put, lyy])
  refine qaa (qaf (v := .bool true) rfl rfl) rfl ?_; (try simp only [Act.put, lyy])
  refine qbb (qay (i := 30) rfl Tryz.underlying23 (by kernel_rfl) rfl rfl (by omega)) rfl ?_; (try simp only [Act.put, lyy])
  refine qbb (qby rfl rfl ((hM.out.get (i := 0) rfl).c _ _ A30.out)) rfl ?_; (try simp only [Act.put, lyy])
  refine qbb (run_eqc8 rfl rfl rfl rfl) rfl ?_; (try simp only [Act.put, lyy])
  refine qaa (qcc (b := true) (v := .bool true) rfl rfl rfl) rfl ?_; (try simp only [Act.put, lyy])
  refine qaa (qaf (v := .bool true) rfl rfl) rfl ?_; (try simp only [Act.put, lyy])
  refine qbb (qay (i := 31) rfl Tryz.underlying23 (by kernel_rfl) rfl rfl (by omega)) rfl ?_; (try simp only [Act.put, lyy])
  refine qbb (qby rfl rfl ((hM.out.get (i := 0) rfl).c _ _ A31.out)) rfl ?_; (try simp only [Act.put, lyy])
  refine qbb (run_eqc8 rfl rfl rfl rfl) rfl ?_; (try simp only [Act.put, lyy])
  refine qaa (qcc (b := true) (v := .bool true) rfl rfl rfl) rfl ?_; (try simp only [Act.put, lyy])
  refine qaa (qaf (v := .bool true) rfl rfl) rfl ?_; (try simp only [Act.put, lyy])
  refine qbb (qah (vs := P.map b8) rfl Tryz.underlying23 rfl SP.out rfl (hM.out.get (i := 0) rfl).range) rfl ?_; (try simp only [Act.put, lyy])
  refine qbb (run_bldW0 (cells := (Z.map b8).toArray) rfl BZ.out) rfl ?_; (try simp only [Act.put, lyy])
  refine wpList_enterG (qbk enters_sverify rfl rfl rfl rfl rfl) rfl (CV.out _ (HW.out.below hM.out.bl)) (fun a6 hb => ?_); (try simp only [Act.put, lyy])
  replace hM := Lib.hid (hM.out.below hb)
  clear hb
  refine qbb (qcd rfl rfl) rfl ?_; (try simp only [Act.put, lyy])
  refine qaa (qcc (b := true) (v := .bool true) rfl rfl rfl) rfl ?_; (try simp only [Act.put, lyy])
  refine qaa (qag (v := .bool true) rfl rfl) rfl ?_; (try simp only [Act.put, List.setIfInBounds_toArray, List.set_cons_zero])
  refine qac ?_
  go_wp2_with fail
  go_ret
  exact ⟨rfl, hM.out.bl⟩
end Go.Proofs.YtfdjmdfaidiliaaGreatDoor
