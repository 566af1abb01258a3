import Derived.Test.YtcgbgmbnagmohaaTy10
import Derived.Laws.StructEq
import Derived.Test.YtcgbgmbnagmohaaPrC
import Derived.Test.YtcgbgmbnagmohaaLy
import Derived.Test.YtcgbgmbnagmohaaPrU
import Derived.Test.YtcgbgmbnagmohaaPrL
import Derived.Test.YtcgbgmbnagmohaaPw6
import Derived.Test.YtcgbgmbnagmohaaSlA
import Derived.Test.YtcgbgmbnagmohaaPw3
import Derived.Test.YtcgbgmbnagmohaaPu1
import Derived.Test.YtcgbgmbnagmohaaCh3
import Derived.Test.YtcgbgmbnagmohaaPu2
import Derived.Deep.CutBlock
import Derived.Test.YtcgbgmbnagmohaaPrQ
import Derived.Test.YtcgbgmbnagmohaaCh5
import Derived.Test.YtcgbgmbnagmohaaPrT
import Derived.Test.YtcgbgmbnagmohaaCh7
namespace Go.Proofs.Ytcgbgmbnagmohaa
open Go.RowKit
set_option maxRecDepth 20000
section
variable {w : World} {xs ys : List Value} {d : Nat}
theorem run_partC {t : TypeId} {D : TypeDesc} {off : Nat} {v : Value} (ht : Try.prog.underlying t = some D) (hd : D.isRow = false) (h : xs[off]? = some v) : (part t xs.toArray off).run Try.prog w = .ok v w := by
  have hagg : (isAgg t).run Try.prog w = .ok false w := by
    unfold isAgg
    rw [Sem.run_bind, run_underlying ht w]
    cases D <;> simp_all
  unfold part
  simp [hagg, h]
theorem eqF_nil : (Op.eqFields d xs.toArray ys.toArray []).run Try.prog w = .ok true w := by simp [Op.eqFields]
theorem eqF_cons {f : Field} {fs : List Field} {a b : Value} {r1 r2 : Bool} (hn : f.name ≠ "_") (ha : (part f.type xs.toArray f.offset).run Try.prog w = .ok a w) (hb : (part f.type ys.toArray f.offset).run Try.prog w = .ok b w) (h1 : (Op.equalIn d f.type a b).run Try.prog w = .ok r1 w) (h2 : (Op.eqFields d xs.toArray ys.toArray fs).run Try.prog w = .ok r2 w) : (Op.eqFields d xs.toArray ys.toArray (f :: fs)).run Try.prog w = .ok (r1 && r2) w := by
  unfold Op.eqFields
  rw [if_pos hn]
  simp only [Sem.run_bind, ha, hb, h1, Result.andThen_ok]
  cases r1
  · simp
  · simp [h2]
theorem run_eqlA {ρ : Operand → Value} {o : Oper} {x y : Operand} {t t' : TypeId} {r : Bool} (ho : o.op = .binOp .eql t x y t') (hm : Try.prog.eqGuardType Try.prog.depth t = false) (hx : ρ x = .agg xs.toArray) (hy : ρ y = .agg ys.toArray) (h : (Op.equalIn 10000 t (.agg xs.toArray) (.agg ys.toArray)).run Try.prog w = .ok r w) : (execOp ρ o).run Try.prog w = .ok (.value (.bool r)) w := by
  have hg := run_eqGuard_agg (P := Try.prog) w .eql t x y xs.toArray ys.toArray hm
  have he := run_eql_struct (P := Try.prog) w t xs.toArray ys.toArray
  rw [h] at he
  unfold execOp
  simp only [ho, hx, hy, Sem.run_bind, hg, Result.andThen_ok, he]
  simp
end
end Go.Proofs.Ytcgbgmbnagmohaa
namespace Go.Proofs.Ytcgbgmbnagmohaa
open Go.RowKit
set_option maxRecDepth 20000
theorem eqUs_in {x0 y0 : ByteArray} {x1 y1 : Int} {x2 y2 : Bool} (w : World) : (Op.equalIn 10000 76 (.agg (usR (.string x0) (.int .i64 x1) (.bool x2)).toArray) (.agg (usR (.string y0) (.int .i64 y1) (.bool y2)).toArray)).run Try.prog w = .ok ((x0.toList == y0.toList) && ((x1 == y1) && ((x2 == y2) && true))) w := by
  rw [show (10000 : Nat) = 9999 + 1 from rfl, run_equalIn_struct w 9999 76 _ _ (by kernel_rfl) (by kernel_rfl)]
  refine eqF_cons (by decide) (run_partC Try.underlying9 rfl usR_Name) (run_partC Try.underlying9 rfl usR_Name) (run_equalIn_string w 9998 _ _ _ Try.underlying9) ?_
  refine eqF_cons (by decide) (run_partC Try.underlying3 rfl usR_Account) (run_partC Try.underlying3 rfl usR_Account) (run_equalIn_int w 9998 _ _ _ _ _ Try.underlying3) ?_
  refine eqF_cons (by decide) (run_partC Try.underlying4 rfl usR_Sure) (run_partC Try.underlying4 rfl usR_Sure) (run_equalIn_bool' w 9998 _ _ _ Try.underlying4) ?_
  exact eqF_nil
end Go.Proofs.Ytcgbgmbnagmohaa
namespace Go.Proofs.Ytcgbgmbnagmohaa
open Go.RowKit
set_option maxRecDepth 20000
attribute [local irreducible] wpList
theorem kn1 : alB usB [⟨[97], 300, true⟩] = [1, 1, 97, 172, 2, 1] := by decide +kernel
theorem kn2 : rdUs [1, 1, 97, 172, 2, 1] = ([⟨[97], 300, true⟩], 0) := by rfl
theorem kn3 : rdLs [] = (zLs, 10) := by rfl
theorem kn5 : strOf [1, 1, 97, 172, 2, 1] = ⟨#[1, 1, 97, 172, 2, 1]⟩ := by rfl
theorem enters_kn10 : Enters 5 := qak Try.func5 (by kernel_rfl) rfl
set_option maxHeartbeats 8000000 in
theorem known10_any (w : World) : Calls Try.prog 5 #[] w fun e w' => e = .returned (.bool true) ∧ Below w.heap.size w w' := by
  have E := Lib.hid (Ev.start (w := w) (F := fun _ => True) fun _ _ => trivial)
  obtain ⟨us, hus⟩ : ∃ us : List MUs, us = [⟨[97], 300, true⟩] := ⟨_, rfl⟩
  obtain ⟨B, hB⟩ : ∃ B : List (BitVec 8), B = [1, 1, 97, 172, 2, 1] := ⟨_, rfl⟩
  have hul : us.length = 1 := by rw [hus]; rfl
  have K1 : Hid (alB usB us = B) := Lib.hid (by rw [hus, hB]; exact kn1)
  have K2 : Hid (rdUs B = (us, 0)) := Lib.hid (by rw [hus, hB]; exact kn2)
  have KB : Hid (strOf B = ⟨#[1, 1, 97, 172, 2, 1]⟩) := Lib.hid (by rw [hB]; exact kn5)
  have HU := Lib.hid hus
  have hBl : B.length ≤ 100000000000 := by rw [hB]; decide
  clear hB hus
  go_enter Try.func5, Try.ntmps5
  go_upto_region 0 with fail; refine wp_region_lit ?_
  refine qaa (qai (v := .bool false) rfl rfl) rfl ?_; (try simp only [Act.put, List.setIfInBounds_toArray, List.set_cons_zero])
  refine qab ?_
  go_upto_region 1 with fail; refine wp_region_lit ?_
  refine qaa (qa4 (cells := (usR (.string ⟨#[97]⟩) (.int .i64 300) (.bool true)).toArray) (ps := [(0, .string ⟨#[97]⟩), (1, .int .i64 300), (2, .bool true)]) rfl rfl (usR_all rfl rfl rfl)) rfl ?_; (try simp only [Act.put, lyy])
  refine qaa (qcf (m := usR (.string ⟨#[97]⟩) (.int .i64 300) (.bool true)) (z := 3) (zv := .agg ([.string ⟨#[]⟩, .int .i64 0, .bool false] : List Value).toArray) rfl Try.underlying72 (by kernel_rfl) rfl usR_len (by omega) (by omega)) rfl ?_; (try simp only [Act.put, lyy])
  have HA := Lib.hid (Arr.new w (usR (.string ⟨#[97]⟩) (.int .i64 300) (.bool true)) 76)
  replace E := Lib.hid (E.out.new (usR (.string ⟨#[97]⟩) (.int .i64 300) (.bool true)) 76)
  generalize w.alloc (.cells (usR (.string ⟨#[97]⟩) (.int .i64 300) (.bool true)).toArray 76) = a1 at *
  obtain ⟨g1, hg1⟩ : ∃ k, k = w.heap.size := ⟨_, rfl⟩
  rw [← hg1] at E HA ⊢
  clear hg1
  have HS : Hid (Fro 0 (SlR 3 usAt us (some ⟨g1, 0, none⟩) 1) a1) := Lib.hid (by rw [HU.out]; exact slR_sole HA.out usR_len fun _ _ => rfl)
  have HC : Hid (Calls Try.prog 26 #[.slice (some ⟨g1, 0, none⟩) 1 1] a1 fun e w' => ∃ v', e = .returned v' ∧ S5 a1 v' B w') := Lib.hid (by
    have h := xUss_any a1 us (some ⟨g1, 0, none⟩) 1 (by omega) HS.out (by rw [K1.out]; exact hBl)
    rw [K1.out, hul] at h
    exact h)
  refine qaf (qal enters_xUss rfl rfl rfl) rfl HC.out (fun v2 a2 hR => ?_); (try simp only [Act.put, lyy])
  have hs9 := hR.sl
  obtain ⟨ax, cx, rfl, -, -⟩ := id hs9
  replace E := Lib.hid (E.out.call hR.bl (fro_sl hR.O))
  clear hR hs9 HS HC HA
  refine qaa (qai (v := .slice ax B.length cx) rfl rfl) rfl ?_; (try simp only [Act.put, lyy])
  refine qab ?_
  go_upto_region 2 with fail; refine wp_region_lit ?_
  refine qaa (qad (v := .slice ax B.length cx) rfl rfl) rfl ?_; (try simp only [Act.put, lyy])
  refine qaf (qal enters_ryUs rfl rfl rfl) rfl (ryUs_any ax B cx us 0 K2.out _ E.out.h.1) (fun v3 a3 hR => ?_); (try simp only [Act.put, lyy])
  obtain ⟨⟨ay, cy, rfl, fy⟩, hb⟩ := hR
  rw [hul]
  replace E := Lib.hid (E.out.call hb fy)
  clear hb fy
  refine qaa (qad (v := .tuple #[.slice ay 1 cy, .int .u16 0]) rfl rfl) rfl ?_; (try simp only [Act.put, lyy])
  refine qaa (qbl (v := .slice ay 1 cy) rfl rfl rfl) rfl ?_; (try simp only [Act.put, lyy])
  refine qaa (qbl (v := .int .u16 0) rfl rfl rfl) rfl ?_; (try simp only [Act.put, lyy])
  refine qaa (qai (v := .slice ay 1 cy) rfl rfl) rfl ?_; (try simp only [Act.put, lyy])
  refine qaa (qai (v := .int .u16 0) rfl rfl) rfl ?_; (try simp only [Act.put, lyy])
  refine qab ?_
  go_upto_region 3 with fail; refine wp_region_lit ?_
  refine qaf (qal enters_ryLs rfl rfl rfl) rfl (ryLs_any none [] 0 zLs 10 kn3 _ (sl_nilR _)) (fun v4 a4 hR => ?_); (try simp only [Act.put, lyy])
  obtain ⟨⟨X, rfl, lX, oX, fX⟩, hb⟩ := hR
  replace E := Lib.hid (E.out.call hb fX)
  clear hb fX
  refine qaa (qad (v := .tuple #[.agg X.toArray, .int .u16 10]) rfl rfl) rfl ?_; (try simp only [Act.put, lyy])
  refine qaa (qbl (v := .agg X.toArray) rfl rfl rfl) rfl ?_; (try simp only [Act.put, lyy])
  refine qaa (qbl (v := .int .u16 10) rfl rfl rfl) rfl ?_; (try simp only [Act.put, lyy])
  refine qaa (qay (vs := lsR ((.int .i64 0)) ((.int .i64 0)) (z8 32) ((.slice none 0 0)) (z8 64)) rfl (by kernel_rfl)) rfl ?_; (try simp only [Act.put, lyy])
  replace E := Lib.hid (E.out.new (lsR ((.int .i64 0)) ((.int .i64 0)) (z8 32) ((.slice none 0 0)) (z8 64)) 32)
  generalize a4.alloc (.cells (lsR ((.int .i64 0)) ((.int .i64 0)) (z8 32) ((.slice none 0 0)) (z8 64)).toArray 32) = a5 at *
  generalize a4.heap.size = g5 at *
  refine qah (qax (vs := X) rfl (szR lX (by kernel_rfl)) rfl rfl (One.all oX) ((E.out.get (i := 0) rfl).thereM (by have q1 : (lsR ((.int .i64 0)) ((.int .i64 0)) (z8 32) ((.slice none 0 0)) (z8 64) : List Value).length = 99 := (qan (qac 32) (qac 64)); omega))) rfl rfl ?_
  replace E := Lib.hid (E.out.put 0 rfl (m := X) (lX.trans (show (lsR ((.int .i64 0)) ((.int .i64 0)) (z8 32) ((.slice none 0 0)) (z8 64) : List Value).length = 99 from (qan (qac 32) (qac 64))).symm))
  generalize a5.setCells g5 0 X = a6 at *
  refine qaa (qai (v := .int .u16 10) rfl rfl) rfl ?_; (try simp only [Act.put, lyy])
  refine qab ?_
  have hY := E.out.h.2.1
  obtain ⟨g, f, cs, rfl, -, hcl, hcr, hct⟩ := slR_at hY (i := 0) (by omega)
  have hcs : cs = usR (.string ⟨#[97]⟩) (.int .i64 300) (.bool true) := by
    have h := hct
    have e : us[0]'(by omega) = ⟨[97], 300, true⟩ := by simp only [HU.out, List.getElem_cons_zero]
    rw [e] at h
    exact h
  subst hcs
  have HCR : Hid (a6.rangeAt g (f + 0 * 3) (usR (.string ⟨#[97]⟩) (.int .i64 300) (.bool true))) := Lib.hid hcr
  have HSl := Lib.hid E.out.h.2.2.1
  have HBl := Lib.hid E.out.bl
  clear hcr hct hY hcl
  go_upto_region 4 with fail; refine wp_region_lit ?_
  refine qaa (qad (v := .slice ax B.length cx) rfl rfl) rfl ?_; (try simp only [Act.put, lyy])
  refine qaa (run_str rfl rfl HSl.out) rfl ?_; (try simp only [Act.put, lyy])
  rw [KB.out]
  refine qaa (run_eqstr rfl rfl rfl) rfl ?_; (try simp only [Act.put, lyy])
  refine qaa (qad (v := .bool true) rfl rfl) rfl ?_; (try simp only [Act.put, lyy])
  refine qau (qad (v := .int .u16 0) rfl rfl) rfl ?_; (try simp only [Act.put, lyy])
  refine qau (qbx (c := true) rfl rfl rfl rfl) rfl ?_; (try simp only [Act.put, lyy])
  refine qaa (qb2 (b := true) (v := .bool true) rfl rfl rfl) rfl ?_; (try simp only [Act.put, lyy])
  refine qaa (qad (v := .bool true) rfl rfl) rfl ?_; (try simp only [Act.put, lyy])
  refine qau (qad (v := .slice (some _) 1 cy) rfl rfl) rfl ?_; (try simp only [Act.put, lyy])
  refine qau (qba rfl Try.underlying72 rfl) rfl ?_; (try simp only [Act.put, lyy])
  refine qau (qbx (c := true) rfl rfl rfl rfl) rfl ?_; (try simp only [Act.put, lyy])
  refine qaa (qb2 (b := true) (v := .bool true) rfl rfl rfl) rfl ?_; (try simp only [Act.put, lyy])
  refine qaa (qad (v := .bool true) rfl rfl) rfl ?_; (try simp only [Act.put, lyy])
  refine qau (qad (v := .slice (some ⟨g, f, none⟩) 1 cy) rfl rfl) rfl ?_; (try simp only [Act.put, lyy])
  refine qau (run_ixZ (z := 3) (i := 0) rfl Try.underlying72 (by kernel_rfl) rfl rfl (by omega)) rfl ?_; (try simp only [Act.put, lyy])
  refine qau (qa2 (vs := usR (.string ⟨#[97]⟩) (.int .i64 300) (.bool true)) rfl Try.underlying76 rfl (szR usR_len (by kernel_rfl)) rfl HCR.out) rfl ?_; (try simp only [Act.put, lyy])
  refine qau (qa4 (cells := (usR (.string ⟨#[97]⟩) (.int .i64 300) (.bool true)).toArray) (ps := [(0, .string ⟨#[97]⟩), (1, .int .i64 300), (2, .bool true)]) rfl rfl (usR_all rfl rfl rfl)) rfl ?_; (try simp only [Act.put, lyy])
  refine qau (run_eqlA (r := true) rfl (by kernel_rfl) rfl rfl ((eqUs_in a6).trans (by simp))) rfl ?_; (try simp only [Act.put, lyy])
  refine qaa (qb2 (b := true) (v := .bool true) rfl rfl rfl) rfl ?_; (try simp only [Act.put, lyy])
  refine qaa (qad (v := .bool true) rfl rfl) rfl ?_; (try simp only [Act.put, lyy])
  refine qau (qad (v := .int .u16 10) rfl rfl) rfl ?_; (try simp only [Act.put, lyy])
  refine qau (qbx (c := true) rfl rfl rfl rfl) rfl ?_; (try simp only [Act.put, lyy])
  refine qaa (qb2 (b := true) (v := .bool true) rfl rfl rfl) rfl ?_; (try simp only [Act.put, lyy])
  refine qaa (qai (v := .bool true) rfl rfl) rfl ?_; (try simp only [Act.put, List.setIfInBounds_toArray, List.set_cons_zero])
  refine qab ?_
  go_wp2_with fail
  go_ret
  exact ⟨rfl, HBl.out⟩
end Go.Proofs.Ytcgbgmbnagmohaa
namespace Go.Proofs.Ytcgbgmbnagmohaa
open Go.RowKit
set_option maxRecDepth 20000
attribute [local irreducible] wpList
section
variable {ops : Array Oper} {Q : Exit → Act → World → Prop} {rest : List Oper} {o : Oper} {a : Act} {w : World} {r : Bool} {v : Value}
end
end Go.Proofs.Ytcgbgmbnagmohaa
namespace Go.Proofs.Ytcgbgmbnagmohaa
open Go.RowKit
set_option maxRecDepth 20000
attribute [local irreducible] wpList
section
variable {w : World} {ρ : Operand → Value} {o : Oper} {t t' : TypeId} {x y : Operand}
end
end Go.Proofs.Ytcgbgmbnagmohaa
namespace Go.Proofs.Ytcgbgmbnagmohaa
open Go.RowKit
set_option maxRecDepth 20000
attribute [local irreducible] wpList
theorem chT_le : ∀ k, chT.getD k 0 ≤ 1099511627776 := by
  intro k
  match k with
  | 0 => decide
  | 1 => decide
  | 2 => decide
  | 3 => decide
  | 4 => decide
  | 5 => decide
  | k + 6 => simp [chT]
theorem chN_le (c : List (BitVec 8)) {i : Nat} (hi : i ≤ 1099511627776) : chN c i ≤ 1099511627776 := by
  unfold chN
  split
  · exact hi
  · split
    · exact chT_le _
    · omega
theorem qb9 (c : List (BitVec 8)) {i : Nat} (hi : i ≤ 1099511627776) : Num (chN c i : Int) := ⟨by omega, by have := chN_le c hi; omega⟩
theorem chE_can (c : List (BitVec 8)) {k : Nat} (hk : k ≤ 100000) (hc : c.length ≤ 60000) : (chE c k).Can := by
  refine ⟨qb9 c (by omega), qb9 c (by omega), qaj _ _, qb9 c (by omega), ?_, ⟨qaj _ _, qb9 c (by omega), qb9 c (by omega)⟩, ?_⟩
  · show -1 ≤ ((min (chN c (k + 5)) 1099511627775 : Nat) : Int) - 1 ∧ ((min (chN c (k + 5)) 1099511627775 : Nat) : Int) - 1 ≤ 1099511627775
    omega
  · show (c.take _).length ≤ 60000
    rw [List.length_take]
    omega
theorem MEv.Can.ok {m : MEv} (h : m.Can) : m.Ok := ⟨h.eph, h.head.r, by have := h.body; omega⟩
end Go.Proofs.Ytcgbgmbnagmohaa
namespace Go.Proofs.Ytcgbgmbnagmohaa
open Go.RowKit
set_option maxRecDepth 20000
def Onc {α : Type} (m : List (BitVec 8) → Nat × Int → (Nat × Int) × α) (enc : α → List (BitVec 8)) (G : α → Prop) : Prop := ∀ pre rest : List (BitVec 8), (m (pre ++ rest) (pre.length, 0)).1.2 = 0 → ∃ x t, rest = enc x ++ t ∧ m (pre ++ rest) (pre.length, 0) = ((pre.length + (enc x).length, 0), x) ∧ G x
theorem Onc.of {α : Type} {m : List (BitVec 8) → Nat × Int → (Nat × Int) × α} {enc : α → List (BitVec 8)} {G : α → Prop} (h : ∀ pre rest : List (BitVec 8), (m (pre ++ rest) (pre.length, 0)).1.2 = 0 → ∃ x t, rest = enc x ++ t ∧ G x) (hr : ∀ x, G x → Rds m (enc x) x) : Onc m enc G := fun pre rest h0 => by
  obtain ⟨x, t, rfl, hG⟩ := h pre rest h0
  exact ⟨x, t, rfl, hr x hG pre t, hG⟩
section
variable {α β γ : Type} {m1 : List (BitVec 8) → Nat × Int → (Nat × Int) × α} {m2 : List (BitVec 8) → Nat × Int → (Nat × Int) × β} {e1 : α → List (BitVec 8)} {e2 : β → List (BitVec 8)} {G1 : α → Prop} {G2 : β → Prop}
theorem Onc.to {m' : List (BitVec 8) → Nat × Int → (Nat × Int) × β} {enc : β → List (BitVec 8)} {G : β → Prop} (h : Onc m1 e1 G1) (f : α → β) (hm : ∀ b i, m' b (i, 0) = ((m1 b (i, 0)).1, f (m1 b (i, 0)).2)) (he : ∀ x, G1 x → enc (f x) = e1 x) (hG : ∀ x, G1 x → G (f x)) : Onc m' enc G := fun pre rest h0 => by
  rw [hm] at h0
  obtain ⟨x, t, h1, h2, h3⟩ := h pre rest h0
  refine ⟨f x, t, by rw [he x h3]; exact h1, ?_, hG x h3⟩
  rw [hm, h2, he x h3]
end
end Go.Proofs.Ytcgbgmbnagmohaa
namespace Go.Proofs.Ytcgbgmbnagmohaa
open Go.RowKit
set_option maxRecDepth 20000
theorem alB_len {α : Type} {enc : α → List (BitVec 8)} {K : Nat} : ∀ {ms : List α}, (∀ p ∈ ms, (enc p).length ≤ K) → (alB enc ms).length ≤ 6 + ms.length * K := by
  intro ms h
  have hf : ∀ l : List α, (∀ p ∈ l, (enc p).length ≤ K) → (l.flatMap enc).length ≤ l.length * K := by
    intro l
    induction l with
    | nil => intro _; simp
    | cons a l ih =>
      intro h
      rw [List.flatMap_cons, List.length_append, List.length_cons, Nat.add_mul, Nat.one_mul]
      have := h a (List.mem_cons_self ..)
      have := ih fun p hp => h p (List.mem_cons_of_mem _ hp)
      omega
  have := hf ms h
  have := qbi (ms.length : Int)
  unfold alB
  rw [List.length_append]
  omega
theorem MLs.Can.ok {m : MLs} (h : m.Can) : m.Ok := ⟨h.ident, h.sig, fun p hp => (h.devs p hp).key, h.many⟩
theorem MRq.Can.ok {m : MRq} (h : m.Can) : m.Ok := ⟨h.kind.1, by have := h.kind.2; omega, by have := h.pin; omega, by have := h.next; omega, by have := h.name; omega, h.ls.ok, h.token, h.signed.key, h.sig, fun p hp => (h.ones p hp).key, h.many, fun p hp => (h.items p hp).2.ok, h.much⟩
theorem MRq.Can.one {m : MRq} (h : m.Can) : ∀ p ∈ m.items, -9223372036854775808 ≤ p.2.one := fun p hp => by have := (h.items p hp).2.one; omega
theorem rqB_pos (m : MRq) : 0 < (rqB m).length := by
  have h : 0 < (viB m.kind).length := by
    have q := cut_n m.kind 255
    rcases Nat.eq_zero_or_pos (viB m.kind).length with h0 | h0
    · exfalso
      have h1 : ∀ k n : Nat, viF k n ≠ [] := fun k n => by
        cases k with
        | zero => rw [viF]; simp
        | succ k => rw [viF]; split <;> simp
      exact h1 _ _ (List.length_eq_zero_iff.1 h0)
    · exact h0
  rw [rqB_al]
  simp only [List.length_append]
  omega
theorem chP_can (c : List (BitVec 8)) {k : Nat} (hk : k ≤ 1000) (i : Nat) (hi : i ≤ 1000) : (chP c k i).Can := ⟨qb9 c (by omega), qaj _ _⟩
theorem chL_can (c : List (BitVec 8)) : (chL c).Can := by
  refine ⟨qb9 c (by omega), qb9 c (by omega), qaj _ _, fun p hp => ?_, ?_, chS_len _ _⟩
  · obtain ⟨i, hi, rfl⟩ := List.mem_map.1 hp
    have := List.mem_range.1 hi
    have : chN c 5 % 5 < 5 := Nat.mod_lt _ (by omega)
    exact ⟨qb9 c (by omega), qaj _ _⟩
  · show (chDs c _).length ≤ 60000
    rw [chDs_len]
    omega
theorem chRq_can (c : List (BitVec 8)) (hc : c.length ≤ 60000) : (chRq c).Can := by
  have h0 : chN c 0 % 15 < 15 := Nat.mod_lt _ (by omega)
  have h8 : chN c 8 % 4 < 4 := Nat.mod_lt _ (by omega)
  have h9 : chN c 9 % 3 < 3 := Nat.mod_lt _ (by omega)
  refine ⟨⟨by show (0 : Int) ≤ ((chN c 0 % 15 : Nat) : Int); omega, by show ((chN c 0 % 15 : Nat) : Int) ≤ 255; omega⟩, qb9 c (by omega), qb9 c (by omega), ?_, by show 0 ≤ 60000; omega, by show 1 ≤ 60000; omega, chL_can c, qaj _ _, ⟨qb9 c (by omega), qaj _ _⟩, chS_len _ _, fun p hp => ?_, ?_, qb9 c (by omega), fun p hp => ?_, ?_⟩
  · show (c.take _).length ≤ 60000
    rw [List.length_take]
    omega
  · obtain ⟨i, hi, rfl⟩ := List.mem_map.1 hp
    have := List.mem_range.1 hi
    exact chP_can c (by omega) i (by omega)
  · show (chPs c 8 _).length ≤ 60000
    rw [chPs_len]
    omega
  · obtain ⟨i, hi, rfl⟩ := List.mem_map.1 hp
    have := List.mem_range.1 hi
    exact ⟨qb9 c (by omega), chE_can c (by omega) hc⟩
  · show (chIs c _).length ≤ 60000
    rw [chIs_len]
    omega
end Go.Proofs.Ytcgbgmbnagmohaa
namespace Go.Proofs.Ytcgbgmbnagmohaa
open Go.RowKit
set_option maxRecDepth 20000
theorem beginM_le {b : List (BitVec 8)} (h : b.length ≤ 60000) : qb6 b = (b, 0) := by unfold qb6; rw [if_neg (by omega)]
theorem beginM_gt {b : List (BitVec 8)} (h : 60000 < b.length) : qb6 b = ([], 3) := by unfold qb6; rw [if_pos h]
theorem rdRq_cut {m : MRq} (h : m.Can) (hl : (rqB m).length ≤ 60000) {k : Nat} (hk : k < (rqB m).length) : (rdRq ((rqB m).take k)).2 = 10 := by
  have q := cut_rq h [] ((rqB m).take k) ((rqB m).drop k) (List.take_append_drop _ _).symm (fun e => by have := congrArg List.length e; rw [List.length_drop] at this; simp at this; omega)
  rw [List.nil_append] at q
  unfold rdRq
  rw [beginM_le (by rw [List.length_take]; omega)]
  have e : ∀ a b : Nat, endM a b 10 = 10 := fun a b => by unfold endM; rw [if_neg (by omega)]
  have q2 : (rdRqA ((rqB m).take k) (0, 0)).1.2 = 10 := q
  simp only [q2, e]
  rfl
theorem rdRq_more {m : MRq} (h : m.Can) (hl : (rqB m).length + 1 ≤ 60000) (x : BitVec 8) : (rdRq (rqB m ++ [x])).2 = 11 := by
  have q := rds_rq h [] [x]
  rw [List.nil_append] at q
  have q2 : rdRqA (rqB m ++ [x]) (0, 0) = ((0 + (rqB m).length, 0), m) := q
  unfold rdRq
  rw [beginM_le (by rw [List.length_append]; exact hl)]
  simp only [q2]
  have e : endM (rqB m ++ [x]).length (0 + (rqB m).length) 0 = 11 := by unfold endM; rw [if_pos ⟨rfl, by rw [List.length_append]; show 0 + (rqB m).length < (rqB m).length + 1; omega⟩]
  rw [e]
  rfl
theorem rdAc_cut {m : MAc} (h : m.Can) (hl : (acB m).length ≤ 60000) {k : Nat} (hk : k < (acB m).length) : (rdAc ((acB m).take k)).2 = 10 := by
  have q := cut_ac h [] ((acB m).take k) ((acB m).drop k) (List.take_append_drop _ _).symm (fun e => by have := congrArg List.length e; rw [List.length_drop] at this; simp at this; omega)
  rw [List.nil_append] at q
  unfold rdAc
  rw [beginM_le (by rw [List.length_take]; omega)]
  have e : ∀ a b : Nat, endM a b 10 = 10 := fun a b => by unfold endM; rw [if_neg (by omega)]
  have q2 : (rdAcA ((acB m).take k) (0, 0)).1.2 = 10 := q
  simp only [q2, e]
  rfl
theorem rdAc_more {m : MAc} (h : m.Can) (hl : (acB m).length + 1 ≤ 60000) (x : BitVec 8) : (rdAc (acB m ++ [x])).2 = 11 := by
  have q := rds_ac h [] [x]
  rw [List.nil_append] at q
  have q2 : rdAcA (acB m ++ [x]) (0, 0) = ((0 + (acB m).length, 0), m) := q
  unfold rdAc
  rw [beginM_le (by rw [List.length_append]; exact hl)]
  simp only [q2]
  have e : endM (acB m ++ [x]).length (0 + (acB m).length) 0 = 11 := by unfold endM; rw [if_pos ⟨rfl, by rw [List.length_append]; show 0 + (acB m).length < (acB m).length + 1; omega⟩]
  rw [e]
  rfl
theorem rdLs_long {b : List (BitVec 8)} (h : 60000 < b.length) : (rdLs b).2 = 3 := by
  unfold rdLs
  rw [beginM_gt h]
  have q : (rdLsA [] (0, 3)).1 = (0, 3) := lsM_stay (by omega)
  simp only [q]
  rfl
theorem lsB_small {m : MLs} (h : m.Can) (hn : m.devs.length ≤ 100) : (lsB m).length ≤ 4200 := by
  have i := alB_len (enc := pkB) (K := 38) (ms := m.devs) fun p hp => pkB_len (h.devs p hp).key
  have := qbi m.acc
  have := qbi m.ver
  have := h.ident
  have := h.sig
  rw [lsB_al]
  simp only [List.length_append]
  omega
theorem evB_small {m : MEv} (h : m.Can) (hb : m.body.length ≤ 200) : (evB m).length ≤ 400 := by
  have := evB_len h.ok
  omega
theorem chE_body (c : List (BitVec 8)) (k : Nat) (hc : c.length ≤ 200) : (chE c k).body.length ≤ 200 := by
  show (c.take _).length ≤ 200
  rw [List.length_take]
  omega
theorem chL_devs (c : List (BitVec 8)) : (chL c).devs.length ≤ 100 := by
  show (chDs c _).length ≤ 100
  rw [chDs_len]
  omega
theorem chRq_small (c : List (BitVec 8)) (hc : c.length ≤ 200) : (rqB (chRq c)).length ≤ 50000 := by
  have h := chRq_can c (by omega)
  have hit : (chRq c).items.length ≤ 2 := by show (chIs c _).length ≤ 2; rw [chIs_len]; omega
  have hon : (chRq c).ones.length ≤ 3 := by show (chPs c 8 _).length ≤ 3; rw [chPs_len]; omega
  have hpin : (chRq c).pin.length ≤ 200 := by show (c.take _).length ≤ 200; rw [List.length_take]; omega
  have hnx : (chRq c).next.length = 0 := rfl
  have hnm : (chRq c).name.length = 1 := rfl
  have hls : (lsB (chRq c).ls).length ≤ 4200 := lsB_small h.ls (chL_devs c)
  have i1 := alB_len (enc := itB) (K := 410) (ms := (chRq c).items) fun p hp => by
    have := qbi p.1
    have := evB_small (h.items p hp).2 (by
      obtain ⟨i, _, rfl⟩ := List.mem_map.1 hp
      exact chE_body c _ hc)
    unfold itB
    rw [List.length_append]
    omega
  have i2 := alB_len (enc := pkB) (K := 38) (ms := (chRq c).ones) fun p hp => pkB_len (h.ones p hp).key
  have := pkB_len h.signed.key
  have := qbi (chRq c).kind
  have := qbi (chRq c).acc
  have := qbi (chRq c).dev
  have := qbi (chRq c).ver
  have := qbi ((chRq c).pin.length : Int)
  have := qbi ((chRq c).next.length : Int)
  have := qbi ((chRq c).name.length : Int)
  have := h.token
  have := h.sig
  generalize chRq c = m at *
  rw [rqB_al]
  simp only [List.length_append, txB]
  omega
theorem chSl_can (c : List (BitVec 8)) (hc : c.length ≤ 60000) {i : Nat} (hi : i ≤ 100) : (chSl c i).Can := by
  have h8 : chN c (7 + i) % 4 < 4 := Nat.mod_lt _ (by omega)
  refine ⟨qb9 c (by omega), ⟨qb9 c (by omega), rfl⟩, rfl, fun p hp => ?_, ?_, qb9 c (by omega), fun p hp => ?_, by show 1 ≤ 60000; omega⟩
  · obtain ⟨k, hk, rfl⟩ := List.mem_map.1 hp
    have := List.mem_range.1 hk
    exact chP_can c (by omega) k (by omega)
  · show (chPs c (7 + i) _).length ≤ 60000
    rw [chPs_len]
    omega
  · obtain rfl := List.mem_singleton.1 hp
    exact chE_can c (by omega) hc
theorem chAc_can (c : List (BitVec 8)) (hc : c.length ≤ 60000) : (chAc c).Can := by
  have h4 : chN c 4 % 4 < 4 := Nat.mod_lt _ (by omega)
  have h1 : chN c 1 % 3 < 3 := Nat.mod_lt _ (by omega)
  refine ⟨qb9 c (by omega), by show 2 ≤ 60000; omega, ⟨by show (0 : Int) ≤ ((chN c 1 % 3 : Nat) : Int); omega, by show ((chN c 1 % 3 : Nat) : Int) ≤ 1099511627776; omega⟩, qb9 c (by omega), chL_can c, fun p hp => ?_, ?_, fun p hp => ?_, ?_⟩
  · obtain ⟨k, hk, rfl⟩ := List.mem_map.1 hp
    have := List.mem_range.1 hk
    exact chSl_can c hc (by omega)
  · show (chSs c _).length ≤ 60000
    rw [chSs_len]
    omega
  · obtain ⟨k, hk, rfl⟩ := List.mem_map.1 hp
    exact qaj _ _
  · show (chTs c _).length ≤ 60000
    rw [chTs_len]
    omega
theorem chSl_small (c : List (BitVec 8)) (hc : c.length ≤ 200) {i : Nat} (hi : i ≤ 100) : (slB (chSl c i)).length ≤ 800 := by
  have h := chSl_can c (by omega) hi
  have hon : (chSl c i).ones.length ≤ 3 := by show (chPs c (7 + i) _).length ≤ 3; rw [chPs_len]; omega
  have hml : (chSl c i).mail.length = 1 := rfl
  have i1 := alB_len (enc := evB) (K := 400) (ms := (chSl c i).mail) fun p hp => evB_small (h.mail p hp) (by obtain rfl := List.mem_singleton.1 hp; exact chE_body c _ hc)
  have i2 := alB_len (enc := pkB) (K := 38) (ms := (chSl c i).ones) fun p hp => pkB_len (h.ones p hp).key
  have := pkB_len h.signed.key
  have := qbi (chSl c i).dev
  have := qbi (chSl c i).last
  have := h.sig
  generalize chSl c i = m at *
  rw [slB_al]
  simp only [List.length_append]
  omega
theorem chAc_small (c : List (BitVec 8)) (hc : c.length ≤ 200) : (acB (chAc c)).length ≤ 50000 := by
  have h := chAc_can c (by omega)
  have hsl : (chAc c).slots.length ≤ 3 := by show (chSs c _).length ≤ 3; rw [chSs_len]; omega
  have htk : (chAc c).tokens.length ≤ 3 := by show (chTs c _).length ≤ 3; rw [chTs_len]; omega
  have hpin : (chAc c).pin.length = 2 := rfl
  have hls : (lsB (chAc c).ls).length ≤ 4200 := lsB_small h.ls (chL_devs c)
  have i1 := alB_len (enc := slB) (K := 800) (ms := (chAc c).slots) fun p hp => by
    obtain ⟨k, hk, rfl⟩ := List.mem_map.1 hp
    have := List.mem_range.1 hk
    exact chSl_small c hc (by omega)
  have i2 := alB_len (enc := fun k : List (BitVec 8) => k) (K := 32) (ms := (chAc c).tokens) fun p hp => by rw [h.tokens p hp]; exact Nat.le_refl _
  have := qbi (chAc c).id
  have := qbi (chAc c).wrong
  have := qbi (chAc c).till
  have := qbi ((chAc c).pin.length : Int)
  generalize chAc c = m at *
  rw [acB_al]
  simp only [List.length_append, txB]
  omega
theorem chAc_ok (c : List (BitVec 8)) (hc : c.length ≤ 200) : (chAc c).Ok := by
  have h := chAc_can c (by omega)
  refine ⟨by have := h.pin; omega, h.ls.ok, fun p hp => ?_, h.many, h.tokens, h.much⟩
  have hs := h.slots p hp
  refine ⟨hs.signed.key, hs.sig, fun q hq => (hs.ones q hq).key, hs.many, fun q hq => (hs.mail q hq).ok, hs.much, ?_⟩
  obtain ⟨k, hk, rfl⟩ := List.mem_map.1 hp
  have h4 := List.mem_range.1 hk
  have h5 : chN c 4 % 4 < 4 := Nat.mod_lt _ (by omega)
  have e := chSl_small c hc (i := k) (by omega)
  rw [slB_al] at e
  simp only [List.length_append, alB] at e
  have e2 : (evsB (chSl c k).mail (chSl c k).mail.length).length ≤ ((chSl c k).mail.flatMap evB).length + 6 := by
    unfold evsB
    rw [List.take_length]
    simp only [List.length_append]
    have := qbi ((chSl c k).mail.length : Int)
    omega
  omega
theorem chAc_one (c : List (BitVec 8)) (hc : c.length ≤ 60000) : ∀ s ∈ (chAc c).slots, ∀ p ∈ s.mail, -9223372036854775808 ≤ p.one := fun s hs p hp => by
  have := (((chAc_can c hc).slots s hs).mail p hp).one
  omega
theorem acB_pos {m : MAc} (h : m.Can) : 0 < (acB m).length := by
  rw [acB_al, lsB_al]
  simp only [List.length_append]
  have := h.ls.ident
  omega
end Go.Proofs.Ytcgbgmbnagmohaa
