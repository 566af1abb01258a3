import Derived.Test.YtgioojahadlmhaaPrC
import Derived.Laws.StructEq
import Derived.Test.YtgioojahadlmhaaLy
import Derived.Test.YtgioojahadlmhaaPrU
import Derived.Test.YtgioojahadlmhaaPrL
import Derived.Test.YtgioojahadlmhaaPw6
import Derived.Test.YtgioojahadlmhaaPw3
import Derived.Test.YtgioojahadlmhaaPu1
import Derived.Test.YtgioojahadlmhaaCh3
import Derived.Test.YtgioojahadlmhaaPu2
import Derived.Deep.CutBlock
import Derived.Test.YtgioojahadlmhaaPu3
import Derived.Test.YtgioojahadlmhaaCh5
namespace Go.Proofs.Ytgioojahadlmhaa
open Go.RowKit
set_option maxRecDepth 20000
section
variable {w : World} {xs ys : List Value} {d : Nat}
theorem run_partC {t : TypeId} {D : TypeDesc} {off : Nat} {v : Value} (ht : Try.prog.underlying t = some D) (hd : D.isRow = false) (h : xs[off]? = some v) : (part t xs.toArray off).run Try.prog w = .ok v w := by
  have hagg : (isAgg t).run Try.prog w = .ok false w := by
    unfold isAgg
    rw [Sem.run_bind, run_underlying ht w]
    cases D <;> simp_all
  unfold part
  simp [hagg, h]
theorem eqF_nil : (Op.eqFields d xs.toArray ys.toArray []).run Try.prog w = .ok true w := by simp [Op.eqFields]
theorem eqF_cons {f : Field} {fs : List Field} {a b : Value} {r1 r2 : Bool} (hn : f.name ≠ "_") (ha : (part f.type xs.toArray f.offset).run Try.prog w = .ok a w) (hb : (part f.type ys.toArray f.offset).run Try.prog w = .ok b w) (h1 : (Op.equalIn d f.type a b).run Try.prog w = .ok r1 w) (h2 : (Op.eqFields d xs.toArray ys.toArray fs).run Try.prog w = .ok r2 w) : (Op.eqFields d xs.toArray ys.toArray (f :: fs)).run Try.prog w = .ok (r1 && r2) w := by
  unfold Op.eqFields
  rw [if_pos hn]
  simp only [Sem.run_bind, ha, hb, h1, Result.andThen_ok]
  cases r1
  · simp
  · simp [h2]
theorem run_eqlA {ρ : Operand → Value} {o : Oper} {x y : Operand} {t t' : TypeId} {r : Bool} (ho : o.op = .binOp .eql t x y t') (hm : Try.prog.eqGuardType Try.prog.depth t = false) (hx : ρ x = .agg xs.toArray) (hy : ρ y = .agg ys.toArray) (h : (Op.equalIn 10000 t (.agg xs.toArray) (.agg ys.toArray)).run Try.prog w = .ok r w) : (execOp ρ o).run Try.prog w = .ok (.value (.bool r)) w := by
  have hg := run_eqGuard_agg (P := Try.prog) w .eql t x y xs.toArray ys.toArray hm
  have he := run_eql_struct (P := Try.prog) w t xs.toArray ys.toArray
  rw [h] at he
  unfold execOp
  simp only [ho, hx, hy, Sem.run_bind, hg, Result.andThen_ok, he]
  simp
end
theorem eqUs_in {x0 y0 : ByteArray} {x1 y1 : Int} {x2 y2 : Bool} (w : World) : (Op.equalIn 10000 25 (.agg (usR (.string x0) (.int .i64 x1) (.bool x2)).toArray) (.agg (usR (.string y0) (.int .i64 y1) (.bool y2)).toArray)).run Try.prog w = .ok ((x0.toList == y0.toList) && ((x1 == y1) && ((x2 == y2) && true))) w := by
  rw [show (10000 : Nat) = 9999 + 1 from rfl, run_equalIn_struct w 9999 25 _ _ (by kernel_rfl) (by kernel_rfl)]
  refine eqF_cons (by decide) (run_partC Try.underlying9 rfl usR_Name) (run_partC Try.underlying9 rfl usR_Name) (run_equalIn_string w 9998 _ _ _ Try.underlying9) ?_
  refine eqF_cons (by decide) (run_partC Try.underlying3 rfl usR_Account) (run_partC Try.underlying3 rfl usR_Account) (run_equalIn_int w 9998 _ _ _ _ _ Try.underlying3) ?_
  refine eqF_cons (by decide) (run_partC Try.underlying4 rfl usR_Sure) (run_partC Try.underlying4 rfl usR_Sure) (run_equalIn_bool' w 9998 _ _ _ Try.underlying4) ?_
  exact eqF_nil
end Go.Proofs.Ytgioojahadlmhaa
namespace Go.Proofs.Ytgioojahadlmhaa
open Go.RowKit
set_option maxRecDepth 20000
attribute [local irreducible] wpList
theorem kn1 : alB usB [⟨[97], 300, true⟩] = [1, 1, 97, 172, 2, 1] := by decide +kernel
theorem kn2 : rdUs [1, 1, 97, 172, 2, 1] = ([⟨[97], 300, true⟩], 0) := by rfl
theorem kn3 : rdLs [] = (zLs, 10) := by rfl
theorem kn5 : strOf [1, 1, 97, 172, 2, 1] = ⟨#[1, 1, 97, 172, 2, 1]⟩ := by rfl
theorem slR_sole {α : Type} {z g : Nat} {At : α → List Value → World → Prop} {x : α} {cs : List Value} {u : World} (hA : Arr g cs u) (hz : cs.length = z) (hR : Fro 0 (At x cs) u) : Fro 0 (SlR z At [x] (some ⟨g, 0, none⟩) 1) u := fun V hV =>
  ⟨Nat.le_refl _, [cs], rfl, (fun y hy => by rw [List.mem_singleton.1 hy]; exact hz), (fun i m c h1 h2 => by
    cases i with
    | zero => simp only [List.getElem?_cons_zero, Option.some.injEq] at h1 h2; subst h1 h2; exact hR V hV
    | succ i => simp at h1), fun _ => ⟨g, 0, rfl, Nat.lt_of_lt_of_le hA.lt hV.size, by simpa using (hA.same hV.size (hV.block g (Nat.zero_le _) hA.lt (by simp))).range⟩⟩
theorem slR_at {α : Type} {z : Nat} {At : α → List Value → World → Prop} {l : List α} {a : Option Addr} {c : Nat} {u : World} (h : SlR z At l a c u) {i : Nat} (hi : i < l.length) : ∃ g f cs, a = some ⟨g, f, none⟩ ∧ g < u.heap.size ∧ cs.length = z ∧ u.rangeAt g (f + i * z) cs ∧ At l[i] cs u := by
  obtain ⟨h1, css, h2, h3, h4, h5⟩ := h
  obtain ⟨g, f, h6, h7, h8⟩ := h5 (by intro e; rw [e] at hi; exact absurd hi (Nat.not_lt_zero _))
  have hi2 : i < css.length := by omega
  refine ⟨g, f, css[i], h6, h7, h3 _ (List.getElem_mem hi2), ?_, h4 i _ _ (List.getElem?_eq_getElem hi) (List.getElem?_eq_getElem hi2)⟩
  have key : ∀ (css : List (List Value)) (i : Nat), (∀ x ∈ css, x.length = z) → ∀ hi : i < css.length, (css.flatten.drop (i * z)).take z = css[i] := by
    intro css
    induction css with
    | nil => intro i _ hi; simp at hi
    | cons c css ih =>
      intro i hz hi
      have hc := hz c (List.mem_cons_self ..)
      cases i with
      | zero => simp [← hc]
      | succ i =>
        have := ih i (fun x hx => hz x (List.mem_cons_of_mem _ hx)) (by simpa using hi)
        rw [List.flatten_cons, show (i + 1) * z = c.length + i * z by rw [Nat.add_mul, hc]; omega, List.drop_append, List.drop_of_length_le (by omega), List.nil_append]
        simpa using this
  rw [← key css i h3 hi2]
  exact qb9 (rangeAt_drop h8)
theorem qbz : Enters 10 := qan Try.func10 (by kernel_rfl) rfl
set_option maxHeartbeats 8000000 in
theorem qby (w : World) : Calls Try.prog 10 #[] w fun e w' => e = .returned (.bool true) ∧ Below w.heap.size w w' := by
  have E := Lib.hid (Ev.start (w := w) (F := fun _ => True) fun _ _ => trivial)
  obtain ⟨us, hus⟩ : ∃ us : List MUs, us = [⟨[97], 300, true⟩] := ⟨_, rfl⟩
  obtain ⟨B, hB⟩ : ∃ B : List (BitVec 8), B = [1, 1, 97, 172, 2, 1] := ⟨_, rfl⟩
  have hul : us.length = 1 := by rw [hus]; rfl
  have K1 : Hid (alB usB us = B) := Lib.hid (by rw [hus, hB]; exact kn1)
  have K2 : Hid (rdUs B = (us, 0)) := Lib.hid (by rw [hus, hB]; exact kn2)
  have KB : Hid (strOf B = ⟨#[1, 1, 97, 172, 2, 1]⟩) := Lib.hid (by rw [hB]; exact kn5)
  have HU := Lib.hid hus
  have hBl : B.length ≤ 100000000000 := by rw [hB]; decide
  clear hB hus
  go_enter Try.func10, Try.ntmps10
  go_upto_region 0 with fail; refine wp_region_lit ?_
  refine qaa (qak (v := .bool false) rfl rfl) rfl ?_; (try simp only [Act.put, List.setIfInBounds_toArray, List.set_cons_zero])
  refine qab ?_
  go_upto_region 1 with fail; refine wp_region_lit ?_
  refine qaa (qa8 (cells := (usR (.string ⟨#[97]⟩) (.int .i64 300) (.bool true)).toArray) (ps := [(0, .string ⟨#[97]⟩), (1, .int .i64 300), (2, .bool true)]) rfl rfl (usR_all rfl rfl rfl)) rfl ?_; (try simp only [Act.put, lyy])
  refine qaa (run_bsl1 (m := usR (.string ⟨#[97]⟩) (.int .i64 300) (.bool true)) (z := 3) (zv := .agg ([.string ⟨#[]⟩, .int .i64 0, .bool false] : List Value).toArray) rfl Try.underlying26 (by kernel_rfl) rfl usR_len (by omega) (by omega)) rfl ?_; (try simp only [Act.put, lyy])
  have HA := Lib.hid (Arr.new w (usR (.string ⟨#[97]⟩) (.int .i64 300) (.bool true)) 25)
  replace E := Lib.hid (E.out.new (usR (.string ⟨#[97]⟩) (.int .i64 300) (.bool true)) 25)
  generalize w.alloc (.cells (usR (.string ⟨#[97]⟩) (.int .i64 300) (.bool true)).toArray 25) = a1 at *
  obtain ⟨g1, hg1⟩ : ∃ k, k = w.heap.size := ⟨_, rfl⟩
  rw [← hg1] at E HA ⊢
  clear hg1
  have HS : Hid (Fro 0 (SlR 3 usAt us (some ⟨g1, 0, none⟩) 1) a1) := Lib.hid (by rw [HU.out]; exact slR_sole HA.out usR_len fun _ _ => rfl)
  have HC : Hid (Calls Try.prog 8 #[.slice (some ⟨g1, 0, none⟩) 1 1] a1 fun e w' => ∃ v', e = .returned v' ∧ S5 a1 v' B w') := Lib.hid (by
    have h := xUss_any a1 us (some ⟨g1, 0, none⟩) 1 (by omega) HS.out (by rw [K1.out]; exact hBl)
    rw [K1.out, hul] at h
    exact h)
  refine qag (qam enters_xUss rfl rfl rfl) rfl HC.out (fun v2 a2 hR => ?_); (try simp only [Act.put, lyy])
  have hs9 := hR.sl
  obtain ⟨ax, cx, rfl, -, -⟩ := id hs9
  replace E := Lib.hid (E.out.call hR.bl (fro_sl hR.O))
  clear hR hs9 HS HC HA
  refine qaa (qak (v := .slice ax B.length cx) rfl rfl) rfl ?_; (try simp only [Act.put, lyy])
  refine qab ?_
  go_upto_region 2 with fail; refine wp_region_lit ?_
  refine qaa (qad (v := .slice ax B.length cx) rfl rfl) rfl ?_; (try simp only [Act.put, lyy])
  refine qag (qam enters_ryUs rfl rfl rfl) rfl (ryUs_any ax B cx us 0 K2.out _ E.out.h.1) (fun v3 a3 hR => ?_); (try simp only [Act.put, lyy])
  obtain ⟨⟨ay, cy, rfl, fy⟩, hb⟩ := hR
  rw [hul]
  replace E := Lib.hid (E.out.call hb fy)
  clear hb fy
  refine qaa (qad (v := .tuple #[.slice ay 1 cy, .int .u16 0]) rfl rfl) rfl ?_; (try simp only [Act.put, lyy])
  refine qaa (qb0 (v := .slice ay 1 cy) rfl rfl rfl) rfl ?_; (try simp only [Act.put, lyy])
  refine qaa (qb0 (v := .int .u16 0) rfl rfl rfl) rfl ?_; (try simp only [Act.put, lyy])
  refine qaa (qak (v := .slice ay 1 cy) rfl rfl) rfl ?_; (try simp only [Act.put, lyy])
  refine qaa (qak (v := .int .u16 0) rfl rfl) rfl ?_; (try simp only [Act.put, lyy])
  refine qab ?_
  go_upto_region 3 with fail; refine wp_region_lit ?_
  refine qag (qam enters_ryLs rfl rfl rfl) rfl (ryLs_any none [] 0 zLs 10 kn3 _ (sl_nilR _)) (fun v4 a4 hR => ?_); (try simp only [Act.put, lyy])
  obtain ⟨⟨X, rfl, lX, oX, fX⟩, hb⟩ := hR
  replace E := Lib.hid (E.out.call hb fX)
  clear hb fX
  refine qaa (qad (v := .tuple #[.agg X.toArray, .int .u16 10]) rfl rfl) rfl ?_; (try simp only [Act.put, lyy])
  refine qaa (qb0 (v := .agg X.toArray) rfl rfl rfl) rfl ?_; (try simp only [Act.put, lyy])
  refine qaa (qb0 (v := .int .u16 10) rfl rfl rfl) rfl ?_; (try simp only [Act.put, lyy])
  refine qaa (qa5 (vs := lsR ((.int .i64 0)) ((.int .i64 0)) (z8 32) ((.slice none 0 0)) (z8 64)) rfl (by kernel_rfl)) rfl ?_; (try simp only [Act.put, lyy])
  replace E := Lib.hid (E.out.new (lsR ((.int .i64 0)) ((.int .i64 0)) (z8 32) ((.slice none 0 0)) (z8 64)) 40)
  generalize a4.alloc (.cells (lsR ((.int .i64 0)) ((.int .i64 0)) (z8 32) ((.slice none 0 0)) (z8 64)).toArray 40) = a5 at *
  generalize a4.heap.size = g5 at *
  refine qal (qa1 (vs := X) rfl (szR lX (by kernel_rfl)) rfl rfl (One.all oX) ((E.out.get (i := 0) rfl).thereM (by have q1 : (lsR ((.int .i64 0)) ((.int .i64 0)) (z8 32) ((.slice none 0 0)) (z8 64) : List Value).length = 99 := (qas (qae 32) (qae 64)); omega))) rfl rfl ?_
  replace E := Lib.hid (E.out.put 0 rfl (m := X) (lX.trans (show (lsR ((.int .i64 0)) ((.int .i64 0)) (z8 32) ((.slice none 0 0)) (z8 64) : List Value).length = 99 from (qas (qae 32) (qae 64))).symm))
  generalize a5.setCells g5 0 X = a6 at *
  refine qaa (qak (v := .int .u16 10) rfl rfl) rfl ?_; (try simp only [Act.put, lyy])
  refine qab ?_
  have hY := E.out.h.2.1
  obtain ⟨g, f, cs, rfl, -, hcl, hcr, hct⟩ := slR_at hY (i := 0) (by omega)
  have hcs : cs = usR (.string ⟨#[97]⟩) (.int .i64 300) (.bool true) := by
    have h := hct
    have e : us[0]'(by omega) = ⟨[97], 300, true⟩ := by simp only [HU.out, List.getElem_cons_zero]
    rw [e] at h
    exact h
  subst hcs
  have HCR : Hid (a6.rangeAt g (f + 0 * 3) (usR (.string ⟨#[97]⟩) (.int .i64 300) (.bool true))) := Lib.hid hcr
  have HSl := Lib.hid E.out.h.2.2.1
  have HBl := Lib.hid E.out.bl
  clear hcr hct hY hcl
  go_upto_region 4 with fail; refine wp_region_lit ?_
  refine qaa (qad (v := .slice ax B.length cx) rfl rfl) rfl ?_; (try simp only [Act.put, lyy])
  refine qaa (qbk rfl rfl HSl.out) rfl ?_; (try simp only [Act.put, lyy])
  rw [KB.out]
  refine qaa (run_eqstr rfl rfl rfl) rfl ?_; (try simp only [Act.put, lyy])
  refine qaa (qad (v := .bool true) rfl rfl) rfl ?_; (try simp only [Act.put, lyy])
  refine qax (qad (v := .int .u16 0) rfl rfl) rfl ?_; (try simp only [Act.put, lyy])
  refine qax (qcd (c := true) rfl rfl rfl rfl) rfl ?_; (try simp only [Act.put, lyy])
  refine qaa (qaq (b := true) (v := .bool true) rfl rfl rfl) rfl ?_; (try simp only [Act.put, lyy])
  refine qaa (qad (v := .bool true) rfl rfl) rfl ?_; (try simp only [Act.put, lyy])
  refine qax (qad (v := .slice (some _) 1 cy) rfl rfl) rfl ?_; (try simp only [Act.put, lyy])
  refine qax (qbh rfl Try.underlying26 rfl) rfl ?_; (try simp only [Act.put, lyy])
  refine qax (qcd (c := true) rfl rfl rfl rfl) rfl ?_; (try simp only [Act.put, lyy])
  refine qaa (qaq (b := true) (v := .bool true) rfl rfl rfl) rfl ?_; (try simp only [Act.put, lyy])
  refine qaa (qad (v := .bool true) rfl rfl) rfl ?_; (try simp only [Act.put, lyy])
  refine qax (qad (v := .slice (some ⟨g, f, none⟩) 1 cy) rfl rfl) rfl ?_; (try simp only [Act.put, lyy])
  refine qax (run_ixZ (z := 3) (i := 0) rfl Try.underlying26 (by kernel_rfl) rfl rfl (by omega)) rfl ?_; (try simp only [Act.put, lyy])
  refine qax (qa4 (vs := usR (.string ⟨#[97]⟩) (.int .i64 300) (.bool true)) rfl Try.underlying25 rfl (szR usR_len (by kernel_rfl)) rfl HCR.out) rfl ?_; (try simp only [Act.put, lyy])
  refine qax (qa8 (cells := (usR (.string ⟨#[97]⟩) (.int .i64 300) (.bool true)).toArray) (ps := [(0, .string ⟨#[97]⟩), (1, .int .i64 300), (2, .bool true)]) rfl rfl (usR_all rfl rfl rfl)) rfl ?_; (try simp only [Act.put, lyy])
  refine qax (run_eqlA (r := true) rfl (by kernel_rfl) rfl rfl ((eqUs_in a6).trans (by simp))) rfl ?_; (try simp only [Act.put, lyy])
  refine qaa (qaq (b := true) (v := .bool true) rfl rfl rfl) rfl ?_; (try simp only [Act.put, lyy])
  refine qaa (qad (v := .bool true) rfl rfl) rfl ?_; (try simp only [Act.put, lyy])
  refine qax (qad (v := .int .u16 10) rfl rfl) rfl ?_; (try simp only [Act.put, lyy])
  refine qax (qcd (c := true) rfl rfl rfl rfl) rfl ?_; (try simp only [Act.put, lyy])
  refine qaa (qaq (b := true) (v := .bool true) rfl rfl rfl) rfl ?_; (try simp only [Act.put, lyy])
  refine qaa (qak (v := .bool true) rfl rfl) rfl ?_; (try simp only [Act.put, List.setIfInBounds_toArray, List.set_cons_zero])
  refine qab ?_
  go_wp2_with fail
  go_ret
  exact ⟨rfl, HBl.out⟩
end Go.Proofs.Ytgioojahadlmhaa
namespace Go.Proofs.Ytgioojahadlmhaa
open Go.RowKit
set_option maxRecDepth 20000
attribute [local irreducible] wpList
theorem run_eqStr {w : World} {ρ : Operand → Value} {o : Oper} {x y : Operand} {t t' : TypeId} {l m : List (BitVec 8)} (ho : o.op = .binOp .eql t x y t') (hx : ρ x = .string (strOf l)) (hy : ρ y = .string (strOf m)) : (execOp ρ o).run Try.prog w = .ok (.value (.bool (decide (l = m)))) w := by
  rw [← strOf_beq]
  exact run_eqstrG ho hx hy
section
variable {ops : Array Oper} {Q : Exit → Act → World → Prop} {rest : List Oper} {o : Oper} {a : Act} {w : World} {r : Bool} {v : Value}
end
end Go.Proofs.Ytgioojahadlmhaa
namespace Go.Proofs.Ytgioojahadlmhaa
open Go.RowKit
set_option maxRecDepth 20000
attribute [local irreducible] wpList
section
variable {w : World} {ρ : Operand → Value} {o : Oper} {t t' : TypeId} {x y : Operand}
end
end Go.Proofs.Ytgioojahadlmhaa
namespace Go.Proofs.Ytgioojahadlmhaa
open Go.RowKit
set_option maxRecDepth 20000
attribute [local irreducible] wpList
theorem chT_le : ∀ k, chT.getD k 0 ≤ 1099511627776 := by
  intro k
  match k with
  | 0 => decide
  | 1 => decide
  | 2 => decide
  | 3 => decide
  | 4 => decide
  | 5 => decide
  | k + 6 => simp [chT]
theorem chN_le (c : List (BitVec 8)) {i : Nat} (hi : i ≤ 1099511627776) : chN c i ≤ 1099511627776 := by
  unfold chN
  split
  · exact hi
  · split
    · exact chT_le _
    · omega
theorem qcn (c : List (BitVec 8)) {i : Nat} (hi : i ≤ 1099511627776) : Num (chN c i : Int) := ⟨by omega, by have := chN_le c hi; omega⟩
theorem chE_can (c : List (BitVec 8)) {k : Nat} (hk : k ≤ 100000) (hc : c.length ≤ 60000) : (chE c k).Can := by
  refine ⟨qcn c (by omega), qcn c (by omega), qaj _ _, qcn c (by omega), ?_, ⟨qaj _ _, qcn c (by omega), qcn c (by omega)⟩, ?_⟩
  · show -1 ≤ ((min (chN c (k + 5)) 1099511627775 : Nat) : Int) - 1 ∧ ((min (chN c (k + 5)) 1099511627775 : Nat) : Int) - 1 ≤ 1099511627775
    omega
  · show (c.take _).length ≤ 60000
    rw [List.length_take]
    omega
theorem MEv.Can.ok {m : MEv} (h : m.Can) : m.Ok := ⟨h.eph, h.head.r, by have := h.body; omega⟩
end Go.Proofs.Ytgioojahadlmhaa
namespace Go.Proofs.Ytgioojahadlmhaa
open Go.RowKit
set_option maxRecDepth 20000
theorem own_set {B : Nat} {v : Value} {l : List (BitVec 8)} {u : World} (h : u.ownsRow B 5 1 v l.length (l.map b8)) (h0 : 0 < l.length) : ∃ g cap, v = .slice (some ⟨g, 0, none⟩) l.length cap ∧ B ≤ g ∧ ∀ i, i < l.length → (∃ y, u.cell? ⟨g, i, none⟩ = some y) ∧ u.frozen? ⟨g, i, none⟩ = false ∧ ∀ x : BitVec 8, Sl v (l.set i x) (u.setCell ⟨g, i, none⟩ (b8 x)) := by
  rcases h.2 with ⟨rfl, h2⟩ | ⟨g, cap, cur, rfl, h3, h4, h5, h6, h7, h8⟩
  · omega
  have lt : g < u.heap.size := (Array.getElem?_eq_some_iff.1 h4).1
  have A : Arr g cur.toList u := ⟨lt, fun j y hj => by simp only [World.cell?, h4]; simpa using hj, fun j => by simp [World.frozen?, h4]⟩
  rw [Nat.mul_one] at h7 h8
  refine ⟨g, cap, rfl, h3, fun i hi => ?_⟩
  have hc : i < cur.toList.length := by simp; omega
  refine ⟨⟨_, A.c i _ (List.getElem?_eq_getElem hc)⟩, A.f i, fun x => ?_⟩
  have A2 := A.set hc (b8 x)
  refine ⟨some ⟨g, 0, none⟩, cap, by rw [List.length_set], by rw [List.length_set]; omega, fun _ => ⟨g, 0, rfl, A2.lt, fun j y hj => ?_⟩⟩
  rw [Nat.zero_add]
  refine A2.c j y ?_
  have hlt : j < l.length := by
    rcases Nat.lt_or_ge j l.length with h9 | h9
    · exact h9
    · rw [List.getElem?_eq_none (by simpa using h9)] at hj; cases hj
  rw [List.map_set, ← h8, ← List.take_set, List.getElem?_take_of_lt hlt] at hj
  exact hj
theorem alB_len {α : Type} {enc : α → List (BitVec 8)} {K : Nat} : ∀ {ms : List α}, (∀ p ∈ ms, (enc p).length ≤ K) → (alB enc ms).length ≤ 6 + ms.length * K := by
  intro ms h
  have hf : ∀ l : List α, (∀ p ∈ l, (enc p).length ≤ K) → (l.flatMap enc).length ≤ l.length * K := by
    intro l
    induction l with
    | nil => intro _; simp
    | cons a l ih =>
      intro h
      rw [List.flatMap_cons, List.length_append, List.length_cons, Nat.add_mul, Nat.one_mul]
      have := h a (List.mem_cons_self ..)
      have := ih fun p hp => h p (List.mem_cons_of_mem _ hp)
      omega
  have := hf ms h
  have := qbq (ms.length : Int)
  unfold alB
  rw [List.length_append]
  omega
theorem MLs.Can.ok {m : MLs} (h : m.Can) : m.Ok := ⟨h.ident, h.sig, fun p hp => (h.devs p hp).key, h.many⟩
theorem MRq.Can.ok {m : MRq} (h : m.Can) : m.Ok := ⟨h.kind.1, by have := h.kind.2; omega, by have := h.pin; omega, by have := h.next; omega, by have := h.name; omega, h.ls.ok, h.token, h.signed.key, h.sig, fun p hp => (h.ones p hp).key, h.many, fun p hp => (h.items p hp).2.ok, h.much⟩
theorem MRq.Can.one {m : MRq} (h : m.Can) : ∀ p ∈ m.items, -9223372036854775808 ≤ p.2.one := fun p hp => by have := (h.items p hp).2.one; omega
theorem rqB_len {m : MRq} (h : m.Can) : (rqB m).length ≤ 100000000000 := by
  have i1 := alB_len (enc := itB) (K := 60300) (ms := m.items) fun p hp => by
    have := qbq p.1
    have := evB_len (h.items p hp).2.ok
    have := (h.items p hp).2.body
    unfold itB
    rw [List.length_append]
    omega
  have i2 := alB_len (enc := pkB) (K := 38) (ms := m.ones) fun p hp => pkB_len (h.ones p hp).key
  have := h.much
  have := h.many
  have i3 : m.items.length * 60300 ≤ 60000 * 60300 := Nat.mul_le_mul_right _ h.much
  have i4 : m.ones.length * 38 ≤ 60000 * 38 := Nat.mul_le_mul_right _ h.many
  have := lsB_len h.ls.ok
  have := pkB_len h.signed.key
  have := qbq m.kind
  have := qbq m.acc
  have := qbq m.dev
  have := qbq m.ver
  have := qbq (m.pin.length : Int)
  have := qbq (m.next.length : Int)
  have := qbq (m.name.length : Int)
  have := h.pin
  have := h.next
  have := h.name
  have := h.token
  have := h.sig
  rw [rqB_al]
  simp only [List.length_append, txB]
  omega
theorem rqB_pos (m : MRq) : 0 < (rqB m).length := by
  have h : 0 < (viB m.kind).length := by
    have q := cut_n m.kind 255
    rcases Nat.eq_zero_or_pos (viB m.kind).length with h0 | h0
    · exfalso
      have h1 : ∀ k n : Nat, viF k n ≠ [] := fun k n => by
        cases k with
        | zero => rw [viF]; simp
        | succ k => rw [viF]; split <;> simp
      exact h1 _ _ (List.length_eq_zero_iff.1 h0)
    · exact h0
  rw [rqB_al]
  simp only [List.length_append]
  omega
theorem chP_can (c : List (BitVec 8)) {k : Nat} (hk : k ≤ 1000) (i : Nat) (hi : i ≤ 1000) : (chP c k i).Can := ⟨qcn c (by omega), qaj _ _⟩
theorem chL_can (c : List (BitVec 8)) : (chL c).Can := by
  refine ⟨qcn c (by omega), qcn c (by omega), qaj _ _, fun p hp => ?_, ?_, chS_len _ _⟩
  · obtain ⟨i, hi, rfl⟩ := List.mem_map.1 hp
    have := List.mem_range.1 hi
    have : chN c 5 % 5 < 5 := Nat.mod_lt _ (by omega)
    exact ⟨qcn c (by omega), qaj _ _⟩
  · show (chDs c _).length ≤ 60000
    rw [chDs_len]
    omega
theorem chRq_can (c : List (BitVec 8)) (hc : c.length ≤ 60000) : (chRq c).Can := by
  have h0 : chN c 0 % 15 < 15 := Nat.mod_lt _ (by omega)
  have h8 : chN c 8 % 4 < 4 := Nat.mod_lt _ (by omega)
  have h9 : chN c 9 % 3 < 3 := Nat.mod_lt _ (by omega)
  refine ⟨⟨by show (0 : Int) ≤ ((chN c 0 % 15 : Nat) : Int); omega, by show ((chN c 0 % 15 : Nat) : Int) ≤ 255; omega⟩, qcn c (by omega), qcn c (by omega), ?_, by show 0 ≤ 60000; omega, by show 1 ≤ 60000; omega, chL_can c, qaj _ _, ⟨qcn c (by omega), qaj _ _⟩, chS_len _ _, fun p hp => ?_, ?_, qcn c (by omega), fun p hp => ?_, ?_⟩
  · show (c.take _).length ≤ 60000
    rw [List.length_take]
    omega
  · obtain ⟨i, hi, rfl⟩ := List.mem_map.1 hp
    have := List.mem_range.1 hi
    exact chP_can c (by omega) i (by omega)
  · show (chPs c 8 _).length ≤ 60000
    rw [chPs_len]
    omega
  · obtain ⟨i, hi, rfl⟩ := List.mem_map.1 hp
    have := List.mem_range.1 hi
    exact ⟨qcn c (by omega), chE_can c (by omega) hc⟩
  · show (chIs c _).length ≤ 60000
    rw [chIs_len]
    omega
end Go.Proofs.Ytgioojahadlmhaa
