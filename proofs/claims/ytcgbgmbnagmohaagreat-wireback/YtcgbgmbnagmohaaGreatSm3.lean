import Derived.Test.YtcgbgmbnagmohaaGreatLy
import Derived.Test.YtcgbgmbnagmohaaGreatSm1
import Derived.Test.YtcgbgmbnagmohaaGreatSlA
import Derived.Test.YtcgbgmbnagmohaaGreatPw4
import Derived.Test.YtcgbgmbnagmohaaGreatEqS
import Derived.Test.YtcgbgmbnagmohaaGreatPw5
namespace Go.Proofs.YtcgbgmbnagmohaaGreat
open Go.RowKit
set_option maxRecDepth 20000
attribute [local irreducible] wpList
theorem qci {α : Type} {z : Nat} {Rr : α → List Value → World → Prop} {l : List α} {a : Option Addr} {c : Nat} {w : World} (h : Fro 0 (SlR z Rr l a c) w) : Hid (∀ (j : Nat) (hj : j < l.length), ∃ g f cs, a = some ⟨g, f, none⟩ ∧ (cs : List Value).length = z ∧ (∀ u, Since w u → u.rangeAt g (f + j * z) cs) ∧ ∀ u, Since w u → Fro 0 (Rr l[j] cs) u) := Lib.hid fun j hj => by
  obtain ⟨g, f, cs, h1, h2, h3, h4, h5⟩ := slR_get h hj
  exact ⟨g, f, cs, h1, h3, fun u hu => qbw h4 h2 hu, fun u hu => h5.below hu⟩
section
variable {w : World} {ρ : Operand → Value} {o : Oper} {x y : Operand} {t t' : TypeId}
theorem run_eqR {xs : List Value} (ho : o.op = .binOp .eql t x y t') (hm : Tryz.prog.eqGuardType Tryz.prog.depth t = false) (hx : ρ x = .agg xs.toArray) (hy : ρ y = .agg xs.toArray) (h : ∀ w, (Op.equalIn 10000 t (.agg xs.toArray) (.agg xs.toArray)).run Tryz.prog w = .ok true w) : (execOp ρ o).run Tryz.prog w = .ok (.value (.bool true)) w := run_eqlA ho hm hx hy (h w)
theorem run_neR {xs : List Value} (ho : o.op = .binOp .neq t x y t') (hm : Tryz.prog.eqGuardType Tryz.prog.depth t = false) (hx : ρ x = .agg xs.toArray) (hy : ρ y = .agg xs.toArray) (h : ∀ w, (Op.equalIn 10000 t (.agg xs.toArray) (.agg xs.toArray)).run Tryz.prog w = .ok true w) : (execOp ρ o).run Tryz.prog w = .ok (.value (.bool false)) w := run_neqA ho hm hx hy (h w)
theorem run_notU (ho : o.op = .unOp .not t x) (hx : ρ x = .bool true) : (execOp ρ o).run Tryz.prog w = .ok (.value (.bool false)) w := run_notB ho hx
theorem run_eqStrS {l : List (BitVec 8)} (ho : o.op = .binOp .eql t x y t') (hx : ρ x = .string (strOf l)) (hy : ρ y = .string (strOf l)) : (execOp ρ o).run Tryz.prog w = .ok (.value (.bool true)) w := by
  have q := run_eqStr (w := w) ho hx hy
  rwa [decide_eq_true rfl] at q
theorem run_neStrS {l : List (BitVec 8)} (ho : o.op = .binOp .neq t x y t') (hx : ρ x = .string (strOf l)) (hy : ρ y = .string (strOf l)) : (execOp ρ o).run Tryz.prog w = .ok (.value (.bool false)) w := by
  have q := run_neqStr (w := w) ho hx hy
  rwa [decide_eq_true rfl] at q
theorem eqKy_r {l : List (BitVec 8)} (h : l.length = 32) (w : World) : (Op.equalIn 10000 27 (.agg (l.map b8).toArray) (.agg (l.map b8).toArray)).run Tryz.prog w = .ok true w := by
  rw [eqB_in (d := 9998) Tryz.underlying27 h h w, decide_eq_true rfl]
theorem eqSg_r {l : List (BitVec 8)} (h : l.length = 64) (w : World) : (Op.equalIn 10000 30 (.agg (l.map b8).toArray) (.agg (l.map b8).toArray)).run Tryz.prog w = .ok true w := by
  rw [eqB_in (d := 9998) Tryz.underlying30 h h w, decide_eq_true rfl]
theorem eqPk_r {p : MPk} (h : p.key.length = 32) (w : World) : (Op.equalIn 10000 42 (.agg (pkC p).toArray) (.agg (pkC p).toArray)).run Tryz.prog w = .ok true w := by
  rw [pkC_row, eqPk_in h h w]
  simp
theorem eqEn_r {p : MPk} (h : p.key.length = 32) (w : World) : (Op.equalIn 10000 92 (.agg (pkC p).toArray) (.agg (pkC p).toArray)).run Tryz.prog w = .ok true w := by
  rw [pkC_en, eqEn_in h h w]
  simp
theorem eqUs_r {p : MUs} (w : World) : (Op.equalIn 10000 88 (.agg (usR (.string (strOf p.name)) (.int .i64 p.acc) (.bool p.sure)).toArray) (.agg (usR (.string (strOf p.name)) (.int .i64 p.acc) (.bool p.sure)).toArray)).run Tryz.prog w = .ok true w := by
  rw [eqUs_in w]
  simp
end
theorem enters_smps : Enters 81 := qan Tryz.func81 (by kernel_rfl) rfl
set_option maxHeartbeats 8000000 in
theorem smPs_any (l : List MPk) (a a2 : Option Addr) (c c2 : Nat) (w : World) (hk : ∀ p ∈ l, p.key.length = 32) (hmany : l.length ≤ 60000) (hX : Fro 0 (SlR 33 pkAt l a c) w) (hY : Fro 0 (SlR 33 pkAt l a2 c2) w) : Calls Tryz.prog 81 #[.slice a l.length c, .slice a2 l.length c2] w fun e w' => e = .returned (.bool true) ∧ Below w.heap.size w w' := by
  have HE := qci hX
  have HE2 := qci hY
  have HK := Lib.hid hk
  have E := Lib.hid (Ev.start (w := w) (F := fun _ => True) fun _ _ => trivial)
  clear hX hY hk
  go_enter Tryz.func81, Tryz.ntmps81
  go_upto_region 0 with fail; refine wp_region_lit ?_
  refine qaa (qak (v := .bool false) rfl rfl) rfl ?_; (try simp only [Act.put, lyy])
  refine qab ?_
  go_upto_region 1 with fail; refine wp_region_lit ?_
  refine qaa (qad (v := .slice a l.length c) rfl rfl) rfl ?_; (try simp only [Act.put, lyy])
  refine qaa (qa4 rfl Tryz.underlying43 rfl) rfl ?_; (try simp only [Act.put, lyy])
  refine qaa (qad (v := .slice a2 l.length c2) rfl rfl) rfl ?_; (try simp only [Act.put, lyy])
  refine qaa (qa4 rfl Tryz.underlying43 rfl) rfl ?_; (try simp only [Act.put, lyy])
  refine qaa (qcv (c := false) rfl rfl rfl (by simp)) rfl ?_; (try simp only [Act.put, lyy])
  refine qab ?_
  go_upto_region 3 with fail; refine wp_region_lit ?_
  refine qaa (qak (v := .int .i64 0) rfl rfl) rfl ?_; (try simp only [Act.put, lyy])
  refine qab ?_
  go_wp2_with fail
  go_loopw [5] (fun s5 u => ∃ j : Nat, s5 = .int .i64 (j : Int) ∧ j ≤ l.length ∧ Ev w [] [] (fun _ => True) (fun _ => True) u) (fun s5 _ => ((l.length : Int) - intOf s5).toNat)
  case atStart => exact ⟨0, rfl, Nat.zero_le _, E.out⟩
  case round =>
    obtain ⟨j, rfl, hj, hE⟩ := hrel
    replace E := Lib.hid hE
    clear hE
    by_cases hjm : j = l.length
    · have hjm2 : l.length ≤ j := by omega
      clear hjm
      go_upto_region 4 with fail; refine wp_region_lit ?_
      refine qaa (qad (v := .int .i64 (j : Int)) rfl rfl) rfl ?_; (try simp only [Act.put, lyy])
      refine qaa (qad (v := .slice a l.length c) rfl rfl) rfl ?_; (try simp only [Act.put, lyy])
      refine qaa (qa4 rfl Tryz.underlying43 rfl) rfl ?_; (try simp only [Act.put, lyy])
      refine qaa (qay (c := false) rfl rfl rfl (decide_eq_false (by omega))) rfl ?_; (try simp only [Act.put, lyy])
      refine qab ?_
      go_upto_region 8 with fail; refine wp_region_lit ?_
      refine qaa (qak (v := .bool true) rfl rfl) rfl ?_; (try simp only [Act.put, lyy])
      refine qab ?_
      go_wp2_with fail
      go_ret
      exact ⟨rfl, E.out.bl⟩
    · have hjl : j < l.length := by omega
      have hkl := HK.out _ (List.getElem_mem hjl)
      obtain ⟨g, fo, cs, rfl, hz, HR, HA⟩ := HE.out j hjl
      obtain ⟨g2, fo2, cs2, rfl, hz2, HR2, HA2⟩ := HE2.out j hjl
      generalize l[j] = q at *
      go_upto_region 4 with fail; refine wp_region_lit ?_
      refine qaa (qad (v := .int .i64 (j : Int)) rfl rfl) rfl ?_; (try simp only [Act.put, lyy])
      refine qaa (qad (v := .slice (some ⟨g, fo, none⟩) l.length c) rfl rfl) rfl ?_; (try simp only [Act.put, lyy])
      refine qaa (qa4 rfl Tryz.underlying43 rfl) rfl ?_; (try simp only [Act.put, lyy])
      refine qaa (qay (c := true) rfl rfl rfl (decide_eq_true (by omega))) rfl ?_; (try simp only [Act.put, lyy])
      refine qab ?_
      obtain rfl : cs = pkC q := (HA w (Below.refl _ _)).now
      obtain rfl : cs2 = pkC q := (HA2 w (Below.refl _ _)).now
      go_upto_region 6 with fail
      refine wp_region_noPanic ?_; refine qbd (S := fun _ V => Below wr.heap.size wr V) (by kernel_rfl) ((Below.refl _ _).drew) (fun hS => ?_)
      replace E := Lib.hid (E.out.below hS)
      generalize wr.drew = a1 at *
      refine qbf (S' := fun _ V => Below a1.heap.size a1 V) (fun _ V h => hS.trans (h.mono hS.size)) _ _ _ _ ?_
      replace hS := Below.refl a1.heap.size a1
      refine qah 0 rfl rfl (by kernel_rfl) (by kernel_rfl) (by kernel_rfl) (fun _ _ _ h => h) rfl (fun V hV => qad (v := .slice (some ⟨g, fo, none⟩) l.length c) rfl rfl) hS ?_; (try simp only [Act.put, lyy])
      refine qah 1 rfl rfl (by kernel_rfl) (by kernel_rfl) (by kernel_rfl) (fun _ _ _ h => h) rfl (fun V hV => qad (v := .int .i64 (j : Int)) rfl rfl) hS ?_; (try simp only [Act.put, lyy])
      refine qah 2 rfl rfl (by kernel_rfl) (by kernel_rfl) (by kernel_rfl) (fun _ _ _ h => h) rfl (fun V hV => qca (z := 33) rfl Tryz.underlying43 (by kernel_rfl) rfl rfl (by omega)) hS ?_; (try simp only [Act.put, lyy])
      refine qah 3 rfl rfl (by kernel_rfl) (by kernel_rfl) (by kernel_rfl) (fun _ _ _ h => h) rfl (fun V hV => qat (vs := pkC q) rfl Tryz.underlying42 rfl (szR (qbr hkl) (by kernel_rfl)) rfl (HR _ (E.out.below hV).bl)) hS ?_; (try simp only [Act.put, lyy])
      refine qah 4 rfl rfl (by kernel_rfl) (by kernel_rfl) (by kernel_rfl) (fun _ _ _ h => h) rfl (fun V hV => qad (v := .slice (some ⟨g2, fo2, none⟩) l.length c2) rfl rfl) hS ?_; (try simp only [Act.put, lyy])
      refine qah 5 rfl rfl (by kernel_rfl) (by kernel_rfl) (by kernel_rfl) (fun _ _ _ h => h) rfl (fun V hV => qad (v := .int .i64 (j : Int)) rfl rfl) hS ?_; (try simp only [Act.put, lyy])
      refine qah 6 rfl rfl (by kernel_rfl) (by kernel_rfl) (by kernel_rfl) (fun _ _ _ h => h) rfl (fun V hV => qca (z := 33) rfl Tryz.underlying43 (by kernel_rfl) rfl rfl (by omega)) hS ?_; (try simp only [Act.put, lyy])
      refine qah 7 rfl rfl (by kernel_rfl) (by kernel_rfl) (by kernel_rfl) (fun _ _ _ h => h) rfl (fun V hV => qat (vs := pkC q) rfl Tryz.underlying42 rfl (szR (qbr hkl) (by kernel_rfl)) rfl (HR2 _ (E.out.below hV).bl)) hS ?_; (try simp only [Act.put, lyy])
      refine qah 8 rfl rfl (by kernel_rfl) (by kernel_rfl) (by kernel_rfl) (fun _ _ _ h => h) rfl (fun V hV => run_neR rfl (by kernel_rfl) rfl rfl (eqPk_r hkl)) hS ?_; (try simp only [Act.put, lyy])
      refine qba (by kernel_rfl) ?_ _; refine NoPanic.normal ?_
      go_upto_region 5 with fail; refine wp_region_lit ?_
      refine qaa (qad (v := .int .i64 (j : Int)) rfl rfl) rfl ?_; (try simp only [Act.put, lyy])
      refine qaa (qa6 (a := j) (b := 1) rfl rfl rfl (by omega)) rfl ?_; (try simp only [Act.put, lyy])
      refine qaa (qak (v := .int .i64 ((j + 1 : Nat) : Int)) rfl rfl) rfl ?_; (try simp only [Act.put, lyy])
      refine qab ?_
      go_wp2_with fail
      exact ⟨⟨j + 1, rfl, by omega, E.out⟩, by simp [intOf]; omega⟩
theorem enters_smus : Enters 36 := qan Tryz.func36 (by kernel_rfl) rfl
set_option maxHeartbeats 8000000 in
theorem smUs_any (l : List MUs) (a a2 : Option Addr) (c c2 : Nat) (w : World) (hk : ∀ p ∈ l, True) (hmany : l.length ≤ 60000) (hX : Fro 0 (SlR 3 usAt l a c) w) (hY : Fro 0 (SlR 3 usAt l a2 c2) w) : Calls Tryz.prog 36 #[.slice a l.length c, .slice a2 l.length c2] w fun e w' => e = .returned (.bool true) ∧ Below w.heap.size w w' := by
  have HE := qci hX
  have HE2 := qci hY
  have HK := Lib.hid hk
  have E := Lib.hid (Ev.start (w := w) (F := fun _ => True) fun _ _ => trivial)
  clear hX hY hk
  go_enter Tryz.func36, Tryz.ntmps36
  go_upto_region 0 with fail; refine wp_region_lit ?_
  refine qaa (qak (v := .bool false) rfl rfl) rfl ?_; (try simp only [Act.put, lyy])
  refine qab ?_
  go_upto_region 1 with fail; refine wp_region_lit ?_
  refine qaa (qad (v := .slice a l.length c) rfl rfl) rfl ?_; (try simp only [Act.put, lyy])
  refine qaa (qa4 rfl Tryz.underlying63 rfl) rfl ?_; (try simp only [Act.put, lyy])
  refine qaa (qad (v := .slice a2 l.length c2) rfl rfl) rfl ?_; (try simp only [Act.put, lyy])
  refine qaa (qa4 rfl Tryz.underlying63 rfl) rfl ?_; (try simp only [Act.put, lyy])
  refine qaa (qcv (c := false) rfl rfl rfl (by simp)) rfl ?_; (try simp only [Act.put, lyy])
  refine qab ?_
  go_upto_region 3 with fail; refine wp_region_lit ?_
  refine qaa (qak (v := .int .i64 0) rfl rfl) rfl ?_; (try simp only [Act.put, lyy])
  refine qab ?_
  go_wp2_with fail
  go_loopw [5] (fun s5 u => ∃ j : Nat, s5 = .int .i64 (j : Int) ∧ j ≤ l.length ∧ Ev w [] [] (fun _ => True) (fun _ => True) u) (fun s5 _ => ((l.length : Int) - intOf s5).toNat)
  case atStart => exact ⟨0, rfl, Nat.zero_le _, E.out⟩
  case round =>
    obtain ⟨j, rfl, hj, hE⟩ := hrel
    replace E := Lib.hid hE
    clear hE
    by_cases hjm : j = l.length
    · have hjm2 : l.length ≤ j := by omega
      clear hjm
      go_upto_region 4 with fail; refine wp_region_lit ?_
      refine qaa (qad (v := .int .i64 (j : Int)) rfl rfl) rfl ?_; (try simp only [Act.put, lyy])
      refine qaa (qad (v := .slice a l.length c) rfl rfl) rfl ?_; (try simp only [Act.put, lyy])
      refine qaa (qa4 rfl Tryz.underlying63 rfl) rfl ?_; (try simp only [Act.put, lyy])
      refine qaa (qay (c := false) rfl rfl rfl (decide_eq_false (by omega))) rfl ?_; (try simp only [Act.put, lyy])
      refine qab ?_
      go_upto_region 8 with fail; refine wp_region_lit ?_
      refine qaa (qak (v := .bool true) rfl rfl) rfl ?_; (try simp only [Act.put, lyy])
      refine qab ?_
      go_wp2_with fail
      go_ret
      exact ⟨rfl, E.out.bl⟩
    · have hjl : j < l.length := by omega
      have hkl := HK.out _ (List.getElem_mem hjl)
      obtain ⟨g, fo, cs, rfl, hz, HR, HA⟩ := HE.out j hjl
      obtain ⟨g2, fo2, cs2, rfl, hz2, HR2, HA2⟩ := HE2.out j hjl
      generalize l[j] = q at *
      go_upto_region 4 with fail; refine wp_region_lit ?_
      refine qaa (qad (v := .int .i64 (j : Int)) rfl rfl) rfl ?_; (try simp only [Act.put, lyy])
      refine qaa (qad (v := .slice (some ⟨g, fo, none⟩) l.length c) rfl rfl) rfl ?_; (try simp only [Act.put, lyy])
      refine qaa (qa4 rfl Tryz.underlying63 rfl) rfl ?_; (try simp only [Act.put, lyy])
      refine qaa (qay (c := true) rfl rfl rfl (decide_eq_true (by omega))) rfl ?_; (try simp only [Act.put, lyy])
      refine qab ?_
      obtain rfl : cs = usR (.string (strOf q.name)) (.int .i64 q.acc) (.bool q.sure) := (HA w (Below.refl _ _)).now
      obtain rfl : cs2 = usR (.string (strOf q.name)) (.int .i64 q.acc) (.bool q.sure) := (HA2 w (Below.refl _ _)).now
      clear hkl hz hz2 HA HA2
      go_upto_region 6 with fail
      refine wp_region_noPanic ?_; refine qbd (S := fun _ V => Below wr.heap.size wr V) (by kernel_rfl) ((Below.refl _ _).drew) (fun hS => ?_)
      replace E := Lib.hid (E.out.below hS)
      generalize wr.drew = a1 at *
      refine qbf (S' := fun _ V => Below a1.heap.size a1 V) (fun _ V h => hS.trans (h.mono hS.size)) _ _ _ _ ?_
      replace hS := Below.refl a1.heap.size a1
      refine qah 0 rfl rfl (by kernel_rfl) (by kernel_rfl) (by kernel_rfl) (fun _ _ _ h => h) rfl (fun V hV => qad (v := .slice (some ⟨g, fo, none⟩) l.length c) rfl rfl) hS ?_; (try simp only [Act.put, lyy])
      refine qah 1 rfl rfl (by kernel_rfl) (by kernel_rfl) (by kernel_rfl) (fun _ _ _ h => h) rfl (fun V hV => qad (v := .int .i64 (j : Int)) rfl rfl) hS ?_; (try simp only [Act.put, lyy])
      refine qah 2 rfl rfl (by kernel_rfl) (by kernel_rfl) (by kernel_rfl) (fun _ _ _ h => h) rfl (fun V hV => qca (z := 3) rfl Tryz.underlying63 (by kernel_rfl) rfl rfl (by omega)) hS ?_; (try simp only [Act.put, lyy])
      refine qah 3 rfl rfl (by kernel_rfl) (by kernel_rfl) (by kernel_rfl) (fun _ _ _ h => h) rfl (fun V hV => qat (vs := usR (.string (strOf q.name)) (.int .i64 q.acc) (.bool q.sure)) rfl Tryz.underlying88 rfl (szR qcx (by kernel_rfl)) rfl (HR _ (E.out.below hV).bl)) hS ?_; (try simp only [Act.put, lyy])
      refine qah 4 rfl rfl (by kernel_rfl) (by kernel_rfl) (by kernel_rfl) (fun _ _ _ h => h) rfl (fun V hV => qad (v := .slice (some ⟨g2, fo2, none⟩) l.length c2) rfl rfl) hS ?_; (try simp only [Act.put, lyy])
      refine qah 5 rfl rfl (by kernel_rfl) (by kernel_rfl) (by kernel_rfl) (fun _ _ _ h => h) rfl (fun V hV => qad (v := .int .i64 (j : Int)) rfl rfl) hS ?_; (try simp only [Act.put, lyy])
      refine qah 6 rfl rfl (by kernel_rfl) (by kernel_rfl) (by kernel_rfl) (fun _ _ _ h => h) rfl (fun V hV => qca (z := 3) rfl Tryz.underlying63 (by kernel_rfl) rfl rfl (by omega)) hS ?_; (try simp only [Act.put, lyy])
      refine qah 7 rfl rfl (by kernel_rfl) (by kernel_rfl) (by kernel_rfl) (fun _ _ _ h => h) rfl (fun V hV => qat (vs := usR (.string (strOf q.name)) (.int .i64 q.acc) (.bool q.sure)) rfl Tryz.underlying88 rfl (szR qcx (by kernel_rfl)) rfl (HR2 _ (E.out.below hV).bl)) hS ?_; (try simp only [Act.put, lyy])
      refine qah 8 rfl rfl (by kernel_rfl) (by kernel_rfl) (by kernel_rfl) (fun _ _ _ h => h) rfl (fun V hV => run_neR rfl (by kernel_rfl) rfl rfl eqUs_r) hS ?_; (try simp only [Act.put, lyy])
      refine qba (by kernel_rfl) ?_ _; refine NoPanic.normal ?_
      go_upto_region 5 with fail; refine wp_region_lit ?_
      refine qaa (qad (v := .int .i64 (j : Int)) rfl rfl) rfl ?_; (try simp only [Act.put, lyy])
      refine qaa (qa6 (a := j) (b := 1) rfl rfl rfl (by omega)) rfl ?_; (try simp only [Act.put, lyy])
      refine qaa (qak (v := .int .i64 ((j + 1 : Nat) : Int)) rfl rfl) rfl ?_; (try simp only [Act.put, lyy])
      refine qab ?_
      go_wp2_with fail
      exact ⟨⟨j + 1, rfl, by omega, E.out⟩, by simp [intOf]; omega⟩
theorem smE_true (x : MEv) (X Y : List Value) (w : World) (hx : x.Ok) (hX : Fro 0 (evAt x X) w) (hY : Fro 0 (evAt x Y) w) : Calls Tryz.prog 32 #[.agg X.toArray, .agg Y.toArray] w fun e w' => e = .returned (.bool true) ∧ Below w.heap.size w w' :=
  (smE_any x x X Y w hx hx hX hY).mono fun e w' ⟨v', h1, ⟨r, h2, h3⟩, h4⟩ => ⟨by rw [h1, h2, h3.2 rfl], h4⟩
theorem enters_smml : Enters 84 := qan Tryz.func84 (by kernel_rfl) rfl
set_option maxHeartbeats 8000000 in
theorem smMl_any (l : List MEv) (a a2 : Option Addr) (c c2 : Nat) (w : World) (hk : ∀ p ∈ l, p.Ok) (hmany : l.length ≤ 60000) (hX : Fro 0 (SlR 72 evAt l a c) w) (hY : Fro 0 (SlR 72 evAt l a2 c2) w) : Calls Tryz.prog 84 #[.slice a l.length c, .slice a2 l.length c2] w fun e w' => e = .returned (.bool true) ∧ Below w.heap.size w w' := by
  have HE := qci hX
  have HE2 := qci hY
  have HK := Lib.hid hk
  have E := Lib.hid (Ev.start (w := w) (F := fun _ => True) fun _ _ => trivial)
  clear hX hY hk
  go_enter Tryz.func84, Tryz.ntmps84
  go_upto_region 0 with fail; refine wp_region_lit ?_
  refine qaa (qak (v := .bool false) rfl rfl) rfl ?_; (try simp only [Act.put, lyy])
  refine qab ?_
  go_upto_region 1 with fail; refine wp_region_lit ?_
  refine qaa (qad (v := .slice a l.length c) rfl rfl) rfl ?_; (try simp only [Act.put, lyy])
  refine qaa (qa4 rfl Tryz.underlying52 rfl) rfl ?_; (try simp only [Act.put, lyy])
  refine qaa (qad (v := .slice a2 l.length c2) rfl rfl) rfl ?_; (try simp only [Act.put, lyy])
  refine qaa (qa4 rfl Tryz.underlying52 rfl) rfl ?_; (try simp only [Act.put, lyy])
  refine qaa (qcv (c := false) rfl rfl rfl (by simp)) rfl ?_; (try simp only [Act.put, lyy])
  refine qab ?_
  go_upto_region 3 with fail; refine wp_region_lit ?_
  refine qaa (qak (v := .int .i64 0) rfl rfl) rfl ?_; (try simp only [Act.put, lyy])
  refine qab ?_
  go_wp2_with fail
  go_loopw [5] (fun s5 u => ∃ j : Nat, s5 = .int .i64 (j : Int) ∧ j ≤ l.length ∧ Ev w [] [] (fun _ => True) (fun _ => True) u) (fun s5 _ => ((l.length : Int) - intOf s5).toNat)
  case atStart => exact ⟨0, rfl, Nat.zero_le _, E.out⟩
  case round =>
    obtain ⟨j, rfl, hj, hE⟩ := hrel
    replace E := Lib.hid hE
    clear hE
    by_cases hjm : j = l.length
    · have hjm2 : l.length ≤ j := by omega
      clear hjm
      go_upto_region 4 with fail; refine wp_region_lit ?_
      refine qaa (qad (v := .int .i64 (j : Int)) rfl rfl) rfl ?_; (try simp only [Act.put, lyy])
      refine qaa (qad (v := .slice a l.length c) rfl rfl) rfl ?_; (try simp only [Act.put, lyy])
      refine qaa (qa4 rfl Tryz.underlying52 rfl) rfl ?_; (try simp only [Act.put, lyy])
      refine qaa (qay (c := false) rfl rfl rfl (decide_eq_false (by omega))) rfl ?_; (try simp only [Act.put, lyy])
      refine qab ?_
      go_upto_region 8 with fail; refine wp_region_lit ?_
      refine qaa (qak (v := .bool true) rfl rfl) rfl ?_; (try simp only [Act.put, lyy])
      refine qab ?_
      go_wp2_with fail
      go_ret
      exact ⟨rfl, E.out.bl⟩
    · have hjl : j < l.length := by omega
      have hkl := HK.out _ (List.getElem_mem hjl)
      obtain ⟨g, fo, cs, rfl, hz, HR, HA⟩ := HE.out j hjl
      obtain ⟨g2, fo2, cs2, rfl, hz2, HR2, HA2⟩ := HE2.out j hjl
      generalize l[j] = q at *
      go_upto_region 4 with fail; refine wp_region_lit ?_
      refine qaa (qad (v := .int .i64 (j : Int)) rfl rfl) rfl ?_; (try simp only [Act.put, lyy])
      refine qaa (qad (v := .slice (some ⟨g, fo, none⟩) l.length c) rfl rfl) rfl ?_; (try simp only [Act.put, lyy])
      refine qaa (qa4 rfl Tryz.underlying52 rfl) rfl ?_; (try simp only [Act.put, lyy])
      refine qaa (qay (c := true) rfl rfl rfl (decide_eq_true (by omega))) rfl ?_; (try simp only [Act.put, lyy])
      refine qab ?_
      have CE := Lib.hid fun u (hu : Since w u) => smE_true q cs cs2 u hkl (HA u hu) (HA2 u hu)
      go_upto_region 6 with fail
      refine wp_region_noPanic ?_; refine qbd (S := fun _ V => Below wr.heap.size wr V) (by kernel_rfl) ((Below.refl _ _).drew) (fun hS => ?_)
      replace E := Lib.hid (E.out.below hS)
      generalize wr.drew = a1 at *
      refine qbf (S' := fun _ V => Below a1.heap.size a1 V) (fun _ V h => hS.trans (h.mono hS.size)) _ _ _ _ ?_
      replace hS := Below.refl a1.heap.size a1
      refine qah 0 rfl rfl (by kernel_rfl) (by kernel_rfl) (by kernel_rfl) (fun _ _ _ h => h) rfl (fun V hV => qad (v := .slice (some ⟨g, fo, none⟩) l.length c) rfl rfl) hS ?_; (try simp only [Act.put, lyy])
      refine qah 1 rfl rfl (by kernel_rfl) (by kernel_rfl) (by kernel_rfl) (fun _ _ _ h => h) rfl (fun V hV => qad (v := .int .i64 (j : Int)) rfl rfl) hS ?_; (try simp only [Act.put, lyy])
      refine qah 2 rfl rfl (by kernel_rfl) (by kernel_rfl) (by kernel_rfl) (fun _ _ _ h => h) rfl (fun V hV => qca (z := 72) rfl Tryz.underlying52 (by kernel_rfl) rfl rfl (by omega)) hS ?_; (try simp only [Act.put, lyy])
      refine qah 3 rfl rfl (by kernel_rfl) (by kernel_rfl) (by kernel_rfl) (fun _ _ _ h => h) rfl (fun V hV => qat (vs := cs) rfl Tryz.underlying38 rfl (szR hz (by kernel_rfl)) rfl (HR _ (E.out.below hV).bl)) hS ?_; (try simp only [Act.put, lyy])
      refine qah 4 rfl rfl (by kernel_rfl) (by kernel_rfl) (by kernel_rfl) (fun _ _ _ h => h) rfl (fun V hV => qad (v := .slice (some ⟨g2, fo2, none⟩) l.length c2) rfl rfl) hS ?_; (try simp only [Act.put, lyy])
      refine qah 5 rfl rfl (by kernel_rfl) (by kernel_rfl) (by kernel_rfl) (fun _ _ _ h => h) rfl (fun V hV => qad (v := .int .i64 (j : Int)) rfl rfl) hS ?_; (try simp only [Act.put, lyy])
      refine qah 6 rfl rfl (by kernel_rfl) (by kernel_rfl) (by kernel_rfl) (fun _ _ _ h => h) rfl (fun V hV => qca (z := 72) rfl Tryz.underlying52 (by kernel_rfl) rfl rfl (by omega)) hS ?_; (try simp only [Act.put, lyy])
      refine qah 7 rfl rfl (by kernel_rfl) (by kernel_rfl) (by kernel_rfl) (fun _ _ _ h => h) rfl (fun V hV => qat (vs := cs2) rfl Tryz.underlying38 rfl (szR hz2 (by kernel_rfl)) rfl (HR2 _ (E.out.below hV).bl)) hS ?_; (try simp only [Act.put, lyy])
      refine qa2 8 (by kernel_rfl) rfl rfl rfl (qaf enters_smE rfl rfl rfl rfl) ((qbc (CE.out _ E.out.bl))) (fun v w h => hS.trans ((h.2).mono hS.size)) (fun v2 a3 hR => ?_); (try simp only [Act.put, lyy])
      obtain ⟨rfl, hb9⟩ := hR
      replace hS := hS.trans (hb9.mono hS.size)
      replace E := Lib.hid (E.out.below hb9)
      clear hb9
      refine qbf (S' := fun _ V => Below a3.heap.size a3 V) (fun _ V h => hS.trans (h.mono hS.size)) _ _ _ _ ?_
      replace hS := Below.refl a3.heap.size a3
      refine qah 9 rfl rfl (by kernel_rfl) (by kernel_rfl) (by kernel_rfl) (fun _ _ _ h => h) rfl (fun V hV => run_notU rfl rfl) hS ?_; (try simp only [Act.put, lyy])
      refine qba (by kernel_rfl) ?_ _; refine NoPanic.normal ?_
      go_upto_region 5 with fail; refine wp_region_lit ?_
      refine qaa (qad (v := .int .i64 (j : Int)) rfl rfl) rfl ?_; (try simp only [Act.put, lyy])
      refine qaa (qa6 (a := j) (b := 1) rfl rfl rfl (by omega)) rfl ?_; (try simp only [Act.put, lyy])
      refine qaa (qak (v := .int .i64 ((j + 1 : Nat) : Int)) rfl rfl) rfl ?_; (try simp only [Act.put, lyy])
      refine qab ?_
      go_wp2_with fail
      exact ⟨⟨j + 1, rfl, by omega, E.out⟩, by simp [intOf]; omega⟩
theorem enters_smit : Enters 82 := qan Tryz.func82 (by kernel_rfl) rfl
set_option maxHeartbeats 8000000 in
theorem smIt_any (l : List (Int × MEv)) (a a2 : Option Addr) (c c2 : Nat) (w : World) (hk : ∀ p ∈ l, p.2.Ok) (hmany : l.length ≤ 60000) (hX : Fro 0 (SlR 73 itAt l a c) w) (hY : Fro 0 (SlR 73 itAt l a2 c2) w) : Calls Tryz.prog 82 #[.slice a l.length c, .slice a2 l.length c2] w fun e w' => e = .returned (.bool true) ∧ Below w.heap.size w w' := by
  have HE := qci hX
  have HE2 := qci hY
  have HK := Lib.hid hk
  have E := Lib.hid (Ev.start (w := w) (F := fun _ => True) fun _ _ => trivial)
  clear hX hY hk
  go_enter Tryz.func82, Tryz.ntmps82
  go_upto_region 0 with fail; refine wp_region_lit ?_
  refine qaa (qak (v := .bool false) rfl rfl) rfl ?_; (try simp only [Act.put, lyy])
  refine qab ?_
  go_upto_region 1 with fail; refine wp_region_lit ?_
  refine qaa (qad (v := .slice a l.length c) rfl rfl) rfl ?_; (try simp only [Act.put, lyy])
  refine qaa (qa4 rfl Tryz.underlying44 rfl) rfl ?_; (try simp only [Act.put, lyy])
  refine qaa (qad (v := .slice a2 l.length c2) rfl rfl) rfl ?_; (try simp only [Act.put, lyy])
  refine qaa (qa4 rfl Tryz.underlying44 rfl) rfl ?_; (try simp only [Act.put, lyy])
  refine qaa (qcv (c := false) rfl rfl rfl (by simp)) rfl ?_; (try simp only [Act.put, lyy])
  refine qab ?_
  go_upto_region 3 with fail; refine wp_region_lit ?_
  refine qaa (qak (v := .int .i64 0) rfl rfl) rfl ?_; (try simp only [Act.put, lyy])
  refine qab ?_
  go_wp2_with fail
  go_loopw [5] (fun s5 u => ∃ j : Nat, s5 = .int .i64 (j : Int) ∧ j ≤ l.length ∧ Ev w [] [] (fun _ => True) (fun _ => True) u) (fun s5 _ => ((l.length : Int) - intOf s5).toNat)
  case atStart => exact ⟨0, rfl, Nat.zero_le _, E.out⟩
  case round =>
    obtain ⟨j, rfl, hj, hE⟩ := hrel
    replace E := Lib.hid hE
    clear hE
    by_cases hjm : j = l.length
    · have hjm2 : l.length ≤ j := by omega
      clear hjm
      go_upto_region 4 with fail; refine wp_region_lit ?_
      refine qaa (qad (v := .int .i64 (j : Int)) rfl rfl) rfl ?_; (try simp only [Act.put, lyy])
      refine qaa (qad (v := .slice a l.length c) rfl rfl) rfl ?_; (try simp only [Act.put, lyy])
      refine qaa (qa4 rfl Tryz.underlying44 rfl) rfl ?_; (try simp only [Act.put, lyy])
      refine qaa (qay (c := false) rfl rfl rfl (decide_eq_false (by omega))) rfl ?_; (try simp only [Act.put, lyy])
      refine qab ?_
      go_upto_region 8 with fail; refine wp_region_lit ?_
      refine qaa (qak (v := .bool true) rfl rfl) rfl ?_; (try simp only [Act.put, lyy])
      refine qab ?_
      go_wp2_with fail
      go_ret
      exact ⟨rfl, E.out.bl⟩
    · have hjl : j < l.length := by omega
      have hkl := HK.out _ (List.getElem_mem hjl)
      obtain ⟨g, fo, cs, rfl, hz, HR, HA⟩ := HE.out j hjl
      obtain ⟨g2, fo2, cs2, rfl, hz2, HR2, HA2⟩ := HE2.out j hjl
      generalize l[j] = q at *
      go_upto_region 4 with fail; refine wp_region_lit ?_
      refine qaa (qad (v := .int .i64 (j : Int)) rfl rfl) rfl ?_; (try simp only [Act.put, lyy])
      refine qaa (qad (v := .slice (some ⟨g, fo, none⟩) l.length c) rfl rfl) rfl ?_; (try simp only [Act.put, lyy])
      refine qaa (qa4 rfl Tryz.underlying44 rfl) rfl ?_; (try simp only [Act.put, lyy])
      refine qaa (qay (c := true) rfl rfl rfl (decide_eq_true (by omega))) rfl ?_; (try simp only [Act.put, lyy])
      refine qab ?_
      obtain ⟨ce, rfl, le, oe, fe⟩ := itAt_fix hkl (HA w (Below.refl _ _))
      obtain ⟨ce2, rfl, le2, oe2, fe2⟩ := itAt_fix hkl (HA2 w (Below.refl _ _))
      have CE := Lib.hid fun u (hu : Since w u) => smE_true q.2 ce ce2 u hkl (fe.below hu) (fe2.below hu)
      have HD : Hid (∀ u, Since w u → u.cell? ⟨g, fo + j * 73 + 0, none⟩ = some (.int .i64 q.1)) := Lib.hid fun u hu => HR u hu 0 _ itR_Device
      have HD2 : Hid (∀ u, Since w u → u.cell? ⟨g2, fo2 + j * 73 + 0, none⟩ = some (.int .i64 q.1)) := Lib.hid fun u hu => HR2 u hu 0 _ itR_Device
      have HV : Hid (∀ u, Since w u → u.rangeAt g (fo + j * 73 + 1) ce) := Lib.hid fun u hu => by have h6 := qck (k := 72) (qcy (k := 1) (HR u hu)); rwa [itR_Env le] at h6
      have HV2 : Hid (∀ u, Since w u → u.rangeAt g2 (fo2 + j * 73 + 1) ce2) := Lib.hid fun u hu => by have h6 := qck (k := 72) (qcy (k := 1) (HR2 u hu)); rwa [itR_Env le2] at h6
      go_upto_region 6 with fail
      refine wp_region_noPanic ?_; refine qbd (S := fun _ V => Below wr.heap.size wr V) (by kernel_rfl) ((Below.refl _ _).drew) (fun hS => ?_)
      replace E := Lib.hid (E.out.below hS)
      generalize wr.drew = a1 at *
      refine qbf (S' := fun _ V => Below a1.heap.size a1 V) (fun _ V h => hS.trans (h.mono hS.size)) _ _ _ _ ?_
      replace hS := Below.refl a1.heap.size a1
      refine qah 0 rfl rfl (by kernel_rfl) (by kernel_rfl) (by kernel_rfl) (fun _ _ _ h => h) rfl (fun V hV => qad (v := .slice (some ⟨g, fo, none⟩) l.length c) rfl rfl) hS ?_; (try simp only [Act.put, lyy])
      refine qah 1 rfl rfl (by kernel_rfl) (by kernel_rfl) (by kernel_rfl) (fun _ _ _ h => h) rfl (fun V hV => qad (v := .int .i64 (j : Int)) rfl rfl) hS ?_; (try simp only [Act.put, lyy])
      refine qah 2 rfl rfl (by kernel_rfl) (by kernel_rfl) (by kernel_rfl) (fun _ _ _ h => h) rfl (fun V hV => qca (z := 73) rfl Tryz.underlying44 (by kernel_rfl) rfl rfl (by omega)) hS ?_; (try simp only [Act.put, lyy])
      refine qah 3 rfl rfl (by kernel_rfl) (by kernel_rfl) (by kernel_rfl) (fun _ _ _ h => h) rfl (fun V hV => qai (s := 0) (k := 0) rfl Tryz.underlying102 rfl (by kernel_rfl) rfl rfl) hS ?_; (try simp only [Act.put, lyy])
      refine qah 4 rfl rfl (by kernel_rfl) (by kernel_rfl) (by kernel_rfl) (fun _ _ _ h => h) rfl (fun V hV => qam rfl Tryz.underlying3 rfl rfl (HD.out _ (E.out.below hV).bl)) hS ?_; (try simp only [Act.put, lyy])
      refine qah 5 rfl rfl (by kernel_rfl) (by kernel_rfl) (by kernel_rfl) (fun _ _ _ h => h) rfl (fun V hV => qad (v := .slice (some ⟨g2, fo2, none⟩) l.length c2) rfl rfl) hS ?_; (try simp only [Act.put, lyy])
      refine qah 6 rfl rfl (by kernel_rfl) (by kernel_rfl) (by kernel_rfl) (fun _ _ _ h => h) rfl (fun V hV => qad (v := .int .i64 (j : Int)) rfl rfl) hS ?_; (try simp only [Act.put, lyy])
      refine qah 7 rfl rfl (by kernel_rfl) (by kernel_rfl) (by kernel_rfl) (fun _ _ _ h => h) rfl (fun V hV => qca (z := 73) rfl Tryz.underlying44 (by kernel_rfl) rfl rfl (by omega)) hS ?_; (try simp only [Act.put, lyy])
      refine qah 8 rfl rfl (by kernel_rfl) (by kernel_rfl) (by kernel_rfl) (fun _ _ _ h => h) rfl (fun V hV => qai (s := 0) (k := 0) rfl Tryz.underlying102 rfl (by kernel_rfl) rfl rfl) hS ?_; (try simp only [Act.put, lyy])
      refine qah 9 rfl rfl (by kernel_rfl) (by kernel_rfl) (by kernel_rfl) (fun _ _ _ h => h) rfl (fun V hV => qam rfl Tryz.underlying3 rfl rfl (HD2.out _ (E.out.below hV).bl)) hS ?_; (try simp only [Act.put, lyy])
      refine qah 10 rfl rfl (by kernel_rfl) (by kernel_rfl) (by kernel_rfl) (fun _ _ _ h => h) rfl (fun V hV => qcv (c := false) rfl rfl rfl (by simp)) hS ?_; (try simp only [Act.put, lyy])
      refine qah 11 rfl rfl (by kernel_rfl) (by kernel_rfl) (by kernel_rfl) (fun _ _ _ h => h) rfl (fun V hV => qad (v := .bool false) rfl rfl) hS ?_; (try simp only [Act.put, lyy])
      refine qah 12 rfl rfl (by kernel_rfl) (by kernel_rfl) (by kernel_rfl) (fun _ _ _ h => h) rfl (fun V hV => qad (v := .slice (some ⟨g, fo, none⟩) l.length c) rfl rfl) hS ?_; (try simp only [Act.put, lyy])
      refine qah 13 rfl rfl (by kernel_rfl) (by kernel_rfl) (by kernel_rfl) (fun _ _ _ h => h) rfl (fun V hV => qad (v := .int .i64 (j : Int)) rfl rfl) hS ?_; (try simp only [Act.put, lyy])
      refine qah 14 rfl rfl (by kernel_rfl) (by kernel_rfl) (by kernel_rfl) (fun _ _ _ h => h) rfl (fun V hV => qca (z := 73) rfl Tryz.underlying44 (by kernel_rfl) rfl rfl (by omega)) hS ?_; (try simp only [Act.put, lyy])
      refine qah 15 rfl rfl (by kernel_rfl) (by kernel_rfl) (by kernel_rfl) (fun _ _ _ h => h) rfl (fun V hV => qai (s := 71) (k := 1) rfl Tryz.underlying102 rfl (by kernel_rfl) rfl rfl) hS ?_; (try simp only [Act.put, lyy])
      refine qah 16 rfl rfl (by kernel_rfl) (by kernel_rfl) (by kernel_rfl) (fun _ _ _ h => h) rfl (fun V hV => qat (vs := ce) rfl Tryz.underlying38 rfl (szR le (by kernel_rfl)) rfl (HV.out _ (E.out.below hV).bl)) hS ?_; (try simp only [Act.put, lyy])
      refine qah 17 rfl rfl (by kernel_rfl) (by kernel_rfl) (by kernel_rfl) (fun _ _ _ h => h) rfl (fun V hV => qad (v := .slice (some ⟨g2, fo2, none⟩) l.length c2) rfl rfl) hS ?_; (try simp only [Act.put, lyy])
      refine qah 18 rfl rfl (by kernel_rfl) (by kernel_rfl) (by kernel_rfl) (fun _ _ _ h => h) rfl (fun V hV => qad (v := .int .i64 (j : Int)) rfl rfl) hS ?_; (try simp only [Act.put, lyy])
      refine qah 19 rfl rfl (by kernel_rfl) (by kernel_rfl) (by kernel_rfl) (fun _ _ _ h => h) rfl (fun V hV => qca (z := 73) rfl Tryz.underlying44 (by kernel_rfl) rfl rfl (by omega)) hS ?_; (try simp only [Act.put, lyy])
      refine qah 20 rfl rfl (by kernel_rfl) (by kernel_rfl) (by kernel_rfl) (fun _ _ _ h => h) rfl (fun V hV => qai (s := 71) (k := 1) rfl Tryz.underlying102 rfl (by kernel_rfl) rfl rfl) hS ?_; (try simp only [Act.put, lyy])
      refine qah 21 rfl rfl (by kernel_rfl) (by kernel_rfl) (by kernel_rfl) (fun _ _ _ h => h) rfl (fun V hV => qat (vs := ce2) rfl Tryz.underlying38 rfl (szR le2 (by kernel_rfl)) rfl (HV2.out _ (E.out.below hV).bl)) hS ?_; (try simp only [Act.put, lyy])
      refine qa2 22 (by kernel_rfl) rfl rfl rfl (qaf enters_smE rfl rfl rfl rfl) ((qbc (CE.out _ E.out.bl))) (fun v w h => hS.trans ((h.2).mono hS.size)) (fun v2 a3 hR => ?_); (try simp only [Act.put, lyy])
      obtain ⟨rfl, hb9⟩ := hR
      replace hS := hS.trans (hb9.mono hS.size)
      replace E := Lib.hid (E.out.below hb9)
      clear hb9
      refine qbf (S' := fun _ V => Below a3.heap.size a3 V) (fun _ V h => hS.trans (h.mono hS.size)) _ _ _ _ ?_
      replace hS := Below.refl a3.heap.size a3
      refine qah 23 rfl rfl (by kernel_rfl) (by kernel_rfl) (by kernel_rfl) (fun _ _ _ h => h) rfl (fun V hV => run_notU rfl rfl) hS ?_; (try simp only [Act.put, lyy])
      refine qah 24 rfl rfl (by kernel_rfl) (by kernel_rfl) (by kernel_rfl) (fun _ _ _ h => h) rfl (fun V hV => qaw (b := false) (v := .bool false) rfl rfl rfl) hS ?_; (try simp only [Act.put, lyy])
      refine qba (by kernel_rfl) ?_ _; refine NoPanic.normal ?_
      go_upto_region 5 with fail; refine wp_region_lit ?_
      refine qaa (qad (v := .int .i64 (j : Int)) rfl rfl) rfl ?_; (try simp only [Act.put, lyy])
      refine qaa (qa6 (a := j) (b := 1) rfl rfl rfl (by omega)) rfl ?_; (try simp only [Act.put, lyy])
      refine qaa (qak (v := .int .i64 ((j + 1 : Nat) : Int)) rfl rfl) rfl ?_; (try simp only [Act.put, lyy])
      refine qab ?_
      go_wp2_with fail
      exact ⟨⟨j + 1, rfl, by omega, E.out⟩, by simp [intOf]; omega⟩
end Go.Proofs.YtcgbgmbnagmohaaGreat
namespace Go.Proofs.YtcgbgmbnagmohaaGreat
open Go.RowKit
set_option maxRecDepth 20000
attribute [local irreducible] wpList
theorem enters_smls : Enters 31 := qan Tryz.func31 (by kernel_rfl) rfl
set_option maxHeartbeats 8000000 in
theorem smLs_any (m : MLs) (X Y : List Value) (w : World) (hm : m.Ok) (hX : Fro 0 (lsAt m X) w) (hY : Fro 0 (lsAt m Y) w) : Calls Tryz.prog 31 #[.agg X.toArray, .agg Y.toArray] w fun e w' => e = .returned (.bool true) ∧ Below w.heap.size w w' := by
  obtain ⟨a, c, rfl, HF⟩ := lsAt_fix hm hX
  obtain ⟨b, d, rfl, HF2⟩ := lsAt_fix hm hY
  have HE := qci HF
  have HE2 := qci HF2
  have k1 := hm.ident
  have k2 := hm.sig
  have HK := Lib.hid hm.devs
  have hmany := hm.many
  have E := Lib.hid (Ev.start (w := w) (F := fun _ => True) fun _ _ => trivial)
  clear hX hY HF HF2 hm
  go_enter Tryz.func31, Tryz.ntmps31
  go_upto_region 0 with fail; refine wp_region_lit ?_
  refine qaa (qa8 (vs := lsR (.int .i64 m.acc) (.int .i64 m.ver) (m.ident.map b8) (.slice a m.devs.length c) (m.sig.map b8)) rfl rfl) rfl ?_; (try simp only [Act.put, lyy])
  replace E := Lib.hid (E.out.new (lsR (.int .i64 m.acc) (.int .i64 m.ver) (m.ident.map b8) (.slice a m.devs.length c) (m.sig.map b8)) 32)
  generalize w.alloc (.cells (lsR (.int .i64 m.acc) (.int .i64 m.ver) (m.ident.map b8) (.slice a m.devs.length c) (m.sig.map b8)).toArray 32) = a1 at *
  generalize w.heap.size = g2 at *
  refine qaa (qa8 (vs := lsR (.int .i64 m.acc) (.int .i64 m.ver) (m.ident.map b8) (.slice b m.devs.length d) (m.sig.map b8)) rfl rfl) rfl ?_; (try simp only [Act.put, lyy])
  replace E := Lib.hid (E.out.new (lsR (.int .i64 m.acc) (.int .i64 m.ver) (m.ident.map b8) (.slice b m.devs.length d) (m.sig.map b8)) 32)
  generalize a1.alloc (.cells (lsR (.int .i64 m.acc) (.int .i64 m.ver) (m.ident.map b8) (.slice b m.devs.length d) (m.sig.map b8)).toArray 32) = a3 at *
  generalize a1.heap.size = g4 at *
  refine qaa (qak (v := .bool false) rfl rfl) rfl ?_; (try simp only [Act.put, lyy])
  refine qab ?_
  go_upto_region 1 with fail; refine wp_region_lit ?_
  refine qaa (qai (s := 0) (k := 0) rfl Tryz.underlying32 rfl (by kernel_rfl) rfl rfl) rfl ?_; (try simp only [Act.put, lyy])
  refine qaa (qam rfl Tryz.underlying3 rfl rfl ((E.out.get (i := 1) rfl).c 0 _ (lsR_Account ))) rfl ?_; (try simp only [Act.put, lyy])
  refine qaa (qai (s := 0) (k := 0) rfl Tryz.underlying32 rfl (by kernel_rfl) rfl rfl) rfl ?_; (try simp only [Act.put, lyy])
  refine qaa (qam rfl Tryz.underlying3 rfl rfl ((E.out.get (i := 0) rfl).c 0 _ (lsR_Account ))) rfl ?_; (try simp only [Act.put, lyy])
  refine qaa (qcv (c := false) rfl rfl rfl (by simp)) rfl ?_; (try simp only [Act.put, lyy])
  refine qaa (qad (v := .bool false) rfl rfl) rfl ?_; (try simp only [Act.put, lyy])
  refine qae (qai (s := 0) (k := 1) rfl Tryz.underlying32 rfl (by kernel_rfl) rfl rfl) rfl ?_; (try simp only [Act.put, lyy])
  refine qae (qam rfl Tryz.underlying3 rfl rfl ((E.out.get (i := 1) rfl).c 1 _ (lsR_Version ))) rfl ?_; (try simp only [Act.put, lyy])
  refine qae (qai (s := 0) (k := 1) rfl Tryz.underlying32 rfl (by kernel_rfl) rfl rfl) rfl ?_; (try simp only [Act.put, lyy])
  refine qae (qam rfl Tryz.underlying3 rfl rfl ((E.out.get (i := 0) rfl).c 1 _ (lsR_Version ))) rfl ?_; (try simp only [Act.put, lyy])
  refine qae (qcv (c := false) rfl rfl rfl (by simp)) rfl ?_; (try simp only [Act.put, lyy])
  refine qaa (qaw (b := false) (v := .bool false) rfl rfl rfl) rfl ?_; (try simp only [Act.put, lyy])
  refine qaa (qad (v := .bool false) rfl rfl) rfl ?_; (try simp only [Act.put, lyy])
  refine qae (qai (s := 31) (k := 2) rfl Tryz.underlying32 rfl (by kernel_rfl) rfl rfl) rfl ?_; (try simp only [Act.put, lyy])
  refine qae (qat (vs := m.ident.map b8) rfl Tryz.underlying27 rfl (szR (by rw [List.length_map, k1]) (by kernel_rfl)) rfl ((E.out.get (i := 1) rfl).seg (lsR_Ident (by rw [List.length_map, k1])))) rfl ?_; (try simp only [Act.put, lyy])
  refine qae (qai (s := 31) (k := 2) rfl Tryz.underlying32 rfl (by kernel_rfl) rfl rfl) rfl ?_; (try simp only [Act.put, lyy])
  refine qae (qat (vs := m.ident.map b8) rfl Tryz.underlying27 rfl (szR (by rw [List.length_map, k1]) (by kernel_rfl)) rfl ((E.out.get (i := 0) rfl).seg (lsR_Ident (by rw [List.length_map, k1])))) rfl ?_; (try simp only [Act.put, lyy])
  refine qae (run_neR rfl (by kernel_rfl) rfl rfl (eqKy_r k1)) rfl ?_; (try simp only [Act.put, lyy])
  refine qaa (qaw (b := false) (v := .bool false) rfl rfl rfl) rfl ?_; (try simp only [Act.put, lyy])
  refine qaa (qad (v := .bool false) rfl rfl) rfl ?_; (try simp only [Act.put, lyy])
  refine qae (qai (s := 63) (k := 35) rfl Tryz.underlying32 rfl (by kernel_rfl) rfl rfl) rfl ?_; (try simp only [Act.put, lyy])
  refine qae (qat (vs := m.sig.map b8) rfl Tryz.underlying30 rfl (szR (by rw [List.length_map, k2]) (by kernel_rfl)) rfl ((E.out.get (i := 1) rfl).seg (lsR_Sig (by rw [List.length_map, k1]) (by rw [List.length_map, k2])))) rfl ?_; (try simp only [Act.put, lyy])
  refine qae (qai (s := 63) (k := 35) rfl Tryz.underlying32 rfl (by kernel_rfl) rfl rfl) rfl ?_; (try simp only [Act.put, lyy])
  refine qae (qat (vs := m.sig.map b8) rfl Tryz.underlying30 rfl (szR (by rw [List.length_map, k2]) (by kernel_rfl)) rfl ((E.out.get (i := 0) rfl).seg (lsR_Sig (by rw [List.length_map, k1]) (by rw [List.length_map, k2])))) rfl ?_; (try simp only [Act.put, lyy])
  refine qae (run_neR rfl (by kernel_rfl) rfl rfl (eqSg_r k2)) rfl ?_; (try simp only [Act.put, lyy])
  refine qaa (qaw (b := false) (v := .bool false) rfl rfl rfl) rfl ?_; (try simp only [Act.put, lyy])
  refine qaa (qad (v := .bool false) rfl rfl) rfl ?_; (try simp only [Act.put, lyy])
  refine qae (qai (s := 0) (k := 34) rfl Tryz.underlying32 rfl (by kernel_rfl) rfl rfl) rfl ?_; (try simp only [Act.put, lyy])
  refine qae (qam rfl Tryz.underlying28 rfl rfl ((E.out.get (i := 1) rfl).c 34 _ (qce (by rw [List.length_map, k1])))) rfl ?_; (try simp only [Act.put, lyy])
  refine qae (qa4 rfl Tryz.underlying28 rfl) rfl ?_; (try simp only [Act.put, lyy])
  refine qae (qai (s := 0) (k := 34) rfl Tryz.underlying32 rfl (by kernel_rfl) rfl rfl) rfl ?_; (try simp only [Act.put, lyy])
  refine qae (qam rfl Tryz.underlying28 rfl rfl ((E.out.get (i := 0) rfl).c 34 _ (qce (by rw [List.length_map, k1])))) rfl ?_; (try simp only [Act.put, lyy])
  refine qae (qa4 rfl Tryz.underlying28 rfl) rfl ?_; (try simp only [Act.put, lyy])
  refine qae (qcv (c := false) rfl rfl rfl (by simp)) rfl ?_; (try simp only [Act.put, lyy])
  refine qaa (qaw (b := false) (v := .bool false) rfl rfl rfl) rfl ?_; (try simp only [Act.put, lyy])
  refine qab ?_
  go_upto_region 3 with fail; refine wp_region_lit ?_
  refine qaa (qak (v := .int .i64 0) rfl rfl) rfl ?_; (try simp only [Act.put, lyy])
  refine qab ?_
  go_wp2_with fail
  go_loopw [5] (fun s5 u => ∃ j : Nat, s5 = .int .i64 (j : Int) ∧ j ≤ m.devs.length ∧ Ev w [(g4, lsR (.int .i64 m.acc) (.int .i64 m.ver) (m.ident.map b8) (.slice b m.devs.length d) (m.sig.map b8)), (g2, lsR (.int .i64 m.acc) (.int .i64 m.ver) (m.ident.map b8) (.slice a m.devs.length c) (m.sig.map b8))] [] (fun _ => True) (fun _ => True) u) (fun s5 _ => ((m.devs.length : Int) - intOf s5).toNat)
  case atStart => exact ⟨0, rfl, Nat.zero_le _, E.out⟩
  case round =>
    obtain ⟨j, rfl, hj, hE⟩ := hrel
    replace E := Lib.hid hE
    clear hE
    by_cases hjm : j = m.devs.length
    · have hjm2 : m.devs.length ≤ j := by omega
      clear hjm
      go_upto_region 4 with fail; refine wp_region_lit ?_
      refine qaa (qad (v := .int .i64 (j : Int)) rfl rfl) rfl ?_; (try simp only [Act.put, lyy])
      refine qaa (qai (s := 0) (k := 34) rfl Tryz.underlying32 rfl (by kernel_rfl) rfl rfl) rfl ?_; (try simp only [Act.put, lyy])
      refine qaa (qam rfl Tryz.underlying28 rfl rfl ((E.out.get (i := 1) rfl).c 34 _ (qce (by rw [List.length_map, k1])))) rfl ?_; (try simp only [Act.put, lyy])
      refine qaa (qa4 rfl Tryz.underlying28 rfl) rfl ?_; (try simp only [Act.put, lyy])
      refine qaa (qay (c := false) rfl rfl rfl (decide_eq_false (by omega))) rfl ?_; (try simp only [Act.put, lyy])
      refine qab ?_
      go_upto_region 8 with fail; refine wp_region_lit ?_
      refine qaa (qak (v := .bool true) rfl rfl) rfl ?_; (try simp only [Act.put, lyy])
      refine qab ?_
      go_wp2_with fail
      go_ret
      exact ⟨rfl, E.out.bl⟩
    · have hjl : j < m.devs.length := by omega
      have hkl := HK.out _ (List.getElem_mem hjl)
      obtain ⟨g, fo, cs, rfl, hz, HR, HA⟩ := HE.out j hjl
      obtain ⟨h, go, cs2, rfl, hz2, HR2, HA2⟩ := HE2.out j hjl
      generalize m.devs[j] = q at *
      obtain rfl : cs = pkC q := (HA w (Below.refl _ _)).now
      obtain rfl : cs2 = pkC q := (HA2 w (Below.refl _ _)).now
      go_upto_region 4 with fail; refine wp_region_lit ?_
      refine qaa (qad (v := .int .i64 (j : Int)) rfl rfl) rfl ?_; (try simp only [Act.put, lyy])
      refine qaa (qai (s := 0) (k := 34) rfl Tryz.underlying32 rfl (by kernel_rfl) rfl rfl) rfl ?_; (try simp only [Act.put, lyy])
      refine qaa (qam rfl Tryz.underlying28 rfl rfl ((E.out.get (i := 1) rfl).c 34 _ (qce (by rw [List.length_map, k1])))) rfl ?_; (try simp only [Act.put, lyy])
      refine qaa (qa4 rfl Tryz.underlying28 rfl) rfl ?_; (try simp only [Act.put, lyy])
      refine qaa (qay (c := true) rfl rfl rfl (decide_eq_true (by omega))) rfl ?_; (try simp only [Act.put, lyy])
      refine qab ?_
      go_upto_region 6 with fail
      refine wp_region_noPanic ?_; refine qbd (S := fun _ V => Below wr.heap.size wr V) (by kernel_rfl) ((Below.refl _ _).drew) (fun hS => ?_)
      replace E := Lib.hid (E.out.below hS)
      generalize wr.drew = a5 at *
      refine qbf (S' := fun _ V => Below a5.heap.size a5 V) (fun _ V h => hS.trans (h.mono hS.size)) _ _ _ _ ?_
      replace hS := Below.refl a5.heap.size a5
      refine qah 0 rfl rfl (by kernel_rfl) (by kernel_rfl) (by kernel_rfl) (fun _ _ _ h => h) rfl (fun V hV => qai (s := 0) (k := 34) rfl Tryz.underlying32 rfl (by kernel_rfl) rfl rfl) hS ?_; (try simp only [Act.put, lyy])
      refine qah 1 rfl rfl (by kernel_rfl) (by kernel_rfl) (by kernel_rfl) (fun _ _ _ h => h) rfl (fun V hV => qam rfl Tryz.underlying28 rfl rfl (((E.out.below hV).get (i := 1) rfl).c 34 _ (qce (by rw [List.length_map, k1])))) hS ?_; (try simp only [Act.put, lyy])
      refine qah 2 rfl rfl (by kernel_rfl) (by kernel_rfl) (by kernel_rfl) (fun _ _ _ h => h) rfl (fun V hV => qad (v := .int .i64 (j : Int)) rfl rfl) hS ?_; (try simp only [Act.put, lyy])
      refine qah 3 rfl rfl (by kernel_rfl) (by kernel_rfl) (by kernel_rfl) (fun _ _ _ h => h) rfl (fun V hV => qca (z := 33) rfl Tryz.underlying28 (by kernel_rfl) rfl rfl (by omega)) hS ?_; (try simp only [Act.put, lyy])
      refine qah 4 rfl rfl (by kernel_rfl) (by kernel_rfl) (by kernel_rfl) (fun _ _ _ h => h) rfl (fun V hV => qat (vs := pkC q) rfl Tryz.underlying92 rfl (szR (qbr hkl) (by kernel_rfl)) rfl (HR _ (E.out.below hV).bl)) hS ?_; (try simp only [Act.put, lyy])
      refine qah 5 rfl rfl (by kernel_rfl) (by kernel_rfl) (by kernel_rfl) (fun _ _ _ h => h) rfl (fun V hV => qai (s := 0) (k := 34) rfl Tryz.underlying32 rfl (by kernel_rfl) rfl rfl) hS ?_; (try simp only [Act.put, lyy])
      refine qah 6 rfl rfl (by kernel_rfl) (by kernel_rfl) (by kernel_rfl) (fun _ _ _ h => h) rfl (fun V hV => qam rfl Tryz.underlying28 rfl rfl (((E.out.below hV).get (i := 0) rfl).c 34 _ (qce (by rw [List.length_map, k1])))) hS ?_; (try simp only [Act.put, lyy])
      refine qah 7 rfl rfl (by kernel_rfl) (by kernel_rfl) (by kernel_rfl) (fun _ _ _ h => h) rfl (fun V hV => qad (v := .int .i64 (j : Int)) rfl rfl) hS ?_; (try simp only [Act.put, lyy])
      refine qah 8 rfl rfl (by kernel_rfl) (by kernel_rfl) (by kernel_rfl) (fun _ _ _ h => h) rfl (fun V hV => qca (z := 33) rfl Tryz.underlying28 (by kernel_rfl) rfl rfl (by omega)) hS ?_; (try simp only [Act.put, lyy])
      refine qah 9 rfl rfl (by kernel_rfl) (by kernel_rfl) (by kernel_rfl) (fun _ _ _ h => h) rfl (fun V hV => qat (vs := pkC q) rfl Tryz.underlying92 rfl (szR (qbr hkl) (by kernel_rfl)) rfl (HR2 _ (E.out.below hV).bl)) hS ?_; (try simp only [Act.put, lyy])
      refine qah 10 rfl rfl (by kernel_rfl) (by kernel_rfl) (by kernel_rfl) (fun _ _ _ h => h) rfl (fun V hV => run_neR rfl (by kernel_rfl) rfl rfl (eqEn_r hkl)) hS ?_; (try simp only [Act.put, lyy])
      refine qba (by kernel_rfl) ?_ _; refine NoPanic.normal ?_
      go_upto_region 5 with fail; refine wp_region_lit ?_
      refine qaa (qad (v := .int .i64 (j : Int)) rfl rfl) rfl ?_; (try simp only [Act.put, lyy])
      refine qaa (qa6 (a := j) (b := 1) rfl rfl rfl (by omega)) rfl ?_; (try simp only [Act.put, lyy])
      refine qaa (qak (v := .int .i64 ((j + 1 : Nat) : Int)) rfl rfl) rfl ?_; (try simp only [Act.put, lyy])
      refine qab ?_
      go_wp2_with fail
      exact ⟨⟨j + 1, rfl, by omega, E.out⟩, by simp [intOf]; omega⟩
theorem enters_smbu : Enters 83 := qan Tryz.func83 (by kernel_rfl) rfl
set_option maxHeartbeats 16000000 in
theorem smBu_any (m : MBu) (X Y : List Value) (w : World) (hm : m.Ok) (hX : Fro 0 (buAt m X) w) (hY : Fro 0 (buAt m Y) w) : Calls Tryz.prog 83 #[.agg X.toArray, .agg Y.toArray] w fun e w' => e = .returned (.bool true) ∧ Below w.heap.size w w' := by
  obtain ⟨a, c, rfl, HF⟩ := buAt_fix hm hX
  obtain ⟨b, d, rfl, HF2⟩ := buAt_fix hm hY
  have k1 := hm.ident
  have k2 := hm.key
  have k3 := hm.signed
  have k4 := hm.sig
  have CP := Lib.hid fun u (hu : Since w u) => smPs_any m.ones a b c d u hm.ones hm.many (HF.below hu) (HF2.below hu)
  clear HF HF2
  have E := Lib.hid (Ev.start (w := w) (F := fun _ => True) fun _ _ => trivial)
  clear hX hY hm
  go_enter Tryz.func83, Tryz.ntmps83
  go_upto_region 0 with fail; refine wp_region_lit ?_
  refine qaa (qa8 (vs := buR (.int .i64 m.acc) (.int .i64 m.dev) (m.ident.map b8) (m.key.map b8) (pkC m.signed) (m.sig.map b8) (.slice a m.ones.length c)) rfl rfl) rfl ?_; (try simp only [Act.put, lyy])
  replace E := Lib.hid (E.out.new (buR (.int .i64 m.acc) (.int .i64 m.dev) (m.ident.map b8) (m.key.map b8) (pkC m.signed) (m.sig.map b8) (.slice a m.ones.length c)) 51)
  generalize w.alloc (.cells (buR (.int .i64 m.acc) (.int .i64 m.dev) (m.ident.map b8) (m.key.map b8) (pkC m.signed) (m.sig.map b8) (.slice a m.ones.length c)).toArray 51) = a1 at *
  generalize w.heap.size = g2 at *
  refine qaa (qa8 (vs := buR (.int .i64 m.acc) (.int .i64 m.dev) (m.ident.map b8) (m.key.map b8) (pkC m.signed) (m.sig.map b8) (.slice b m.ones.length d)) rfl rfl) rfl ?_; (try simp only [Act.put, lyy])
  replace E := Lib.hid (E.out.new (buR (.int .i64 m.acc) (.int .i64 m.dev) (m.ident.map b8) (m.key.map b8) (pkC m.signed) (m.sig.map b8) (.slice b m.ones.length d)) 51)
  generalize a1.alloc (.cells (buR (.int .i64 m.acc) (.int .i64 m.dev) (m.ident.map b8) (m.key.map b8) (pkC m.signed) (m.sig.map b8) (.slice b m.ones.length d)).toArray 51) = a3 at *
  generalize a1.heap.size = g4 at *
  refine qaa (qak (v := .bool false) rfl rfl) rfl ?_; (try simp only [Act.put, lyy])
  refine qab ?_
  go_upto_region 1 with fail; refine wp_region_lit ?_
  refine qaa (qai (s := 0) (k := 0) rfl Tryz.underlying51 rfl (by kernel_rfl) rfl rfl) rfl ?_; (try simp only [Act.put, lyy])
  refine qaa (qam rfl Tryz.underlying3 rfl rfl ((E.out.get (i := 1) rfl).c 0 _ (buR_Account ))) rfl ?_; (try simp only [Act.put, lyy])
  refine qaa (qai (s := 0) (k := 0) rfl Tryz.underlying51 rfl (by kernel_rfl) rfl rfl) rfl ?_; (try simp only [Act.put, lyy])
  refine qaa (qam rfl Tryz.underlying3 rfl rfl ((E.out.get (i := 0) rfl).c 0 _ (buR_Account ))) rfl ?_; (try simp only [Act.put, lyy])
  refine qaa (qbp (c := true) rfl rfl rfl (by simp)) rfl ?_; (try simp only [Act.put, lyy])
  refine qaa (qad (v := .bool true) rfl rfl) rfl ?_; (try simp only [Act.put, lyy])
  refine qae (qai (s := 0) (k := 1) rfl Tryz.underlying51 rfl (by kernel_rfl) rfl rfl) rfl ?_; (try simp only [Act.put, lyy])
  refine qae (qam rfl Tryz.underlying3 rfl rfl ((E.out.get (i := 1) rfl).c 1 _ (buR_Device ))) rfl ?_; (try simp only [Act.put, lyy])
  refine qae (qai (s := 0) (k := 1) rfl Tryz.underlying51 rfl (by kernel_rfl) rfl rfl) rfl ?_; (try simp only [Act.put, lyy])
  refine qae (qam rfl Tryz.underlying3 rfl rfl ((E.out.get (i := 0) rfl).c 1 _ (buR_Device ))) rfl ?_; (try simp only [Act.put, lyy])
  refine qae (qbp (c := true) rfl rfl rfl (by simp)) rfl ?_; (try simp only [Act.put, lyy])
  refine qaa (qaw (b := true) (v := .bool true) rfl rfl rfl) rfl ?_; (try simp only [Act.put, lyy])
  refine qaa (qad (v := .bool true) rfl rfl) rfl ?_; (try simp only [Act.put, lyy])
  refine qae (qai (s := 31) (k := 2) rfl Tryz.underlying51 rfl (by kernel_rfl) rfl rfl) rfl ?_; (try simp only [Act.put, lyy])
  refine qae (qat (vs := m.ident.map b8) rfl Tryz.underlying27 rfl (szR (by rw [List.length_map, k1]) (by kernel_rfl)) rfl ((E.out.get (i := 1) rfl).seg (buR_Ident (by rw [List.length_map, k1])))) rfl ?_; (try simp only [Act.put, lyy])
  refine qae (qai (s := 31) (k := 2) rfl Tryz.underlying51 rfl (by kernel_rfl) rfl rfl) rfl ?_; (try simp only [Act.put, lyy])
  refine qae (qat (vs := m.ident.map b8) rfl Tryz.underlying27 rfl (szR (by rw [List.length_map, k1]) (by kernel_rfl)) rfl ((E.out.get (i := 0) rfl).seg (buR_Ident (by rw [List.length_map, k1])))) rfl ?_; (try simp only [Act.put, lyy])
  refine qae (run_eqR rfl (by kernel_rfl) rfl rfl (eqKy_r k1)) rfl ?_; (try simp only [Act.put, lyy])
  refine qaa (qaw (b := true) (v := .bool true) rfl rfl rfl) rfl ?_; (try simp only [Act.put, lyy])
  refine qaa (qad (v := .bool true) rfl rfl) rfl ?_; (try simp only [Act.put, lyy])
  refine qae (qai (s := 31) (k := 34) rfl Tryz.underlying51 rfl (by kernel_rfl) rfl rfl) rfl ?_; (try simp only [Act.put, lyy])
  refine qae (qat (vs := m.key.map b8) rfl Tryz.underlying27 rfl (szR (by rw [List.length_map, k2]) (by kernel_rfl)) rfl ((E.out.get (i := 1) rfl).seg (buR_Key (by rw [List.length_map, k1]) (by rw [List.length_map, k2])))) rfl ?_; (try simp only [Act.put, lyy])
  refine qae (qai (s := 31) (k := 34) rfl Tryz.underlying51 rfl (by kernel_rfl) rfl rfl) rfl ?_; (try simp only [Act.put, lyy])
  refine qae (qat (vs := m.key.map b8) rfl Tryz.underlying27 rfl (szR (by rw [List.length_map, k2]) (by kernel_rfl)) rfl ((E.out.get (i := 0) rfl).seg (buR_Key (by rw [List.length_map, k1]) (by rw [List.length_map, k2])))) rfl ?_; (try simp only [Act.put, lyy])
  refine qae (run_eqR rfl (by kernel_rfl) rfl rfl (eqKy_r k2)) rfl ?_; (try simp only [Act.put, lyy])
  refine qaa (qaw (b := true) (v := .bool true) rfl rfl rfl) rfl ?_; (try simp only [Act.put, lyy])
  refine qaa (qad (v := .bool true) rfl rfl) rfl ?_; (try simp only [Act.put, lyy])
  refine qae (qai (s := 32) (k := 66) rfl Tryz.underlying51 rfl (by kernel_rfl) rfl rfl) rfl ?_; (try simp only [Act.put, lyy])
  refine qae (qat (vs := pkC m.signed) rfl Tryz.underlying42 rfl (szR (qbr k3) (by kernel_rfl)) rfl ((E.out.get (i := 1) rfl).seg (buR_Signed (by rw [List.length_map, k1]) (by rw [List.length_map, k2]) (qbr k3)))) rfl ?_; (try simp only [Act.put, lyy])
  refine qae (qai (s := 32) (k := 66) rfl Tryz.underlying51 rfl (by kernel_rfl) rfl rfl) rfl ?_; (try simp only [Act.put, lyy])
  refine qae (qat (vs := pkC m.signed) rfl Tryz.underlying42 rfl (szR (qbr k3) (by kernel_rfl)) rfl ((E.out.get (i := 0) rfl).seg (buR_Signed (by rw [List.length_map, k1]) (by rw [List.length_map, k2]) (qbr k3)))) rfl ?_; (try simp only [Act.put, lyy])
  refine qae (run_eqR rfl (by kernel_rfl) rfl rfl (eqPk_r k3)) rfl ?_; (try simp only [Act.put, lyy])
  refine qaa (qaw (b := true) (v := .bool true) rfl rfl rfl) rfl ?_; (try simp only [Act.put, lyy])
  refine qaa (qad (v := .bool true) rfl rfl) rfl ?_; (try simp only [Act.put, lyy])
  refine qae (qai (s := 63) (k := 99) rfl Tryz.underlying51 rfl (by kernel_rfl) rfl rfl) rfl ?_; (try simp only [Act.put, lyy])
  refine qae (qat (vs := m.sig.map b8) rfl Tryz.underlying30 rfl (szR (by rw [List.length_map, k4]) (by kernel_rfl)) rfl ((E.out.get (i := 1) rfl).seg (buR_Sig (by rw [List.length_map, k1]) (by rw [List.length_map, k2]) (qbr k3) (by rw [List.length_map, k4])))) rfl ?_; (try simp only [Act.put, lyy])
  refine qae (qai (s := 63) (k := 99) rfl Tryz.underlying51 rfl (by kernel_rfl) rfl rfl) rfl ?_; (try simp only [Act.put, lyy])
  refine qae (qat (vs := m.sig.map b8) rfl Tryz.underlying30 rfl (szR (by rw [List.length_map, k4]) (by kernel_rfl)) rfl ((E.out.get (i := 0) rfl).seg (buR_Sig (by rw [List.length_map, k1]) (by rw [List.length_map, k2]) (qbr k3) (by rw [List.length_map, k4])))) rfl ?_; (try simp only [Act.put, lyy])
  refine qae (run_eqR rfl (by kernel_rfl) rfl rfl (eqSg_r k4)) rfl ?_; (try simp only [Act.put, lyy])
  refine qaa (qaw (b := true) (v := .bool true) rfl rfl rfl) rfl ?_; (try simp only [Act.put, lyy])
  refine qaa (qad (v := .bool true) rfl rfl) rfl ?_; (try simp only [Act.put, lyy])
  refine qae (qai (s := 0) (k := 163) rfl Tryz.underlying51 rfl (by kernel_rfl) rfl rfl) rfl ?_; (try simp only [Act.put, lyy])
  refine qae (qam rfl Tryz.underlying43 rfl rfl ((E.out.get (i := 1) rfl).c 163 _ (buR_One (by rw [List.length_map, k1]) (by rw [List.length_map, k2]) (qbr k3) (by rw [List.length_map, k4])))) rfl ?_; (try simp only [Act.put, lyy])
  refine qae (qai (s := 0) (k := 163) rfl Tryz.underlying51 rfl (by kernel_rfl) rfl rfl) rfl ?_; (try simp only [Act.put, lyy])
  refine qae (qam rfl Tryz.underlying43 rfl rfl ((E.out.get (i := 0) rfl).c 163 _ (buR_One (by rw [List.length_map, k1]) (by rw [List.length_map, k2]) (qbr k3) (by rw [List.length_map, k4])))) rfl ?_; (try simp only [Act.put, lyy])
  refine qb6 (qaf enters_smps rfl rfl rfl rfl) rfl (CP.out _ E.out.bl) (fun a5 hb => ?_); (try simp only [Act.put, lyy])
  replace E := Lib.hid (E.out.below hb)
  clear hb
  refine qaa (qaw (b := true) (v := .bool true) rfl rfl rfl) rfl ?_; (try simp only [Act.put, lyy])
  refine qaa (qak (v := .bool true) rfl rfl) rfl ?_; (try simp only [Act.put, lyy])
  refine qab ?_
  go_wp2_with fail
  go_ret
  exact ⟨rfl, E.out.bl⟩
theorem enters_smsl : Enters 85 := qan Tryz.func85 (by kernel_rfl) rfl
set_option maxHeartbeats 16000000 in
theorem smSl_any (m : MSlot) (X Y : List Value) (w : World) (hm : m.Ok) (hX : Fro 0 (slAt m X) w) (hY : Fro 0 (slAt m Y) w) : Calls Tryz.prog 85 #[.agg X.toArray, .agg Y.toArray] w fun e w' => e = .returned (.bool true) ∧ Below w.heap.size w w' := by
  obtain ⟨a, c, p, q, rfl, HF, HM⟩ := slAt_fix hm hX
  obtain ⟨b, d, r, s, rfl, HF2, HM2⟩ := slAt_fix hm hY
  have k3 := hm.signed
  have k4 := hm.sig
  have CP := Lib.hid fun u (hu : Since w u) => smPs_any m.ones a b c d u hm.ones hm.many (HF.below hu) (HF2.below hu)
  have CM := Lib.hid fun u (hu : Since w u) => smMl_any m.mail p r q s u hm.mail hm.much (HM.below hu) (HM2.below hu)
  clear HF HF2 HM HM2
  have E := Lib.hid (Ev.start (w := w) (F := fun _ => True) fun _ _ => trivial)
  clear hX hY hm
  go_enter Tryz.func85, Tryz.ntmps85
  go_upto_region 0 with fail; refine wp_region_lit ?_
  refine qaa (qa8 (vs := slR (.int .i64 m.dev) (pkC m.signed) (m.sig.map b8) (.slice a m.ones.length c) (.int .i64 m.last) (.slice p m.mail.length q)) rfl rfl) rfl ?_; (try simp only [Act.put, lyy])
  replace E := Lib.hid (E.out.new (slR (.int .i64 m.dev) (pkC m.signed) (m.sig.map b8) (.slice a m.ones.length c) (.int .i64 m.last) (.slice p m.mail.length q)) 107)
  generalize w.alloc (.cells (slR (.int .i64 m.dev) (pkC m.signed) (m.sig.map b8) (.slice a m.ones.length c) (.int .i64 m.last) (.slice p m.mail.length q)).toArray 107) = a1 at *
  generalize w.heap.size = g2 at *
  refine qaa (qa8 (vs := slR (.int .i64 m.dev) (pkC m.signed) (m.sig.map b8) (.slice b m.ones.length d) (.int .i64 m.last) (.slice r m.mail.length s)) rfl rfl) rfl ?_; (try simp only [Act.put, lyy])
  replace E := Lib.hid (E.out.new (slR (.int .i64 m.dev) (pkC m.signed) (m.sig.map b8) (.slice b m.ones.length d) (.int .i64 m.last) (.slice r m.mail.length s)) 107)
  generalize a1.alloc (.cells (slR (.int .i64 m.dev) (pkC m.signed) (m.sig.map b8) (.slice b m.ones.length d) (.int .i64 m.last) (.slice r m.mail.length s)).toArray 107) = a3 at *
  generalize a1.heap.size = g4 at *
  refine qaa (qak (v := .bool false) rfl rfl) rfl ?_; (try simp only [Act.put, lyy])
  refine qab ?_
  go_upto_region 1 with fail; refine wp_region_lit ?_
  refine qaa (qai (s := 0) (k := 0) rfl Tryz.underlying107 rfl (by kernel_rfl) rfl rfl) rfl ?_; (try simp only [Act.put, lyy])
  refine qaa (qam rfl Tryz.underlying3 rfl rfl ((E.out.get (i := 1) rfl).c 0 _ (slR_Device ))) rfl ?_; (try simp only [Act.put, lyy])
  refine qaa (qai (s := 0) (k := 0) rfl Tryz.underlying107 rfl (by kernel_rfl) rfl rfl) rfl ?_; (try simp only [Act.put, lyy])
  refine qaa (qam rfl Tryz.underlying3 rfl rfl ((E.out.get (i := 0) rfl).c 0 _ (slR_Device ))) rfl ?_; (try simp only [Act.put, lyy])
  refine qaa (qbp (c := true) rfl rfl rfl (by simp)) rfl ?_; (try simp only [Act.put, lyy])
  refine qaa (qad (v := .bool true) rfl rfl) rfl ?_; (try simp only [Act.put, lyy])
  refine qae (qai (s := 32) (k := 1) rfl Tryz.underlying107 rfl (by kernel_rfl) rfl rfl) rfl ?_; (try simp only [Act.put, lyy])
  refine qae (qat (vs := pkC m.signed) rfl Tryz.underlying42 rfl (szR (qbr k3) (by kernel_rfl)) rfl ((E.out.get (i := 1) rfl).seg (slR_Signed (qbr k3)))) rfl ?_; (try simp only [Act.put, lyy])
  refine qae (qai (s := 32) (k := 1) rfl Tryz.underlying107 rfl (by kernel_rfl) rfl rfl) rfl ?_; (try simp only [Act.put, lyy])
  refine qae (qat (vs := pkC m.signed) rfl Tryz.underlying42 rfl (szR (qbr k3) (by kernel_rfl)) rfl ((E.out.get (i := 0) rfl).seg (slR_Signed (qbr k3)))) rfl ?_; (try simp only [Act.put, lyy])
  refine qae (run_eqR rfl (by kernel_rfl) rfl rfl (eqPk_r k3)) rfl ?_; (try simp only [Act.put, lyy])
  refine qaa (qaw (b := true) (v := .bool true) rfl rfl rfl) rfl ?_; (try simp only [Act.put, lyy])
  refine qaa (qad (v := .bool true) rfl rfl) rfl ?_; (try simp only [Act.put, lyy])
  refine qae (qai (s := 63) (k := 34) rfl Tryz.underlying107 rfl (by kernel_rfl) rfl rfl) rfl ?_; (try simp only [Act.put, lyy])
  refine qae (qat (vs := m.sig.map b8) rfl Tryz.underlying30 rfl (szR (by rw [List.length_map, k4]) (by kernel_rfl)) rfl ((E.out.get (i := 1) rfl).seg (slR_Sig (qbr k3) (by rw [List.length_map, k4])))) rfl ?_; (try simp only [Act.put, lyy])
  refine qae (qai (s := 63) (k := 34) rfl Tryz.underlying107 rfl (by kernel_rfl) rfl rfl) rfl ?_; (try simp only [Act.put, lyy])
  refine qae (qat (vs := m.sig.map b8) rfl Tryz.underlying30 rfl (szR (by rw [List.length_map, k4]) (by kernel_rfl)) rfl ((E.out.get (i := 0) rfl).seg (slR_Sig (qbr k3) (by rw [List.length_map, k4])))) rfl ?_; (try simp only [Act.put, lyy])
  refine qae (run_eqR rfl (by kernel_rfl) rfl rfl (eqSg_r k4)) rfl ?_; (try simp only [Act.put, lyy])
  refine qaa (qaw (b := true) (v := .bool true) rfl rfl rfl) rfl ?_; (try simp only [Act.put, lyy])
  refine qaa (qad (v := .bool true) rfl rfl) rfl ?_; (try simp only [Act.put, lyy])
  refine qae (qai (s := 0) (k := 98) rfl Tryz.underlying107 rfl (by kernel_rfl) rfl rfl) rfl ?_; (try simp only [Act.put, lyy])
  refine qae (qam rfl Tryz.underlying43 rfl rfl ((E.out.get (i := 1) rfl).c 98 _ (slR_Ones (qbr k3) (by rw [List.length_map, k4])))) rfl ?_; (try simp only [Act.put, lyy])
  refine qae (qai (s := 0) (k := 98) rfl Tryz.underlying107 rfl (by kernel_rfl) rfl rfl) rfl ?_; (try simp only [Act.put, lyy])
  refine qae (qam rfl Tryz.underlying43 rfl rfl ((E.out.get (i := 0) rfl).c 98 _ (slR_Ones (qbr k3) (by rw [List.length_map, k4])))) rfl ?_; (try simp only [Act.put, lyy])
  refine qb6 (qaf enters_smps rfl rfl rfl rfl) rfl (CP.out _ E.out.bl) (fun a5 hb => ?_); (try simp only [Act.put, lyy])
  replace E := Lib.hid (E.out.below hb)
  clear hb
  refine qaa (qaw (b := true) (v := .bool true) rfl rfl rfl) rfl ?_; (try simp only [Act.put, lyy])
  refine qaa (qad (v := .bool true) rfl rfl) rfl ?_; (try simp only [Act.put, lyy])
  refine qae (qai (s := 0) (k := 99) rfl Tryz.underlying107 rfl (by kernel_rfl) rfl rfl) rfl ?_; (try simp only [Act.put, lyy])
  refine qae (qam rfl Tryz.underlying3 rfl rfl ((E.out.get (i := 1) rfl).c 99 _ (slR_Last (qbr k3) (by rw [List.length_map, k4])))) rfl ?_; (try simp only [Act.put, lyy])
  refine qae (qai (s := 0) (k := 99) rfl Tryz.underlying107 rfl (by kernel_rfl) rfl rfl) rfl ?_; (try simp only [Act.put, lyy])
  refine qae (qam rfl Tryz.underlying3 rfl rfl ((E.out.get (i := 0) rfl).c 99 _ (slR_Last (qbr k3) (by rw [List.length_map, k4])))) rfl ?_; (try simp only [Act.put, lyy])
  refine qae (qbp (c := true) rfl rfl rfl (by simp)) rfl ?_; (try simp only [Act.put, lyy])
  refine qaa (qaw (b := true) (v := .bool true) rfl rfl rfl) rfl ?_; (try simp only [Act.put, lyy])
  refine qaa (qad (v := .bool true) rfl rfl) rfl ?_; (try simp only [Act.put, lyy])
  refine qae (qai (s := 0) (k := 100) rfl Tryz.underlying107 rfl (by kernel_rfl) rfl rfl) rfl ?_; (try simp only [Act.put, lyy])
  refine qae (qam rfl Tryz.underlying52 rfl rfl ((E.out.get (i := 1) rfl).c 100 _ (slR_Mail (qbr k3) (by rw [List.length_map, k4])))) rfl ?_; (try simp only [Act.put, lyy])
  refine qae (qai (s := 0) (k := 100) rfl Tryz.underlying107 rfl (by kernel_rfl) rfl rfl) rfl ?_; (try simp only [Act.put, lyy])
  refine qae (qam rfl Tryz.underlying52 rfl rfl ((E.out.get (i := 0) rfl).c 100 _ (slR_Mail (qbr k3) (by rw [List.length_map, k4])))) rfl ?_; (try simp only [Act.put, lyy])
  refine qb6 (qaf enters_smml rfl rfl rfl rfl) rfl (CM.out _ E.out.bl) (fun a6 hb => ?_); (try simp only [Act.put, lyy])
  replace E := Lib.hid (E.out.below hb)
  clear hb
  refine qaa (qaw (b := true) (v := .bool true) rfl rfl rfl) rfl ?_; (try simp only [Act.put, lyy])
  refine qaa (qak (v := .bool true) rfl rfl) rfl ?_; (try simp only [Act.put, lyy])
  refine qab ?_
  go_wp2_with fail
  go_ret
  exact ⟨rfl, E.out.bl⟩
theorem enters_smrp : Enters 34 := qan Tryz.func34 (by kernel_rfl) rfl
set_option maxHeartbeats 16000000 in
theorem smRp_any (m : MRp) (X Y : List Value) (w : World) (hm : m.Ok) (hX : Fro 0 (rpAt m X) w) (hY : Fro 0 (rpAt m Y) w) : Calls Tryz.prog 34 #[.agg X.toArray, .agg Y.toArray] w fun e w' => e = .returned (.bool true) ∧ Below w.heap.size w w' := by
  obtain ⟨x1, x2, a, c, rfl, lx1, lx2, ox1, ox2, F1, F2, F3⟩ := rpAt_fix hm hX
  obtain ⟨y1, y2, b, d, rfl, ly1, ly2, oy1, oy2, G1, G2, G3⟩ := rpAt_fix hm hY
  have CL := Lib.hid fun u (hu : Since w u) => smLs_any m.ls x1 y1 u hm.ls (F1.below hu) (G1.below hu)
  have CB := Lib.hid fun u (hu : Since w u) => smBu_any m.bu x2 y2 u hm.bu (F2.below hu) (G2.below hu)
  have CM := Lib.hid fun u (hu : Since w u) => smMl_any m.mail a b c d u hm.mail hm.many (F3.below hu) (G3.below hu)
  clear F1 F2 F3 G1 G2 G3
  have E := Lib.hid (Ev.start (w := w) (F := fun _ => True) fun _ _ => trivial)
  clear hX hY hm
  go_enter Tryz.func34, Tryz.ntmps34
  go_upto_region 0 with fail; refine wp_region_lit ?_
  refine qaa (qa8 (vs := rpR (.int .u16 m.err) (x1) (x2) (.slice a m.mail.length c)) rfl rfl) rfl ?_; (try simp only [Act.put, lyy])
  replace E := Lib.hid (E.out.new (rpR (.int .u16 m.err) (x1) (x2) (.slice a m.mail.length c)) 54)
  generalize w.alloc (.cells (rpR (.int .u16 m.err) (x1) (x2) (.slice a m.mail.length c)).toArray 54) = a1 at *
  generalize w.heap.size = g2 at *
  refine qaa (qa8 (vs := rpR (.int .u16 m.err) (y1) (y2) (.slice b m.mail.length d)) rfl rfl) rfl ?_; (try simp only [Act.put, lyy])
  replace E := Lib.hid (E.out.new (rpR (.int .u16 m.err) (y1) (y2) (.slice b m.mail.length d)) 54)
  generalize a1.alloc (.cells (rpR (.int .u16 m.err) (y1) (y2) (.slice b m.mail.length d)).toArray 54) = a3 at *
  generalize a1.heap.size = g4 at *
  refine qaa (qak (v := .bool false) rfl rfl) rfl ?_; (try simp only [Act.put, lyy])
  refine qab ?_
  go_upto_region 1 with fail; refine wp_region_lit ?_
  refine qaa (qai (s := 0) (k := 0) rfl Tryz.underlying54 rfl (by kernel_rfl) rfl rfl) rfl ?_; (try simp only [Act.put, lyy])
  refine qaa (qam rfl Tryz.underlying49 rfl rfl ((E.out.get (i := 1) rfl).c 0 _ (rpR_Err ))) rfl ?_; (try simp only [Act.put, lyy])
  refine qaa (qai (s := 0) (k := 0) rfl Tryz.underlying54 rfl (by kernel_rfl) rfl rfl) rfl ?_; (try simp only [Act.put, lyy])
  refine qaa (qam rfl Tryz.underlying49 rfl rfl ((E.out.get (i := 0) rfl).c 0 _ (rpR_Err ))) rfl ?_; (try simp only [Act.put, lyy])
  refine qaa (qbp (c := true) rfl rfl rfl (by simp)) rfl ?_; (try simp only [Act.put, lyy])
  refine qaa (qad (v := .bool true) rfl rfl) rfl ?_; (try simp only [Act.put, lyy])
  refine qae (qai (s := 98) (k := 1) rfl Tryz.underlying54 rfl (by kernel_rfl) rfl rfl) rfl ?_; (try simp only [Act.put, lyy])
  refine qae (qat (vs := x1) rfl Tryz.underlying32 rfl (szR lx1 (by kernel_rfl)) rfl ((E.out.get (i := 1) rfl).seg (rpR_List lx1))) rfl ?_; (try simp only [Act.put, lyy])
  refine qae (qai (s := 98) (k := 1) rfl Tryz.underlying54 rfl (by kernel_rfl) rfl rfl) rfl ?_; (try simp only [Act.put, lyy])
  refine qae (qat (vs := y1) rfl Tryz.underlying32 rfl (szR ly1 (by kernel_rfl)) rfl ((E.out.get (i := 0) rfl).seg (rpR_List ly1))) rfl ?_; (try simp only [Act.put, lyy])
  refine qb6 (qaf enters_smls rfl rfl rfl rfl) rfl (CL.out _ E.out.bl) (fun a5 hb => ?_); (try simp only [Act.put, lyy])
  replace E := Lib.hid (E.out.below hb)
  clear hb
  refine qaa (qaw (b := true) (v := .bool true) rfl rfl rfl) rfl ?_; (try simp only [Act.put, lyy])
  refine qaa (qad (v := .bool true) rfl rfl) rfl ?_; (try simp only [Act.put, lyy])
  refine qae (qai (s := 163) (k := 100) rfl Tryz.underlying54 rfl (by kernel_rfl) rfl rfl) rfl ?_; (try simp only [Act.put, lyy])
  refine qae (qat (vs := x2) rfl Tryz.underlying51 rfl (szR lx2 (by kernel_rfl)) rfl ((E.out.get (i := 1) rfl).seg (rpR_Bundle lx1 lx2))) rfl ?_; (try simp only [Act.put, lyy])
  refine qae (qai (s := 163) (k := 100) rfl Tryz.underlying54 rfl (by kernel_rfl) rfl rfl) rfl ?_; (try simp only [Act.put, lyy])
  refine qae (qat (vs := y2) rfl Tryz.underlying51 rfl (szR ly2 (by kernel_rfl)) rfl ((E.out.get (i := 0) rfl).seg (rpR_Bundle ly1 ly2))) rfl ?_; (try simp only [Act.put, lyy])
  refine qb6 (qaf enters_smbu rfl rfl rfl rfl) rfl (CB.out _ E.out.bl) (fun a6 hb => ?_); (try simp only [Act.put, lyy])
  replace E := Lib.hid (E.out.below hb)
  clear hb
  refine qaa (qaw (b := true) (v := .bool true) rfl rfl rfl) rfl ?_; (try simp only [Act.put, lyy])
  refine qaa (qad (v := .bool true) rfl rfl) rfl ?_; (try simp only [Act.put, lyy])
  refine qae (qai (s := 0) (k := 264) rfl Tryz.underlying54 rfl (by kernel_rfl) rfl rfl) rfl ?_; (try simp only [Act.put, lyy])
  refine qae (qam rfl Tryz.underlying52 rfl rfl ((E.out.get (i := 1) rfl).c 264 _ (rpR_Mail lx1 lx2))) rfl ?_; (try simp only [Act.put, lyy])
  refine qae (qai (s := 0) (k := 264) rfl Tryz.underlying54 rfl (by kernel_rfl) rfl rfl) rfl ?_; (try simp only [Act.put, lyy])
  refine qae (qam rfl Tryz.underlying52 rfl rfl ((E.out.get (i := 0) rfl).c 264 _ (rpR_Mail ly1 ly2))) rfl ?_; (try simp only [Act.put, lyy])
  refine qb6 (qaf enters_smml rfl rfl rfl rfl) rfl (CM.out _ E.out.bl) (fun a7 hb => ?_); (try simp only [Act.put, lyy])
  replace E := Lib.hid (E.out.below hb)
  clear hb
  refine qaa (qaw (b := true) (v := .bool true) rfl rfl rfl) rfl ?_; (try simp only [Act.put, lyy])
  refine qaa (qak (v := .bool true) rfl rfl) rfl ?_; (try simp only [Act.put, lyy])
  refine qab ?_
  go_wp2_with fail
  go_ret
  exact ⟨rfl, E.out.bl⟩
theorem enters_smrq : Enters 33 := qan Tryz.func33 (by kernel_rfl) rfl
set_option maxHeartbeats 16000000 in
theorem smRq_any (m : MRq) (X Y : List Value) (w : World) (hm : m.Ok) (hX : Fro 0 (rqAt m X) w) (hY : Fro 0 (rqAt m Y) w) : Calls Tryz.prog 33 #[.agg X.toArray, .agg Y.toArray] w fun e w' => e = .returned (.bool true) ∧ Below w.heap.size w w' := by
  obtain ⟨x1, a, c, p, q, rfl, lx1, ox1, F1, F2, F3⟩ := rqAt_fix hm hX
  obtain ⟨y1, b, d, r, s, rfl, ly1, oy1, G1, G2, G3⟩ := rqAt_fix hm hY
  have k1 := hm.token
  have k3 := hm.signed
  have k4 := hm.sig
  have CL := Lib.hid fun u (hu : Since w u) => smLs_any m.ls x1 y1 u hm.ls (F1.below hu) (G1.below hu)
  have CP := Lib.hid fun u (hu : Since w u) => smPs_any m.ones a b c d u hm.ones hm.many (F2.below hu) (G2.below hu)
  have CI := Lib.hid fun u (hu : Since w u) => smIt_any m.items p r q s u hm.items hm.much (F3.below hu) (G3.below hu)
  clear F1 F2 F3 G1 G2 G3
  have E := Lib.hid (Ev.start (w := w) (F := fun _ => True) fun _ _ => trivial)
  clear hX hY hm
  go_enter Tryz.func33, Tryz.ntmps33
  go_upto_region 0 with fail; refine wp_region_lit ?_
  refine qaa (qa8 (vs := rqR (.int .u8 m.kind) (.int .i64 m.acc) (.int .i64 m.dev) (.string (strOf m.pin)) (.string (strOf m.next)) (.string (strOf m.name)) (x1) (m.token.map b8) (pkC m.signed) (m.sig.map b8) (.slice a m.ones.length c) (.int .i64 m.ver) (.slice p m.items.length q)) rfl rfl) rfl ?_; (try simp only [Act.put, lyy])
  replace E := Lib.hid (E.out.new (rqR (.int .u8 m.kind) (.int .i64 m.acc) (.int .i64 m.dev) (.string (strOf m.pin)) (.string (strOf m.next)) (.string (strOf m.name)) (x1) (m.token.map b8) (pkC m.signed) (m.sig.map b8) (.slice a m.ones.length c) (.int .i64 m.ver) (.slice p m.items.length q)) 46)
  generalize w.alloc (.cells (rqR (.int .u8 m.kind) (.int .i64 m.acc) (.int .i64 m.dev) (.string (strOf m.pin)) (.string (strOf m.next)) (.string (strOf m.name)) (x1) (m.token.map b8) (pkC m.signed) (m.sig.map b8) (.slice a m.ones.length c) (.int .i64 m.ver) (.slice p m.items.length q)).toArray 46) = a1 at *
  generalize w.heap.size = g2 at *
  refine qaa (qa8 (vs := rqR (.int .u8 m.kind) (.int .i64 m.acc) (.int .i64 m.dev) (.string (strOf m.pin)) (.string (strOf m.next)) (.string (strOf m.name)) (y1) (m.token.map b8) (pkC m.signed) (m.sig.map b8) (.slice b m.ones.length d) (.int .i64 m.ver) (.slice r m.items.length s)) rfl rfl) rfl ?_; (try simp only [Act.put, lyy])
  replace E := Lib.hid (E.out.new (rqR (.int .u8 m.kind) (.int .i64 m.acc) (.int .i64 m.dev) (.string (strOf m.pin)) (.string (strOf m.next)) (.string (strOf m.name)) (y1) (m.token.map b8) (pkC m.signed) (m.sig.map b8) (.slice b m.ones.length d) (.int .i64 m.ver) (.slice r m.items.length s)) 46)
  generalize a1.alloc (.cells (rqR (.int .u8 m.kind) (.int .i64 m.acc) (.int .i64 m.dev) (.string (strOf m.pin)) (.string (strOf m.next)) (.string (strOf m.name)) (y1) (m.token.map b8) (pkC m.signed) (m.sig.map b8) (.slice b m.ones.length d) (.int .i64 m.ver) (.slice r m.items.length s)).toArray 46) = a3 at *
  generalize a1.heap.size = g4 at *
  refine qaa (qak (v := .bool false) rfl rfl) rfl ?_; (try simp only [Act.put, lyy])
  refine qab ?_
  go_upto_region 1 with fail; refine wp_region_lit ?_
  refine qaa (qai (s := 0) (k := 0) rfl Tryz.underlying46 rfl (by kernel_rfl) rfl rfl) rfl ?_; (try simp only [Act.put, lyy])
  refine qaa (qam rfl Tryz.underlying5 rfl rfl ((E.out.get (i := 1) rfl).c 0 _ (rqR_Kind ))) rfl ?_; (try simp only [Act.put, lyy])
  refine qaa (qai (s := 0) (k := 0) rfl Tryz.underlying46 rfl (by kernel_rfl) rfl rfl) rfl ?_; (try simp only [Act.put, lyy])
  refine qaa (qam rfl Tryz.underlying5 rfl rfl ((E.out.get (i := 0) rfl).c 0 _ (rqR_Kind ))) rfl ?_; (try simp only [Act.put, lyy])
  refine qaa (qbp (c := true) rfl rfl rfl (by simp)) rfl ?_; (try simp only [Act.put, lyy])
  refine qaa (qad (v := .bool true) rfl rfl) rfl ?_; (try simp only [Act.put, lyy])
  refine qae (qai (s := 0) (k := 1) rfl Tryz.underlying46 rfl (by kernel_rfl) rfl rfl) rfl ?_; (try simp only [Act.put, lyy])
  refine qae (qam rfl Tryz.underlying3 rfl rfl ((E.out.get (i := 1) rfl).c 1 _ (rqR_Account ))) rfl ?_; (try simp only [Act.put, lyy])
  refine qae (qai (s := 0) (k := 1) rfl Tryz.underlying46 rfl (by kernel_rfl) rfl rfl) rfl ?_; (try simp only [Act.put, lyy])
  refine qae (qam rfl Tryz.underlying3 rfl rfl ((E.out.get (i := 0) rfl).c 1 _ (rqR_Account ))) rfl ?_; (try simp only [Act.put, lyy])
  refine qae (qbp (c := true) rfl rfl rfl (by simp)) rfl ?_; (try simp only [Act.put, lyy])
  refine qaa (qaw (b := true) (v := .bool true) rfl rfl rfl) rfl ?_; (try simp only [Act.put, lyy])
  refine qaa (qad (v := .bool true) rfl rfl) rfl ?_; (try simp only [Act.put, lyy])
  refine qae (qai (s := 0) (k := 2) rfl Tryz.underlying46 rfl (by kernel_rfl) rfl rfl) rfl ?_; (try simp only [Act.put, lyy])
  refine qae (qam rfl Tryz.underlying3 rfl rfl ((E.out.get (i := 1) rfl).c 2 _ (rqR_Device ))) rfl ?_; (try simp only [Act.put, lyy])
  refine qae (qai (s := 0) (k := 2) rfl Tryz.underlying46 rfl (by kernel_rfl) rfl rfl) rfl ?_; (try simp only [Act.put, lyy])
  refine qae (qam rfl Tryz.underlying3 rfl rfl ((E.out.get (i := 0) rfl).c 2 _ (rqR_Device ))) rfl ?_; (try simp only [Act.put, lyy])
  refine qae (qbp (c := true) rfl rfl rfl (by simp)) rfl ?_; (try simp only [Act.put, lyy])
  refine qaa (qaw (b := true) (v := .bool true) rfl rfl rfl) rfl ?_; (try simp only [Act.put, lyy])
  refine qaa (qad (v := .bool true) rfl rfl) rfl ?_; (try simp only [Act.put, lyy])
  refine qae (qai (s := 0) (k := 3) rfl Tryz.underlying46 rfl (by kernel_rfl) rfl rfl) rfl ?_; (try simp only [Act.put, lyy])
  refine qae (qam rfl Tryz.underlying9 rfl rfl ((E.out.get (i := 1) rfl).c 3 _ (rqR_Pin ))) rfl ?_; (try simp only [Act.put, lyy])
  refine qae (qai (s := 0) (k := 3) rfl Tryz.underlying46 rfl (by kernel_rfl) rfl rfl) rfl ?_; (try simp only [Act.put, lyy])
  refine qae (qam rfl Tryz.underlying9 rfl rfl ((E.out.get (i := 0) rfl).c 3 _ (rqR_Pin ))) rfl ?_; (try simp only [Act.put, lyy])
  refine qae (run_eqStrS rfl rfl rfl) rfl ?_; (try simp only [Act.put, lyy])
  refine qaa (qaw (b := true) (v := .bool true) rfl rfl rfl) rfl ?_; (try simp only [Act.put, lyy])
  refine qaa (qad (v := .bool true) rfl rfl) rfl ?_; (try simp only [Act.put, lyy])
  refine qae (qai (s := 0) (k := 4) rfl Tryz.underlying46 rfl (by kernel_rfl) rfl rfl) rfl ?_; (try simp only [Act.put, lyy])
  refine qae (qam rfl Tryz.underlying9 rfl rfl ((E.out.get (i := 1) rfl).c 4 _ (rqR_Next ))) rfl ?_; (try simp only [Act.put, lyy])
  refine qae (qai (s := 0) (k := 4) rfl Tryz.underlying46 rfl (by kernel_rfl) rfl rfl) rfl ?_; (try simp only [Act.put, lyy])
  refine qae (qam rfl Tryz.underlying9 rfl rfl ((E.out.get (i := 0) rfl).c 4 _ (rqR_Next ))) rfl ?_; (try simp only [Act.put, lyy])
  refine qae (run_eqStrS rfl rfl rfl) rfl ?_; (try simp only [Act.put, lyy])
  refine qaa (qaw (b := true) (v := .bool true) rfl rfl rfl) rfl ?_; (try simp only [Act.put, lyy])
  refine qaa (qad (v := .bool true) rfl rfl) rfl ?_; (try simp only [Act.put, lyy])
  refine qae (qai (s := 0) (k := 5) rfl Tryz.underlying46 rfl (by kernel_rfl) rfl rfl) rfl ?_; (try simp only [Act.put, lyy])
  refine qae (qam rfl Tryz.underlying9 rfl rfl ((E.out.get (i := 1) rfl).c 5 _ (rqR_Name ))) rfl ?_; (try simp only [Act.put, lyy])
  refine qae (qai (s := 0) (k := 5) rfl Tryz.underlying46 rfl (by kernel_rfl) rfl rfl) rfl ?_; (try simp only [Act.put, lyy])
  refine qae (qam rfl Tryz.underlying9 rfl rfl ((E.out.get (i := 0) rfl).c 5 _ (rqR_Name ))) rfl ?_; (try simp only [Act.put, lyy])
  refine qae (run_eqStrS rfl rfl rfl) rfl ?_; (try simp only [Act.put, lyy])
  refine qaa (qaw (b := true) (v := .bool true) rfl rfl rfl) rfl ?_; (try simp only [Act.put, lyy])
  refine qaa (qad (v := .bool true) rfl rfl) rfl ?_; (try simp only [Act.put, lyy])
  refine qae (qai (s := 98) (k := 6) rfl Tryz.underlying46 rfl (by kernel_rfl) rfl rfl) rfl ?_; (try simp only [Act.put, lyy])
  refine qae (qat (vs := x1) rfl Tryz.underlying32 rfl (szR lx1 (by kernel_rfl)) rfl ((E.out.get (i := 1) rfl).seg (rqR_List lx1))) rfl ?_; (try simp only [Act.put, lyy])
  refine qae (qai (s := 98) (k := 6) rfl Tryz.underlying46 rfl (by kernel_rfl) rfl rfl) rfl ?_; (try simp only [Act.put, lyy])
  refine qae (qat (vs := y1) rfl Tryz.underlying32 rfl (szR ly1 (by kernel_rfl)) rfl ((E.out.get (i := 0) rfl).seg (rqR_List ly1))) rfl ?_; (try simp only [Act.put, lyy])
  refine qb6 (qaf enters_smls rfl rfl rfl rfl) rfl (CL.out _ E.out.bl) (fun a5 hb => ?_); (try simp only [Act.put, lyy])
  replace E := Lib.hid (E.out.below hb)
  clear hb
  refine qaa (qaw (b := true) (v := .bool true) rfl rfl rfl) rfl ?_; (try simp only [Act.put, lyy])
  refine qaa (qak (v := .bool true) rfl rfl) rfl ?_; (try simp only [Act.put, lyy])
  refine qab ?_
  go_upto_region 2 with fail; refine wp_region_lit ?_
  refine qaa (qad (v := .bool true) rfl rfl) rfl ?_; (try simp only [Act.put, lyy])
  refine qaa (qad (v := .bool true) rfl rfl) rfl ?_; (try simp only [Act.put, lyy])
  refine qae (qai (s := 31) (k := 105) rfl Tryz.underlying46 rfl (by kernel_rfl) rfl rfl) rfl ?_; (try simp only [Act.put, lyy])
  refine qae (qat (vs := m.token.map b8) rfl Tryz.underlying27 rfl (szR (by rw [List.length_map, k1]) (by kernel_rfl)) rfl ((E.out.get (i := 1) rfl).seg (rqR_Token lx1 (by rw [List.length_map, k1])))) rfl ?_; (try simp only [Act.put, lyy])
  refine qae (qai (s := 31) (k := 105) rfl Tryz.underlying46 rfl (by kernel_rfl) rfl rfl) rfl ?_; (try simp only [Act.put, lyy])
  refine qae (qat (vs := m.token.map b8) rfl Tryz.underlying27 rfl (szR (by rw [List.length_map, k1]) (by kernel_rfl)) rfl ((E.out.get (i := 0) rfl).seg (rqR_Token ly1 (by rw [List.length_map, k1])))) rfl ?_; (try simp only [Act.put, lyy])
  refine qae (run_eqR rfl (by kernel_rfl) rfl rfl (eqKy_r k1)) rfl ?_; (try simp only [Act.put, lyy])
  refine qaa (qaw (b := true) (v := .bool true) rfl rfl rfl) rfl ?_; (try simp only [Act.put, lyy])
  refine qaa (qad (v := .bool true) rfl rfl) rfl ?_; (try simp only [Act.put, lyy])
  refine qae (qai (s := 32) (k := 137) rfl Tryz.underlying46 rfl (by kernel_rfl) rfl rfl) rfl ?_; (try simp only [Act.put, lyy])
  refine qae (qat (vs := pkC m.signed) rfl Tryz.underlying42 rfl (szR (qbr k3) (by kernel_rfl)) rfl ((E.out.get (i := 1) rfl).seg (rqR_Signed lx1 (by rw [List.length_map, k1]) (qbr k3)))) rfl ?_; (try simp only [Act.put, lyy])
  refine qae (qai (s := 32) (k := 137) rfl Tryz.underlying46 rfl (by kernel_rfl) rfl rfl) rfl ?_; (try simp only [Act.put, lyy])
  refine qae (qat (vs := pkC m.signed) rfl Tryz.underlying42 rfl (szR (qbr k3) (by kernel_rfl)) rfl ((E.out.get (i := 0) rfl).seg (rqR_Signed ly1 (by rw [List.length_map, k1]) (qbr k3)))) rfl ?_; (try simp only [Act.put, lyy])
  refine qae (run_eqR rfl (by kernel_rfl) rfl rfl (eqPk_r k3)) rfl ?_; (try simp only [Act.put, lyy])
  refine qaa (qaw (b := true) (v := .bool true) rfl rfl rfl) rfl ?_; (try simp only [Act.put, lyy])
  refine qaa (qad (v := .bool true) rfl rfl) rfl ?_; (try simp only [Act.put, lyy])
  refine qae (qai (s := 63) (k := 170) rfl Tryz.underlying46 rfl (by kernel_rfl) rfl rfl) rfl ?_; (try simp only [Act.put, lyy])
  refine qae (qat (vs := m.sig.map b8) rfl Tryz.underlying30 rfl (szR (by rw [List.length_map, k4]) (by kernel_rfl)) rfl ((E.out.get (i := 1) rfl).seg (rqR_Sig lx1 (by rw [List.length_map, k1]) (qbr k3) (by rw [List.length_map, k4])))) rfl ?_; (try simp only [Act.put, lyy])
  refine qae (qai (s := 63) (k := 170) rfl Tryz.underlying46 rfl (by kernel_rfl) rfl rfl) rfl ?_; (try simp only [Act.put, lyy])
  refine qae (qat (vs := m.sig.map b8) rfl Tryz.underlying30 rfl (szR (by rw [List.length_map, k4]) (by kernel_rfl)) rfl ((E.out.get (i := 0) rfl).seg (rqR_Sig ly1 (by rw [List.length_map, k1]) (qbr k3) (by rw [List.length_map, k4])))) rfl ?_; (try simp only [Act.put, lyy])
  refine qae (run_eqR rfl (by kernel_rfl) rfl rfl (eqSg_r k4)) rfl ?_; (try simp only [Act.put, lyy])
  refine qaa (qaw (b := true) (v := .bool true) rfl rfl rfl) rfl ?_; (try simp only [Act.put, lyy])
  refine qaa (qad (v := .bool true) rfl rfl) rfl ?_; (try simp only [Act.put, lyy])
  refine qae (qai (s := 0) (k := 234) rfl Tryz.underlying46 rfl (by kernel_rfl) rfl rfl) rfl ?_; (try simp only [Act.put, lyy])
  refine qae (qam rfl Tryz.underlying43 rfl rfl ((E.out.get (i := 1) rfl).c 234 _ (rqR_Ones lx1 (by rw [List.length_map, k1]) (qbr k3) (by rw [List.length_map, k4])))) rfl ?_; (try simp only [Act.put, lyy])
  refine qae (qai (s := 0) (k := 234) rfl Tryz.underlying46 rfl (by kernel_rfl) rfl rfl) rfl ?_; (try simp only [Act.put, lyy])
  refine qae (qam rfl Tryz.underlying43 rfl rfl ((E.out.get (i := 0) rfl).c 234 _ (rqR_Ones ly1 (by rw [List.length_map, k1]) (qbr k3) (by rw [List.length_map, k4])))) rfl ?_; (try simp only [Act.put, lyy])
  refine qb6 (qaf enters_smps rfl rfl rfl rfl) rfl (CP.out _ E.out.bl) (fun a6 hb => ?_); (try simp only [Act.put, lyy])
  replace E := Lib.hid (E.out.below hb)
  clear hb
  refine qaa (qaw (b := true) (v := .bool true) rfl rfl rfl) rfl ?_; (try simp only [Act.put, lyy])
  refine qaa (qad (v := .bool true) rfl rfl) rfl ?_; (try simp only [Act.put, lyy])
  refine qae (qai (s := 0) (k := 235) rfl Tryz.underlying46 rfl (by kernel_rfl) rfl rfl) rfl ?_; (try simp only [Act.put, lyy])
  refine qae (qam rfl Tryz.underlying3 rfl rfl ((E.out.get (i := 1) rfl).c 235 _ (rqR_Version lx1 (by rw [List.length_map, k1]) (qbr k3) (by rw [List.length_map, k4])))) rfl ?_; (try simp only [Act.put, lyy])
  refine qae (qai (s := 0) (k := 235) rfl Tryz.underlying46 rfl (by kernel_rfl) rfl rfl) rfl ?_; (try simp only [Act.put, lyy])
  refine qae (qam rfl Tryz.underlying3 rfl rfl ((E.out.get (i := 0) rfl).c 235 _ (rqR_Version ly1 (by rw [List.length_map, k1]) (qbr k3) (by rw [List.length_map, k4])))) rfl ?_; (try simp only [Act.put, lyy])
  refine qae (qbp (c := true) rfl rfl rfl (by simp)) rfl ?_; (try simp only [Act.put, lyy])
  refine qaa (qaw (b := true) (v := .bool true) rfl rfl rfl) rfl ?_; (try simp only [Act.put, lyy])
  refine qaa (qad (v := .bool true) rfl rfl) rfl ?_; (try simp only [Act.put, lyy])
  refine qae (qai (s := 0) (k := 236) rfl Tryz.underlying46 rfl (by kernel_rfl) rfl rfl) rfl ?_; (try simp only [Act.put, lyy])
  refine qae (qam rfl Tryz.underlying44 rfl rfl ((E.out.get (i := 1) rfl).c 236 _ (rqR_Items lx1 (by rw [List.length_map, k1]) (qbr k3) (by rw [List.length_map, k4])))) rfl ?_; (try simp only [Act.put, lyy])
  refine qae (qai (s := 0) (k := 236) rfl Tryz.underlying46 rfl (by kernel_rfl) rfl rfl) rfl ?_; (try simp only [Act.put, lyy])
  refine qae (qam rfl Tryz.underlying44 rfl rfl ((E.out.get (i := 0) rfl).c 236 _ (rqR_Items ly1 (by rw [List.length_map, k1]) (qbr k3) (by rw [List.length_map, k4])))) rfl ?_; (try simp only [Act.put, lyy])
  refine qb6 (qaf enters_smit rfl rfl rfl rfl) rfl (CI.out _ E.out.bl) (fun a7 hb => ?_); (try simp only [Act.put, lyy])
  replace E := Lib.hid (E.out.below hb)
  clear hb
  refine qaa (qaw (b := true) (v := .bool true) rfl rfl rfl) rfl ?_; (try simp only [Act.put, lyy])
  refine qaa (qak (v := .bool true) rfl rfl) rfl ?_; (try simp only [Act.put, lyy])
  refine qab ?_
  go_wp2_with fail
  go_ret
  exact ⟨rfl, E.out.bl⟩
end Go.Proofs.YtcgbgmbnagmohaaGreat
