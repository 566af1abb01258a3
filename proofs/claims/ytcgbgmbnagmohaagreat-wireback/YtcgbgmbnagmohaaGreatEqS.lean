import Derived.Test.YtcgbgmbnagmohaaGreatTy10
import Derived.Laws.StructEq
import Derived.Test.YtcgbgmbnagmohaaGreatPrC
namespace Go.Proofs.YtcgbgmbnagmohaaGreat
open Go.RowKit
set_option maxRecDepth 20000
theorem forIn_findS {P : Program} {w : World} {c : Option Bool × Unit} {p : Nat → Bool} {f : Nat → Option Bool × Unit → Sem (ForInStep (Option Bool × Unit))} : ∀ (n s : Nat), (∀ i, s ≤ i → i < s + n → (f i (none, ())).run P w = .ok (if p i then .yield (none, ()) else .done c) w) → (forIn (List.range' s n) (none, ()) f : Sem (Option Bool × Unit)).run P w = .ok (if (List.range' s n).all p then (none, ()) else c) w
  | 0, s, _ => by simp [Sem.run_pure]
  | n + 1, s, h => by
    rw [List.range'_succ, List.forIn_cons, Sem.run_bind, h s (Nat.le_refl _) (by omega), Result.andThen_ok]
    by_cases hp : p s = true
    · rw [if_pos hp]
      simp only [List.all_cons, hp, Bool.true_and]
      exact forIn_findS n (s + 1) fun i h1 h2 => h i (by omega) (by omega)
    · rw [if_neg hp]
      simp [hp]
theorem all_eqS {l m : List (BitVec 8)} (n : Nat) (hl : l.length = n) (hm : m.length = n) : ((List.range' 0 n).all fun i => (((l.getD i 0).toNat : Int) == ((m.getD i 0).toNat : Int))) = decide (l = m) := by
  rw [Bool.eq_iff_iff, List.all_eq_true, decide_eq_true_eq]
  constructor
  · intro h
    refine List.ext_getElem (by omega) fun i h1 h2 => ?_
    have := h i (List.mem_range'_1.2 ⟨Nat.zero_le _, by omega⟩)
    have h3 := BitVec.eq_of_toNat_eq (Int.ofNat.inj (eq_of_beq this))
    simpa [h1, h2] using h3
  · intro h i _
    rw [h]; simp
set_option maxHeartbeats 2000000 in
theorem eqB_in {t : TypeId} {n d : Nat} (ht : Tryz.prog.underlying t = some (.array n 5)) {l m : List (BitVec 8)} (hl : l.length = n) (hm : m.length = n) (w : World) : (Op.equalIn (d + 2) t (.agg (l.map b8).toArray) (.agg (m.map b8).toArray)).run Tryz.prog w = .ok (decide (l = m)) w := by
  have hu := Tryz.underlying5
  have ha := Tryz.isAgg5
  have hz := Tryz.sizeOf5
  rw [Op.equalIn]
  simp only [Sem.run_bind, run_underlying ht, Result.andThen_ok]
  simp only [Std.Legacy.Range.forIn_eq_forIn_range', Std.Legacy.Range.size, Nat.sub_zero, Nat.add_sub_cancel, Nat.div_one]
  have he : ∀ i, i < n → (l.map b8)[i]? = some (.int .u8 ((l.getD i 0).toNat : Int)) := fun i hi => get_map b8 0 (by omega)
  have he' : ∀ i, i < n → (m.map b8)[i]? = some (.int .u8 ((m.getD i 0).toNat : Int)) := fun i hi => get_map b8 0 (by omega)
  have hA := all_eqS n hl hm
  generalize hvs : l.map b8 = vs at *
  generalize hvt : m.map b8 = vt at *
  clear hvs hvt
  obtain ⟨p, hp⟩ : ∃ p : Nat → Bool, p = fun i => (((l.getD i 0).toNat : Int) == ((m.getD i 0).toNat : Int)) := ⟨_, rfl⟩
  rw [← hp] at hA
  go_simp
  rw [forIn_findS (c := (some false, ())) (p := p)]
  · rw [hA]
    by_cases h : l = m
    · simp [h]
    · simp [h]
  · intro i _ hi
    have e1 := he i (by omega)
    have e2 := he' i (by omega)
    clear he he'
    have hpi : p i = (((l.getD i 0).toNat : Int) == ((m.getD i 0).toNat : Int)) := by rw [hp]
    obtain ⟨a, ea⟩ : ∃ a : Int, a = ((l.getD i 0).toNat : Int) := ⟨_, rfl⟩
    obtain ⟨b, eb⟩ : ∃ b : Int, b = ((m.getD i 0).toNat : Int) := ⟨_, rfl⟩
    rw [← ea] at e1 hpi
    rw [← eb] at e2 hpi
    rw [hpi]
    clear hpi ea eb hA hp
    by_cases h : a = b <;> go_simp
section
variable {w : World} {xs ys : List Value} {d : Nat}
theorem qcj {t : TypeId} {D : TypeDesc} {off : Nat} {v : Value} (ht : Tryz.prog.underlying t = some D) (hd : D.isRow = false) (h : xs[off]? = some v) : (part t xs.toArray off).run Tryz.prog w = .ok v w := by
  have hagg : (isAgg t).run Tryz.prog w = .ok false w := by
    unfold isAgg
    rw [Sem.run_bind, run_underlying ht w]
    cases D <;> simp_all
  unfold part
  simp [hagg, h]
theorem run_partR {t : TypeId} {D : TypeDesc} {off n : Nat} {m : List Value} (ht : Tryz.prog.underlying t = some D) (hd : D.isRow = true) (hs : (Tryz.prog.info? t).map (·.size) = some n) (h : (xs.drop off).take n = m) : (part t xs.toArray off).run Tryz.prog w = .ok (.agg m.toArray) w := by
  have hagg : (isAgg t).run Tryz.prog w = .ok true w := by
    unfold isAgg
    rw [Sem.run_bind, run_underlying ht w]
    cases D <;> simp_all
  obtain ⟨inf, h1, h2⟩ := Option.map_eq_some_iff.1 hs
  have hz : (sizeOf t).run Tryz.prog w = .ok n w := by simp [sizeOf, typeInfo, go_sem, h1, h2]
  unfold part
  simp [hagg, hz, h]
theorem eqF_nil : (Op.eqFields d xs.toArray ys.toArray []).run Tryz.prog w = .ok true w := by simp [Op.eqFields]
theorem eqF_cons {f : Field} {fs : List Field} {a b : Value} {r1 r2 : Bool} (hn : f.name ≠ "_") (ha : (part f.type xs.toArray f.offset).run Tryz.prog w = .ok a w) (hb : (part f.type ys.toArray f.offset).run Tryz.prog w = .ok b w) (h1 : (Op.equalIn d f.type a b).run Tryz.prog w = .ok r1 w) (h2 : (Op.eqFields d xs.toArray ys.toArray fs).run Tryz.prog w = .ok r2 w) : (Op.eqFields d xs.toArray ys.toArray (f :: fs)).run Tryz.prog w = .ok (r1 && r2) w := by
  unfold Op.eqFields
  rw [if_pos hn]
  simp only [Sem.run_bind, ha, hb, h1, Result.andThen_ok]
  cases r1
  · simp
  · simp [h2]
theorem run_eqlA {ρ : Operand → Value} {o : Oper} {x y : Operand} {t t' : TypeId} {r : Bool} (ho : o.op = .binOp .eql t x y t') (hm : Tryz.prog.eqGuardType Tryz.prog.depth t = false) (hx : ρ x = .agg xs.toArray) (hy : ρ y = .agg ys.toArray) (h : (Op.equalIn 10000 t (.agg xs.toArray) (.agg ys.toArray)).run Tryz.prog w = .ok r w) : (execOp ρ o).run Tryz.prog w = .ok (.value (.bool r)) w := by
  have hg := run_eqGuard_agg (P := Tryz.prog) w .eql t x y xs.toArray ys.toArray hm
  have he := run_eql_struct (P := Tryz.prog) w t xs.toArray ys.toArray
  rw [h] at he
  unfold execOp
  simp only [ho, hx, hy, Sem.run_bind, hg, Result.andThen_ok, he]
  simp
theorem run_neqA {ρ : Operand → Value} {o : Oper} {x y : Operand} {t t' : TypeId} {r : Bool} (ho : o.op = .binOp .neq t x y t') (hm : Tryz.prog.eqGuardType Tryz.prog.depth t = false) (hx : ρ x = .agg xs.toArray) (hy : ρ y = .agg ys.toArray) (h : (Op.equalIn 10000 t (.agg xs.toArray) (.agg ys.toArray)).run Tryz.prog w = .ok r w) : (execOp ρ o).run Tryz.prog w = .ok (.value (.bool (!r))) w := by
  have hg := run_eqGuard_agg (P := Tryz.prog) w .neq t x y xs.toArray ys.toArray hm
  have he := run_neq_struct (P := Tryz.prog) w t xs.toArray ys.toArray
  rw [h] at he
  unfold execOp
  simp only [ho, hx, hy, Sem.run_bind, hg, Result.andThen_ok, he]
  simp
end
theorem eqEn_in {x0 y0 : Int} {x1 y1 : List (BitVec 8)} (h1 : x1.length = 32) (h2 : y1.length = 32) (w : World) : (Op.equalIn 10000 92 (.agg (enR (.int .i64 x0) (x1.map b8)).toArray) (.agg (enR (.int .i64 y0) (y1.map b8)).toArray)).run Tryz.prog w = .ok ((x0 == y0) && (decide (x1 = y1) && true)) w := by
  rw [show (10000 : Nat) = 9999 + 1 from rfl, run_equalIn_struct w 9999 92 _ _ (by kernel_rfl) (by kernel_rfl)]
  refine eqF_cons (by decide) (qcj Tryz.underlying3 rfl enR_ID) (qcj Tryz.underlying3 rfl enR_ID) (run_equalIn_int w 9998 _ _ _ _ _ Tryz.underlying3) ?_
  refine eqF_cons (by decide) (run_partR Tryz.underlying27 rfl (by kernel_rfl) (enR_Key (by rw [List.length_map, h1]))) (run_partR Tryz.underlying27 rfl (by kernel_rfl) (enR_Key (by rw [List.length_map, h2]))) (eqB_in (d := 9997) Tryz.underlying27 h1 h2 w) ?_
  exact eqF_nil
end Go.Proofs.YtcgbgmbnagmohaaGreat
namespace Go.Proofs.YtcgbgmbnagmohaaGreat
open Go.RowKit
set_option maxRecDepth 20000
theorem eqUs_in {x0 y0 : ByteArray} {x1 y1 : Int} {x2 y2 : Bool} (w : World) : (Op.equalIn 10000 88 (.agg (usR (.string x0) (.int .i64 x1) (.bool x2)).toArray) (.agg (usR (.string y0) (.int .i64 y1) (.bool y2)).toArray)).run Tryz.prog w = .ok ((x0.toList == y0.toList) && ((x1 == y1) && ((x2 == y2) && true))) w := by
  rw [show (10000 : Nat) = 9999 + 1 from rfl, run_equalIn_struct w 9999 88 _ _ (by kernel_rfl) (by kernel_rfl)]
  refine eqF_cons (by decide) (qcj Tryz.underlying9 rfl usR_Name) (qcj Tryz.underlying9 rfl usR_Name) (run_equalIn_string w 9998 _ _ _ Tryz.underlying9) ?_
  refine eqF_cons (by decide) (qcj Tryz.underlying3 rfl usR_Account) (qcj Tryz.underlying3 rfl usR_Account) (run_equalIn_int w 9998 _ _ _ _ _ Tryz.underlying3) ?_
  refine eqF_cons (by decide) (qcj Tryz.underlying4 rfl usR_Sure) (qcj Tryz.underlying4 rfl usR_Sure) (run_equalIn_bool' w 9998 _ _ _ Tryz.underlying4) ?_
  exact eqF_nil
theorem eqPk_in {x0 y0 : Int} {x1 y1 : List (BitVec 8)} (h1 : x1.length = 32) (h2 : y1.length = 32) (w : World) : (Op.equalIn 10000 42 (.agg (pkR (.int .i64 x0) (x1.map b8)).toArray) (.agg (pkR (.int .i64 y0) (y1.map b8)).toArray)).run Tryz.prog w = .ok ((x0 == y0) && (decide (x1 = y1) && true)) w := by
  rw [show (10000 : Nat) = 9999 + 1 from rfl, run_equalIn_struct w 9999 42 _ _ (by kernel_rfl) (by kernel_rfl)]
  refine eqF_cons (by decide) (qcj Tryz.underlying3 rfl pkR_ID) (qcj Tryz.underlying3 rfl pkR_ID) (run_equalIn_int w 9998 _ _ _ _ _ Tryz.underlying3) ?_
  refine eqF_cons (by decide) (run_partR Tryz.underlying27 rfl (by kernel_rfl) (pkR_Key (by rw [List.length_map, h1]))) (run_partR Tryz.underlying27 rfl (by kernel_rfl) (pkR_Key (by rw [List.length_map, h2]))) (eqB_in (d := 9997) Tryz.underlying27 h1 h2 w) ?_
  exact eqF_nil
theorem eqHd_in {x1 x2 y1 y2 : Int} {x0 y0 : List (BitVec 8)} (h1 : x0.length = 32) (h2 : y0.length = 32) (w : World) : (Op.equalIn 10000 36 (.agg (hdR (x0.map b8) (.int .i64 x1) (.int .i64 x2)).toArray) (.agg (hdR (y0.map b8) (.int .i64 y1) (.int .i64 y2)).toArray)).run Tryz.prog w = .ok (decide (x0 = y0) && ((x1 == y1) && ((x2 == y2) && true))) w := by
  rw [show (10000 : Nat) = 9999 + 1 from rfl, run_equalIn_struct w 9999 36 _ _ (by kernel_rfl) (by kernel_rfl)]
  refine eqF_cons (by decide) (run_partR Tryz.underlying27 rfl (by kernel_rfl) (hdR_Ratchet (by rw [List.length_map, h1]))) (run_partR Tryz.underlying27 rfl (by kernel_rfl) (hdR_Ratchet (by rw [List.length_map, h2]))) (eqB_in (d := 9997) Tryz.underlying27 h1 h2 w) ?_
  refine eqF_cons (by decide) (qcj Tryz.underlying3 rfl (hdR_Prev (by rw [List.length_map, h1]))) (qcj Tryz.underlying3 rfl (hdR_Prev (by rw [List.length_map, h2]))) (run_equalIn_int w 9998 _ _ _ _ _ Tryz.underlying3) ?_
  refine eqF_cons (by decide) (qcj Tryz.underlying3 rfl (hdR_N (by rw [List.length_map, h1]))) (qcj Tryz.underlying3 rfl (hdR_N (by rw [List.length_map, h2]))) (run_equalIn_int w 9998 _ _ _ _ _ Tryz.underlying3) ?_
  exact eqF_nil
end Go.Proofs.YtcgbgmbnagmohaaGreat
