import Derived.Test.YtcgbgmbnagmohaaDoorLy
import Derived.Test.YtcgbgmbnagmohaaDoorMixB
namespace Go.Proofs.YtcgbgmbnagmohaaDoor
open Go.RowKit
set_option maxRecDepth 20000
section
variable {w : World} {ρ : Operand → Value} {o : Oper} {t t' : TypeId} {x y : Operand} {a b : BitVec 8}
theorem run_andn8 (ho : o.op = .binOp .andNot t x y t') (hx : ρ x = b8 a) (hy : ρ y = b8 b) : (execOp ρ o).run Tryd.prog w = .ok (.value (b8 (a &&& ~~~b))) w := by
 obtain ⟨dst, op, type, pos, after, guard⟩ := o
 subst ho
 unfold b8 at *
 have e := u8_andNot_nat a.toNat b.toNat a.isLt b.isLt
 have e2 : (a &&& ~~~b).toNat = a.toNat &&& (255 - b.toNat) := by
  rw [BitVec.toNat_and, BitVec.toNat_not]
 rw [← e2] at e
 generalize (a &&& ~~~b).toNat = z at *
 go_simp
 try exact e
theorem run_rem8C (ho : o.op = .binOp .rem t x y t') (hx : ρ x = b8 a) (hy : ρ y = b8 b) (hb : 0 < b.toNat) : (execOp ρ o).run Tryd.prog w = .ok (.value (b8 (a % b))) w := by
 obtain ⟨dst, op, type, pos, after, guard⟩ := o
 subst ho
 unfold b8 at *
 have e0 : ((a % b).toNat : Int) = (a.toNat : Int).tmod (b.toNat : Int) := by
  rw [BitVec.toNat_umod, Int.tmod_eq_emod_of_nonneg (by omega)]; omega
 rw [e0]
 have h0 : ¬ (b.toNat : Int) = 0 := by omega
 generalize (a.toNat : Int) = a at *
 generalize (b.toNat : Int) = b at *
 go_simp
end
def clB (k : List (BitVec 8)) : List (BitVec 8) := (k.set 0 (k.getD 0 0 &&& 248#8)).set 31 (k.getD 31 0 &&& 63#8 ||| 64#8)
theorem clB_len (k : List (BitVec 8)) : (clB k).length = k.length := by simp [clB]
theorem cl_all : ∀ f : Fin 256, (BitVec.ofFin f &&& ~~~7#8 = BitVec.ofFin f &&& 248#8) ∧ ((BitVec.ofFin f &&& 127#8) ||| 64#8 = (BitVec.ofFin f &&& 63#8) ||| 64#8) ∧ (BitVec.ofFin f / 8#8 * 8#8 = BitVec.ofFin f &&& 248#8) ∧ (BitVec.ofFin f % 64#8 + 64#8 = (BitVec.ofFin f &&& 63#8) ||| 64#8) := by decide +kernel
theorem cl_low (a : BitVec 8) : a &&& ~~~7#8 = a &&& 248#8 := (cl_all a.toFin).1
theorem cl_high (a : BitVec 8) : (a &&& 127#8) ||| 64#8 = (a &&& 63#8) ||| 64#8 := (cl_all a.toFin).2.1
theorem set_get31 (k : List (BitVec 8)) (v : BitVec 8) : (k.set 0 v).getD 31 0 = k.getD 31 0 := by
 rw [List.getD_eq_getElem?_getD, List.getD_eq_getElem?_getD, List.getElem?_set_ne (by omega)]
theorem set_self31 {k : List (BitVec 8)} (h : k.length = 32) (v : BitVec 8) : (k.set 31 v).getD 31 0 = v := by
 rw [List.getD_eq_getElem?_getD, List.getElem?_set_self (by omega)]; rfl
set_option maxHeartbeats 4000000 in
theorem clampB_any (k : List (BitVec 8)) (w : World) (hk : k.length = 32) : Calls Tryd.prog 46 #[.agg (k.map b8).toArray] w fun e w' => e = .returned (.agg ((clB k).map b8).toArray) ∧ Below w.heap.size w w' := by
 have hl := clB_len k
 rw [hk] at hl
 have E0 := Lib.hid (cl_low (k.getD 0 0))
 have E1 := Lib.hid (cl_high (k.getD 31 0))
 have EC : Hid ((((k.set 0 (k.getD 0 0 &&& 248#8)).set 31 (k.getD 31 0 &&& 127#8)).set 31 (k.getD 31 0 &&& 63#8 ||| 64#8)) = clB k) := Lib.hid (by unfold clB; rw [List.set_set])
 have G31 := Lib.hid (set_get31 k (k.getD 0 0 &&& 248#8))
 have hl1 : (k.set 0 (k.getD 0 0 &&& 248#8)).length = 32 := by rw [List.length_set, hk]
 have S31 := Lib.hid (set_self31 hl1 (k.getD 31 0 &&& 127#8))
 have hl2 : ((k.set 0 (k.getD 0 0 &&& 248#8)).set 31 (k.getD 31 0 &&& 127#8)).length = 32 := by rw [List.length_set, hl1]
 generalize clB k = K at *
 have HL0 := Lib.hid (qbv b8 0 (l := k) (i := 0) (by omega))
 have HL1 := Lib.hid (qbv b8 0 (l := k.set 0 (k.getD 0 0 &&& 248#8)) (i := 31) (by omega))
 have HL2 := Lib.hid (qbv b8 0 (l := (k.set 0 (k.getD 0 0 &&& 248#8)).set 31 (k.getD 31 0 &&& 127#8)) (i := 31) (by omega))
 rw [G31.out] at HL1
 rw [S31.out] at HL2
 have FL : Hid (∀ m : List (BitVec 8), m.length = 32 → 0 < (m.map b8).length ∧ 31 < (m.map b8).length) := Lib.hid fun m h => by rw [List.length_map]; omega
 have SK := Lib.hid (szKy hl)
 have L1 : Hid ((K.map b8).length = (z8 32).length) := Lib.hid (by rw [z8_32, List.length_map, hl])
 have hM := Lib.hid (Mv.nil w)
 go_enter Tryd.func46, Tryd.ntmps46
 go_upto_region 0 with fail; refine wp_region_lit ?_
 refine qaa (qau (vs := k.map b8) rfl rfl) rfl ?_; (try simp only [Act.put, lyy]); replace hM := Lib.hid (hM.out.new (k.map b8) 24); generalize w.alloc (.cells (k.map b8).toArray 24) = a1 at *; generalize w.heap.size = g1 at *
 refine qaa (qat (vs := z8 32) rfl (by kernel_rfl)) rfl ?_; (try simp only [Act.put, lyy]); replace hM := Lib.hid (hM.out.new (z8 32) 24); generalize a1.alloc (.cells (z8 32).toArray 24) = a2 at *; generalize a1.heap.size = g2 at *
 refine qab ?_
 go_upto_region 1 with fail; refine wp_region_lit ?_
 refine qaa (qbk (i := 0) rfl Tryd.underlying24 (by kernel_rfl) rfl rfl (by omega)) rfl ?_; (try simp only [Act.put, lyy])
 refine qaa (run_ld8 rfl rfl ((hM.out.get (i := 1) rfl).c _ _ HL0.out)) rfl ?_; (try simp only [Act.put, lyy])
 refine qaa (run_andn8 (b := 7#8) rfl rfl rfl) rfl ?_; (try simp only [Act.put, lyy])
 rw [E0.out]
 refine qaa (qbk (i := 0) rfl Tryd.underlying24 (by kernel_rfl) rfl rfl (by omega)) rfl ?_; (try simp only [Act.put, lyy])
 refine qag (run_st8 rfl rfl rfl ((hM.out.get (i := 1) rfl).c _ _ HL0.out) ((hM.out.get (i := 1) rfl).f _)) rfl rfl ?_
 refine qab ?_
 replace hM := Lib.hid (hM.out.set 1 rfl (FL.out k hk).1 (b8 (k.getD 0 0 &&& 248#8)))
 rw [qc3] at hM
 generalize a2.setCell ⟨g1, 0, none⟩ (b8 (k.getD 0 0 &&& 248#8)) = a3 at *
 generalize k.set 0 (k.getD 0 0 &&& 248#8) = k1 at *
 go_upto_region 2 with fail; refine wp_region_lit ?_
 refine qaa (qbk (i := 31) rfl Tryd.underlying24 (by kernel_rfl) rfl rfl (by omega)) rfl ?_; (try simp only [Act.put, lyy])
 refine qaa (run_ld8 rfl rfl ((hM.out.get (i := 1) rfl).c _ _ HL1.out)) rfl ?_; (try simp only [Act.put, lyy])
 refine qaa (qcw (b := 127#8) rfl rfl rfl) rfl ?_; (try simp only [Act.put, lyy])
 refine qaa (qbk (i := 31) rfl Tryd.underlying24 (by kernel_rfl) rfl rfl (by omega)) rfl ?_; (try simp only [Act.put, lyy])
 refine qag (run_st8 rfl rfl rfl ((hM.out.get (i := 1) rfl).c _ _ HL1.out) ((hM.out.get (i := 1) rfl).f _)) rfl rfl ?_
 refine qab ?_
 replace hM := Lib.hid (hM.out.set 1 rfl (FL.out k1 hl1).2 (b8 (k.getD 31 0 &&& 127#8)))
 rw [qc3] at hM
 generalize a3.setCell ⟨g1, 31, none⟩ (b8 (k.getD 31 0 &&& 127#8)) = a4 at *
 generalize k1.set 31 (k.getD 31 0 &&& 127#8) = k2 at *
 go_upto_region 3 with fail; refine wp_region_lit ?_
 refine qaa (qbk (i := 31) rfl Tryd.underlying24 (by kernel_rfl) rfl rfl (by omega)) rfl ?_; (try simp only [Act.put, lyy])
 refine qaa (run_ld8 rfl rfl ((hM.out.get (i := 1) rfl).c _ _ HL2.out)) rfl ?_; (try simp only [Act.put, lyy])
 refine qaa (qdj (b := 64#8) rfl rfl rfl) rfl ?_; (try simp only [Act.put, lyy])
 rw [E1.out]
 refine qaa (qbk (i := 31) rfl Tryd.underlying24 (by kernel_rfl) rfl rfl (by omega)) rfl ?_; (try simp only [Act.put, lyy])
 refine qag (run_st8 rfl rfl rfl ((hM.out.get (i := 1) rfl).c _ _ HL2.out) ((hM.out.get (i := 1) rfl).f _)) rfl rfl ?_
 refine qab ?_
 replace hM := Lib.hid (hM.out.set 1 rfl (FL.out k2 hl2).2 (b8 (k.getD 31 0 &&& 63#8 ||| 64#8)))
 rw [qc3, EC.out] at hM
 generalize a4.setCell ⟨g1, 31, none⟩ (b8 (k.getD 31 0 &&& 63#8 ||| 64#8)) = a5 at *
 go_upto_region 4 with fail; refine wp_region_lit ?_
 refine qaa (qaj (vs := K.map b8) rfl Tryd.underlying24 rfl SK.out rfl ((hM.out.get (i := 1) rfl).range)) rfl ?_; (try simp only [Act.put, lyy])
 refine qag (qar (vs := K.map b8) rfl SK.out rfl rfl (one8s _) (by rw [L1.out]; exact (hM.out.get (i := 0) rfl).there)) rfl rfl ?_; replace hM := Lib.hid (hM.out.put 0 rfl (m := K.map b8) (L1.out))
 refine qab ?_; go_wp2_with fail; refine bodyPost_ret (v := .agg (K.map b8).toArray) (qa8 Tryd.results46 rfl Tryd.underlying24 rfl SK.out (hM.out.get (i := 0) rfl).range) rfl ⟨rfl, hM.out.bl⟩
theorem enters_clampB : Enters 46 := qaq Tryd.func46 (by kernel_rfl) rfl
end Go.Proofs.YtcgbgmbnagmohaaDoor
