/- What keywardref08's Order and Mad answer. -/
import Derived.Test.YtefaihdhnnldmaaDoorRefSc5
namespace Go.Proofs.YtefaihdhnnldmaaDoor
open Go.RowKit
set_option maxRecDepth 20000

theorem sk_ell : ∀ i, i < 32 → BitVec.ofNat 8 (obL.getD i 0) = (sk ell).getD i 0 := by
  have e : sk ell = (obL.take 32).map (BitVec.ofNat 8) := by decide +kernel
  intro i hi
  rw [e, List.getD_eq_getElem?_getD, List.getD_eq_getElem?_getD, List.getElem?_map, List.getElem?_take_of_lt hi, List.getElem?_eq_getElem (by rw [obL_len]; omega)]
  rfl
set_option maxHeartbeats 8000000 in
theorem rorder_any (w : World) : Calls Tryd.prog 16 #[] w fun e w' => e = .returned (.agg ((sk ell).map b8).toArray) ∧ Below w.heap.size w w' := by
  have hkl := sk_len ell
  have HK := Lib.hid sk_ell
  generalize sk ell = kb at *
  obtain ⟨o, ho⟩ : ∃ o : Nat → Nat, o = fun i => obL.getD i 0 := ⟨_, rfl⟩
  have CO : Hid (∀ (i : Nat) (u : World), Calls Tryd.prog 31 #[.int .i64 (i : Int)] u fun e w' => e = .returned (.int .i64 ((o i : Nat) : Int)) ∧ Below u.heap.size u w') := Lib.hid (by rw [ho]; exact order_any)
  have HK2 : Hid (∀ i, i < 32 → BitVec.ofNat 8 (o i) = kb.getD i 0) := Lib.hid (by rw [ho]; exact HK.out)
  clear ho HK
  have hM := Lib.hid (Mv.nil w)
  go_enter Tryd.func16, Tryd.ntmps16
  go_upto_region 0 with fail; refine wp_region_lit ?_
  refine wpList_val (run_alc (vs := z8 32) rfl (by kernel_rfl)) rfl ?_; (try simp only [Act.put, List.setIfInBounds_toArray, List.set_cons_zero])
  replace hM := Lib.hid (hM.out.new (z8 32) 24)
  generalize w.alloc (.cells (z8 32).toArray 24) = a1 at *
  generalize w.heap.size = g1 at *
  refine wpList_end ?_
  go_upto_region 1 with fail; refine wp_region_lit ?_
  refine wpList_val (run_bld (cells := (z8 32).toArray) rfl (by kernel_rfl)) rfl ?_; (try simp only [Act.put, List.setIfInBounds_toArray, List.set_cons_zero, List.set_cons_succ])
  refine wpList_val (run_alc (vs := z8 32) rfl (by kernel_rfl)) rfl ?_; (try simp only [Act.put, List.setIfInBounds_toArray, List.set_cons_zero, List.set_cons_succ])
  replace hM := Lib.hid (hM.out.new (z8 32) 24)
  generalize a1.alloc (.cells (z8 32).toArray 24) = a2 at *
  generalize a1.heap.size = g2 at *
  refine wpList_skip (run_stM (vs := z8 32) rfl szZ rfl rfl (one8s (List.replicate 32 0)) ((hM.out.get (i := 0) rfl).there)) rfl rfl ?_
  replace hM := Lib.hid (hM.out.put 0 rfl (m := z8 32) rfl)
  generalize a2.setCells g2 0 (z8 32) = a3 at *
  refine wpList_end ?_
  go_upto_region 2 with fail; refine wp_region_lit ?_
  (repeat ((first | refine wpList_val (run_mv (v := b32 _) rfl rfl) rfl ?_ | refine wpList_val (run_mv (v := b64 _) rfl rfl) rfl ?_ | refine wpList_val (run_mv (v := b8 _) rfl rfl) rfl ?_ | refine wpList_val (run_mv (v := .int _ _) rfl rfl) rfl ?_ | refine wpList_val (run_mv (v := .bool _) rfl rfl) rfl ?_ | refine wpList_val (run_mv (v := .slice (some _) _ _) rfl rfl) rfl ?_ | refine wpList_val (run_mv (v := .slice _ _ _) rfl rfl) rfl ?_ | refine wpList_val (run_mv (v := .pointer (some _)) rfl rfl) rfl ?_ | refine wpList_val (run_mv (v := .agg _) rfl rfl) rfl ?_ | refine wpList_val (run_asg (v := b32 _) rfl rfl) rfl ?_ | refine wpList_val (run_asg (v := b64 _) rfl rfl) rfl ?_ | refine wpList_val (run_asg (v := b8 _) rfl rfl) rfl ?_ | refine wpList_val (run_asg (v := .int _ _) rfl rfl) rfl ?_ | refine wpList_val (run_asg (v := .bool _) rfl rfl) rfl ?_ | refine wpList_val (run_asg (v := .slice (some _) _ _) rfl rfl) rfl ?_ | refine wpList_val (run_asg (v := .slice _ _ _) rfl rfl) rfl ?_ | refine wpList_val (run_asg (v := .pointer (some _)) rfl rfl) rfl ?_ | refine wpList_val (run_asg (v := .agg _) rfl rfl) rfl ?_ | refine wpList_val (run_mv rfl rfl) rfl ?_ | refine wpList_val (run_asg rfl rfl) rfl ?_ | refine wpList_val (run_xor32 rfl rfl rfl) rfl ?_ | refine wpList_val (run_and32 rfl rfl rfl) rfl ?_ | refine wpList_val (run_or32 rfl rfl rfl) rfl ?_ | refine wpList_val (run_add32 rfl rfl rfl) rfl ?_ | refine wpList_val (run_not32 rfl rfl) rfl ?_ | refine wpList_val (run_xor64 rfl rfl rfl) rfl ?_ | refine wpList_val (run_and64 rfl rfl rfl) rfl ?_ | refine wpList_val (run_or64 rfl rfl rfl) rfl ?_ | refine wpList_val (run_add64 rfl rfl rfl) rfl ?_ | refine wpList_val (run_not64 rfl rfl) rfl ?_ | refine wpList_val (run_xor8 rfl rfl rfl) rfl ?_ | refine wpList_val (run_and8 rfl rfl rfl) rfl ?_ | refine wpList_val (run_or8 rfl rfl rfl) rfl ?_ | refine wpList_val (run_add8 rfl rfl rfl) rfl ?_ | refine wpList_val (run_not8 rfl rfl) rfl ?_ | refine wpList_val (run_cv64_32 rfl rfl) rfl ?_ | refine wpList_val (run_cv8_32 rfl rfl) rfl ?_ | refine wpList_val (run_cv8_64 rfl rfl) rfl ?_ | refine wpList_val (run_cv32_8 rfl rfl) rfl ?_ | refine wpList_val (run_cv64_8 rfl rfl) rfl ?_); (try simp only [Act.put, List.setIfInBounds_toArray, List.set_cons_zero, List.set_cons_succ])))
  refine wpList_end ?_
  go_wp2_with fail
  go_loopw [2] (fun s u => ∃ n : Nat, n ≤ 32 ∧ s = .int .i64 (n : Int) ∧ Mv w [(g2, (flB kb n).map b8), (g1, z8 32)] u) (fun s _ => (32 - intOf s).toNat)
  case atStart => exact ⟨0, by omega, rfl, by rw [flB_zero]; exact hM.out⟩
  case round =>
    obtain ⟨n, hn, rfl, hJ⟩ := hrel
    replace hM := Lib.hid hJ
    clear hJ
    by_cases hlt : n = 32
    · subst hlt
      have hk1 : ¬ (((32 : Nat) : Int) < 32) := by omega
      rw [flB_all hkl] at hM
      have SZ := Lib.hid (szKy hkl)
      have L1 : Hid ((kb.map b8).length = (z8 32).length) := Lib.hid (by rw [z8_32, List.length_map, hkl])
      go_upto_region 6 with fail; refine wp_region_lit ?_
      refine wpList_val (run_ldM (vs := kb.map b8) rfl Tryd.underlying24 rfl SZ.out rfl (hM.out.get (i := 0) rfl).range) rfl ?_; (try simp only [Act.put, List.setIfInBounds_toArray, List.set_cons_zero, List.set_cons_succ])
      refine wpList_skip (run_stM (vs := kb.map b8) rfl SZ.out rfl rfl (one8s _) (by rw [L1.out]; exact (hM.out.get (i := 1) rfl).there)) rfl rfl ?_
      replace hM := Lib.hid (hM.out.put 1 rfl (m := kb.map b8) L1.out)
      refine wpList_end ?_
      go_wp2_with fail
      exact bodyPost_ret (v := .agg (kb.map b8).toArray) (results_rowB Tryd.results16 rfl Tryd.underlying24 rfl SZ.out (hM.out.get (i := 1) rfl).range) rfl ⟨rfl, hM.out.bl⟩
    · have hk1 : (n : Int) < 32 := by omega
      have E1 := Lib.hid (HK2.out n (by omega))
      have FS := Lib.hid (flB_set hkl (n := n) (by omega))
      have FL : Hid (n < ((flB kb n).map b8).length) := Lib.hid (by rw [List.length_map, flB_len hkl hn]; omega)
      have HG := Lib.hid (get_map b8 0 (l := flB kb n) (i := n) (by rw [flB_len hkl hn]; omega))
      go_upto_region 5 with fail; refine wp_region_lit ?_
      (repeat ((first | refine wpList_val (run_mv (v := b32 _) rfl rfl) rfl ?_ | refine wpList_val (run_mv (v := b64 _) rfl rfl) rfl ?_ | refine wpList_val (run_mv (v := b8 _) rfl rfl) rfl ?_ | refine wpList_val (run_mv (v := .int _ _) rfl rfl) rfl ?_ | refine wpList_val (run_mv (v := .bool _) rfl rfl) rfl ?_ | refine wpList_val (run_mv (v := .slice (some _) _ _) rfl rfl) rfl ?_ | refine wpList_val (run_mv (v := .slice _ _ _) rfl rfl) rfl ?_ | refine wpList_val (run_mv (v := .pointer (some _)) rfl rfl) rfl ?_ | refine wpList_val (run_mv (v := .agg _) rfl rfl) rfl ?_ | refine wpList_val (run_asg (v := b32 _) rfl rfl) rfl ?_ | refine wpList_val (run_asg (v := b64 _) rfl rfl) rfl ?_ | refine wpList_val (run_asg (v := b8 _) rfl rfl) rfl ?_ | refine wpList_val (run_asg (v := .int _ _) rfl rfl) rfl ?_ | refine wpList_val (run_asg (v := .bool _) rfl rfl) rfl ?_ | refine wpList_val (run_asg (v := .slice (some _) _ _) rfl rfl) rfl ?_ | refine wpList_val (run_asg (v := .slice _ _ _) rfl rfl) rfl ?_ | refine wpList_val (run_asg (v := .pointer (some _)) rfl rfl) rfl ?_ | refine wpList_val (run_asg (v := .agg _) rfl rfl) rfl ?_ | refine wpList_val (run_mv rfl rfl) rfl ?_ | refine wpList_val (run_asg rfl rfl) rfl ?_ | refine wpList_val (run_xor32 rfl rfl rfl) rfl ?_ | refine wpList_val (run_and32 rfl rfl rfl) rfl ?_ | refine wpList_val (run_or32 rfl rfl rfl) rfl ?_ | refine wpList_val (run_add32 rfl rfl rfl) rfl ?_ | refine wpList_val (run_not32 rfl rfl) rfl ?_ | refine wpList_val (run_xor64 rfl rfl rfl) rfl ?_ | refine wpList_val (run_and64 rfl rfl rfl) rfl ?_ | refine wpList_val (run_or64 rfl rfl rfl) rfl ?_ | refine wpList_val (run_add64 rfl rfl rfl) rfl ?_ | refine wpList_val (run_not64 rfl rfl) rfl ?_ | refine wpList_val (run_xor8 rfl rfl rfl) rfl ?_ | refine wpList_val (run_and8 rfl rfl rfl) rfl ?_ | refine wpList_val (run_or8 rfl rfl rfl) rfl ?_ | refine wpList_val (run_add8 rfl rfl rfl) rfl ?_ | refine wpList_val (run_not8 rfl rfl) rfl ?_ | refine wpList_val (run_cv64_32 rfl rfl) rfl ?_ | refine wpList_val (run_cv8_32 rfl rfl) rfl ?_ | refine wpList_val (run_cv8_64 rfl rfl) rfl ?_ | refine wpList_val (run_cv32_8 rfl rfl) rfl ?_ | refine wpList_val (run_cv64_8 rfl rfl) rfl ?_); (try simp only [Act.put, List.setIfInBounds_toArray, List.set_cons_zero, List.set_cons_succ])))
      refine wpList_enter (run_call1 enters_order rfl rfl rfl) rfl (CO.out n _) (fun a7 hb => ?_); (try simp only [Act.put, List.setIfInBounds_toArray, List.set_cons_zero, List.set_cons_succ]); replace hM := Lib.hid (hM.out.below hb); clear hb
      refine wpList_val (run_cvi_8 (n := o n) rfl rfl) rfl ?_; (try simp only [Act.put, List.setIfInBounds_toArray, List.set_cons_zero, List.set_cons_succ])
      rw [E1.out]
      refine wpList_val (run_ix0 (i := n) rfl Tryd.underlying24 (by kernel_rfl) rfl rfl (by omega)) rfl ?_; (try simp only [Act.put, List.setIfInBounds_toArray, List.set_cons_zero, List.set_cons_succ])
      refine wpList_skip (run_st8 rfl rfl rfl ((hM.out.get (i := 0) rfl).c n _ HG.out) ((hM.out.get (i := 0) rfl).f n)) rfl rfl ?_
      refine wpList_end ?_
      have hM2 : Hid (Mv w [(g2, (flB kb (n + 1)).map b8), (g1, z8 32)] (a7.setCell ⟨g2, n, none⟩ (b8 (kb.getD n 0)))) := Lib.hid (by
        have h := hM.out.set 0 rfl FL.out (b8 (kb.getD n 0))
        rw [FS.out] at h
        exact h)
      generalize a7.setCell ⟨g2, n, none⟩ (b8 (kb.getD n 0)) = a8 at *
      clear hM HG FL FS
      go_wp2_with fail
      exact ⟨⟨n + 1, by omega, by go_num, hM2.out⟩, by simp [intOf]; omega⟩
theorem enters_rorder : Enters 16 := enters_of Tryd.func16 (by kernel_rfl) rfl

theorem getD_le {n : List Nat} {B : Nat} (h : ∀ x ∈ n, x ≤ B) (i : Nat) : n.getD i 0 ≤ B := by
  by_cases hi : i < n.length
  · rw [List.getD_eq_getElem?_getD, List.getElem?_eq_getElem hi]; exact h _ (List.getElem_mem hi)
  · rw [List.getD_eq_getElem?_getD, List.getElem?_eq_none (by omega)]; exact Nat.zero_le _
theorem set_le {n : List Nat} {B B' : Nat} (h : ∀ x ∈ n, x ≤ B) (hB : B ≤ B') {i v : Nat} (hv : v ≤ B') : ∀ x ∈ n.set i v, x ≤ B' := fun x hx => by
  rcases List.mem_or_eq_of_mem_set hx with h1 | h1
  · exact Nat.le_trans (h x h1) hB
  · rw [h1]; exact hv
theorem dv_more {n : List Nat} {i : Nat} (hi : i < n.length) (y : Nat) : dv (n.set i (n.getD i 0 + y)) = dv n + 256 ^ i * y := by
  have := dv_set n i (n.getD i 0 + y) hi
  rw [Nat.mul_add] at this
  omega
/-- A product, and more: what has been added up. -/
structure MdI (a b c : List Nat) (i j k : Nat) (n : List Nat) : Prop where
  len : n.length = 65
  le : ∀ x ∈ n, x ≤ i * 4194304 + 255 + k * 65025
  eq : dv n = dv (c.take j) + dv (a.take i) * dv b + 256 ^ i * a.getD i 0 * dv (b.take k)
section
variable {a b c : List Nat} (ha : a.length = 32) (hb : b.length = 32) (hc : c.length = 32) (da : Dg a) (db : Dg b) (dc : Dg c)
include hc dc
theorem MdI.first {i : Nat} {n : List Nat} (h : MdI a b c i i 0 n) (hle : ∀ x ∈ n, x ≤ i * 4194304) (hi : i < 32) : MdI a b c i (i + 1) 0 (n.set i (n.getD i 0 + c.getD i 0)) := by
  have h1 := getD_le hle i
  have h2 := dc.get i
  have hlen := h.len
  refine ⟨by rw [List.length_set, h.len], set_le h.le (Nat.le_refl _) (by omega), ?_⟩
  rw [dv_more (by omega), h.eq, dv_take c i (by omega)]
  simp only [List.take_zero, dv, Nat.mul_zero]
  omega
omit hc dc
include hb da db
theorem MdI.inner {i j k : Nat} {n : List Nat} (h : MdI a b c i j k n) (hi : i < 32) (hk : k < 32) : MdI a b c i j (k + 1) (n.set (i + k) (n.getD (i + k) 0 + a.getD i 0 * b.getD k 0)) := by
  have h1 := getD_le h.le (i + k)
  have h2 := da.get i
  have h3 := db.get k
  have h4 : a.getD i 0 * b.getD k 0 ≤ 255 * 255 := Nat.mul_le_mul (by omega) (by omega)
  have hlen := h.len
  refine ⟨by rw [List.length_set, h.len], set_le h.le (by omega) (by omega), ?_⟩
  rw [dv_more (by omega), h.eq, dv_take b k (by omega), Nat.mul_add, Nat.pow_add]
  have e : 256 ^ i * 256 ^ k * (a.getD i 0 * b.getD k 0) = 256 ^ i * a.getD i 0 * (256 ^ k * b.getD k 0) := by
    rw [Nat.mul_assoc, Nat.mul_assoc, Nat.mul_left_comm (256 ^ k)]
  rw [e]
  omega
include ha
omit da db
theorem MdI.next {i : Nat} {n : List Nat} (h : MdI a b c i (i + 1) 32 n) (hi : i < 32) : MdI a b c (i + 1) (i + 1) 0 n ∧ ∀ x ∈ n, x ≤ (i + 1) * 4194304 := by
  refine ⟨⟨h.len, fun x hx => by have := h.le x hx; omega, ?_⟩, fun x hx => by have := h.le x hx; omega⟩
  rw [h.eq, dv_take a i (by omega), Nat.add_mul, show b.take 32 = b from List.take_of_length_le (by omega)]
  simp only [List.take_zero, dv, Nat.mul_zero]
  omega
end
/-- Carries go on. -/
structure CrI (V i c : Nat) (n : List Nat) : Prop where
  len : n.length = 65
  le : ∀ x ∈ n, x ≤ 268435456
  cl : c ≤ 268435456
  dg : ∀ j, j < i → n.getD j 0 < 256
  eq : dv n + 256 ^ i * c = V
theorem CrI.step {V i c : Nat} {n : List Nat} (h : CrI V i c n) (hi : i < 65) : CrI V (i + 1) ((c + n.getD i 0) / 256) (n.set i ((c + n.getD i 0) % 256)) := by
  have h1 := getD_le h.le i
  have h2 := h.cl
  have hlen := h.len
  refine ⟨by rw [List.length_set, h.len], set_le h.le (Nat.le_refl _) (by omega), by omega, fun j hj => ?_, ?_⟩
  · rw [List.getD_eq_getElem?_getD, List.getElem?_set]
    by_cases e : i = j
    · subst e; rw [if_pos rfl, if_pos (by omega)]; exact Nat.mod_lt _ (by omega)
    · rw [if_neg e, ← List.getD_eq_getElem?_getD]; exact h.dg j (by omega)
  · have e := dv_set n i ((c + n.getD i 0) % 256) (by omega)
    have e2 := h.eq
    rw [Nat.pow_succ, Nat.mul_assoc]
    generalize n.getD i 0 = x at *
    generalize dv (n.set i ((c + x) % 256)) = D at *
    generalize 256 ^ i = p at *
    have e3 : p * (256 * ((c + x) / 256) + (c + x) % 256) = p * (c + x) := by rw [Nat.div_add_mod]
    rw [Nat.mul_add, Nat.mul_add] at e3
    omega
theorem CrI.done {V c : Nat} {n : List Nat} (h : CrI V 65 c n) (hV : V < 256 ^ 65) : Dg n ∧ dv n = V := by
  refine ⟨fun a ha => ?_, ?_⟩
  · obtain ⟨j, hj, rfl⟩ := List.getElem_of_mem ha
    have := h.dg j (by have := h.len; omega)
    rw [List.getD_eq_getElem?_getD, List.getElem?_eq_getElem hj] at this
    exact this
  · have e := h.eq
    rcases Nat.eq_zero_or_pos c with rfl | hc
    · simpa using e
    · have : 256 ^ 65 * 1 ≤ 256 ^ 65 * c := Nat.mul_le_mul_left _ hc
      omega
theorem mad_lt (a b c : List (BitVec 8)) (ha : a.length = 32) (hb : b.length = 32) (hc : c.length = 32) : leB a * leB b + leB c < 256 ^ 65 := by
  have h1 := leB_lt a
  have h2 := leB_lt b
  have h3 := leB_lt c
  rw [ha] at h1
  rw [hb] at h2
  rw [hc] at h3
  have h4 : leB a * leB b ≤ 256 ^ 32 * 256 ^ 32 := Nat.mul_le_mul (by omega) (by omega)
  rw [← Nat.pow_add] at h4
  have h5 : (256 : Nat) ^ (32 + 32) + 256 ^ 32 < 256 ^ 65 := by decide +kernel
  omega

set_option maxHeartbeats 16000000 in
theorem rmad_any (a b c : List (BitVec 8)) (w : World) (ha : a.length = 32) (hb : b.length = 32) (hc : c.length = 32) : Calls Tryd.prog 17 #[.agg (a.map b8).toArray, .agg (b.map b8).toArray, .agg (c.map b8).toArray] w fun e w' => e = .returned (.agg ((sk ((leB a * leB b + leB c) % ell)).map b8).toArray) ∧ Below w.heap.size w w' := by
  have hV := mad_lt a b c ha hb hc
  obtain ⟨V, hVe⟩ : ∃ V, V = leB a * leB b + leB c := ⟨_, rfl⟩
  rw [← hVe] at hV ⊢
  obtain ⟨A, hA⟩ : ∃ A, A = a.map (·.toNat) := ⟨_, rfl⟩
  obtain ⟨B, hB⟩ : ∃ B, B = b.map (·.toNat) := ⟨_, rfl⟩
  obtain ⟨C, hC⟩ : ∃ C, C = c.map (·.toNat) := ⟨_, rfl⟩
  have lA : A.length = 32 := by rw [hA, List.length_map, ha]
  have lB : B.length = 32 := by rw [hB, List.length_map, hb]
  have lC : C.length = 32 := by rw [hC, List.length_map, hc]
  have dA : Dg A := by rw [hA]; exact dg_bytes a
  have dB : Dg B := by rw [hB]; exact dg_bytes b
  have dC : Dg C := by rw [hC]; exact dg_bytes c
  have gA : Hid (∀ i, i < 32 → (a.getD i 0).toNat = A.getD i 0) := Lib.hid fun i hi => by
    rw [hA, List.getD_eq_getElem?_getD, List.getD_eq_getElem?_getD, List.getElem?_map, List.getElem?_eq_getElem (by omega)]; rfl
  have gB : Hid (∀ i, i < 32 → (b.getD i 0).toNat = B.getD i 0) := Lib.hid fun i hi => by
    rw [hB, List.getD_eq_getElem?_getD, List.getD_eq_getElem?_getD, List.getElem?_map, List.getElem?_eq_getElem (by omega)]; rfl
  have gC : Hid (∀ i, i < 32 → (c.getD i 0).toNat = C.getD i 0) := Lib.hid fun i hi => by
    rw [hC, List.getD_eq_getElem?_getD, List.getD_eq_getElem?_getD, List.getElem?_map, List.getElem?_eq_getElem (by omega)]; rfl
  have S0 : Hid (MdI A B C 0 0 0 (List.replicate 65 0)) := Lib.hid ⟨List.length_replicate, fun x hx => by rw [List.eq_of_mem_replicate hx]; omega, by simp [dv]⟩
  have S00 : Hid (∀ x ∈ List.replicate 65 0, x ≤ 0 * 4194304) := Lib.hid fun x hx => by rw [List.eq_of_mem_replicate hx]; omega
  have S1 : Hid (∀ (i : Nat) (n : List Nat), MdI A B C i i 0 n → (∀ x ∈ n, x ≤ i * 4194304) → i < 32 → MdI A B C i (i + 1) 0 (n.set i (n.getD i 0 + C.getD i 0))) := Lib.hid fun i n h h1 h2 => h.first lC dC h1 h2
  have S2 : Hid (∀ (i j k : Nat) (n : List Nat), MdI A B C i j k n → i < 32 → k < 32 → MdI A B C i j (k + 1) (n.set (i + k) (n.getD (i + k) 0 + A.getD i 0 * B.getD k 0))) := Lib.hid fun i j k n h h1 h2 => h.inner lB dA dB h1 h2
  have S3 : Hid (∀ (i : Nat) (n : List Nat), MdI A B C i (i + 1) 32 n → i < 32 → MdI A B C (i + 1) (i + 1) 0 n ∧ ∀ x ∈ n, x ≤ (i + 1) * 4194304) := Lib.hid fun i n h h1 => h.next lA lB h1
  have S4 : Hid (∀ n : List Nat, MdI A B C 32 32 0 n → (∀ x ∈ n, x ≤ 32 * 4194304) → CrI V 0 0 n) := Lib.hid fun n h h1 => ⟨h.len, fun x hx => by have := h1 x hx; omega, by omega, fun j hj => absurd hj (by omega), by
    rw [h.eq, List.take_of_length_le (by omega), List.take_of_length_le (by omega), hVe, leB_dv, leB_dv, leB_dv, ← hA, ← hB, ← hC]
    simp [dv, Nat.add_comm]⟩
  have S5' : Hid (∀ (i cy : Nat) (n : List Nat), CrI V i cy n → i < 65 → CrI V (i + 1) ((cy + n.getD i 0) / 256) (n.set i ((cy + n.getD i 0) % 256))) := Lib.hid fun i cy n h h1 => h.step h1
  have S6 : Hid (∀ (cy : Nat) (n : List Nat), CrI V 65 cy n → Dg n ∧ dv n = V) := Lib.hid fun cy n h => h.done hV
  have HR : Hid (∀ m : List Nat, m.length = 33 → Dg m → dv m = V % ell → (m.take 32).map (BitVec.ofNat 8) = sk (V % ell)) := Lib.hid fun m h1 h2 h3 => sk_left h1 h2 h3
  have GA : Hid (∀ i, A.getD i 0 < 256) := Lib.hid dA.get
  have GB : Hid (∀ i, B.getD i 0 < 256) := Lib.hid dB.get
  have GC : Hid (∀ i, C.getD i 0 < 256) := Lib.hid dC.get
  clear hA hB hC lA lB lC dA dB dC hVe hV
  have hkl := sk_len (V % ell)
  generalize sk (V % ell) = kb at *
  have SZ := Lib.hid (szKy hkl)
  have L1 : Hid ((kb.map b8).length = (z8 32).length) := Lib.hid (by rw [z8_32, List.length_map, hkl])
  have hM := Lib.hid (Mv.nil w)
  go_enter Tryd.func17, Tryd.ntmps17
  go_upto_region 0 with fail; refine wp_region_lit ?_
  refine wpList_val (run_boxL8 (vs := a.map b8) rfl rfl) rfl ?_; (try simp only [Act.put, List.setIfInBounds_toArray, List.set_cons_zero, List.set_cons_succ]); replace hM := Lib.hid (hM.out.new (a.map b8) 24); generalize w.alloc (.cells (a.map b8).toArray 24) = a1 at *; generalize w.heap.size = g1 at *
  refine wpList_val (run_boxL8 (vs := b.map b8) rfl rfl) rfl ?_; (try simp only [Act.put, List.setIfInBounds_toArray, List.set_cons_zero, List.set_cons_succ]); replace hM := Lib.hid (hM.out.new (b.map b8) 24); generalize a1.alloc (.cells (b.map b8).toArray 24) = a2 at *; generalize a1.heap.size = g2 at *
  refine wpList_val (run_boxL8 (vs := c.map b8) rfl rfl) rfl ?_; (try simp only [Act.put, List.setIfInBounds_toArray, List.set_cons_zero, List.set_cons_succ]); replace hM := Lib.hid (hM.out.new (c.map b8) 24); generalize a2.alloc (.cells (c.map b8).toArray 24) = a3 at *; generalize a2.heap.size = g3 at *
  refine wpList_val (run_alc (vs := z8 32) rfl (by kernel_rfl)) rfl ?_; (try simp only [Act.put, List.setIfInBounds_toArray, List.set_cons_zero, List.set_cons_succ])
  replace hM := Lib.hid (hM.out.new (z8 32) 24)
  generalize a3.alloc (.cells (z8 32).toArray 24) = a4 at *
  generalize a3.heap.size = g4 at *
  refine wpList_end ?_
  go_upto_region 1 with fail; refine wp_region_lit ?_
  refine wpList_val (run_mkI (n := 65) rfl rfl rfl (by omega)) rfl ?_; (try simp only [Act.put, List.setIfInBounds_toArray, List.set_cons_zero, List.set_cons_succ])
  replace hM := Lib.hid (hM.out.new ((List.replicate 65 0).map iN) 3)
  generalize a4.alloc (.cells ((List.replicate 65 0).map iN).toArray 3) = a5 at *
  generalize a4.heap.size = g5 at *
  refine wpList_val (run_asg (v := .slice (some ⟨g5, 0, none⟩) 65 65) rfl rfl) rfl ?_; (try simp only [Act.put, List.setIfInBounds_toArray, List.set_cons_zero, List.set_cons_succ])
  refine wpList_end ?_
  go_upto_region 2 with fail; refine wp_region_lit ?_
  (repeat ((first | refine wpList_val (run_mv (v := b32 _) rfl rfl) rfl ?_ | refine wpList_val (run_mv (v := b64 _) rfl rfl) rfl ?_ | refine wpList_val (run_mv (v := b8 _) rfl rfl) rfl ?_ | refine wpList_val (run_mv (v := .int _ _) rfl rfl) rfl ?_ | refine wpList_val (run_mv (v := .bool _) rfl rfl) rfl ?_ | refine wpList_val (run_mv (v := .slice (some _) _ _) rfl rfl) rfl ?_ | refine wpList_val (run_mv (v := .slice _ _ _) rfl rfl) rfl ?_ | refine wpList_val (run_mv (v := .pointer (some _)) rfl rfl) rfl ?_ | refine wpList_val (run_mv (v := .agg _) rfl rfl) rfl ?_ | refine wpList_val (run_asg (v := b32 _) rfl rfl) rfl ?_ | refine wpList_val (run_asg (v := b64 _) rfl rfl) rfl ?_ | refine wpList_val (run_asg (v := b8 _) rfl rfl) rfl ?_ | refine wpList_val (run_asg (v := .int _ _) rfl rfl) rfl ?_ | refine wpList_val (run_asg (v := .bool _) rfl rfl) rfl ?_ | refine wpList_val (run_asg (v := .slice (some _) _ _) rfl rfl) rfl ?_ | refine wpList_val (run_asg (v := .slice _ _ _) rfl rfl) rfl ?_ | refine wpList_val (run_asg (v := .pointer (some _)) rfl rfl) rfl ?_ | refine wpList_val (run_asg (v := .agg _) rfl rfl) rfl ?_ | refine wpList_val (run_mv rfl rfl) rfl ?_ | refine wpList_val (run_asg rfl rfl) rfl ?_ | refine wpList_val (run_xor32 rfl rfl rfl) rfl ?_ | refine wpList_val (run_and32 rfl rfl rfl) rfl ?_ | refine wpList_val (run_or32 rfl rfl rfl) rfl ?_ | refine wpList_val (run_add32 rfl rfl rfl) rfl ?_ | refine wpList_val (run_not32 rfl rfl) rfl ?_ | refine wpList_val (run_xor64 rfl rfl rfl) rfl ?_ | refine wpList_val (run_and64 rfl rfl rfl) rfl ?_ | refine wpList_val (run_or64 rfl rfl rfl) rfl ?_ | refine wpList_val (run_add64 rfl rfl rfl) rfl ?_ | refine wpList_val (run_not64 rfl rfl) rfl ?_ | refine wpList_val (run_xor8 rfl rfl rfl) rfl ?_ | refine wpList_val (run_and8 rfl rfl rfl) rfl ?_ | refine wpList_val (run_or8 rfl rfl rfl) rfl ?_ | refine wpList_val (run_add8 rfl rfl rfl) rfl ?_ | refine wpList_val (run_not8 rfl rfl) rfl ?_ | refine wpList_val (run_cv64_32 rfl rfl) rfl ?_ | refine wpList_val (run_cv8_32 rfl rfl) rfl ?_ | refine wpList_val (run_cv8_64 rfl rfl) rfl ?_ | refine wpList_val (run_cv32_8 rfl rfl) rfl ?_ | refine wpList_val (run_cv64_8 rfl rfl) rfl ?_); (try simp only [Act.put, List.setIfInBounds_toArray, List.set_cons_zero, List.set_cons_succ])))
  refine wpList_end ?_
  go_wp2_with fail
  go_loopw [8] (fun s u => ∃ (i : Nat) (n : List Nat), i ≤ 32 ∧ s = .int .i64 (i : Int) ∧ MdI A B C i i 0 n ∧ (∀ x ∈ n, x ≤ i * 4194304) ∧ Mv w [(g5, n.map iN), (g4, z8 32), (g3, c.map b8), (g2, b.map b8), (g1, a.map b8)] u) (fun s _ => (32 - intOf s).toNat)
  case atStart => exact ⟨0, List.replicate 65 0, by omega, rfl, S0.out, S00.out, hM.out⟩
  case round =>
    obtain ⟨i, n, hi, rfl, hMd, hle, hJ⟩ := hrel
    replace hM := Lib.hid hJ
    have HMd := Lib.hid hMd
    have HLe := Lib.hid hle
    have hnl := hMd.len
    clear hJ hMd hle
    by_cases hlt : i = 32
    · subst hlt
      have hk1 : ¬ (((32 : Nat) : Int) < 32) := by omega
      have C0 := Lib.hid (S4.out n HMd.out HLe.out)
      go_upto_region 10 with fail; refine wp_region_lit ?_
      (repeat ((first | refine wpList_val (run_mv (v := b32 _) rfl rfl) rfl ?_ | refine wpList_val (run_mv (v := b64 _) rfl rfl) rfl ?_ | refine wpList_val (run_mv (v := b8 _) rfl rfl) rfl ?_ | refine wpList_val (run_mv (v := .int _ _) rfl rfl) rfl ?_ | refine wpList_val (run_mv (v := .bool _) rfl rfl) rfl ?_ | refine wpList_val (run_mv (v := .slice (some _) _ _) rfl rfl) rfl ?_ | refine wpList_val (run_mv (v := .slice _ _ _) rfl rfl) rfl ?_ | refine wpList_val (run_mv (v := .pointer (some _)) rfl rfl) rfl ?_ | refine wpList_val (run_mv (v := .agg _) rfl rfl) rfl ?_ | refine wpList_val (run_asg (v := b32 _) rfl rfl) rfl ?_ | refine wpList_val (run_asg (v := b64 _) rfl rfl) rfl ?_ | refine wpList_val (run_asg (v := b8 _) rfl rfl) rfl ?_ | refine wpList_val (run_asg (v := .int _ _) rfl rfl) rfl ?_ | refine wpList_val (run_asg (v := .bool _) rfl rfl) rfl ?_ | refine wpList_val (run_asg (v := .slice (some _) _ _) rfl rfl) rfl ?_ | refine wpList_val (run_asg (v := .slice _ _ _) rfl rfl) rfl ?_ | refine wpList_val (run_asg (v := .pointer (some _)) rfl rfl) rfl ?_ | refine wpList_val (run_asg (v := .agg _) rfl rfl) rfl ?_ | refine wpList_val (run_mv rfl rfl) rfl ?_ | refine wpList_val (run_asg rfl rfl) rfl ?_ | refine wpList_val (run_xor32 rfl rfl rfl) rfl ?_ | refine wpList_val (run_and32 rfl rfl rfl) rfl ?_ | refine wpList_val (run_or32 rfl rfl rfl) rfl ?_ | refine wpList_val (run_add32 rfl rfl rfl) rfl ?_ | refine wpList_val (run_not32 rfl rfl) rfl ?_ | refine wpList_val (run_xor64 rfl rfl rfl) rfl ?_ | refine wpList_val (run_and64 rfl rfl rfl) rfl ?_ | refine wpList_val (run_or64 rfl rfl rfl) rfl ?_ | refine wpList_val (run_add64 rfl rfl rfl) rfl ?_ | refine wpList_val (run_not64 rfl rfl) rfl ?_ | refine wpList_val (run_xor8 rfl rfl rfl) rfl ?_ | refine wpList_val (run_and8 rfl rfl rfl) rfl ?_ | refine wpList_val (run_or8 rfl rfl rfl) rfl ?_ | refine wpList_val (run_add8 rfl rfl rfl) rfl ?_ | refine wpList_val (run_not8 rfl rfl) rfl ?_ | refine wpList_val (run_cv64_32 rfl rfl) rfl ?_ | refine wpList_val (run_cv8_32 rfl rfl) rfl ?_ | refine wpList_val (run_cv8_64 rfl rfl) rfl ?_ | refine wpList_val (run_cv32_8 rfl rfl) rfl ?_ | refine wpList_val (run_cv64_8 rfl rfl) rfl ?_); (try simp only [Act.put, List.setIfInBounds_toArray, List.set_cons_zero, List.set_cons_succ])))
      refine wpList_end ?_
      go_upto_region 11 with fail; refine wp_region_lit ?_
      (repeat ((first | refine wpList_val (run_mv (v := b32 _) rfl rfl) rfl ?_ | refine wpList_val (run_mv (v := b64 _) rfl rfl) rfl ?_ | refine wpList_val (run_mv (v := b8 _) rfl rfl) rfl ?_ | refine wpList_val (run_mv (v := .int _ _) rfl rfl) rfl ?_ | refine wpList_val (run_mv (v := .bool _) rfl rfl) rfl ?_ | refine wpList_val (run_mv (v := .slice (some _) _ _) rfl rfl) rfl ?_ | refine wpList_val (run_mv (v := .slice _ _ _) rfl rfl) rfl ?_ | refine wpList_val (run_mv (v := .pointer (some _)) rfl rfl) rfl ?_ | refine wpList_val (run_mv (v := .agg _) rfl rfl) rfl ?_ | refine wpList_val (run_asg (v := b32 _) rfl rfl) rfl ?_ | refine wpList_val (run_asg (v := b64 _) rfl rfl) rfl ?_ | refine wpList_val (run_asg (v := b8 _) rfl rfl) rfl ?_ | refine wpList_val (run_asg (v := .int _ _) rfl rfl) rfl ?_ | refine wpList_val (run_asg (v := .bool _) rfl rfl) rfl ?_ | refine wpList_val (run_asg (v := .slice (some _) _ _) rfl rfl) rfl ?_ | refine wpList_val (run_asg (v := .slice _ _ _) rfl rfl) rfl ?_ | refine wpList_val (run_asg (v := .pointer (some _)) rfl rfl) rfl ?_ | refine wpList_val (run_asg (v := .agg _) rfl rfl) rfl ?_ | refine wpList_val (run_mv rfl rfl) rfl ?_ | refine wpList_val (run_asg rfl rfl) rfl ?_ | refine wpList_val (run_xor32 rfl rfl rfl) rfl ?_ | refine wpList_val (run_and32 rfl rfl rfl) rfl ?_ | refine wpList_val (run_or32 rfl rfl rfl) rfl ?_ | refine wpList_val (run_add32 rfl rfl rfl) rfl ?_ | refine wpList_val (run_not32 rfl rfl) rfl ?_ | refine wpList_val (run_xor64 rfl rfl rfl) rfl ?_ | refine wpList_val (run_and64 rfl rfl rfl) rfl ?_ | refine wpList_val (run_or64 rfl rfl rfl) rfl ?_ | refine wpList_val (run_add64 rfl rfl rfl) rfl ?_ | refine wpList_val (run_not64 rfl rfl) rfl ?_ | refine wpList_val (run_xor8 rfl rfl rfl) rfl ?_ | refine wpList_val (run_and8 rfl rfl rfl) rfl ?_ | refine wpList_val (run_or8 rfl rfl rfl) rfl ?_ | refine wpList_val (run_add8 rfl rfl rfl) rfl ?_ | refine wpList_val (run_not8 rfl rfl) rfl ?_ | refine wpList_val (run_cv64_32 rfl rfl) rfl ?_ | refine wpList_val (run_cv8_32 rfl rfl) rfl ?_ | refine wpList_val (run_cv8_64 rfl rfl) rfl ?_ | refine wpList_val (run_cv32_8 rfl rfl) rfl ?_ | refine wpList_val (run_cv64_8 rfl rfl) rfl ?_); (try simp only [Act.put, List.setIfInBounds_toArray, List.set_cons_zero, List.set_cons_succ])))
      refine wpList_end ?_
      go_wp2_with fail
      go_loopw [10, 11] (fun s10 s11 u => ∃ (j cy : Nat) (m : List Nat), j ≤ 65 ∧ s11 = .int .i64 (j : Int) ∧ s10 = .int .i64 (cy : Int) ∧ CrI V j cy m ∧ Mv w [(g5, m.map iN), (g4, z8 32), (g3, c.map b8), (g2, b.map b8), (g1, a.map b8)] u) (fun _ s11 _ => (65 - intOf s11).toNat)
      case atStart => exact ⟨0, 0, n, by omega, rfl, rfl, C0.out, hM.out⟩
      case round =>
        obtain ⟨j, cy, m, hj, rfl, rfl, hCr, hJ⟩ := hrel
        replace hM := Lib.hid hJ
        have HCr := Lib.hid hCr
        have hml := hCr.len
        have hcy := hCr.cl
        clear hJ hCr
        by_cases hj65 : j = 65
        · subst hj65
          have hk2 : ¬ (((65 : Nat) : Int) < 65) := by omega
          obtain ⟨hdg, hdv⟩ := S6.out cy m HCr.out
          have DG := Lib.hid hdg
          have DV := Lib.hid hdv
          clear hdg hdv
          have HRd : Hid (Rd (.slice (some ⟨g5, 0, none⟩) 65 65) m wr) := Lib.hid (by
            have hA := hM.out.get (i := 0) rfl
            exact ⟨g5, 0, 65, by rw [hml], hA.lt, hA.range⟩)
          go_upto_region 17 with fail; refine wp_region_lit ?_
          (repeat ((first | refine wpList_val (run_mv (v := b32 _) rfl rfl) rfl ?_ | refine wpList_val (run_mv (v := b64 _) rfl rfl) rfl ?_ | refine wpList_val (run_mv (v := b8 _) rfl rfl) rfl ?_ | refine wpList_val (run_mv (v := .int _ _) rfl rfl) rfl ?_ | refine wpList_val (run_mv (v := .bool _) rfl rfl) rfl ?_ | refine wpList_val (run_mv (v := .slice (some _) _ _) rfl rfl) rfl ?_ | refine wpList_val (run_mv (v := .slice _ _ _) rfl rfl) rfl ?_ | refine wpList_val (run_mv (v := .pointer (some _)) rfl rfl) rfl ?_ | refine wpList_val (run_mv (v := .agg _) rfl rfl) rfl ?_ | refine wpList_val (run_asg (v := b32 _) rfl rfl) rfl ?_ | refine wpList_val (run_asg (v := b64 _) rfl rfl) rfl ?_ | refine wpList_val (run_asg (v := b8 _) rfl rfl) rfl ?_ | refine wpList_val (run_asg (v := .int _ _) rfl rfl) rfl ?_ | refine wpList_val (run_asg (v := .bool _) rfl rfl) rfl ?_ | refine wpList_val (run_asg (v := .slice (some _) _ _) rfl rfl) rfl ?_ | refine wpList_val (run_asg (v := .slice _ _ _) rfl rfl) rfl ?_ | refine wpList_val (run_asg (v := .pointer (some _)) rfl rfl) rfl ?_ | refine wpList_val (run_asg (v := .agg _) rfl rfl) rfl ?_ | refine wpList_val (run_mv rfl rfl) rfl ?_ | refine wpList_val (run_asg rfl rfl) rfl ?_ | refine wpList_val (run_xor32 rfl rfl rfl) rfl ?_ | refine wpList_val (run_and32 rfl rfl rfl) rfl ?_ | refine wpList_val (run_or32 rfl rfl rfl) rfl ?_ | refine wpList_val (run_add32 rfl rfl rfl) rfl ?_ | refine wpList_val (run_not32 rfl rfl) rfl ?_ | refine wpList_val (run_xor64 rfl rfl rfl) rfl ?_ | refine wpList_val (run_and64 rfl rfl rfl) rfl ?_ | refine wpList_val (run_or64 rfl rfl rfl) rfl ?_ | refine wpList_val (run_add64 rfl rfl rfl) rfl ?_ | refine wpList_val (run_not64 rfl rfl) rfl ?_ | refine wpList_val (run_xor8 rfl rfl rfl) rfl ?_ | refine wpList_val (run_and8 rfl rfl rfl) rfl ?_ | refine wpList_val (run_or8 rfl rfl rfl) rfl ?_ | refine wpList_val (run_add8 rfl rfl rfl) rfl ?_ | refine wpList_val (run_not8 rfl rfl) rfl ?_ | refine wpList_val (run_cv64_32 rfl rfl) rfl ?_ | refine wpList_val (run_cv8_32 rfl rfl) rfl ?_ | refine wpList_val (run_cv8_64 rfl rfl) rfl ?_ | refine wpList_val (run_cv32_8 rfl rfl) rfl ?_ | refine wpList_val (run_cv64_8 rfl rfl) rfl ?_); (try simp only [Act.put, List.setIfInBounds_toArray, List.set_cons_zero, List.set_cons_succ])))
          refine wpList_callR (run_call1 enters_rleft rfl rfl rfl) rfl (rleft_any _ m _ HRd.out (by omega) DG.out) (fun q1 q2 hR2 => ?_); (try simp only [Act.put, List.setIfInBounds_toArray, List.set_cons_zero, List.set_cons_succ])
          obtain ⟨m2, ⟨k1, k2, k3⟩, hIs⟩ := hR2
          have hE := HR.out m2 k1 k2 (by rw [k3, DV.out])
          have HRd2 := Lib.hid hIs.rd
          replace hM := Lib.hid (hM.out.below hIs.bl)
          clear hIs k2 k3
          refine wpList_enter (run_call1 enters_rkey8 rfl rfl rfl) rfl (rkey8_any _ m2 _ HRd2.out k1) (fun q3 hb => ?_); (try simp only [Act.put, List.setIfInBounds_toArray, List.set_cons_zero, List.set_cons_succ]); replace hM := Lib.hid (hM.out.below hb); clear hb
          rw [hE]
          refine wpList_skip (run_stM (vs := kb.map b8) rfl SZ.out rfl rfl (one8s _) (by rw [L1.out]; exact (hM.out.get (i := 1) rfl).there)) rfl rfl ?_
          replace hM := Lib.hid (hM.out.put 1 rfl (m := kb.map b8) L1.out)
          refine wpList_end ?_
          go_wp2_with fail
          exact bodyPost_ret (v := .agg (kb.map b8).toArray) (results_rowB Tryd.results17 rfl Tryd.underlying24 rfl SZ.out (hM.out.get (i := 1) rfl).range) rfl ⟨rfl, hM.out.bl⟩
        · have hk2 : (j : Int) < 65 := by omega
          have HN := Lib.hid (S5'.out j cy m HCr.out (by omega))
          have hx := getD_le HCr.out.le j
          have HG := Lib.hid ((hM.out.get (i := 0) rfl).c j _ (get_map iN 0 (by omega)))
          have HF := Lib.hid ((hM.out.get (i := 0) rfl).f j)
          have HSet : Hid (∀ y : Nat, Mv w [(g5, (m.set j y).map iN), (g4, z8 32), (g3, c.map b8), (g2, b.map b8), (g1, a.map b8)] (wr.setCell ⟨g5, j, none⟩ (iN y))) := Lib.hid fun y => by
            have h := hM.out.set 0 rfl (j := j) (by rw [List.length_map]; omega) (iN y)
            rw [set_map] at h
            exact h
          generalize m.getD j 0 = x at *
          go_upto_region 14 with fail; refine wp_region_lit ?_
          (repeat ((first | refine wpList_val (run_mv (v := b32 _) rfl rfl) rfl ?_ | refine wpList_val (run_mv (v := b64 _) rfl rfl) rfl ?_ | refine wpList_val (run_mv (v := b8 _) rfl rfl) rfl ?_ | refine wpList_val (run_mv (v := .int _ _) rfl rfl) rfl ?_ | refine wpList_val (run_mv (v := .bool _) rfl rfl) rfl ?_ | refine wpList_val (run_mv (v := .slice (some _) _ _) rfl rfl) rfl ?_ | refine wpList_val (run_mv (v := .slice _ _ _) rfl rfl) rfl ?_ | refine wpList_val (run_mv (v := .pointer (some _)) rfl rfl) rfl ?_ | refine wpList_val (run_mv (v := .agg _) rfl rfl) rfl ?_ | refine wpList_val (run_asg (v := b32 _) rfl rfl) rfl ?_ | refine wpList_val (run_asg (v := b64 _) rfl rfl) rfl ?_ | refine wpList_val (run_asg (v := b8 _) rfl rfl) rfl ?_ | refine wpList_val (run_asg (v := .int _ _) rfl rfl) rfl ?_ | refine wpList_val (run_asg (v := .bool _) rfl rfl) rfl ?_ | refine wpList_val (run_asg (v := .slice (some _) _ _) rfl rfl) rfl ?_ | refine wpList_val (run_asg (v := .slice _ _ _) rfl rfl) rfl ?_ | refine wpList_val (run_asg (v := .pointer (some _)) rfl rfl) rfl ?_ | refine wpList_val (run_asg (v := .agg _) rfl rfl) rfl ?_ | refine wpList_val (run_mv rfl rfl) rfl ?_ | refine wpList_val (run_asg rfl rfl) rfl ?_ | refine wpList_val (run_xor32 rfl rfl rfl) rfl ?_ | refine wpList_val (run_and32 rfl rfl rfl) rfl ?_ | refine wpList_val (run_or32 rfl rfl rfl) rfl ?_ | refine wpList_val (run_add32 rfl rfl rfl) rfl ?_ | refine wpList_val (run_not32 rfl rfl) rfl ?_ | refine wpList_val (run_xor64 rfl rfl rfl) rfl ?_ | refine wpList_val (run_and64 rfl rfl rfl) rfl ?_ | refine wpList_val (run_or64 rfl rfl rfl) rfl ?_ | refine wpList_val (run_add64 rfl rfl rfl) rfl ?_ | refine wpList_val (run_not64 rfl rfl) rfl ?_ | refine wpList_val (run_xor8 rfl rfl rfl) rfl ?_ | refine wpList_val (run_and8 rfl rfl rfl) rfl ?_ | refine wpList_val (run_or8 rfl rfl rfl) rfl ?_ | refine wpList_val (run_add8 rfl rfl rfl) rfl ?_ | refine wpList_val (run_not8 rfl rfl) rfl ?_ | refine wpList_val (run_cv64_32 rfl rfl) rfl ?_ | refine wpList_val (run_cv8_32 rfl rfl) rfl ?_ | refine wpList_val (run_cv8_64 rfl rfl) rfl ?_ | refine wpList_val (run_cv32_8 rfl rfl) rfl ?_ | refine wpList_val (run_cv64_8 rfl rfl) rfl ?_); (try simp only [Act.put, List.setIfInBounds_toArray, List.set_cons_zero, List.set_cons_succ])))
          refine wpList_val (run_ixs (i := j) rfl Tryd.underlying55 (by kernel_rfl) rfl rfl (by omega)) rfl ?_; (try simp only [Act.put, List.setIfInBounds_toArray, List.set_cons_zero, List.set_cons_succ])
          rw [Nat.zero_add]
          refine wpList_val (run_ldi rfl rfl HG.out) rfl ?_; (try simp only [Act.put, List.setIfInBounds_toArray, List.set_cons_zero, List.set_cons_succ])
          refine wpList_val (run_addN (a := cy) (b := x) rfl rfl rfl (by omega)) rfl ?_; (try simp only [Act.put, List.setIfInBounds_toArray, List.set_cons_zero, List.set_cons_succ])
          generalize hz : cy + x = z at *
          (repeat ((first | refine wpList_val (run_mv (v := b32 _) rfl rfl) rfl ?_ | refine wpList_val (run_mv (v := b64 _) rfl rfl) rfl ?_ | refine wpList_val (run_mv (v := b8 _) rfl rfl) rfl ?_ | refine wpList_val (run_mv (v := .int _ _) rfl rfl) rfl ?_ | refine wpList_val (run_mv (v := .bool _) rfl rfl) rfl ?_ | refine wpList_val (run_mv (v := .slice (some _) _ _) rfl rfl) rfl ?_ | refine wpList_val (run_mv (v := .slice _ _ _) rfl rfl) rfl ?_ | refine wpList_val (run_mv (v := .pointer (some _)) rfl rfl) rfl ?_ | refine wpList_val (run_mv (v := .agg _) rfl rfl) rfl ?_ | refine wpList_val (run_asg (v := b32 _) rfl rfl) rfl ?_ | refine wpList_val (run_asg (v := b64 _) rfl rfl) rfl ?_ | refine wpList_val (run_asg (v := b8 _) rfl rfl) rfl ?_ | refine wpList_val (run_asg (v := .int _ _) rfl rfl) rfl ?_ | refine wpList_val (run_asg (v := .bool _) rfl rfl) rfl ?_ | refine wpList_val (run_asg (v := .slice (some _) _ _) rfl rfl) rfl ?_ | refine wpList_val (run_asg (v := .slice _ _ _) rfl rfl) rfl ?_ | refine wpList_val (run_asg (v := .pointer (some _)) rfl rfl) rfl ?_ | refine wpList_val (run_asg (v := .agg _) rfl rfl) rfl ?_ | refine wpList_val (run_mv rfl rfl) rfl ?_ | refine wpList_val (run_asg rfl rfl) rfl ?_ | refine wpList_val (run_xor32 rfl rfl rfl) rfl ?_ | refine wpList_val (run_and32 rfl rfl rfl) rfl ?_ | refine wpList_val (run_or32 rfl rfl rfl) rfl ?_ | refine wpList_val (run_add32 rfl rfl rfl) rfl ?_ | refine wpList_val (run_not32 rfl rfl) rfl ?_ | refine wpList_val (run_xor64 rfl rfl rfl) rfl ?_ | refine wpList_val (run_and64 rfl rfl rfl) rfl ?_ | refine wpList_val (run_or64 rfl rfl rfl) rfl ?_ | refine wpList_val (run_add64 rfl rfl rfl) rfl ?_ | refine wpList_val (run_not64 rfl rfl) rfl ?_ | refine wpList_val (run_xor8 rfl rfl rfl) rfl ?_ | refine wpList_val (run_and8 rfl rfl rfl) rfl ?_ | refine wpList_val (run_or8 rfl rfl rfl) rfl ?_ | refine wpList_val (run_add8 rfl rfl rfl) rfl ?_ | refine wpList_val (run_not8 rfl rfl) rfl ?_ | refine wpList_val (run_cv64_32 rfl rfl) rfl ?_ | refine wpList_val (run_cv8_32 rfl rfl) rfl ?_ | refine wpList_val (run_cv8_64 rfl rfl) rfl ?_ | refine wpList_val (run_cv32_8 rfl rfl) rfl ?_ | refine wpList_val (run_cv64_8 rfl rfl) rfl ?_); (try simp only [Act.put, List.setIfInBounds_toArray, List.set_cons_zero, List.set_cons_succ])))
          refine wpList_end ?_
          go_upto_region 15 with fail; refine wp_region_lit ?_
          (repeat ((first | refine wpList_val (run_mv (v := b32 _) rfl rfl) rfl ?_ | refine wpList_val (run_mv (v := b64 _) rfl rfl) rfl ?_ | refine wpList_val (run_mv (v := b8 _) rfl rfl) rfl ?_ | refine wpList_val (run_mv (v := .int _ _) rfl rfl) rfl ?_ | refine wpList_val (run_mv (v := .bool _) rfl rfl) rfl ?_ | refine wpList_val (run_mv (v := .slice (some _) _ _) rfl rfl) rfl ?_ | refine wpList_val (run_mv (v := .slice _ _ _) rfl rfl) rfl ?_ | refine wpList_val (run_mv (v := .pointer (some _)) rfl rfl) rfl ?_ | refine wpList_val (run_mv (v := .agg _) rfl rfl) rfl ?_ | refine wpList_val (run_asg (v := b32 _) rfl rfl) rfl ?_ | refine wpList_val (run_asg (v := b64 _) rfl rfl) rfl ?_ | refine wpList_val (run_asg (v := b8 _) rfl rfl) rfl ?_ | refine wpList_val (run_asg (v := .int _ _) rfl rfl) rfl ?_ | refine wpList_val (run_asg (v := .bool _) rfl rfl) rfl ?_ | refine wpList_val (run_asg (v := .slice (some _) _ _) rfl rfl) rfl ?_ | refine wpList_val (run_asg (v := .slice _ _ _) rfl rfl) rfl ?_ | refine wpList_val (run_asg (v := .pointer (some _)) rfl rfl) rfl ?_ | refine wpList_val (run_asg (v := .agg _) rfl rfl) rfl ?_ | refine wpList_val (run_mv rfl rfl) rfl ?_ | refine wpList_val (run_asg rfl rfl) rfl ?_ | refine wpList_val (run_xor32 rfl rfl rfl) rfl ?_ | refine wpList_val (run_and32 rfl rfl rfl) rfl ?_ | refine wpList_val (run_or32 rfl rfl rfl) rfl ?_ | refine wpList_val (run_add32 rfl rfl rfl) rfl ?_ | refine wpList_val (run_not32 rfl rfl) rfl ?_ | refine wpList_val (run_xor64 rfl rfl rfl) rfl ?_ | refine wpList_val (run_and64 rfl rfl rfl) rfl ?_ | refine wpList_val (run_or64 rfl rfl rfl) rfl ?_ | refine wpList_val (run_add64 rfl rfl rfl) rfl ?_ | refine wpList_val (run_not64 rfl rfl) rfl ?_ | refine wpList_val (run_xor8 rfl rfl rfl) rfl ?_ | refine wpList_val (run_and8 rfl rfl rfl) rfl ?_ | refine wpList_val (run_or8 rfl rfl rfl) rfl ?_ | refine wpList_val (run_add8 rfl rfl rfl) rfl ?_ | refine wpList_val (run_not8 rfl rfl) rfl ?_ | refine wpList_val (run_cv64_32 rfl rfl) rfl ?_ | refine wpList_val (run_cv8_32 rfl rfl) rfl ?_ | refine wpList_val (run_cv8_64 rfl rfl) rfl ?_ | refine wpList_val (run_cv32_8 rfl rfl) rfl ?_ | refine wpList_val (run_cv64_8 rfl rfl) rfl ?_); (try simp only [Act.put, List.setIfInBounds_toArray, List.set_cons_zero, List.set_cons_succ])))
          refine wpList_val (run_remN (a := z) (b := 256) rfl rfl rfl (by omega)) rfl ?_; (try simp only [Act.put, List.setIfInBounds_toArray, List.set_cons_zero, List.set_cons_succ])
          refine wpList_val (run_ixs (i := j) rfl Tryd.underlying55 (by kernel_rfl) rfl rfl (by omega)) rfl ?_; (try simp only [Act.put, List.setIfInBounds_toArray, List.set_cons_zero, List.set_cons_succ])
          rw [Nat.zero_add]
          refine wpList_skip (run_stI (n := z % 256) rfl rfl rfl HG.out HF.out) rfl rfl ?_
          refine wpList_end ?_
          have hM2 := Lib.hid (HSet.out (z % 256))
          generalize wr.setCell ⟨g5, j, none⟩ (iN (z % 256)) = b5 at *
          go_upto_region 16 with fail; refine wp_region_lit ?_
          (repeat ((first | refine wpList_val (run_mv (v := b32 _) rfl rfl) rfl ?_ | refine wpList_val (run_mv (v := b64 _) rfl rfl) rfl ?_ | refine wpList_val (run_mv (v := b8 _) rfl rfl) rfl ?_ | refine wpList_val (run_mv (v := .int _ _) rfl rfl) rfl ?_ | refine wpList_val (run_mv (v := .bool _) rfl rfl) rfl ?_ | refine wpList_val (run_mv (v := .slice (some _) _ _) rfl rfl) rfl ?_ | refine wpList_val (run_mv (v := .slice _ _ _) rfl rfl) rfl ?_ | refine wpList_val (run_mv (v := .pointer (some _)) rfl rfl) rfl ?_ | refine wpList_val (run_mv (v := .agg _) rfl rfl) rfl ?_ | refine wpList_val (run_asg (v := b32 _) rfl rfl) rfl ?_ | refine wpList_val (run_asg (v := b64 _) rfl rfl) rfl ?_ | refine wpList_val (run_asg (v := b8 _) rfl rfl) rfl ?_ | refine wpList_val (run_asg (v := .int _ _) rfl rfl) rfl ?_ | refine wpList_val (run_asg (v := .bool _) rfl rfl) rfl ?_ | refine wpList_val (run_asg (v := .slice (some _) _ _) rfl rfl) rfl ?_ | refine wpList_val (run_asg (v := .slice _ _ _) rfl rfl) rfl ?_ | refine wpList_val (run_asg (v := .pointer (some _)) rfl rfl) rfl ?_ | refine wpList_val (run_asg (v := .agg _) rfl rfl) rfl ?_ | refine wpList_val (run_mv rfl rfl) rfl ?_ | refine wpList_val (run_asg rfl rfl) rfl ?_ | refine wpList_val (run_xor32 rfl rfl rfl) rfl ?_ | refine wpList_val (run_and32 rfl rfl rfl) rfl ?_ | refine wpList_val (run_or32 rfl rfl rfl) rfl ?_ | refine wpList_val (run_add32 rfl rfl rfl) rfl ?_ | refine wpList_val (run_not32 rfl rfl) rfl ?_ | refine wpList_val (run_xor64 rfl rfl rfl) rfl ?_ | refine wpList_val (run_and64 rfl rfl rfl) rfl ?_ | refine wpList_val (run_or64 rfl rfl rfl) rfl ?_ | refine wpList_val (run_add64 rfl rfl rfl) rfl ?_ | refine wpList_val (run_not64 rfl rfl) rfl ?_ | refine wpList_val (run_xor8 rfl rfl rfl) rfl ?_ | refine wpList_val (run_and8 rfl rfl rfl) rfl ?_ | refine wpList_val (run_or8 rfl rfl rfl) rfl ?_ | refine wpList_val (run_add8 rfl rfl rfl) rfl ?_ | refine wpList_val (run_not8 rfl rfl) rfl ?_ | refine wpList_val (run_cv64_32 rfl rfl) rfl ?_ | refine wpList_val (run_cv8_32 rfl rfl) rfl ?_ | refine wpList_val (run_cv8_64 rfl rfl) rfl ?_ | refine wpList_val (run_cv32_8 rfl rfl) rfl ?_ | refine wpList_val (run_cv64_8 rfl rfl) rfl ?_); (try simp only [Act.put, List.setIfInBounds_toArray, List.set_cons_zero, List.set_cons_succ])))
          refine wpList_val (run_quoN (a := z) (b := 256) rfl rfl rfl (by omega) (by omega)) rfl ?_; (try simp only [Act.put, List.setIfInBounds_toArray, List.set_cons_zero, List.set_cons_succ])
          (repeat ((first | refine wpList_val (run_mv (v := b32 _) rfl rfl) rfl ?_ | refine wpList_val (run_mv (v := b64 _) rfl rfl) rfl ?_ | refine wpList_val (run_mv (v := b8 _) rfl rfl) rfl ?_ | refine wpList_val (run_mv (v := .int _ _) rfl rfl) rfl ?_ | refine wpList_val (run_mv (v := .bool _) rfl rfl) rfl ?_ | refine wpList_val (run_mv (v := .slice (some _) _ _) rfl rfl) rfl ?_ | refine wpList_val (run_mv (v := .slice _ _ _) rfl rfl) rfl ?_ | refine wpList_val (run_mv (v := .pointer (some _)) rfl rfl) rfl ?_ | refine wpList_val (run_mv (v := .agg _) rfl rfl) rfl ?_ | refine wpList_val (run_asg (v := b32 _) rfl rfl) rfl ?_ | refine wpList_val (run_asg (v := b64 _) rfl rfl) rfl ?_ | refine wpList_val (run_asg (v := b8 _) rfl rfl) rfl ?_ | refine wpList_val (run_asg (v := .int _ _) rfl rfl) rfl ?_ | refine wpList_val (run_asg (v := .bool _) rfl rfl) rfl ?_ | refine wpList_val (run_asg (v := .slice (some _) _ _) rfl rfl) rfl ?_ | refine wpList_val (run_asg (v := .slice _ _ _) rfl rfl) rfl ?_ | refine wpList_val (run_asg (v := .pointer (some _)) rfl rfl) rfl ?_ | refine wpList_val (run_asg (v := .agg _) rfl rfl) rfl ?_ | refine wpList_val (run_mv rfl rfl) rfl ?_ | refine wpList_val (run_asg rfl rfl) rfl ?_ | refine wpList_val (run_xor32 rfl rfl rfl) rfl ?_ | refine wpList_val (run_and32 rfl rfl rfl) rfl ?_ | refine wpList_val (run_or32 rfl rfl rfl) rfl ?_ | refine wpList_val (run_add32 rfl rfl rfl) rfl ?_ | refine wpList_val (run_not32 rfl rfl) rfl ?_ | refine wpList_val (run_xor64 rfl rfl rfl) rfl ?_ | refine wpList_val (run_and64 rfl rfl rfl) rfl ?_ | refine wpList_val (run_or64 rfl rfl rfl) rfl ?_ | refine wpList_val (run_add64 rfl rfl rfl) rfl ?_ | refine wpList_val (run_not64 rfl rfl) rfl ?_ | refine wpList_val (run_xor8 rfl rfl rfl) rfl ?_ | refine wpList_val (run_and8 rfl rfl rfl) rfl ?_ | refine wpList_val (run_or8 rfl rfl rfl) rfl ?_ | refine wpList_val (run_add8 rfl rfl rfl) rfl ?_ | refine wpList_val (run_not8 rfl rfl) rfl ?_ | refine wpList_val (run_cv64_32 rfl rfl) rfl ?_ | refine wpList_val (run_cv8_32 rfl rfl) rfl ?_ | refine wpList_val (run_cv8_64 rfl rfl) rfl ?_ | refine wpList_val (run_cv32_8 rfl rfl) rfl ?_ | refine wpList_val (run_cv64_8 rfl rfl) rfl ?_); (try simp only [Act.put, List.setIfInBounds_toArray, List.set_cons_zero, List.set_cons_succ])))
          refine wpList_end ?_
          clear HG HF HSet hM
          go_wp2_with fail
          exact ⟨⟨j + 1, z / 256, m.set j (z % 256), by omega, by go_num, rfl, HN.out, hM2.out⟩, by simp [intOf]; omega⟩
    · have hk1 : (i : Int) < 32 := by omega
      have HN := Lib.hid (S1.out i n HMd.out HLe.out (by omega))
      have hx := getD_le HLe.out i
      have hci := GC.out i
      have EC := Lib.hid (gC.out i (by omega))
      have HG : Hid (∀ V', Arr g5 (n.map iN) V' → V'.cell? ⟨g5, i, none⟩ = some (iN (n.getD i 0))) := Lib.hid fun V' h => h.c i _ (get_map iN 0 (by omega))
      have HGC : Hid (∀ V', Arr g3 (c.map b8) V' → V'.cell? ⟨g3, i, none⟩ = some (b8 (c.getD i 0))) := Lib.hid fun V' h => h.c i _ (get_map b8 0 (by omega))
      generalize n.getD i 0 = x at *
      generalize c.getD i 0 = ci at *
      generalize C.getD i 0 = cn at *
      go_upto_region 5 with fail; refine wp_region_calm 10 (by kernel_rfl) (by kernel_rfl) ?_
      (repeat ((first | refine wpCalm_step _ (fun V hV => calm_run (run_mv (v := b32 _) rfl rfl)) ?_ | refine wpCalm_step _ (fun V hV => calm_run (run_mv (v := b64 _) rfl rfl)) ?_ | refine wpCalm_step _ (fun V hV => calm_run (run_mv (v := b8 _) rfl rfl)) ?_ | refine wpCalm_step _ (fun V hV => calm_run (run_mv (v := .int _ _) rfl rfl)) ?_ | refine wpCalm_step _ (fun V hV => calm_run (run_mv (v := .bool _) rfl rfl)) ?_ | refine wpCalm_step _ (fun V hV => calm_run (run_mv (v := .slice (some _) _ _) rfl rfl)) ?_ | refine wpCalm_step _ (fun V hV => calm_run (run_mv (v := .slice _ _ _) rfl rfl)) ?_ | refine wpCalm_step _ (fun V hV => calm_run (run_mv (v := .pointer (some _)) rfl rfl)) ?_ | refine wpCalm_step _ (fun V hV => calm_run (run_mv (v := .agg _) rfl rfl)) ?_ | refine wpCalm_step _ (fun V hV => calm_run (run_asg (v := b32 _) rfl rfl)) ?_ | refine wpCalm_step _ (fun V hV => calm_run (run_asg (v := b64 _) rfl rfl)) ?_ | refine wpCalm_step _ (fun V hV => calm_run (run_asg (v := b8 _) rfl rfl)) ?_ | refine wpCalm_step _ (fun V hV => calm_run (run_asg (v := .int _ _) rfl rfl)) ?_ | refine wpCalm_step _ (fun V hV => calm_run (run_asg (v := .bool _) rfl rfl)) ?_ | refine wpCalm_step _ (fun V hV => calm_run (run_asg (v := .slice (some _) _ _) rfl rfl)) ?_ | refine wpCalm_step _ (fun V hV => calm_run (run_asg (v := .slice _ _ _) rfl rfl)) ?_ | refine wpCalm_step _ (fun V hV => calm_run (run_asg (v := .pointer (some _)) rfl rfl)) ?_ | refine wpCalm_step _ (fun V hV => calm_run (run_asg (v := .agg _) rfl rfl)) ?_ | refine wpCalm_step _ (fun V hV => calm_run (run_mv rfl rfl)) ?_ | refine wpCalm_step _ (fun V hV => calm_run (run_asg rfl rfl)) ?_ | refine wpCalm_step _ (fun V hV => calm_run (run_xor32 rfl rfl rfl)) ?_ | refine wpCalm_step _ (fun V hV => calm_run (run_and32 rfl rfl rfl)) ?_ | refine wpCalm_step _ (fun V hV => calm_run (run_or32 rfl rfl rfl)) ?_ | refine wpCalm_step _ (fun V hV => calm_run (run_add32 rfl rfl rfl)) ?_ | refine wpCalm_step _ (fun V hV => calm_run (run_not32 rfl rfl)) ?_ | refine wpCalm_step _ (fun V hV => calm_run (run_xor64 rfl rfl rfl)) ?_ | refine wpCalm_step _ (fun V hV => calm_run (run_and64 rfl rfl rfl)) ?_ | refine wpCalm_step _ (fun V hV => calm_run (run_or64 rfl rfl rfl)) ?_ | refine wpCalm_step _ (fun V hV => calm_run (run_add64 rfl rfl rfl)) ?_ | refine wpCalm_step _ (fun V hV => calm_run (run_not64 rfl rfl)) ?_ | refine wpCalm_step _ (fun V hV => calm_run (run_xor8 rfl rfl rfl)) ?_ | refine wpCalm_step _ (fun V hV => calm_run (run_and8 rfl rfl rfl)) ?_ | refine wpCalm_step _ (fun V hV => calm_run (run_or8 rfl rfl rfl)) ?_ | refine wpCalm_step _ (fun V hV => calm_run (run_add8 rfl rfl rfl)) ?_ | refine wpCalm_step _ (fun V hV => calm_run (run_not8 rfl rfl)) ?_ | refine wpCalm_step _ (fun V hV => calm_run (run_cv64_32 rfl rfl)) ?_ | refine wpCalm_step _ (fun V hV => calm_run (run_cv8_32 rfl rfl)) ?_ | refine wpCalm_step _ (fun V hV => calm_run (run_cv8_64 rfl rfl)) ?_ | refine wpCalm_step _ (fun V hV => calm_run (run_cv32_8 rfl rfl)) ?_ | refine wpCalm_step _ (fun V hV => calm_run (run_cv64_8 rfl rfl)) ?_); (try simp only [Act.put, List.setIfInBounds_toArray, List.set_cons_zero, List.set_cons_succ])))
      refine wpCalm_step _ (fun V hV => calm_run (run_ixs (i := i) rfl Tryd.underlying55 (by kernel_rfl) rfl rfl (by omega))) ?_; (try simp only [Act.put, List.setIfInBounds_toArray, List.set_cons_zero, List.set_cons_succ])
      refine wpCalm_step _ (fun V hV => calm_run (run_ldi rfl rfl (by rw [Nat.zero_add]; exact HG.out V ((hM.out.below hV).get (i := 0) rfl)))) ?_; (try simp only [Act.put, List.setIfInBounds_toArray, List.set_cons_zero, List.set_cons_succ])
      (repeat ((first | refine wpCalm_step _ (fun V hV => calm_run (run_mv (v := b32 _) rfl rfl)) ?_ | refine wpCalm_step _ (fun V hV => calm_run (run_mv (v := b64 _) rfl rfl)) ?_ | refine wpCalm_step _ (fun V hV => calm_run (run_mv (v := b8 _) rfl rfl)) ?_ | refine wpCalm_step _ (fun V hV => calm_run (run_mv (v := .int _ _) rfl rfl)) ?_ | refine wpCalm_step _ (fun V hV => calm_run (run_mv (v := .bool _) rfl rfl)) ?_ | refine wpCalm_step _ (fun V hV => calm_run (run_mv (v := .slice (some _) _ _) rfl rfl)) ?_ | refine wpCalm_step _ (fun V hV => calm_run (run_mv (v := .slice _ _ _) rfl rfl)) ?_ | refine wpCalm_step _ (fun V hV => calm_run (run_mv (v := .pointer (some _)) rfl rfl)) ?_ | refine wpCalm_step _ (fun V hV => calm_run (run_mv (v := .agg _) rfl rfl)) ?_ | refine wpCalm_step _ (fun V hV => calm_run (run_asg (v := b32 _) rfl rfl)) ?_ | refine wpCalm_step _ (fun V hV => calm_run (run_asg (v := b64 _) rfl rfl)) ?_ | refine wpCalm_step _ (fun V hV => calm_run (run_asg (v := b8 _) rfl rfl)) ?_ | refine wpCalm_step _ (fun V hV => calm_run (run_asg (v := .int _ _) rfl rfl)) ?_ | refine wpCalm_step _ (fun V hV => calm_run (run_asg (v := .bool _) rfl rfl)) ?_ | refine wpCalm_step _ (fun V hV => calm_run (run_asg (v := .slice (some _) _ _) rfl rfl)) ?_ | refine wpCalm_step _ (fun V hV => calm_run (run_asg (v := .slice _ _ _) rfl rfl)) ?_ | refine wpCalm_step _ (fun V hV => calm_run (run_asg (v := .pointer (some _)) rfl rfl)) ?_ | refine wpCalm_step _ (fun V hV => calm_run (run_asg (v := .agg _) rfl rfl)) ?_ | refine wpCalm_step _ (fun V hV => calm_run (run_mv rfl rfl)) ?_ | refine wpCalm_step _ (fun V hV => calm_run (run_asg rfl rfl)) ?_ | refine wpCalm_step _ (fun V hV => calm_run (run_xor32 rfl rfl rfl)) ?_ | refine wpCalm_step _ (fun V hV => calm_run (run_and32 rfl rfl rfl)) ?_ | refine wpCalm_step _ (fun V hV => calm_run (run_or32 rfl rfl rfl)) ?_ | refine wpCalm_step _ (fun V hV => calm_run (run_add32 rfl rfl rfl)) ?_ | refine wpCalm_step _ (fun V hV => calm_run (run_not32 rfl rfl)) ?_ | refine wpCalm_step _ (fun V hV => calm_run (run_xor64 rfl rfl rfl)) ?_ | refine wpCalm_step _ (fun V hV => calm_run (run_and64 rfl rfl rfl)) ?_ | refine wpCalm_step _ (fun V hV => calm_run (run_or64 rfl rfl rfl)) ?_ | refine wpCalm_step _ (fun V hV => calm_run (run_add64 rfl rfl rfl)) ?_ | refine wpCalm_step _ (fun V hV => calm_run (run_not64 rfl rfl)) ?_ | refine wpCalm_step _ (fun V hV => calm_run (run_xor8 rfl rfl rfl)) ?_ | refine wpCalm_step _ (fun V hV => calm_run (run_and8 rfl rfl rfl)) ?_ | refine wpCalm_step _ (fun V hV => calm_run (run_or8 rfl rfl rfl)) ?_ | refine wpCalm_step _ (fun V hV => calm_run (run_add8 rfl rfl rfl)) ?_ | refine wpCalm_step _ (fun V hV => calm_run (run_not8 rfl rfl)) ?_ | refine wpCalm_step _ (fun V hV => calm_run (run_cv64_32 rfl rfl)) ?_ | refine wpCalm_step _ (fun V hV => calm_run (run_cv8_32 rfl rfl)) ?_ | refine wpCalm_step _ (fun V hV => calm_run (run_cv8_64 rfl rfl)) ?_ | refine wpCalm_step _ (fun V hV => calm_run (run_cv32_8 rfl rfl)) ?_ | refine wpCalm_step _ (fun V hV => calm_run (run_cv64_8 rfl rfl)) ?_); (try simp only [Act.put, List.setIfInBounds_toArray, List.set_cons_zero, List.set_cons_succ])))
      refine wpCalm_step _ (fun V hV => calm_run (run_ix0 (i := i) rfl Tryd.underlying24 (by kernel_rfl) rfl rfl (by omega))) ?_; (try simp only [Act.put, List.setIfInBounds_toArray, List.set_cons_zero, List.set_cons_succ])
      refine wpCalm_step _ (fun V hV => calm_run (run_ld8 rfl rfl (HGC.out V ((hM.out.below hV).get (i := 2) rfl)))) ?_; (try simp only [Act.put, List.setIfInBounds_toArray, List.set_cons_zero, List.set_cons_succ])
      refine wpCalm_step _ (fun V hV => calm_run (run_cv8i rfl rfl)) ?_; (try simp only [Act.put, List.setIfInBounds_toArray, List.set_cons_zero, List.set_cons_succ])
      refine wpCalm_step _ (fun V hV => calm_run (run_addN (a := x) (b := ci.toNat) rfl rfl rfl (by rw [EC.out]; omega))) ?_; (try simp only [Act.put, List.setIfInBounds_toArray, List.set_cons_zero, List.set_cons_succ])
      refine wpCalm_step _ (fun V hV => calm_run (run_ixs (i := i) rfl Tryd.underlying55 (by kernel_rfl) rfl rfl (by omega))) ?_; (try simp only [Act.put, List.setIfInBounds_toArray, List.set_cons_zero, List.set_cons_succ])
      refine wpCalm_done ?_; intro a6 hb6; simp only [List.drop_succ_cons, List.drop_zero]
      replace hM := Lib.hid (hM.out.below hb6)
      clear hb6
      rw [EC.out, Nat.zero_add]
      refine wpList_skip (run_stI (n := x + cn) rfl rfl rfl (HG.out _ (hM.out.get (i := 0) rfl)) ((hM.out.get (i := 0) rfl).f i)) rfl rfl ?_
      refine wpList_end ?_
      replace hM : Hid (Mv w [(g5, (n.set i (x + cn)).map iN), (g4, z8 32), (g3, c.map b8), (g2, b.map b8), (g1, a.map b8)] (a6.setCell ⟨g5, i, none⟩ (iN (x + cn)))) := Lib.hid (by
        have h := hM.out.set 0 rfl (j := i) (by rw [List.length_map]; omega) (iN (x + cn))
        rw [set_map] at h
        exact h)
      generalize a6.setCell ⟨g5, i, none⟩ (iN (x + cn)) = a7 at *
      generalize n.set i (x + cn) = n1 at *
      clear HG HGC HMd HLe hx hci EC
      go_upto_region 6 with fail; refine wp_region_lit ?_
      (repeat ((first | refine wpList_val (run_mv (v := b32 _) rfl rfl) rfl ?_ | refine wpList_val (run_mv (v := b64 _) rfl rfl) rfl ?_ | refine wpList_val (run_mv (v := b8 _) rfl rfl) rfl ?_ | refine wpList_val (run_mv (v := .int _ _) rfl rfl) rfl ?_ | refine wpList_val (run_mv (v := .bool _) rfl rfl) rfl ?_ | refine wpList_val (run_mv (v := .slice (some _) _ _) rfl rfl) rfl ?_ | refine wpList_val (run_mv (v := .slice _ _ _) rfl rfl) rfl ?_ | refine wpList_val (run_mv (v := .pointer (some _)) rfl rfl) rfl ?_ | refine wpList_val (run_mv (v := .agg _) rfl rfl) rfl ?_ | refine wpList_val (run_asg (v := b32 _) rfl rfl) rfl ?_ | refine wpList_val (run_asg (v := b64 _) rfl rfl) rfl ?_ | refine wpList_val (run_asg (v := b8 _) rfl rfl) rfl ?_ | refine wpList_val (run_asg (v := .int _ _) rfl rfl) rfl ?_ | refine wpList_val (run_asg (v := .bool _) rfl rfl) rfl ?_ | refine wpList_val (run_asg (v := .slice (some _) _ _) rfl rfl) rfl ?_ | refine wpList_val (run_asg (v := .slice _ _ _) rfl rfl) rfl ?_ | refine wpList_val (run_asg (v := .pointer (some _)) rfl rfl) rfl ?_ | refine wpList_val (run_asg (v := .agg _) rfl rfl) rfl ?_ | refine wpList_val (run_mv rfl rfl) rfl ?_ | refine wpList_val (run_asg rfl rfl) rfl ?_ | refine wpList_val (run_xor32 rfl rfl rfl) rfl ?_ | refine wpList_val (run_and32 rfl rfl rfl) rfl ?_ | refine wpList_val (run_or32 rfl rfl rfl) rfl ?_ | refine wpList_val (run_add32 rfl rfl rfl) rfl ?_ | refine wpList_val (run_not32 rfl rfl) rfl ?_ | refine wpList_val (run_xor64 rfl rfl rfl) rfl ?_ | refine wpList_val (run_and64 rfl rfl rfl) rfl ?_ | refine wpList_val (run_or64 rfl rfl rfl) rfl ?_ | refine wpList_val (run_add64 rfl rfl rfl) rfl ?_ | refine wpList_val (run_not64 rfl rfl) rfl ?_ | refine wpList_val (run_xor8 rfl rfl rfl) rfl ?_ | refine wpList_val (run_and8 rfl rfl rfl) rfl ?_ | refine wpList_val (run_or8 rfl rfl rfl) rfl ?_ | refine wpList_val (run_add8 rfl rfl rfl) rfl ?_ | refine wpList_val (run_not8 rfl rfl) rfl ?_ | refine wpList_val (run_cv64_32 rfl rfl) rfl ?_ | refine wpList_val (run_cv8_32 rfl rfl) rfl ?_ | refine wpList_val (run_cv8_64 rfl rfl) rfl ?_ | refine wpList_val (run_cv32_8 rfl rfl) rfl ?_ | refine wpList_val (run_cv64_8 rfl rfl) rfl ?_); (try simp only [Act.put, List.setIfInBounds_toArray, List.set_cons_zero, List.set_cons_succ])))
      refine wpList_end ?_
      go_wp2_with fail
      go_loopw [9] (fun s u => ∃ (k : Nat) (m : List Nat), k ≤ 32 ∧ s = .int .i64 (k : Int) ∧ MdI A B C i (i + 1) k m ∧ Mv w [(g5, m.map iN), (g4, z8 32), (g3, c.map b8), (g2, b.map b8), (g1, a.map b8)] u) (fun s _ => (32 - intOf s).toNat)
      case atStart => exact ⟨0, n1, by omega, rfl, HN.out, hM.out⟩
      case round =>
        obtain ⟨k, m, hk, rfl, hMd, hJ⟩ := hrel
        replace hM := Lib.hid hJ
        have HMd := Lib.hid hMd
        have hml := hMd.len
        have hle := hMd.le
        clear hJ hMd
        by_cases hlk : k = 32
        · subst hlk
          have hk2 : ¬ (((32 : Nat) : Int) < 32) := by omega
          obtain ⟨h1, h2⟩ := S3.out i m HMd.out (by omega)
          have H1 := Lib.hid h1
          have H2 := Lib.hid h2
          clear h1 h2 hle
          go_wp2_with fail
          exact ⟨⟨i + 1, m, by omega, by go_num, H1.out, H2.out, hM.out⟩, by simp [intOf]; omega⟩
        · have hk2 : (k : Int) < 32 := by omega
          have HN2 := Lib.hid (S2.out i (i + 1) k m HMd.out (by omega) (by omega))
          have hx := getD_le hle (i + k)
          clear hle
          have EA := Lib.hid (gA.out i (by omega))
          have EB := Lib.hid (gB.out k (by omega))
          have hai := GA.out i
          have hbk := GB.out k
          have HG : Hid (∀ V', Arr g5 (m.map iN) V' → V'.cell? ⟨g5, i + k, none⟩ = some (iN (m.getD (i + k) 0))) := Lib.hid fun V' h => h.c (i + k) _ (get_map iN 0 (by omega))
          have HGA : Hid (∀ V', Arr g1 (a.map b8) V' → V'.cell? ⟨g1, i, none⟩ = some (b8 (a.getD i 0))) := Lib.hid fun V' h => h.c i _ (get_map b8 0 (by omega))
          have HGB : Hid (∀ V', Arr g2 (b.map b8) V' → V'.cell? ⟨g2, k, none⟩ = some (b8 (b.getD k 0))) := Lib.hid fun V' h => h.c k _ (get_map b8 0 (by omega))
          generalize m.getD (i + k) 0 = x at *
          generalize a.getD i 0 = ai at *
          generalize b.getD k 0 = bk at *
          generalize A.getD i 0 = an at *
          generalize B.getD k 0 = bn' at *
          have hp : an * bn' ≤ 255 * 255 := Nat.mul_le_mul (by omega) (by omega)
          go_upto_region 9 with fail; refine wp_region_calm 17 (by kernel_rfl) (by kernel_rfl) ?_
          (repeat ((first | refine wpCalm_step _ (fun V hV => calm_run (run_mv (v := b32 _) rfl rfl)) ?_ | refine wpCalm_step _ (fun V hV => calm_run (run_mv (v := b64 _) rfl rfl)) ?_ | refine wpCalm_step _ (fun V hV => calm_run (run_mv (v := b8 _) rfl rfl)) ?_ | refine wpCalm_step _ (fun V hV => calm_run (run_mv (v := .int _ _) rfl rfl)) ?_ | refine wpCalm_step _ (fun V hV => calm_run (run_mv (v := .bool _) rfl rfl)) ?_ | refine wpCalm_step _ (fun V hV => calm_run (run_mv (v := .slice (some _) _ _) rfl rfl)) ?_ | refine wpCalm_step _ (fun V hV => calm_run (run_mv (v := .slice _ _ _) rfl rfl)) ?_ | refine wpCalm_step _ (fun V hV => calm_run (run_mv (v := .pointer (some _)) rfl rfl)) ?_ | refine wpCalm_step _ (fun V hV => calm_run (run_mv (v := .agg _) rfl rfl)) ?_ | refine wpCalm_step _ (fun V hV => calm_run (run_asg (v := b32 _) rfl rfl)) ?_ | refine wpCalm_step _ (fun V hV => calm_run (run_asg (v := b64 _) rfl rfl)) ?_ | refine wpCalm_step _ (fun V hV => calm_run (run_asg (v := b8 _) rfl rfl)) ?_ | refine wpCalm_step _ (fun V hV => calm_run (run_asg (v := .int _ _) rfl rfl)) ?_ | refine wpCalm_step _ (fun V hV => calm_run (run_asg (v := .bool _) rfl rfl)) ?_ | refine wpCalm_step _ (fun V hV => calm_run (run_asg (v := .slice (some _) _ _) rfl rfl)) ?_ | refine wpCalm_step _ (fun V hV => calm_run (run_asg (v := .slice _ _ _) rfl rfl)) ?_ | refine wpCalm_step _ (fun V hV => calm_run (run_asg (v := .pointer (some _)) rfl rfl)) ?_ | refine wpCalm_step _ (fun V hV => calm_run (run_asg (v := .agg _) rfl rfl)) ?_ | refine wpCalm_step _ (fun V hV => calm_run (run_mv rfl rfl)) ?_ | refine wpCalm_step _ (fun V hV => calm_run (run_asg rfl rfl)) ?_ | refine wpCalm_step _ (fun V hV => calm_run (run_xor32 rfl rfl rfl)) ?_ | refine wpCalm_step _ (fun V hV => calm_run (run_and32 rfl rfl rfl)) ?_ | refine wpCalm_step _ (fun V hV => calm_run (run_or32 rfl rfl rfl)) ?_ | refine wpCalm_step _ (fun V hV => calm_run (run_add32 rfl rfl rfl)) ?_ | refine wpCalm_step _ (fun V hV => calm_run (run_not32 rfl rfl)) ?_ | refine wpCalm_step _ (fun V hV => calm_run (run_xor64 rfl rfl rfl)) ?_ | refine wpCalm_step _ (fun V hV => calm_run (run_and64 rfl rfl rfl)) ?_ | refine wpCalm_step _ (fun V hV => calm_run (run_or64 rfl rfl rfl)) ?_ | refine wpCalm_step _ (fun V hV => calm_run (run_add64 rfl rfl rfl)) ?_ | refine wpCalm_step _ (fun V hV => calm_run (run_not64 rfl rfl)) ?_ | refine wpCalm_step _ (fun V hV => calm_run (run_xor8 rfl rfl rfl)) ?_ | refine wpCalm_step _ (fun V hV => calm_run (run_and8 rfl rfl rfl)) ?_ | refine wpCalm_step _ (fun V hV => calm_run (run_or8 rfl rfl rfl)) ?_ | refine wpCalm_step _ (fun V hV => calm_run (run_add8 rfl rfl rfl)) ?_ | refine wpCalm_step _ (fun V hV => calm_run (run_not8 rfl rfl)) ?_ | refine wpCalm_step _ (fun V hV => calm_run (run_cv64_32 rfl rfl)) ?_ | refine wpCalm_step _ (fun V hV => calm_run (run_cv8_32 rfl rfl)) ?_ | refine wpCalm_step _ (fun V hV => calm_run (run_cv8_64 rfl rfl)) ?_ | refine wpCalm_step _ (fun V hV => calm_run (run_cv32_8 rfl rfl)) ?_ | refine wpCalm_step _ (fun V hV => calm_run (run_cv64_8 rfl rfl)) ?_); (try simp only [Act.put, List.setIfInBounds_toArray, List.set_cons_zero, List.set_cons_succ])))
          refine wpCalm_step _ (fun V hV => calm_run (run_addN (a := i) (b := k) rfl rfl rfl (by omega))) ?_; (try simp only [Act.put, List.setIfInBounds_toArray, List.set_cons_zero, List.set_cons_succ])
          refine wpCalm_step _ (fun V hV => calm_run (run_ixs (i := i + k) rfl Tryd.underlying55 (by kernel_rfl) rfl rfl (by omega))) ?_; (try simp only [Act.put, List.setIfInBounds_toArray, List.set_cons_zero, List.set_cons_succ])
          refine wpCalm_step _ (fun V hV => calm_run (run_ldi rfl rfl (by rw [Nat.zero_add]; exact HG.out V ((hM.out.below hV).get (i := 0) rfl)))) ?_; (try simp only [Act.put, List.setIfInBounds_toArray, List.set_cons_zero, List.set_cons_succ])
          (repeat ((first | refine wpCalm_step _ (fun V hV => calm_run (run_mv (v := b32 _) rfl rfl)) ?_ | refine wpCalm_step _ (fun V hV => calm_run (run_mv (v := b64 _) rfl rfl)) ?_ | refine wpCalm_step _ (fun V hV => calm_run (run_mv (v := b8 _) rfl rfl)) ?_ | refine wpCalm_step _ (fun V hV => calm_run (run_mv (v := .int _ _) rfl rfl)) ?_ | refine wpCalm_step _ (fun V hV => calm_run (run_mv (v := .bool _) rfl rfl)) ?_ | refine wpCalm_step _ (fun V hV => calm_run (run_mv (v := .slice (some _) _ _) rfl rfl)) ?_ | refine wpCalm_step _ (fun V hV => calm_run (run_mv (v := .slice _ _ _) rfl rfl)) ?_ | refine wpCalm_step _ (fun V hV => calm_run (run_mv (v := .pointer (some _)) rfl rfl)) ?_ | refine wpCalm_step _ (fun V hV => calm_run (run_mv (v := .agg _) rfl rfl)) ?_ | refine wpCalm_step _ (fun V hV => calm_run (run_asg (v := b32 _) rfl rfl)) ?_ | refine wpCalm_step _ (fun V hV => calm_run (run_asg (v := b64 _) rfl rfl)) ?_ | refine wpCalm_step _ (fun V hV => calm_run (run_asg (v := b8 _) rfl rfl)) ?_ | refine wpCalm_step _ (fun V hV => calm_run (run_asg (v := .int _ _) rfl rfl)) ?_ | refine wpCalm_step _ (fun V hV => calm_run (run_asg (v := .bool _) rfl rfl)) ?_ | refine wpCalm_step _ (fun V hV => calm_run (run_asg (v := .slice (some _) _ _) rfl rfl)) ?_ | refine wpCalm_step _ (fun V hV => calm_run (run_asg (v := .slice _ _ _) rfl rfl)) ?_ | refine wpCalm_step _ (fun V hV => calm_run (run_asg (v := .pointer (some _)) rfl rfl)) ?_ | refine wpCalm_step _ (fun V hV => calm_run (run_asg (v := .agg _) rfl rfl)) ?_ | refine wpCalm_step _ (fun V hV => calm_run (run_mv rfl rfl)) ?_ | refine wpCalm_step _ (fun V hV => calm_run (run_asg rfl rfl)) ?_ | refine wpCalm_step _ (fun V hV => calm_run (run_xor32 rfl rfl rfl)) ?_ | refine wpCalm_step _ (fun V hV => calm_run (run_and32 rfl rfl rfl)) ?_ | refine wpCalm_step _ (fun V hV => calm_run (run_or32 rfl rfl rfl)) ?_ | refine wpCalm_step _ (fun V hV => calm_run (run_add32 rfl rfl rfl)) ?_ | refine wpCalm_step _ (fun V hV => calm_run (run_not32 rfl rfl)) ?_ | refine wpCalm_step _ (fun V hV => calm_run (run_xor64 rfl rfl rfl)) ?_ | refine wpCalm_step _ (fun V hV => calm_run (run_and64 rfl rfl rfl)) ?_ | refine wpCalm_step _ (fun V hV => calm_run (run_or64 rfl rfl rfl)) ?_ | refine wpCalm_step _ (fun V hV => calm_run (run_add64 rfl rfl rfl)) ?_ | refine wpCalm_step _ (fun V hV => calm_run (run_not64 rfl rfl)) ?_ | refine wpCalm_step _ (fun V hV => calm_run (run_xor8 rfl rfl rfl)) ?_ | refine wpCalm_step _ (fun V hV => calm_run (run_and8 rfl rfl rfl)) ?_ | refine wpCalm_step _ (fun V hV => calm_run (run_or8 rfl rfl rfl)) ?_ | refine wpCalm_step _ (fun V hV => calm_run (run_add8 rfl rfl rfl)) ?_ | refine wpCalm_step _ (fun V hV => calm_run (run_not8 rfl rfl)) ?_ | refine wpCalm_step _ (fun V hV => calm_run (run_cv64_32 rfl rfl)) ?_ | refine wpCalm_step _ (fun V hV => calm_run (run_cv8_32 rfl rfl)) ?_ | refine wpCalm_step _ (fun V hV => calm_run (run_cv8_64 rfl rfl)) ?_ | refine wpCalm_step _ (fun V hV => calm_run (run_cv32_8 rfl rfl)) ?_ | refine wpCalm_step _ (fun V hV => calm_run (run_cv64_8 rfl rfl)) ?_); (try simp only [Act.put, List.setIfInBounds_toArray, List.set_cons_zero, List.set_cons_succ])))
          refine wpCalm_step _ (fun V hV => calm_run (run_ix0 (i := i) rfl Tryd.underlying24 (by kernel_rfl) rfl rfl (by omega))) ?_; (try simp only [Act.put, List.setIfInBounds_toArray, List.set_cons_zero, List.set_cons_succ])
          refine wpCalm_step _ (fun V hV => calm_run (run_ld8 rfl rfl (HGA.out V ((hM.out.below hV).get (i := 4) rfl)))) ?_; (try simp only [Act.put, List.setIfInBounds_toArray, List.set_cons_zero, List.set_cons_succ])
          refine wpCalm_step _ (fun V hV => calm_run (run_cv8i rfl rfl)) ?_; (try simp only [Act.put, List.setIfInBounds_toArray, List.set_cons_zero, List.set_cons_succ])
          (repeat ((first | refine wpCalm_step _ (fun V hV => calm_run (run_mv (v := b32 _) rfl rfl)) ?_ | refine wpCalm_step _ (fun V hV => calm_run (run_mv (v := b64 _) rfl rfl)) ?_ | refine wpCalm_step _ (fun V hV => calm_run (run_mv (v := b8 _) rfl rfl)) ?_ | refine wpCalm_step _ (fun V hV => calm_run (run_mv (v := .int _ _) rfl rfl)) ?_ | refine wpCalm_step _ (fun V hV => calm_run (run_mv (v := .bool _) rfl rfl)) ?_ | refine wpCalm_step _ (fun V hV => calm_run (run_mv (v := .slice (some _) _ _) rfl rfl)) ?_ | refine wpCalm_step _ (fun V hV => calm_run (run_mv (v := .slice _ _ _) rfl rfl)) ?_ | refine wpCalm_step _ (fun V hV => calm_run (run_mv (v := .pointer (some _)) rfl rfl)) ?_ | refine wpCalm_step _ (fun V hV => calm_run (run_mv (v := .agg _) rfl rfl)) ?_ | refine wpCalm_step _ (fun V hV => calm_run (run_asg (v := b32 _) rfl rfl)) ?_ | refine wpCalm_step _ (fun V hV => calm_run (run_asg (v := b64 _) rfl rfl)) ?_ | refine wpCalm_step _ (fun V hV => calm_run (run_asg (v := b8 _) rfl rfl)) ?_ | refine wpCalm_step _ (fun V hV => calm_run (run_asg (v := .int _ _) rfl rfl)) ?_ | refine wpCalm_step _ (fun V hV => calm_run (run_asg (v := .bool _) rfl rfl)) ?_ | refine wpCalm_step _ (fun V hV => calm_run (run_asg (v := .slice (some _) _ _) rfl rfl)) ?_ | refine wpCalm_step _ (fun V hV => calm_run (run_asg (v := .slice _ _ _) rfl rfl)) ?_ | refine wpCalm_step _ (fun V hV => calm_run (run_asg (v := .pointer (some _)) rfl rfl)) ?_ | refine wpCalm_step _ (fun V hV => calm_run (run_asg (v := .agg _) rfl rfl)) ?_ | refine wpCalm_step _ (fun V hV => calm_run (run_mv rfl rfl)) ?_ | refine wpCalm_step _ (fun V hV => calm_run (run_asg rfl rfl)) ?_ | refine wpCalm_step _ (fun V hV => calm_run (run_xor32 rfl rfl rfl)) ?_ | refine wpCalm_step _ (fun V hV => calm_run (run_and32 rfl rfl rfl)) ?_ | refine wpCalm_step _ (fun V hV => calm_run (run_or32 rfl rfl rfl)) ?_ | refine wpCalm_step _ (fun V hV => calm_run (run_add32 rfl rfl rfl)) ?_ | refine wpCalm_step _ (fun V hV => calm_run (run_not32 rfl rfl)) ?_ | refine wpCalm_step _ (fun V hV => calm_run (run_xor64 rfl rfl rfl)) ?_ | refine wpCalm_step _ (fun V hV => calm_run (run_and64 rfl rfl rfl)) ?_ | refine wpCalm_step _ (fun V hV => calm_run (run_or64 rfl rfl rfl)) ?_ | refine wpCalm_step _ (fun V hV => calm_run (run_add64 rfl rfl rfl)) ?_ | refine wpCalm_step _ (fun V hV => calm_run (run_not64 rfl rfl)) ?_ | refine wpCalm_step _ (fun V hV => calm_run (run_xor8 rfl rfl rfl)) ?_ | refine wpCalm_step _ (fun V hV => calm_run (run_and8 rfl rfl rfl)) ?_ | refine wpCalm_step _ (fun V hV => calm_run (run_or8 rfl rfl rfl)) ?_ | refine wpCalm_step _ (fun V hV => calm_run (run_add8 rfl rfl rfl)) ?_ | refine wpCalm_step _ (fun V hV => calm_run (run_not8 rfl rfl)) ?_ | refine wpCalm_step _ (fun V hV => calm_run (run_cv64_32 rfl rfl)) ?_ | refine wpCalm_step _ (fun V hV => calm_run (run_cv8_32 rfl rfl)) ?_ | refine wpCalm_step _ (fun V hV => calm_run (run_cv8_64 rfl rfl)) ?_ | refine wpCalm_step _ (fun V hV => calm_run (run_cv32_8 rfl rfl)) ?_ | refine wpCalm_step _ (fun V hV => calm_run (run_cv64_8 rfl rfl)) ?_); (try simp only [Act.put, List.setIfInBounds_toArray, List.set_cons_zero, List.set_cons_succ])))
          refine wpCalm_step _ (fun V hV => calm_run (run_ix0 (i := k) rfl Tryd.underlying24 (by kernel_rfl) rfl rfl (by omega))) ?_; (try simp only [Act.put, List.setIfInBounds_toArray, List.set_cons_zero, List.set_cons_succ])
          refine wpCalm_step _ (fun V hV => calm_run (run_ld8 rfl rfl (HGB.out V ((hM.out.below hV).get (i := 3) rfl)))) ?_; (try simp only [Act.put, List.setIfInBounds_toArray, List.set_cons_zero, List.set_cons_succ])
          refine wpCalm_step _ (fun V hV => calm_run (run_cv8i rfl rfl)) ?_; (try simp only [Act.put, List.setIfInBounds_toArray, List.set_cons_zero, List.set_cons_succ])
          refine wpCalm_step _ (fun V hV => calm_run (run_mulN (a := ai.toNat) (b := bk.toNat) rfl rfl rfl (by rw [EA.out, EB.out]; omega))) ?_; (try simp only [Act.put, List.setIfInBounds_toArray, List.set_cons_zero, List.set_cons_succ])
          refine wpCalm_step _ (fun V hV => calm_run (run_addN (a := x) (b := ai.toNat * bk.toNat) rfl rfl rfl (by rw [EA.out, EB.out]; omega))) ?_; (try simp only [Act.put, List.setIfInBounds_toArray, List.set_cons_zero, List.set_cons_succ])
          refine wpCalm_step _ (fun V hV => calm_run (run_ixs (i := i + k) rfl Tryd.underlying55 (by kernel_rfl) rfl rfl (by omega))) ?_; (try simp only [Act.put, List.setIfInBounds_toArray, List.set_cons_zero, List.set_cons_succ])
          refine wpCalm_done ?_; intro b6 hb6; simp only [List.drop_succ_cons, List.drop_zero]
          replace hM := Lib.hid (hM.out.below hb6)
          clear hb6
          rw [EA.out, EB.out, Nat.zero_add]
          refine wpList_skip (run_stI (n := x + an * bn') rfl rfl rfl (HG.out _ (hM.out.get (i := 0) rfl)) ((hM.out.get (i := 0) rfl).f (i + k))) rfl rfl ?_
          refine wpList_end ?_
          replace hM : Hid (Mv w [(g5, (m.set (i + k) (x + an * bn')).map iN), (g4, z8 32), (g3, c.map b8), (g2, b.map b8), (g1, a.map b8)] (b6.setCell ⟨g5, i + k, none⟩ (iN (x + an * bn')))) := Lib.hid (by
            have h := hM.out.set 0 rfl (j := i + k) (by rw [List.length_map]; omega) (iN (x + an * bn'))
            rw [set_map] at h
            exact h)
          generalize b6.setCell ⟨g5, i + k, none⟩ (iN (x + an * bn')) = b7 at *
          generalize m.set (i + k) (x + an * bn') = m1 at *
          clear HG HGA HGB HMd hx hai hbk EA EB hp
          go_wp2_with fail
          exact ⟨⟨k + 1, m1, by omega, by go_num, HN2.out, hM.out⟩, by simp [intOf]; omega⟩
theorem enters_rmad : Enters 17 := enters_of Tryd.func17 (by kernel_rfl) rfl
end Go.Proofs.YtefaihdhnnldmaaDoor
