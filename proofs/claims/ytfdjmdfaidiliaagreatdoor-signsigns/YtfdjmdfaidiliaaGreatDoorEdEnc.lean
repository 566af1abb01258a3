import Derived.Test.YtfdjmdfaidiliaaGreatDoorBytes
import Derived.Test.YtfdjmdfaidiliaaGreatDoorOf
import Derived.Test.YtfdjmdfaidiliaaGreatDoorEdEq
import Derived.Test.YtfdjmdfaidiliaaGreatDoorEqKeyB
import Derived.Test.YtfdjmdfaidiliaaGreatDoorRootMath
import Derived.Test.YtfdjmdfaidiliaaGreatDoorLy
import Derived.Test.YtfdjmdfaidiliaaGreatDoorLateG
namespace Go.Proofs.YtfdjmdfaidiliaaGreatDoor
open Go.RowKit
set_option maxRecDepth 20000
end Go.Proofs.YtfdjmdfaidiliaaGreatDoor
namespace Go.Proofs.YtfdjmdfaidiliaaGreatDoor
open Go.RowKit
set_option maxRecDepth 20000
def toI (l : List (BitVec 8)) : List Int := l.map fun b => (b.toNat : Int)
theorem kV_toI (l : List (BitVec 8)) : kV (toI l) = .agg (l.map b8).toArray := by
  unfold kV toI
  rw [List.map_map]
  rfl
theorem toI_len (l : List (BitVec 8)) : (toI l).length = l.length := List.length_map _
theorem toI_bytes (l : List (BitVec 8)) : Bytes8 (toI l) := fun b hb => by
  unfold toI at hb
  rw [List.mem_map] at hb
  obtain ⟨x, _, rfl⟩ := hb
  have := x.isLt
  omega
theorem le_toI : ∀ l : List (BitVec 8), le (toI l) = (leB l : Int)
  | [] => rfl
  | b :: l => by
    show le ((b.toNat : Int) :: toI l) = _
    rw [le, le_toI l, leB]
    omega
theorem skD_range (n : Nat) : ∀ k, skD n k = (List.range k).map fun i => n / 256 ^ i % 256 := fun k => by
  induction k generalizing n with
  | zero => rfl
  | succ k ih =>
    rw [skD, ih, List.range_succ_eq_map, List.map_cons, List.map_map, Nat.pow_zero, Nat.div_one]
    congr 1
    refine List.map_congr_left fun i _ => ?_
    show n / 256 / 256 ^ i % 256 = n / 256 ^ (i + 1) % 256
    rw [Nat.div_div_eq_div_mul, Nat.pow_succ, Nat.mul_comm 256]
theorem bzAll_sk (n : Nat) : bzAll (n : Int) = toI (sk n) := by
  have e : toI (sk n) = (skD n 32).map fun a : Nat => (a : Int) := by
    rw [← sk_nat n, List.map_map]; rfl
  rw [e, skD_range, List.map_map]
  unfold bzAll
  refine List.map_congr_left fun i _ => ?_
  unfold bz
  simp
theorem nat_mod (X : Int) : (((X % pp).toNat : Nat) : Int) = X % pp := Int.toNat_of_nonneg (qbp X).1
theorem bytesB_any (X : Int) (w : World) (hX : Num X) (hG : GCell 5 pp w) : Calls Tryz.prog 50 #[feV X] w fun e w' => e = .returned (.agg ((sk (X % pp).toNat).map b8).toArray) ∧ Below w.heap.size w w' := by
  have h := bytes_any X w hX hG
  rw [← nat_mod, bzAll_sk, kV_toI] at h
  exact h
def mskB (l : List (BitVec 8)) : List (BitVec 8) := l.set 31 (l.getD 31 0 &&& 127)
theorem mskB_len (l : List (BitVec 8)) : (mskB l).length = l.length := List.length_set
theorem and127 : ∀ b : BitVec 8, (b &&& 127).toNat = b.toNat % 128 := by decide +kernel
theorem leB_set {l : List (BitVec 8)} {i : Nat} (h : i < l.length) (b : BitVec 8) : leB (l.set i b) + 256 ^ i * (l.getD i 0).toNat = leB l + 256 ^ i * b.toNat := by
  have := dv_set (l.map (·.toNat)) i b.toNat (by rw [List.length_map]; exact h)
  rw [← List.map_set, ← leB_dv, ← leB_dv] at this
  have e : (l.map (·.toNat)).getD i 0 = (l.getD i 0).toNat := by
    rw [List.getD_eq_getElem?_getD, List.getD_eq_getElem?_getD, List.getElem?_map, List.getElem?_eq_getElem h]; rfl
  rwa [e] at this
theorem leB_top {l : List (BitVec 8)} (h : l.length = 32) : ∃ r, r < 256 ^ 31 ∧ leB l = r + 256 ^ 31 * (l.getD 31 0).toNat := by
  refine ⟨leB (l.set 31 0), ?_, ?_⟩
  · have h1 := leB_set (l := l) (i := 31) (by omega) 0
    have h2 : dv ((l.set 31 0).map (·.toNat)) = dv (((l.set 31 0).map (·.toNat)).take 31) + 256 ^ 31 * dv (((l.set 31 0).map (·.toNat)).drop 31) := dv_split _ 31 (by rw [List.length_map, List.length_set]; omega)
    have h3 : ((l.set 31 0).map (·.toNat)).drop 31 = [0] := by
      rw [← List.map_drop, List.drop_set, if_neg (by omega)]
      have : (l.drop 31).length = 1 := by rw [List.length_drop]; omega
      match hm : l.drop 31, this with
      | [x], _ => rfl
    rw [leB_dv, h2, h3]
    have h4 := dv_lt _ ((dg_bytes (l.set 31 0)).take 31)
    rw [List.length_take, List.length_map, List.length_set, Nat.min_eq_left (by omega)] at h4
    simpa [dv] using h4
  · have h1 := leB_set (l := l) (i := 31) (by omega) 0
    rw [show (0 : BitVec 8).toNat = 0 from rfl, Nat.mul_zero, Nat.add_zero] at h1
    exact h1.symm
theorem msk_num {l : List (BitVec 8)} (h : l.length = 32) : leB (mskB l) = leB l % 2 ^ 255 := by
  obtain ⟨r, hr, e⟩ := leB_top h
  have h1 := leB_set (l := l) (i := 31) (by omega) (l.getD 31 0 &&& 127)
  rw [and127] at h1
  unfold mskB
  have hp : (2 : Nat) ^ 255 = 256 ^ 31 * 128 := by decide +kernel
  rw [e] at h1 ⊢
  rw [hp]
  generalize (l.getD 31 0).toNat = t at *
  generalize leB (l.set 31 (l.getD 31 0 &&& 127)) = D at *
  generalize (256 : Nat) ^ 31 = P at *
  have e2 : P * (128 * (t / 128) + t % 128) = P * t := by rw [Nat.div_add_mod]
  rw [Nat.mul_add, ← Nat.mul_assoc] at e2
  have hD : D = r + P * (t % 128) := by omega
  have h5 : P * (t % 128 + 1) ≤ P * 128 := Nat.mul_le_mul_left _ (Nat.mod_lt _ (by omega))
  rw [Nat.mul_add, Nat.mul_one] at h5
  have e6 : r + P * t = r + P * (t % 128) + P * 128 * (t / 128) := by omega
  rw [e6, Nat.add_mul_mod_self_left, Nat.mod_eq_of_lt (by omega)]
  exact hD
theorem mask_toI {l : List (BitVec 8)} (h : l.length = 32) : mask (toI l) = toI (mskB l) := by
  unfold mask mskB toI nth
  rw [List.map_set]
  congr 1
  rw [and127, List.getElem?_map, List.getElem?_eq_getElem (by omega), List.getD_eq_getElem?_getD, List.getElem?_eq_getElem (by omega)]
  simp
theorem ofB_any (l : List (BitVec 8)) (w : World) (hl : l.length = 32) (hG : GCell 5 pp w) : Calls Tryz.prog 48 #[.agg (l.map b8).toArray] w fun e w' => e = .returned (feV (((leB l % 2 ^ 255 : Nat) : Int) % pp)) ∧ Below w.heap.size w w' := by
  have h := of_any (toI l) w (by rw [toI_len, hl]) (toI_bytes l) hG
  rw [kV_toI, mask_toI hl, le_toI, msk_num hl] at h
  exact h
theorem near_v {u v x : Int} (h : E (v * (x * x)) u) : E (v * (qbt u v * qbt u v)) (u * (x * v ^ 4) ^ (4 * rp.toNat + 2)) := by
  have hN : E (qbt u v) (v * (x * x) * v ^ 3 * (v * (x * x) * v ^ 7) ^ rp.toNat) :=
    (near_E u v).trans (E.mul (E.mul h.symm (E.rfl' _)) (E.pow (E.mul h.symm (E.rfl' _)) _))
  have e1 : v * (x * x) * v ^ 7 = (x * v ^ 4) ^ 2 := by grind
  rw [e1, ← Int.pow_mul] at hN
  refine ((E.rfl' v).mul (hN.mul hN)).trans (E.trans (E.of_eq ?_) (h.mul (E.rfl' _)))
  have e2 : 4 * rp.toNat + 2 = 2 * rp.toNat + 2 * rp.toNat + 2 := by omega
  rw [e2, Int.pow_add, Int.pow_add]
  generalize (x * v ^ 4) ^ (2 * rp.toNat) = s
  grind
theorem root_v {u v x : Int} (hv : ¬ Zr v) (h : E (v * (x * x)) u) : rootB u v = true ∧ (0 ≤ rootN u v ∧ rootN u v < pp) ∧ rootN u v % 2 = 0 ∧ E (rootN u v * rootN u v) (x * x) := by
  have hm := near_v h
  have hn : 0 ≤ qbt u v ∧ qbt u v < pp := by unfold qbt; exact qbp _
  have key : E (v * (qbt u v * qbt u v)) u ∨ E (v * (qbt u v * qbt u v)) (-u) := by
    by_cases hx : Zr x
    · left
      have h0 : Zr u := E.zr h.symm ((hx.mulr x).mulr v)
      have h1 : Zr (u * (x * v ^ 4) ^ (4 * rp.toNat + 2)) := by rw [Int.mul_comm]; exact h0.mulr _
      exact Eq.trans (E.zr hm h1) h0.symm
    · have ht : (x * v ^ 4) % pp ≠ 0 := fun h0 => by
        rcases no_zero h0 with h1 | h1
        · exact hx h1
        · exact hv (pow_zero_of 4 h1)
      rcases half_sign ht with hs | hs
      · left; exact hm.trans (((E.rfl' u).mul hs).trans (E.of_eq (Int.mul_one _)))
      · right; exact hm.trans (((E.rfl' u).mul hs).trans (E.of_eq (by rw [Int.mul_neg, Int.mul_one])))
  have canc : ∀ r : Int, E (v * (r * r)) (v * (x * x)) → E (r * r) (x * x) := fun r hr => by
    have h1 := Zr.of_E hr
    rw [show v * (r * r) - v * (x * x) = v * (r * r - x * x) by grind] at h1
    exact Zr.to_E (h1.or.resolve_left hv)
  unfold rootB rootN
  generalize qbt u v = N at *
  have eM : v * (N * N % pp) % pp = v * (N * N) % pp := mulmodr _ _
  rw [eM]
  by_cases h1 : v * (N * N) % pp = u % pp
  · rw [if_pos h1, beq_iff_eq.2 h1, Bool.true_or]
    obtain ⟨g0, g1, g2, g3⟩ := evn_facts hn.1 hn.2
    refine ⟨rfl, ⟨g0, g1⟩, g2, canc _ ?_⟩
    exact (((E.rfl' v).mul g3).trans h1).trans h.symm
  · have h2 : v * (N * N) % pp = -u % pp := key.resolve_left h1
    rw [if_neg h1, if_pos h2, beq_iff_eq.2 h2, Bool.or_true]
    have hi := qbp (N * (2 ^ mp.toNat % pp))
    obtain ⟨g0, g1, g2, g3⟩ := evn_facts hi.1 hi.2
    refine ⟨rfl, ⟨g0, g1⟩, g2, canc _ ?_⟩
    have k1 : E (evn (N * (2 ^ mp.toNat % pp) % pp) * evn (N * (2 ^ mp.toNat % pp) % pp)) (N * N * -1) := by
      refine g3.trans (((E.rest _).mul (E.rest _)).trans ((E.of_eq ?_).trans ((E.rfl' (N * N)).mul imag_E)))
      generalize (2 : Int) ^ mp.toNat % pp = i
      grind
    refine ((E.rfl' v).mul k1).trans ((E.of_eq (show v * (N * N * -1) = -(v * (N * N)) by grind)).trans ?_)
    have k2 : E (v * (N * N)) (-u) := h2
    exact (k2.neg.trans (E.of_eq (Int.neg_neg _))).trans h.symm
theorem sq_eq {a b : Int} (ha : 0 ≤ a ∧ a < pp) (hb : 0 ≤ b ∧ b < pp) (h : E (a * a) (b * b)) : a = b ∨ a + b = pp ∨ (a = 0 ∧ b = 0) := by
  have h1 := Zr.of_E h
  rw [show a * a - b * b = (a - b) * (a + b) by grind] at h1
  rcases h1.or with h2 | h2
  · left; exact eq_of_E ha hb (Zr.to_E h2)
  · have h3 : (a + b) % pp = 0 := h2
    have h4 := ha.1; have h5 := ha.2; have h6 := hb.1; have h7 := hb.2
    unfold pp at *
    omega
end Go.Proofs.YtfdjmdfaidiliaaGreatDoor
namespace Go.Proofs.YtfdjmdfaidiliaaGreatDoor
open Go.RowKit
set_option maxRecDepth 20000
def encN (p : Pt) : Nat := (p.y % pp).toNat + 2 ^ 255 * ((p.x % pp) % 2).toNat
theorem or_top : ∀ b : BitVec 8, b.toNat < 128 → ∀ c : BitVec 8, c.toNat < 2 → (b ||| (c <<< 7)).toNat = b.toNat + 128 * c.toNat := by decide +kernel
theorem y_top (X : Int) : (X % pp).toNat < 2 ^ 255 := by
  have h := qbp X
  have e : (2 : Nat) ^ 255 = 57896044618658097711785492504343953926634992332820282019728792003956564819968 := by decide +kernel
  rw [e]
  unfold pp at *
  omega
theorem top_lt {n : Nat} (h : n < 2 ^ 255) : ((sk n).getD 31 0).toNat < 128 := by
  obtain ⟨r, hr, e⟩ := leB_top (qcz n)
  have h2 : (2 : Nat) ^ 255 = 256 ^ 31 * 128 := by decide +kernel
  have h3 : (2 : Nat) ^ 255 < 256 ^ 32 := by decide +kernel
  rw [leB_sk, Nat.mod_eq_of_lt (by omega)] at e
  rcases Nat.lt_or_ge ((sk n).getD 31 0).toNat 128 with h4 | h4
  · exact h4
  · have h5 : 256 ^ 31 * 128 ≤ 256 ^ 31 * ((sk n).getD 31 0).toNat := Nat.mul_le_mul_left _ h4
    omega
def encS (n : Nat) (c : BitVec 8) : List (BitVec 8) := (sk n).set 31 ((sk n).getD 31 0 ||| (c <<< 7))
theorem encS_sk {n : Nat} (h : n < 2 ^ 255) {c : BitVec 8} (hc : c.toNat < 2) : encS n c = sk (n + 2 ^ 255 * c.toNat) := by
  have h1 := leB_set (l := sk n) (i := 31) (by rw [qcz]; omega) ((sk n).getD 31 0 ||| (c <<< 7))
  rw [or_top _ (top_lt h) c hc, leB_sk] at h1
  have h2 : (2 : Nat) ^ 255 = 256 ^ 31 * 128 := by decide +kernel
  have h3 : (2 : Nat) ^ 255 + 2 ^ 255 ≤ 256 ^ 32 := by decide +kernel
  have h4 : 2 ^ 255 * c.toNat ≤ 2 ^ 255 * 1 := Nat.mul_le_mul_left _ (by omega)
  refine leB_inj (by unfold encS; rw [List.length_set, qcz, qcz]) ?_
  rw [leB_sk, Nat.mod_eq_of_lt (by omega)]
  unfold encS
  rw [Nat.mod_eq_of_lt (by omega), Nat.mul_add] at h1
  rw [h2, Nat.mul_assoc]
  omega
theorem bit_lt (X : Int) : (X % pp % 2).toNat < 2 := by omega
theorem encS_enc (p : Pt) : encS (p.y % pp).toNat (BitVec.ofNat 8 (p.x % pp % 2).toNat) = sk (encN p) := by
  have e : (BitVec.ofNat 8 (p.x % pp % 2).toNat).toNat = (p.x % pp % 2).toNat := by
    rw [BitVec.toNat_ofNat]; have := bit_lt p.x; omega
  rw [encS_sk (y_top p.y) (by rw [e]; exact bit_lt p.x), e]
  rfl
section
variable {w : World} {ρ : Operand → Value} {o : Oper} {t t' : TypeId} {x y : Operand}
theorem run_and1 {Z : Int} (ho : o.op = .binOp .and t x y t') (hx : ρ x = .int .u64 (w0 Z)) (hy : ρ y = .int .u64 1) : (execOp ρ o).run Tryz.prog w = .ok (.value (.int .u64 (Z % 2))) w := by
  obtain ⟨dst, op, type, pos, after, guard⟩ := o
  subst ho
  have e := odd_eq Z
  go_simp
theorem run_cvbit {Z : Int} (ho : o.op = .convert 45 5 x) (hx : ρ x = .int .u64 (Z % 2)) : (execOp ρ o).run Tryz.prog w = .ok (.value (b8 (BitVec.ofNat 8 (Z % 2).toNat))) w := by
  rw [run_cv ho Tryz.underlying45 Tryz.underlying5 hx]
  have e : IntKind.u8.wrap (Z % 2) = ((BitVec.ofNat 8 (Z % 2).toNat).toNat : Int) := by rw [wrap8, BitVec.toNat_ofNat]; omega
  rw [e]; rfl
theorem run_shl8q {k : IntKind} {a : BitVec 8} {n : Nat} (ho : o.op = .binOp .shl t x y t') (hx : ρ x = b8 a) (hy : ρ y = .int k (n : Int)) (hn : n ≤ 8) : (execOp ρ o).run Tryz.prog w = .ok (.value (b8 (a <<< n))) w := by
  obtain ⟨dst, op, type, pos, after, guard⟩ := o
  subst ho
  unfold b8 at *
  have e : IntKind.u8.wrap ((a.toNat : Int) * 2 ^ n) = (((a <<< n).toNat : Nat) : Int) := by
    rw [wrap8, BitVec.toNat_shiftLeft, Nat.shiftLeft_eq]; simp
  generalize (a <<< n).toNat = z at *
  have hn0 : (0 : Int) ≤ (n : Int) := by omega
  go_simp
  try exact e
end
theorem szKyB {l : List (BitVec 8)} (h : l.length = 32) : (Tryz.prog.info? 23).map (·.size) = some (l.map b8).length := by rw [List.length_map, h]; kernel_rfl
theorem one8B (l : List (BitVec 8)) : (l.map b8).toArray.all (·.oneCell') = true := one_map b8 (fun _ => rfl) l
theorem z8_k32 : (z8 32).length = 32 := by unfold z8; rw [List.length_map, List.length_replicate]
theorem isAgg_u64 : ∀ w, (isAgg 45).run Tryz.prog w = .ok false w := Tryz.isAgg45
set_option maxHeartbeats 8000000 in
theorem encode_any (p : Pt) (w : World) (hp : p.Nm) (hG : EG w) : Calls Tryz.prog 32 #[.agg (ptL p).toArray] w fun e w' => e = .returned (.agg ((sk (encN p)).map b8).toArray) ∧ Below w.heap.size w w' := by
  have hM := Lib.hid (Mv.nil w)
  have HG := Lib.hid hG; clear hG
  have HE := Lib.hid (encS_enc p)
  have CB : Hid (∀ u, EG u → Calls Tryz.prog 50 #[feV p.y] u fun e w' => e = .returned (.agg ((sk (p.y % pp).toNat).map b8).toArray) ∧ Below u.heap.size u w') := Lib.hid fun u hu => bytesB_any p.y u hp.2 hu.O
  have HS : Hid (encS (p.y % pp).toNat (BitVec.ofNat 8 (p.x % pp % 2).toNat) = (sk (p.y % pp).toNat).set 31 ((sk (p.y % pp).toNat).getD 31 0 ||| (BitVec.ofNat 8 (p.x % pp % 2).toNat <<< 7))) := Lib.hid rfl
  rw [HE.out] at HS
  have hyl := qcz (p.y % pp).toNat
  have hel := qcz (encN p)
  clear HE
  generalize sk (p.y % pp).toNat = yl at *
  generalize sk (encN p) = el at *
  generalize hZ : p.x % pp = Z at *
  have CX : Hid (∀ u, EG u → Calls Tryz.prog 60 #[feV p.x] u fun e w' => e = .returned (feV Z) ∧ Below u.heap.size u w') := Lib.hid fun u hu => by rw [← hZ]; exact canon_any p.x u hp.1 hu.O
  clear hZ
  have SY := Lib.hid (szKyB hyl)
  have SE := Lib.hid (szKyB hel)
  have LY : Hid ((yl.map b8).length = (z8 32).length) := Lib.hid (by rw [z8_k32, List.length_map, hyl])
  have LE : Hid ((el.map b8).length = (z8 32).length) := Lib.hid (by rw [z8_k32, List.length_map, hel])
  go_enter Tryz.func32, Tryz.ntmps32
  go_upto_region 0 with fail; refine wp_region_lit ?_
  refine qaa (qbf (vs := ptL p) rfl rfl) rfl ?_; (try simp only [Act.put, lyy]); replace hM := Lib.hid (hM.out.new (ptL p) 49); generalize w.alloc (.cells (ptL p).toArray 49) = a1 at *; generalize w.heap.size = g1 at *
  refine qaa (qar (vs := z8 32) rfl (by kernel_rfl)) rfl ?_; (try simp only [Act.put, lyy])
  replace hM := Lib.hid (hM.out.new (z8 32) 23)
  generalize a1.alloc (.cells (z8 32).toArray 23) = a2 at *
  generalize a1.heap.size = g2 at *
  refine qac ?_
  go_upto_region 1 with fail; refine wp_region_lit ?_
  refine qaa (qbh (s := 3) (k := 4) rfl Tryz.underlying49 rfl (by kernel_rfl) rfl rfl) rfl ?_; (try simp only [Act.put, lyy])
  refine qaa (qah (vs := feL p.y) rfl Tryz.underlying47 rfl (szFe _) rfl (pt_y (hM.out.get (i := 1) rfl))) rfl ?_; (try simp only [Act.put, lyy])
  refine qai (qaj enters_bytes rfl rfl rfl) rfl (CB.out _ (HG.out.below hM.out.bl)) (fun a3 hb => ?_); (try simp only [Act.put, lyy]); replace hM := Lib.hid (hM.out.below hb); clear hb
  refine qaa (qar (vs := z8 32) rfl (by kernel_rfl)) rfl ?_; (try simp only [Act.put, lyy])
  replace hM := Lib.hid (hM.out.new (z8 32) 23)
  generalize a3.alloc (.cells (z8 32).toArray 23) = a4 at *
  generalize a3.heap.size = g3 at *
  refine qae (qaq (vs := yl.map b8) rfl SY.out rfl rfl (one8B _) (by rw [LY.out]; exact (hM.out.get (i := 0) rfl).there)) rfl rfl ?_
  replace hM := Lib.hid (hM.out.put 0 rfl (m := yl.map b8) LY.out)
  generalize a4.setCells g3 0 (yl.map b8) = a5 at *
  refine qac ?_
  have HC : Hid ((yl.map b8)[31]? = some (b8 (yl.getD 31 0))) := Lib.hid (qa5 b8 0 (by omega))
  generalize yl.getD 31 0 = y31 at *
  go_upto_region 2 with fail; refine qau 11 (by kernel_rfl) (by kernel_rfl) ?_
  refine qab _ (fun V hV => qad (qay (i := 31) rfl Tryz.underlying23 (by kernel_rfl) rfl rfl (by omega))) ?_; (try simp only [Act.put, lyy])
  refine qab _ (fun V hV => qad (qby rfl rfl (((hM.out.below hV).get (i := 0) rfl).c 31 _ HC.out))) ?_; (try simp only [Act.put, lyy])
  refine qab _ (fun V hV => qad (qbh (s := 3) (k := 0) rfl Tryz.underlying49 rfl (by kernel_rfl) rfl rfl)) ?_; (try simp only [Act.put, lyy])
  refine qab _ (fun V hV => qad (qah (vs := feL p.x) rfl Tryz.underlying47 rfl (szFe _) rfl (pt_x ((hM.out.below hV).get (i := 2) rfl)))) ?_; (try simp only [Act.put, lyy])
  refine qab _ (fun V hV => qak (qaj enters_canon rfl rfl rfl) (CX.out V (HG.out.below (hM.out.below hV).bl))) ?_; (try simp only [Act.put, lyy])
  refine qab _ (fun V hV => qad (run_ixv (i := 0) (vs := feL Z) (v := .int .u64 (w0 Z)) rfl Tryz.underlying47 (by kernel_rfl) (isAgg_u64 V) rfl rfl (by omega) rfl)) ?_; (try simp only [Act.put, lyy])
  refine qab _ (fun V hV => qad (run_and1 rfl rfl rfl)) ?_; (try simp only [Act.put, lyy])
  refine qab _ (fun V hV => qad (run_cvbit rfl rfl)) ?_; (try simp only [Act.put, lyy])
  refine qab _ (fun V hV => qad (run_shl8q (n := 7) rfl rfl rfl (by omega))) ?_; (try simp only [Act.put, lyy])
  refine qab _ (fun V hV => qad (run_or8 rfl rfl rfl)) ?_; (try simp only [Act.put, lyy])
  refine qab _ (fun V hV => qad (qay (i := 31) rfl Tryz.underlying23 (by kernel_rfl) rfl rfl (by omega))) ?_; (try simp only [Act.put, lyy])
  refine qav ?_; intro a6 hb; simp only [List.drop_succ_cons, List.drop_zero]
  replace hM := Lib.hid (hM.out.below hb)
  clear hb
  refine qae (qcl rfl rfl rfl ((hM.out.get (i := 0) rfl).c 31 _ HC.out) ((hM.out.get (i := 0) rfl).f 31)) rfl rfl ?_
  refine qac ?_
  have hM2 : Hid (Mv w [(g3, el.map b8), (g2, z8 32), (g1, ptL p)] (a6.setCell ⟨g3, 31, none⟩ (b8 (y31 ||| (BitVec.ofNat 8 (Z % 2).toNat <<< 7))))) := Lib.hid (by
    have h := hM.out.set 0 rfl (j := 31) (by rw [List.length_map]; omega) (b8 (y31 ||| (BitVec.ofNat 8 (Z % 2).toNat <<< 7)))
    rw [qbw, ← HS.out] at h
    exact h)
  generalize a6.setCell ⟨g3, 31, none⟩ (b8 (y31 ||| (BitVec.ofNat 8 (Z % 2).toNat <<< 7))) = a7 at *
  replace hM := hM2
  clear hM2 HC HS
  go_upto_region 3 with fail; refine wp_region_lit ?_
  refine qaa (qah (vs := el.map b8) rfl Tryz.underlying23 rfl SE.out rfl (hM.out.get (i := 0) rfl).range) rfl ?_; (try simp only [Act.put, lyy])
  refine qae (qaq (vs := el.map b8) rfl SE.out rfl rfl (one8B _) (by rw [LE.out]; exact (hM.out.get (i := 1) rfl).there)) rfl rfl ?_
  replace hM := Lib.hid (hM.out.put 1 rfl (m := el.map b8) LE.out)
  refine qac ?_; go_wp2_with fail; refine bodyPost_ret (v := .agg (el.map b8).toArray) (qat Tryz.results32 rfl Tryz.underlying23 rfl SE.out (hM.out.get (i := 1) rfl).range) rfl ⟨rfl, hM.out.bl⟩
theorem enters_encode : Enters 32 := qao Tryz.func32 (by kernel_rfl) rfl
end Go.Proofs.YtfdjmdfaidiliaaGreatDoor
