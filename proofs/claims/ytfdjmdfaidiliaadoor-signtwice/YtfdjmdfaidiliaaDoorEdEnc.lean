/- What edwards.Encode and evenPoint do. -/
import Derived.Test.YtfdjmdfaidiliaaDoorBytes
import Derived.Test.YtfdjmdfaidiliaaDoorOf
import Derived.Test.YtfdjmdfaidiliaaDoorEdEq
import Derived.Test.YtfdjmdfaidiliaaDoorEqKeyB
import Derived.Test.YtfdjmdfaidiliaaDoorRootMath
import Derived.Test.YtfdjmdfaidiliaaDoorLateG
namespace Go.Proofs.YtfdjmdfaidiliaaDoor
open Go.RowKit
set_option maxRecDepth 20000

theorem le_bzTo (Z : Int) (h0 : 0 ≤ Z) : ∀ k, k ≤ 32 → le ((bzAll Z).take k) = Z % 256 ^ k
  | 0, _ => by simp [le, Int.emod_one]
  | k + 1, hk => by
    rw [le_take_succ (by rw [bzAll_len]; omega), le_bzTo Z h0 k (by omega), bzAll_nth Z (by omega)]
    unfold bz
    obtain ⟨n, rfl⟩ := Int.eq_ofNat_of_zero_le h0
    have h := congrArg (Nat.cast : Nat → Int) (Nat.mod_mul (x := n) (a := 256 ^ k) (b := 256))
    rw [Int.pow_succ]
    simpa using h.symm
theorem le_bzAll {Z : Int} (h : Num Z) : le (bzAll Z) = Z := by
  have e := le_bzTo Z h.1 32 (Nat.le_refl _)
  rw [List.take_of_length_le (by rw [bzAll_len]; exact Nat.le_refl _), show (256 : Int) ^ 32 = 115792089237316195423570985008687907853269984665640564039457584007913129639936 by decide, Int.emod_eq_of_lt h.1 h.2] at e
  exact e
theorem mask_small {Z : Int} (h0 : 0 ≤ Z) (h1 : Z < pp) : mask (bzAll Z) = bzAll Z := by
  have hb : nth (bzAll Z) 31 % 128 = nth (bzAll Z) 31 := by
    rw [bzAll_nth Z (by omega)]; unfold bz pp at *
    rw [show (256 : Int) ^ 31 = 452312848583266388373324160190187140051835877600158453279131187530910662656 by decide]; omega
  unfold mask
  rw [hb]
  apply List.ext_getElem?
  intro i
  by_cases e : 31 = i
  · subst e; simp [nth, bzAll_len]
  · rw [List.getElem?_set_ne e]
end Go.Proofs.YtfdjmdfaidiliaaDoor
namespace Go.Proofs.YtfdjmdfaidiliaaDoor
open Go.RowKit
set_option maxRecDepth 20000

def toI (l : List (BitVec 8)) : List Int := l.map fun b => (b.toNat : Int)
theorem kV_toI (l : List (BitVec 8)) : kV (toI l) = .agg (l.map b8).toArray := by
  unfold kV toI
  rw [List.map_map]
  rfl
theorem toI_len (l : List (BitVec 8)) : (toI l).length = l.length := List.length_map _
theorem toI_bytes (l : List (BitVec 8)) : Bytes8 (toI l) := fun b hb => by
  unfold toI at hb
  rw [List.mem_map] at hb
  obtain ⟨x, _, rfl⟩ := hb
  have := x.isLt
  omega
theorem le_toI : ∀ l : List (BitVec 8), le (toI l) = (leB l : Int)
  | [] => rfl
  | b :: l => by
    show le ((b.toNat : Int) :: toI l) = _
    rw [le, le_toI l, leB]
    omega
theorem skD_range (n : Nat) : ∀ k, skD n k = (List.range k).map fun i => n / 256 ^ i % 256 := fun k => by
  induction k generalizing n with
  | zero => rfl
  | succ k ih =>
    rw [skD, ih, List.range_succ_eq_map, List.map_cons, List.map_map, Nat.pow_zero, Nat.div_one]
    congr 1
    refine List.map_congr_left fun i _ => ?_
    show n / 256 / 256 ^ i % 256 = n / 256 ^ (i + 1) % 256
    rw [Nat.div_div_eq_div_mul, Nat.pow_succ, Nat.mul_comm 256]
theorem bzAll_sk (n : Nat) : bzAll (n : Int) = toI (sk n) := by
  have e : toI (sk n) = (skD n 32).map fun a : Nat => (a : Int) := by
    rw [← sk_nat n, List.map_map]; rfl
  rw [e, skD_range, List.map_map]
  unfold bzAll
  refine List.map_congr_left fun i _ => ?_
  unfold bz
  simp
theorem nat_mod (X : Int) : (((X % pp).toNat : Nat) : Int) = X % pp := Int.toNat_of_nonneg (emod_pp_lt X).1
theorem bytesB_any (X : Int) (w : World) (hX : Num X) (hG : GCell 4 pp w) : Calls Tryd.prog 32 #[feV X] w fun e w' => e = .returned (.agg ((sk (X % pp).toNat).map b8).toArray) ∧ Below w.heap.size w w' := by
  have h := bytes_any X w hX hG
  rw [← nat_mod, bzAll_sk, kV_toI] at h
  exact h
/-- Without the highest bit. -/
def mskB (l : List (BitVec 8)) : List (BitVec 8) := l.set 31 (l.getD 31 0 &&& 127)
theorem mskB_len (l : List (BitVec 8)) : (mskB l).length = l.length := List.length_set
theorem and127 : ∀ b : BitVec 8, (b &&& 127).toNat = b.toNat % 128 := by decide +kernel
theorem leB_set {l : List (BitVec 8)} {i : Nat} (h : i < l.length) (b : BitVec 8) : leB (l.set i b) + 256 ^ i * (l.getD i 0).toNat = leB l + 256 ^ i * b.toNat := by
  have := dv_set (l.map (·.toNat)) i b.toNat (by rw [List.length_map]; exact h)
  rw [← List.map_set, ← leB_dv, ← leB_dv] at this
  have e : (l.map (·.toNat)).getD i 0 = (l.getD i 0).toNat := by
    rw [List.getD_eq_getElem?_getD, List.getD_eq_getElem?_getD, List.getElem?_map, List.getElem?_eq_getElem h]; rfl
  rwa [e] at this
theorem leB_top {l : List (BitVec 8)} (h : l.length = 32) : ∃ r, r < 256 ^ 31 ∧ leB l = r + 256 ^ 31 * (l.getD 31 0).toNat := by
  refine ⟨leB (l.set 31 0), ?_, ?_⟩
  · have h1 := leB_set (l := l) (i := 31) (by omega) 0
    have h2 : dv ((l.set 31 0).map (·.toNat)) = dv (((l.set 31 0).map (·.toNat)).take 31) + 256 ^ 31 * dv (((l.set 31 0).map (·.toNat)).drop 31) := dv_split _ 31 (by rw [List.length_map, List.length_set]; omega)
    have h3 : ((l.set 31 0).map (·.toNat)).drop 31 = [0] := by
      rw [← List.map_drop, List.drop_set, if_neg (by omega)]
      have : (l.drop 31).length = 1 := by rw [List.length_drop]; omega
      match hm : l.drop 31, this with
      | [x], _ => rfl
    rw [leB_dv, h2, h3]
    have h4 := dv_lt _ ((dg_bytes (l.set 31 0)).take 31)
    rw [List.length_take, List.length_map, List.length_set, Nat.min_eq_left (by omega)] at h4
    simpa [dv] using h4
  · have h1 := leB_set (l := l) (i := 31) (by omega) 0
    rw [show (0 : BitVec 8).toNat = 0 from rfl, Nat.mul_zero, Nat.add_zero] at h1
    exact h1.symm
theorem msk_num {l : List (BitVec 8)} (h : l.length = 32) : leB (mskB l) = leB l % 2 ^ 255 := by
  obtain ⟨r, hr, e⟩ := leB_top h
  have h1 := leB_set (l := l) (i := 31) (by omega) (l.getD 31 0 &&& 127)
  rw [and127] at h1
  unfold mskB
  have hp : (2 : Nat) ^ 255 = 256 ^ 31 * 128 := by decide +kernel
  rw [e] at h1 ⊢
  rw [hp]
  generalize (l.getD 31 0).toNat = t at *
  generalize leB (l.set 31 (l.getD 31 0 &&& 127)) = D at *
  generalize (256 : Nat) ^ 31 = P at *
  have e2 : P * (128 * (t / 128) + t % 128) = P * t := by rw [Nat.div_add_mod]
  rw [Nat.mul_add, ← Nat.mul_assoc] at e2
  have hD : D = r + P * (t % 128) := by omega
  have h5 : P * (t % 128 + 1) ≤ P * 128 := Nat.mul_le_mul_left _ (Nat.mod_lt _ (by omega))
  rw [Nat.mul_add, Nat.mul_one] at h5
  have e6 : r + P * t = r + P * (t % 128) + P * 128 * (t / 128) := by omega
  rw [e6, Nat.add_mul_mod_self_left, Nat.mod_eq_of_lt (by omega)]
  exact hD
theorem mask_toI {l : List (BitVec 8)} (h : l.length = 32) : mask (toI l) = toI (mskB l) := by
  unfold mask mskB toI nth
  rw [List.map_set]
  congr 1
  rw [and127, List.getElem?_map, List.getElem?_eq_getElem (by omega), List.getD_eq_getElem?_getD, List.getElem?_eq_getElem (by omega)]
  simp
theorem ofB_any (l : List (BitVec 8)) (w : World) (hl : l.length = 32) (hG : GCell 4 pp w) : Calls Tryd.prog 30 #[.agg (l.map b8).toArray] w fun e w' => e = .returned (feV (((leB l % 2 ^ 255 : Nat) : Int) % pp)) ∧ Below w.heap.size w w' := by
  have h := of_any (toI l) w (by rw [toI_len, hl]) (toI_bytes l) hG
  rw [kV_toI, mask_toI hl, le_toI, msk_num hl] at h
  exact h
/-- The root of a quotient, where there is one. -/
theorem near_v {u v x : Int} (h : E (v * (x * x)) u) : E (v * (nearOf u v * nearOf u v)) (u * (x * v ^ 4) ^ (4 * rp.toNat + 2)) := by
  have hN : E (nearOf u v) (v * (x * x) * v ^ 3 * (v * (x * x) * v ^ 7) ^ rp.toNat) :=
    (near_E u v).trans (E.mul (E.mul h.symm (E.rfl' _)) (E.pow (E.mul h.symm (E.rfl' _)) _))
  have e1 : v * (x * x) * v ^ 7 = (x * v ^ 4) ^ 2 := by grind
  rw [e1, ← Int.pow_mul] at hN
  refine ((E.rfl' v).mul (hN.mul hN)).trans (E.trans (E.of_eq ?_) (h.mul (E.rfl' _)))
  have e2 : 4 * rp.toNat + 2 = 2 * rp.toNat + 2 * rp.toNat + 2 := by omega
  rw [e2, Int.pow_add, Int.pow_add]
  generalize (x * v ^ 4) ^ (2 * rp.toNat) = s
  grind
theorem root_v {u v x : Int} (hv : ¬ Zr v) (h : E (v * (x * x)) u) : rootB u v = true ∧ (0 ≤ rootN u v ∧ rootN u v < pp) ∧ rootN u v % 2 = 0 ∧ E (rootN u v * rootN u v) (x * x) := by
  have hm := near_v h
  have hn : 0 ≤ nearOf u v ∧ nearOf u v < pp := by unfold nearOf; exact emod_pp_lt _
  have key : E (v * (nearOf u v * nearOf u v)) u ∨ E (v * (nearOf u v * nearOf u v)) (-u) := by
    by_cases hx : Zr x
    · left
      have h0 : Zr u := E.zr h.symm ((hx.mulr x).mulr v)
      have h1 : Zr (u * (x * v ^ 4) ^ (4 * rp.toNat + 2)) := by rw [Int.mul_comm]; exact h0.mulr _
      exact Eq.trans (E.zr hm h1) h0.symm
    · have ht : (x * v ^ 4) % pp ≠ 0 := fun h0 => by
        rcases no_zero h0 with h1 | h1
        · exact hx h1
        · exact hv (pow_zero_of 4 h1)
      rcases half_sign ht with hs | hs
      · left; exact hm.trans (((E.rfl' u).mul hs).trans (E.of_eq (Int.mul_one _)))
      · right; exact hm.trans (((E.rfl' u).mul hs).trans (E.of_eq (by rw [Int.mul_neg, Int.mul_one])))
  have canc : ∀ r : Int, E (v * (r * r)) (v * (x * x)) → E (r * r) (x * x) := fun r hr => by
    have h1 := Zr.of_E hr
    rw [show v * (r * r) - v * (x * x) = v * (r * r - x * x) by grind] at h1
    exact Zr.to_E (h1.or.resolve_left hv)
  unfold rootB rootN
  generalize nearOf u v = N at *
  have eM : v * (N * N % pp) % pp = v * (N * N) % pp := mulmodr _ _
  rw [eM]
  by_cases h1 : v * (N * N) % pp = u % pp
  · rw [if_pos h1, beq_iff_eq.2 h1, Bool.true_or]
    obtain ⟨g0, g1, g2, g3⟩ := evn_facts hn.1 hn.2
    refine ⟨rfl, ⟨g0, g1⟩, g2, canc _ ?_⟩
    exact (((E.rfl' v).mul g3).trans h1).trans h.symm
  · have h2 : v * (N * N) % pp = -u % pp := key.resolve_left h1
    rw [if_neg h1, if_pos h2, beq_iff_eq.2 h2, Bool.or_true]
    have hi := emod_pp_lt (N * (2 ^ mp.toNat % pp))
    obtain ⟨g0, g1, g2, g3⟩ := evn_facts hi.1 hi.2
    refine ⟨rfl, ⟨g0, g1⟩, g2, canc _ ?_⟩
    have k1 : E (evn (N * (2 ^ mp.toNat % pp) % pp) * evn (N * (2 ^ mp.toNat % pp) % pp)) (N * N * -1) := by
      refine g3.trans (((E.rest _).mul (E.rest _)).trans ((E.of_eq ?_).trans ((E.rfl' (N * N)).mul imag_E)))
      generalize (2 : Int) ^ mp.toNat % pp = i
      grind
    refine ((E.rfl' v).mul k1).trans ((E.of_eq (show v * (N * N * -1) = -(v * (N * N)) by grind)).trans ?_)
    have k2 : E (v * (N * N)) (-u) := h2
    exact (k2.neg.trans (E.of_eq (Int.neg_neg _))).trans h.symm
/-- Two numbers with one square: one is the other, or what makes nothing with it. -/
theorem sq_eq {a b : Int} (ha : 0 ≤ a ∧ a < pp) (hb : 0 ≤ b ∧ b < pp) (h : E (a * a) (b * b)) : a = b ∨ a + b = pp ∨ (a = 0 ∧ b = 0) := by
  have h1 := Zr.of_E h
  rw [show a * a - b * b = (a - b) * (a + b) by grind] at h1
  rcases h1.or with h2 | h2
  · left; exact eq_of_E ha hb (Zr.to_E h2)
  · have h3 : (a + b) % pp = 0 := h2
    have h4 := ha.1; have h5 := ha.2; have h6 := hb.1; have h7 := hb.2
    unfold pp at *
    omega
end Go.Proofs.YtfdjmdfaidiliaaDoor
namespace Go.Proofs.YtfdjmdfaidiliaaDoor
open Go.RowKit
set_option maxRecDepth 20000

/-- The number of a point's bytes. -/
def encN (p : Pt) : Nat := (p.y % pp).toNat + 2 ^ 255 * ((p.x % pp) % 2).toNat
theorem or_top : ∀ b : BitVec 8, b.toNat < 128 → ∀ c : BitVec 8, c.toNat < 2 → (b ||| (c <<< 7)).toNat = b.toNat + 128 * c.toNat := by decide +kernel
theorem y_top (X : Int) : (X % pp).toNat < 2 ^ 255 := by
  have h := emod_pp_lt X
  have e : (2 : Nat) ^ 255 = 57896044618658097711785492504343953926634992332820282019728792003956564819968 := by decide +kernel
  rw [e]
  unfold pp at *
  omega
theorem top_lt {n : Nat} (h : n < 2 ^ 255) : ((sk n).getD 31 0).toNat < 128 := by
  obtain ⟨r, hr, e⟩ := leB_top (sk_len n)
  have h2 : (2 : Nat) ^ 255 = 256 ^ 31 * 128 := by decide +kernel
  have h3 : (2 : Nat) ^ 255 < 256 ^ 32 := by decide +kernel
  rw [leB_sk, Nat.mod_eq_of_lt (by omega)] at e
  rcases Nat.lt_or_ge ((sk n).getD 31 0).toNat 128 with h4 | h4
  · exact h4
  · have h5 : 256 ^ 31 * 128 ≤ 256 ^ 31 * ((sk n).getD 31 0).toNat := Nat.mul_le_mul_left _ h4
    omega
def encS (n : Nat) (c : BitVec 8) : List (BitVec 8) := (sk n).set 31 ((sk n).getD 31 0 ||| (c <<< 7))
theorem encS_sk {n : Nat} (h : n < 2 ^ 255) {c : BitVec 8} (hc : c.toNat < 2) : encS n c = sk (n + 2 ^ 255 * c.toNat) := by
  have h1 := leB_set (l := sk n) (i := 31) (by rw [sk_len]; omega) ((sk n).getD 31 0 ||| (c <<< 7))
  rw [or_top _ (top_lt h) c hc, leB_sk] at h1
  have h2 : (2 : Nat) ^ 255 = 256 ^ 31 * 128 := by decide +kernel
  have h3 : (2 : Nat) ^ 255 + 2 ^ 255 ≤ 256 ^ 32 := by decide +kernel
  have h4 : 2 ^ 255 * c.toNat ≤ 2 ^ 255 * 1 := Nat.mul_le_mul_left _ (by omega)
  refine leB_inj (by unfold encS; rw [List.length_set, sk_len, sk_len]) ?_
  rw [leB_sk, Nat.mod_eq_of_lt (by omega)]
  unfold encS
  rw [Nat.mod_eq_of_lt (by omega), Nat.mul_add] at h1
  rw [h2, Nat.mul_assoc]
  omega
theorem bit_lt (X : Int) : (X % pp % 2).toNat < 2 := by omega
theorem encS_enc (p : Pt) : encS (p.y % pp).toNat (BitVec.ofNat 8 (p.x % pp % 2).toNat) = sk (encN p) := by
  have e : (BitVec.ofNat 8 (p.x % pp % 2).toNat).toNat = (p.x % pp % 2).toNat := by
    rw [BitVec.toNat_ofNat]; have := bit_lt p.x; omega
  rw [encS_sk (y_top p.y) (by rw [e]; exact bit_lt p.x), e]
  rfl
section
variable {w : World} {ρ : Operand → Value} {o : Oper} {t t' : TypeId} {x y : Operand}
theorem run_and1 {Z : Int} (ho : o.op = .binOp .and t x y t') (hx : ρ x = .int .u64 (w0 Z)) (hy : ρ y = .int .u64 1) : (execOp ρ o).run Tryd.prog w = .ok (.value (.int .u64 (Z % 2))) w := by
  obtain ⟨dst, op, type, pos, after, guard⟩ := o
  subst ho
  have e := odd_eq Z
  go_simp
theorem run_cvbit {Z : Int} (ho : o.op = .convert 29 5 x) (hx : ρ x = .int .u64 (Z % 2)) : (execOp ρ o).run Tryd.prog w = .ok (.value (b8 (BitVec.ofNat 8 (Z % 2).toNat))) w := by
  rw [run_cv ho Tryd.underlying29 Tryd.underlying5 hx]
  have e : IntKind.u8.wrap (Z % 2) = ((BitVec.ofNat 8 (Z % 2).toNat).toNat : Int) := by rw [wrap8, BitVec.toNat_ofNat]; omega
  rw [e]; rfl
theorem run_shl8q {k : IntKind} {a : BitVec 8} {n : Nat} (ho : o.op = .binOp .shl t x y t') (hx : ρ x = b8 a) (hy : ρ y = .int k (n : Int)) (hn : n ≤ 8) : (execOp ρ o).run Tryd.prog w = .ok (.value (b8 (a <<< n))) w := by
  obtain ⟨dst, op, type, pos, after, guard⟩ := o
  subst ho
  unfold b8 at *
  have e : IntKind.u8.wrap ((a.toNat : Int) * 2 ^ n) = (((a <<< n).toNat : Nat) : Int) := by
    rw [wrap8, BitVec.toNat_shiftLeft, Nat.shiftLeft_eq]; simp
  generalize (a <<< n).toNat = z at *
  have hn0 : (0 : Int) ≤ (n : Int) := by omega
  go_simp
  try exact e
end
theorem szKyB {l : List (BitVec 8)} (h : l.length = 32) : (Tryd.prog.info? 23).map (·.size) = some (l.map b8).length := by rw [List.length_map, h]; kernel_rfl
theorem one8B (l : List (BitVec 8)) : (l.map b8).toArray.all (·.oneCell') = true := one_map b8 (fun _ => rfl) l
theorem z8_k32 : (z8 32).length = 32 := by unfold z8; rw [List.length_map, List.length_replicate]
theorem isAgg_u64 : ∀ w, (isAgg 29).run Tryd.prog w = .ok false w := Tryd.isAgg29
set_option maxHeartbeats 8000000 in
theorem encode_any (p : Pt) (w : World) (hp : p.Nm) (hG : EG w) : Calls Tryd.prog 40 #[.agg (ptL p).toArray] w fun e w' => e = .returned (.agg ((sk (encN p)).map b8).toArray) ∧ Below w.heap.size w w' := by
  have hM := Lib.hid (Mv.nil w)
  have HG := Lib.hid hG; clear hG
  have HE := Lib.hid (encS_enc p)
  have CB : Hid (∀ u, EG u → Calls Tryd.prog 32 #[feV p.y] u fun e w' => e = .returned (.agg ((sk (p.y % pp).toNat).map b8).toArray) ∧ Below u.heap.size u w') := Lib.hid fun u hu => bytesB_any p.y u hp.2 hu.O
  have HS : Hid (encS (p.y % pp).toNat (BitVec.ofNat 8 (p.x % pp % 2).toNat) = (sk (p.y % pp).toNat).set 31 ((sk (p.y % pp).toNat).getD 31 0 ||| (BitVec.ofNat 8 (p.x % pp % 2).toNat <<< 7))) := Lib.hid rfl
  rw [HE.out] at HS
  have hyl := sk_len (p.y % pp).toNat
  have hel := sk_len (encN p)
  clear HE
  generalize sk (p.y % pp).toNat = yl at *
  generalize sk (encN p) = el at *
  generalize hZ : p.x % pp = Z at *
  have CX : Hid (∀ u, EG u → Calls Tryd.prog 56 #[feV p.x] u fun e w' => e = .returned (feV Z) ∧ Below u.heap.size u w') := Lib.hid fun u hu => by rw [← hZ]; exact canon_any p.x u hp.1 hu.O
  clear hZ
  have SY := Lib.hid (szKyB hyl)
  have SE := Lib.hid (szKyB hel)
  have LY : Hid ((yl.map b8).length = (z8 32).length) := Lib.hid (by rw [z8_k32, List.length_map, hyl])
  have LE : Hid ((el.map b8).length = (z8 32).length) := Lib.hid (by rw [z8_k32, List.length_map, hel])
  go_enter Tryd.func40, Tryd.ntmps40
  go_upto_region 0 with fail; refine wp_region_lit ?_
  refine wpList_val (run_boxL (vs := ptL p) rfl rfl) rfl ?_; (try simp only [Act.put, List.setIfInBounds_toArray, List.set_cons_zero, List.set_cons_succ]); replace hM := Lib.hid (hM.out.new (ptL p) 33); generalize w.alloc (.cells (ptL p).toArray 33) = a1 at *; generalize w.heap.size = g1 at *
  refine wpList_val (run_alc (vs := z8 32) rfl (by kernel_rfl)) rfl ?_; (try simp only [Act.put, List.setIfInBounds_toArray, List.set_cons_zero, List.set_cons_succ])
  replace hM := Lib.hid (hM.out.new (z8 32) 23)
  generalize a1.alloc (.cells (z8 32).toArray 23) = a2 at *
  generalize a1.heap.size = g2 at *
  refine wpList_end ?_
  go_upto_region 1 with fail; refine wp_region_lit ?_
  refine wpList_val (run_fad (s := 3) (k := 4) rfl Tryd.underlying33 rfl (by kernel_rfl) rfl rfl) rfl ?_; (try simp only [Act.put, List.setIfInBounds_toArray, List.set_cons_zero, List.set_cons_succ])
  refine wpList_val (run_ldM (vs := feL p.y) rfl Tryd.underlying31 rfl (szFe _) rfl (pt_y (hM.out.get (i := 1) rfl))) rfl ?_; (try simp only [Act.put, List.setIfInBounds_toArray, List.set_cons_zero, List.set_cons_succ])
  refine wpList_enter (run_call1 enters_bytes rfl rfl rfl) rfl (CB.out _ (HG.out.below hM.out.bl)) (fun a3 hb => ?_); (try simp only [Act.put, List.setIfInBounds_toArray, List.set_cons_zero, List.set_cons_succ]); replace hM := Lib.hid (hM.out.below hb); clear hb
  refine wpList_val (run_alc (vs := z8 32) rfl (by kernel_rfl)) rfl ?_; (try simp only [Act.put, List.setIfInBounds_toArray, List.set_cons_zero, List.set_cons_succ])
  replace hM := Lib.hid (hM.out.new (z8 32) 23)
  generalize a3.alloc (.cells (z8 32).toArray 23) = a4 at *
  generalize a3.heap.size = g3 at *
  refine wpList_skip (run_stM (vs := yl.map b8) rfl SY.out rfl rfl (one8B _) (by rw [LY.out]; exact (hM.out.get (i := 0) rfl).there)) rfl rfl ?_
  replace hM := Lib.hid (hM.out.put 0 rfl (m := yl.map b8) LY.out)
  generalize a4.setCells g3 0 (yl.map b8) = a5 at *
  refine wpList_end ?_
  have HC : Hid ((yl.map b8)[31]? = some (b8 (yl.getD 31 0))) := Lib.hid (get_map b8 0 (by omega))
  generalize yl.getD 31 0 = y31 at *
  go_upto_region 2 with fail; refine wp_region_calm 11 (by kernel_rfl) (by kernel_rfl) ?_
  refine wpCalm_step _ (fun V hV => calm_run (run_ix0 (i := 31) rfl Tryd.underlying23 (by kernel_rfl) rfl rfl (by omega))) ?_; (try simp only [Act.put, List.setIfInBounds_toArray, List.set_cons_zero, List.set_cons_succ])
  refine wpCalm_step _ (fun V hV => calm_run (run_ld8 rfl rfl (((hM.out.below hV).get (i := 0) rfl).c 31 _ HC.out))) ?_; (try simp only [Act.put, List.setIfInBounds_toArray, List.set_cons_zero, List.set_cons_succ])
  refine wpCalm_step _ (fun V hV => calm_run (run_fad (s := 3) (k := 0) rfl Tryd.underlying33 rfl (by kernel_rfl) rfl rfl)) ?_; (try simp only [Act.put, List.setIfInBounds_toArray, List.set_cons_zero, List.set_cons_succ])
  refine wpCalm_step _ (fun V hV => calm_run (run_ldM (vs := feL p.x) rfl Tryd.underlying31 rfl (szFe _) rfl (pt_x ((hM.out.below hV).get (i := 2) rfl)))) ?_; (try simp only [Act.put, List.setIfInBounds_toArray, List.set_cons_zero, List.set_cons_succ])
  refine wpCalm_step _ (fun V hV => calm_enter (run_call1 enters_canon rfl rfl rfl) (CX.out V (HG.out.below (hM.out.below hV).bl))) ?_; (try simp only [Act.put, List.setIfInBounds_toArray, List.set_cons_zero, List.set_cons_succ])
  refine wpCalm_step _ (fun V hV => calm_run (run_ixv (i := 0) (vs := feL Z) (v := .int .u64 (w0 Z)) rfl Tryd.underlying31 (by kernel_rfl) (isAgg_u64 V) rfl rfl (by omega) rfl)) ?_; (try simp only [Act.put, List.setIfInBounds_toArray, List.set_cons_zero, List.set_cons_succ])
  refine wpCalm_step _ (fun V hV => calm_run (run_and1 rfl rfl rfl)) ?_; (try simp only [Act.put, List.setIfInBounds_toArray, List.set_cons_zero, List.set_cons_succ])
  refine wpCalm_step _ (fun V hV => calm_run (run_cvbit rfl rfl)) ?_; (try simp only [Act.put, List.setIfInBounds_toArray, List.set_cons_zero, List.set_cons_succ])
  refine wpCalm_step _ (fun V hV => calm_run (run_shl8q (n := 7) rfl rfl rfl (by omega))) ?_; (try simp only [Act.put, List.setIfInBounds_toArray, List.set_cons_zero, List.set_cons_succ])
  refine wpCalm_step _ (fun V hV => calm_run (run_or8 rfl rfl rfl)) ?_; (try simp only [Act.put, List.setIfInBounds_toArray, List.set_cons_zero, List.set_cons_succ])
  refine wpCalm_step _ (fun V hV => calm_run (run_ix0 (i := 31) rfl Tryd.underlying23 (by kernel_rfl) rfl rfl (by omega))) ?_; (try simp only [Act.put, List.setIfInBounds_toArray, List.set_cons_zero, List.set_cons_succ])
  refine wpCalm_done ?_; intro a6 hb; simp only [List.drop_succ_cons, List.drop_zero]
  replace hM := Lib.hid (hM.out.below hb)
  clear hb
  refine wpList_skip (run_st8 rfl rfl rfl ((hM.out.get (i := 0) rfl).c 31 _ HC.out) ((hM.out.get (i := 0) rfl).f 31)) rfl rfl ?_
  refine wpList_end ?_
  have hM2 : Hid (Mv w [(g3, el.map b8), (g2, z8 32), (g1, ptL p)] (a6.setCell ⟨g3, 31, none⟩ (b8 (y31 ||| (BitVec.ofNat 8 (Z % 2).toNat <<< 7))))) := Lib.hid (by
    have h := hM.out.set 0 rfl (j := 31) (by rw [List.length_map]; omega) (b8 (y31 ||| (BitVec.ofNat 8 (Z % 2).toNat <<< 7)))
    rw [set_map, ← HS.out] at h
    exact h)
  generalize a6.setCell ⟨g3, 31, none⟩ (b8 (y31 ||| (BitVec.ofNat 8 (Z % 2).toNat <<< 7))) = a7 at *
  replace hM := hM2
  clear hM2 HC HS
  go_upto_region 3 with fail; refine wp_region_lit ?_
  refine wpList_val (run_ldM (vs := el.map b8) rfl Tryd.underlying23 rfl SE.out rfl (hM.out.get (i := 0) rfl).range) rfl ?_; (try simp only [Act.put, List.setIfInBounds_toArray, List.set_cons_zero, List.set_cons_succ])
  refine wpList_skip (run_stM (vs := el.map b8) rfl SE.out rfl rfl (one8B _) (by rw [LE.out]; exact (hM.out.get (i := 1) rfl).there)) rfl rfl ?_
  replace hM := Lib.hid (hM.out.put 1 rfl (m := el.map b8) LE.out)
  refine wpList_end ?_; go_wp2_with fail; refine bodyPost_ret (v := .agg (el.map b8).toArray) (results_rowB Tryd.results40 rfl Tryd.underlying23 rfl SE.out (hM.out.get (i := 1) rfl).range) rfl ⟨rfl, hM.out.bl⟩
theorem enters_encode : Enters 40 := enters_of Tryd.func40 (by kernel_rfl) rfl
end Go.Proofs.YtfdjmdfaidiliaaDoor
