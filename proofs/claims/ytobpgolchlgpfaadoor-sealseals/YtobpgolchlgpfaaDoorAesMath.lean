/- There and back: what is mixed, turned, boxed is taken back; the example. Nothing of the model. -/
import Derived.Test.YtobpgolchlgpfaaDoorAesDef
namespace Go.Proofs.YtobpgolchlgpfaaDoor
set_option maxRecDepth 20000

theorem xself (x y : BitVec 8) : x ^^^ (x ^^^ y) = y := by rw [← BitVec.xor_assoc, BitVec.xor_self, BitVec.zero_xor]
theorem xself' (x y : BitVec 8) : (y ^^^ x) ^^^ x = y := by rw [BitVec.xor_assoc, BitVec.xor_self, BitVec.xor_zero]
theorem xlc (x y z : BitVec 8) : x ^^^ (y ^^^ z) = y ^^^ (x ^^^ z) := by rw [← BitVec.xor_assoc, BitVec.xor_comm x y, BitVec.xor_assoc]
theorem dbl_as (x : BitVec 8) : dbl x = x <<< 1 ^^^ (if x.msb then 27 else 0) := by
  have : (x >>> 7) * 27 = (if x.msb then 27 else 0) := all8 (P := fun x => (x >>> 7) * 27 = (if x.msb then 27 else 0)) (by decide +kernel) x
  rw [dbl, this]
theorem dbl_xor (x y : BitVec 8) : dbl (x ^^^ y) = dbl x ^^^ dbl y := by
  rw [dbl_as, dbl_as, dbl_as, BitVec.shiftLeft_xor_distrib, BitVec.msb_xor]
  generalize x <<< 1 = p, y <<< 1 = q
  cases x.msb <;> cases y.msb
  · simp
  · simp [BitVec.xor_assoc]
  · show p ^^^ q ^^^ 27#8 = (p ^^^ 27#8) ^^^ (q ^^^ 0#8)
    rw [BitVec.xor_zero, BitVec.xor_assoc, BitVec.xor_assoc, BitVec.xor_comm q 27#8]
  · show p ^^^ q ^^^ 0#8 = (p ^^^ 27#8) ^^^ (q ^^^ 27#8)
    rw [BitVec.xor_zero, BitVec.xor_assoc, xlc 27#8 q 27#8, BitVec.xor_self, BitVec.xor_zero]
theorem tri_xor (x y : BitVec 8) : tri (x ^^^ y) = tri x ^^^ tri y := by
  unfold tri; rw [dbl_xor]; rw [BitVec.xor_assoc, BitVec.xor_assoc, xlc (dbl y) x y]
theorem getD4 (a b c d : BitVec 8) : [a, b, c, d].getD 0 0 = a ∧ [a, b, c, d].getD 1 0 = b ∧ [a, b, c, d].getD 2 0 = c ∧ [a, b, c, d].getD 3 0 = d := ⟨rfl, rfl, rfl, rfl⟩
theorem four {l : List (BitVec 8)} (h : l.length = 4) : ∃ a b c d, l = [a, b, c, d] := by
  match l, h with
  | [a, b, c, d], _ => exact ⟨a, b, c, d, rfl⟩
theorem mixW_four (a b c d : BitVec 8) : mixW [a, b, c, d] = [dbl a ^^^ tri b ^^^ c ^^^ d, dbl b ^^^ tri c ^^^ d ^^^ a, dbl c ^^^ tri d ^^^ a ^^^ b, dbl d ^^^ tri a ^^^ b ^^^ c] := rfl
theorem unmixW_four (a b c d : BitVec 8) : unmixW [a, b, c, d] = mixW [a ^^^ dbl (dbl (a ^^^ c)), b ^^^ dbl (dbl (b ^^^ d)), c ^^^ dbl (dbl (a ^^^ c)), d ^^^ dbl (dbl (b ^^^ d))] := rfl
/-- Sums of twelve bits. -/
theorem mix2c (a b c d : BitVec 8) : dbl (dbl a ^^^ tri b ^^^ c ^^^ d) ^^^ tri (dbl b ^^^ tri c ^^^ d ^^^ a) ^^^ (dbl c ^^^ tri d ^^^ a ^^^ b) ^^^ (dbl d ^^^ tri a ^^^ b ^^^ c) = a ^^^ dbl (dbl (a ^^^ c)) := by
  simp only [tri, dbl_xor]
  generalize dbl (dbl a) = a2
  generalize dbl (dbl b) = b2
  generalize dbl (dbl c) = c2
  generalize dbl (dbl d) = d2
  generalize dbl a = a1
  generalize dbl b = b1
  generalize dbl c = c1
  generalize dbl d = d1
  apply BitVec.eq_of_getLsbD_eq
  intro i _
  simp only [BitVec.getLsbD_xor]
  generalize a.getLsbD i = a, b.getLsbD i = b, c.getLsbD i = c, d.getLsbD i = d, a1.getLsbD i = a1, b1.getLsbD i = b1, c1.getLsbD i = c1, d1.getLsbD i = d1, a2.getLsbD i = a2, b2.getLsbD i = b2, c2.getLsbD i = c2, d2.getLsbD i = d2
  revert a b c d a1 b1 c1 d1 a2 b2 c2 d2
  decide +kernel
theorem mix2 (a b c d : BitVec 8) : mixW (mixW [a, b, c, d]) = [a ^^^ dbl (dbl (a ^^^ c)), b ^^^ dbl (dbl (b ^^^ d)), c ^^^ dbl (dbl (c ^^^ a)), d ^^^ dbl (dbl (d ^^^ b))] := by
  rw [mixW_four, mixW_four, mix2c a b c d, mix2c b c d a, mix2c c d a b, mix2c d a b c]
theorem unmixW_eq {w : List (BitVec 8)} (h : w.length = 4) : unmixW w = mixW (mixW (mixW w)) := by
  obtain ⟨a, b, c, d, rfl⟩ := four h
  rw [mix2, unmixW_four, BitVec.xor_comm c a, BitVec.xor_comm d b]
theorem m2c (a c : BitVec 8) : (a ^^^ dbl (dbl (a ^^^ c))) ^^^ dbl (dbl ((a ^^^ dbl (dbl (a ^^^ c))) ^^^ (c ^^^ dbl (dbl (c ^^^ a))))) = a := by
  have e : (a ^^^ dbl (dbl (a ^^^ c))) ^^^ (c ^^^ dbl (dbl (c ^^^ a))) = a ^^^ c := by
    rw [BitVec.xor_comm c a]
    generalize dbl (dbl (a ^^^ c)) = x
    rw [BitVec.xor_assoc, xlc x c x, BitVec.xor_self, BitVec.xor_zero]
  rw [e, xself']
theorem mix4 {w : List (BitVec 8)} (h : w.length = 4) : mixW (mixW (mixW (mixW w))) = w := by
  obtain ⟨a, b, c, d, rfl⟩ := four h
  rw [mix2 a b c d, mix2, m2c a c, m2c b d, m2c c a, m2c d b]
theorem unmix_mix {w : List (BitVec 8)} (h : w.length = 4) : unmixW (mixW w) = w := by rw [unmixW_eq (show (mixW w).length = 4 from tab_len _ _), mix4 h]
theorem mix_unmix {w : List (BitVec 8)} (h : w.length = 4) : mixW (unmixW w) = w := by rw [unmixW_eq h, mix4 h]
theorem mixW_len (w : List (BitVec 8)) : (mixW w).length = 4 := tab_len _ _
theorem unmixW_len (w : List (BitVec 8)) : (unmixW w).length = 4 := tab_len _ _
theorem col_len (b : List (BitVec 8)) (c : Nat) : (col b c).length = 4 := tab_len _ _
theorem colTab (f : List (BitVec 8) → List (BitVec 8)) (hf : ∀ w, (f w).length = 4) (b : List (BitVec 8)) {c : Nat} (hc : c < 4) : col (tab 16 fun i => (f (col b (i / 4))).getD (i % 4) 0) c = f (col b c) := by
  refine ext8 (by rw [col_len, hf]) fun k hk => ?_
  rw [col_len] at hk
  rw [col, tab_get _ hk, tab_get _ (by omega), show (4 * c + k) / 4 = c by omega, show (4 * c + k) % 4 = k by omega]
theorem col_get (b : List (BitVec 8)) {i : Nat} : (col b (i / 4)).getD (i % 4) 0 = b.getD i 0 := by
  rw [col, tab_get _ (by omega), show 4 * (i / 4) + i % 4 = i by omega]
theorem unmixB_mixB {b : List (BitVec 8)} (h : b.length = 16) : unmixB (mixB b) = b := by
  refine ext8 (by rw [unmixB, tab_len, h]) fun i hi => ?_
  rw [unmixB, tab_len] at hi
  rw [unmixB, tab_get _ hi, mixB, colTab mixW mixW_len b (by omega), unmix_mix (col_len _ _), col_get]
theorem mixB_unmixB {b : List (BitVec 8)} (h : b.length = 16) : mixB (unmixB b) = b := by
  refine ext8 (by rw [mixB, tab_len, h]) fun i hi => ?_
  rw [mixB, tab_len] at hi
  rw [mixB, tab_get _ hi, unmixB, colTab unmixW unmixW_len b (by omega), mix_unmix (col_len _ _), col_get]
theorem turnI_lt (n i : Nat) : turnI n i < 16 := by unfold turnI; omega
theorem turn13 : ∀ i, i < 16 → turnI 1 (turnI 3 i) = i ∧ turnI 3 (turnI 1 i) = i := by decide +kernel
theorem turnB_31 {b : List (BitVec 8)} (h : b.length = 16) : turnB 3 (turnB 1 b) = b := by
  refine ext8 (by rw [turnB, tab_len, h]) fun i hi => ?_
  rw [turnB, tab_len] at hi
  rw [turnB, tab_get _ hi, turnB, tab_get _ (turnI_lt _ _), (turn13 i hi).1]
theorem turnB_13 {b : List (BitVec 8)} (h : b.length = 16) : turnB 1 (turnB 3 b) = b := by
  refine ext8 (by rw [turnB, tab_len, h]) fun i hi => ?_
  rw [turnB, tab_len] at hi
  rw [turnB, tab_get _ hi, turnB, tab_get _ (turnI_lt _ _), (turn13 i hi).2]
theorem unboxB_boxB {b : List (BitVec 8)} (h : b.length = 16) : unboxB (boxB b) = b := by
  refine ext8 (by rw [unboxB, tab_len, h]) fun i hi => ?_
  rw [unboxB, tab_len] at hi
  rw [unboxB, tab_get _ hi, boxB, tab_get _ hi, ub_bx]
theorem boxB_unboxB {b : List (BitVec 8)} (h : b.length = 16) : boxB (unboxB b) = b := by
  refine ext8 (by rw [boxB, tab_len, h]) fun i hi => ?_
  rw [boxB, tab_len] at hi
  rw [boxB, tab_get _ hi, unboxB, tab_get _ hi, bx_ub]
theorem xorB_xorB {b : List (BitVec 8)} (k : List (BitVec 8)) (h : b.length = 16) : xorB (xorB b k) k = b := by
  refine ext8 (by rw [xorB_len, h]) fun i hi => ?_
  rw [xorB_len] at hi
  rw [xorB, tab_get _ hi, xorB, tab_get _ hi, xself']
theorem turnB_len (n : Nat) (b : List (BitVec 8)) : (turnB n b).length = 16 := tab_len _ _
theorem boxB_len (b : List (BitVec 8)) : (boxB b).length = 16 := tab_len _ _
theorem unboxB_len (b : List (BitVec 8)) : (unboxB b).length = 16 := tab_len _ _
theorem mixB_len (b : List (BitVec 8)) : (mixB b).length = 16 := tab_len _ _
theorem unmixB_len (b : List (BitVec 8)) : (unmixB b).length = 16 := tab_len _ _
/-- What is hidden is shown: behind n rounds taken back there is what was behind 14 - n. -/
theorem show_hide (w b : List (BitVec 8)) : ∀ n, n ≤ 14 → shoI w (hideB w b) n = hidI w b (14 - n)
  | 0, _ => rfl
  | n + 1, h => by
    have ih := show_hide w b n (by omega)
    obtain ⟨r, hr⟩ : ∃ r, 14 - n = r + 1 := ⟨13 - n, by omega⟩
    rw [shoI, ih, hr, show 14 - (n + 1) = r by omega, hidI]
    by_cases h1 : r + 1 < 14
    · rw [if_pos h1, if_pos h1, xorB_xorB _ (mixB_len _), unmixB_mixB (turnB_len _ _), turnB_31 (boxB_len _), unboxB_boxB (hidI_len _ _ _)]
    · rw [if_neg h1, if_neg h1, xorB_xorB _ (turnB_len _ _), turnB_31 (boxB_len _), unboxB_boxB (hidI_len _ _ _)]
theorem unblock_block (k : List (BitVec 8)) {b : List (BitVec 8)} (h : b.length = 16) : unblockB k (blockB k b) = b := by
  rw [unblockB, showB, blockB, show_hide _ _ 14 (Nat.le_refl _), hidI, xorB_xorB _ h]
theorem hide_show {w b : List (BitVec 8)} (h : b.length = 16) : ∀ n, n ≤ 14 → hidI w (showB w b) n = shoI w b (14 - n)
  | 0, _ => by rw [hidI, showB, xorB_xorB _ (shoI_len _ h _)]
  | n + 1, hn => by
    have ih := hide_show (w := w) h n (by omega)
    obtain ⟨m, hm⟩ : ∃ m, 14 - n = m + 1 := ⟨13 - n, by omega⟩
    rw [hidI, ih, hm, show 14 - (n + 1) = m by omega, shoI, show 14 - m = n + 1 by omega]
    by_cases h1 : n + 1 < 14
    · rw [if_pos h1, if_pos h1, boxB_unboxB (turnB_len _ _), turnB_13 (unmixB_len _), mixB_unmixB (xorB_len _ _), xorB_xorB _ (shoI_len _ h _)]
    · rw [if_neg h1, if_neg h1, boxB_unboxB (turnB_len _ _), turnB_13 (xorB_len _ _), xorB_xorB _ (shoI_len _ h _)]
theorem block_unblock (k : List (BitVec 8)) {b : List (BitVec 8)} (h : b.length = 16) : blockB k (unblockB k b) = b := by
  rw [blockB, hideB, unblockB, hide_show h 14 (Nat.le_refl _)]; rfl
theorem block_inj (k : List (BitVec 8)) {a b : List (BitVec 8)} (ha : a.length = 16) (hb : b.length = 16) (h : blockB k a = blockB k b) : a = b := by
  rw [← unblock_block k ha, h, unblock_block k hb]
theorem ctr_len (key first b : List (BitVec 8)) : (ctr key first b).length = b.length := tab_len _ _
theorem ctr_ctr (key first b : List (BitVec 8)) : ctr key first (ctr key first b) = b := by
  refine ext8 (by rw [ctr_len, ctr_len]) fun i hi => ?_
  rw [ctr_len, ctr_len] at hi
  rw [ctr, tab_get _ (by rw [ctr_len]; exact hi), ctrV, ctr, tab_get _ hi, ctrV, xself']
def exK : List (BitVec 8) := tab 32 fun i => BitVec.ofNat 8 i
def exB : List (BitVec 8) := tab 16 fun i => BitVec.ofNat 8 (17 * i)
set_option maxRecDepth 100000 in
theorem example1 : (blockB exK exB).getD 0 0 = 0x8e ∧ (blockB exK exB).getD 1 0 = 0xa2 ∧ (blockB exK exB).getD 2 0 = 0xb7 ∧ (blockB exK exB).getD 15 0 = 0x89 := by decide +kernel
end Go.Proofs.YtobpgolchlgpfaaDoor
