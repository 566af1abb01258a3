/- What the laws' own function known does. -/
import Derived.Test.YtobpgolchlgpfaaDoorSealDef
import Derived.Test.YtobpgolchlgpfaaDoorS5
import Derived.Lib.AppendZeros
namespace Go.Proofs.YtobpgolchlgpfaaDoor
open Go.RowKit
set_option maxRecDepth 20000

def kk6 : List (BitVec 8) := [1#8, 0#8, 0#8, 0#8, 0#8, 0#8, 0#8, 0#8, 0#8, 0#8, 0#8, 0#8, 0#8, 0#8, 0#8, 0#8, 0#8, 0#8, 0#8, 0#8, 0#8, 0#8, 0#8, 0#8, 0#8, 0#8, 0#8, 0#8, 0#8, 0#8, 0#8, 0#8]
def kx6 : List (BitVec 8) := [120#8]
def ky6 : List (BitVec 8) := [121#8]
def kab6 : List (BitVec 8) := [97#8, 98#8]
def kE6 : List (BitVec 8) := [60#8, 90#8, 83#8, 108#8, 49#8, 219#8, 129#8, 250#8, 106#8, 1#8, 223#8, 76#8, 54#8, 67#8, 27#8, 112#8, 185#8, 235#8, 127#8, 79#8, 17#8, 216#8, 167#8, 24#8, 200#8, 168#8, 186#8, 198#8, 104#8, 178#8, 139#8, 111#8]
def kM6 : List (BitVec 8) := [52#8, 62#8, 135#8, 146#8, 180#8, 24#8, 135#8, 187#8, 180#8, 26#8, 222#8, 171#8, 221#8, 172#8, 173#8, 133#8, 137#8, 119#8, 168#8, 45#8, 45#8, 61#8, 184#8, 95#8, 98#8, 198#8, 33#8, 52#8, 168#8, 191#8, 54#8, 3#8]
def kH6 : List (BitVec 8) := [74#8, 239#8]
def kP6 : List (BitVec 8) := [16#8, 36#8, 118#8, 235#8, 218#8, 236#8, 8#8, 123#8, 129#8, 0#8, 243#8, 61#8, 26#8, 18#8, 58#8, 106#8, 70#8, 196#8, 1#8, 61#8, 217#8, 14#8, 125#8, 165#8, 78#8, 179#8, 119#8, 149#8, 194#8, 84#8, 88#8, 153#8]
def kTx6 : List (BitVec 8) := [69#8, 39#8, 163#8, 166#8, 52#8, 46#8, 127#8, 161#8, 37#8, 32#8, 139#8, 242#8, 97#8, 39#8, 63#8, 40#8, 146#8, 129#8, 183#8, 66#8, 74#8, 223#8, 13#8, 83#8, 221#8, 214#8, 14#8, 218#8, 208#8, 231#8, 207#8, 245#8]
def kTy6 : List (BitVec 8) := [7#8, 42#8, 57#8, 12#8, 66#8, 136#8, 20#8, 252#8, 19#8, 58#8, 147#8, 20#8, 73#8, 193#8, 27#8, 236#8, 233#8, 154#8, 44#8, 145#8, 171#8, 49#8, 127#8, 174#8, 47#8, 200#8, 206#8, 193#8, 141#8, 161#8, 134#8, 16#8]
set_option maxRecDepth 100000 in
theorem kPrk : extract [] kk6 = kP6 := by decide +kernel
set_option maxRecDepth 100000 in
theorem kTwo : expand kP6 lblB 64 = kE6 ++ kM6 := by decide +kernel
set_option maxRecDepth 100000 in
theorem kHid : ctr kE6 (nonceB 2) kab6 = kH6 := by decide +kernel
set_option maxRecDepth 100000 in
theorem kTagx : tagB kM6 2 kx6 kH6 = kTx6 := by decide +kernel
set_option maxRecDepth 100000 in
theorem kTagy : tagB kM6 2 ky6 kH6 = kTy6 := by decide +kernel
theorem kEnc : encK kk6 = kE6 := by unfold encK twoB; rw [kPrk, kTwo]; rfl
theorem kBind : bindK kk6 = kM6 := by unfold bindK twoB; rw [kPrk, kTwo]; rfl
theorem kHidden : hidB kk6 2 kab6 = kH6 := by unfold hidB; rw [kEnc, kHid]
end Go.Proofs.YtobpgolchlgpfaaDoor
namespace Go.Proofs.YtobpgolchlgpfaaDoor
open Go.RowKit
set_option maxRecDepth 20000

theorem seal_take (k : List (BitVec 8)) (n : BitVec 64) (wi b : List (BitVec 8)) : (sealB k n wi b).take b.length = hidB k n b := by
  rw [← hid_len k n b]; exact List.take_left
theorem seal_drop (k : List (BitVec 8)) (n : BitVec 64) (wi b : List (BitVec 8)) : (sealB k n wi b).drop b.length = tagB (bindK k) n wi (hidB k n b) := by
  rw [← hid_len k n b]; exact List.drop_left
theorem open_sealB (k : List (BitVec 8)) (n : BitVec 64) (wi b : List (BitVec 8)) : openE k n wi (sealB k n wi b) = 0 ∧ openB k n wi (sealB k n wi b) = b := by
  have hl := seal_len k n wi b
  have e : (sealB k n wi b).length - 32 = b.length := by omega
  have ho : opensB k n wi (sealB k n wi b) := by unfold opensB; rw [e, seal_take, seal_drop]
  have h32 : ¬ (sealB k n wi b).length < 32 := by omega
  unfold openE openB
  rw [if_neg h32, if_neg h32, if_pos ho, if_pos ho, e, seal_take]
  exact ⟨rfl, ctr_ctr _ _ _⟩
theorem bent_sealB (k : List (BitVec 8)) (n : BitVec 64) (wi b x : List (BitVec 8)) (hx : x.length = b.length + 32) (h1 : x.take b.length = hidB k n b) (h2 : x.drop b.length ≠ tagB (bindK k) n wi (hidB k n b)) : openE k n wi x = 21 ∧ openB k n wi x = [] := by
  have e : x.length - 32 = b.length := by omega
  have ho : ¬ opensB k n wi x := by unfold opensB; rw [e, h1]; exact fun h => h2 h.symm
  have h32 : ¬ x.length < 32 := by omega
  unfold openE openB
  rw [if_neg h32, if_neg h32, if_neg ho, if_neg ho]
  exact ⟨rfl, rfl⟩
theorem short_openB (k : List (BitVec 8)) (n : BitVec 64) (wi x : List (BitVec 8)) (hx : x.length < 32) : openE k n wi x = 10 ∧ openB k n wi x = [] := by
  unfold openE openB
  rw [if_pos hx, if_pos hx]
  exact ⟨rfl, rfl⟩
/-- One byte of the last 32 another one. -/
theorem bent_at (k : List (BitVec 8)) (n : BitVec 64) (wi b : List (BitVec 8)) (a : Nat) (ha : a < 32) (v : BitVec 8) (hv : v ≠ 0) :
    openE k n wi ((sealB k n wi b).set (b.length + a) ((sealB k n wi b).getD (b.length + a) 0 ^^^ v)) = 21 ∧ openB k n wi ((sealB k n wi b).set (b.length + a) ((sealB k n wi b).getD (b.length + a) 0 ^^^ v)) = [] := by
  have hl := seal_len k n wi b
  have h1 : ((sealB k n wi b).set (b.length + a) ((sealB k n wi b).getD (b.length + a) 0 ^^^ v)).take b.length = hidB k n b := by
    rw [List.take_set, List.set_eq_of_length_le (by rw [List.length_take]; omega), seal_take]
  refine bent_sealB k n wi b _ (by rw [List.length_set, hl]) h1 fun h2 => ?_
  have e : (sealB k n wi b).set (b.length + a) ((sealB k n wi b).getD (b.length + a) 0 ^^^ v) = sealB k n wi b := by
    rw [← List.take_append_drop b.length ((sealB k n wi b).set (b.length + a) ((sealB k n wi b).getD (b.length + a) 0 ^^^ v)), h1, h2]; rfl
  have e2 := congrArg (fun l => l.getD (b.length + a) 0) e
  generalize sealB k n wi b = x at *
  have hlt : b.length + a < x.length := by omega
  simp only [List.getD_eq_getElem?_getD, List.getElem?_set_self hlt, Option.getD_some] at e2
  apply hv
  generalize x[b.length + a]?.getD 0 = y at *
  have := congrArg (y ^^^ ·) e2
  simpa [← BitVec.xor_assoc] using this
theorem known_open2 : openE kk6 2 ky6 (sealB kk6 2 kx6 kab6) = 21 ∧ openB kk6 2 ky6 (sealB kk6 2 kx6 kab6) = [] := by
  refine bent_sealB kk6 2 ky6 kab6 _ (seal_len _ _ _ _) (seal_take _ _ _ _) ?_
  rw [seal_drop, kBind, kHidden, kTagx, kTagy]
  decide
end Go.Proofs.YtobpgolchlgpfaaDoor
namespace Go.Proofs.YtobpgolchlgpfaaDoor
open Go.RowKit
set_option maxRecDepth 20000

set_option maxHeartbeats 2000000 in
theorem numberBytes_any (n : BitVec 64) (w : World) : Calls Tryd.prog 15 #[b64 n] w fun e w' => e = .returned (.agg ((nb n).map b8).toArray) ∧ Below w.heap.size w w' := by
  have hM := Lib.hid (Ms.nil w)
  obtain ⟨f, hf⟩ : ∃ f : Nat → BitVec 8, f = nbF n := ⟨_, rfl⟩
  have EF : Hid (∀ i, (n >>> (8 * (7 - i))).setWidth 8 = f i) := Lib.hid fun i => by rw [hf]; rfl
  have EX : Hid (nb n = tab 8 f) := Lib.hid (by rw [hf]; rfl)
  clear hf
  go_enter Tryd.func15, Tryd.ntmps15
  go_upto_region 0 with fail; refine wp_region_lit ?_
  refine wpList_val (run_alc (vs := z8 8) rfl (by kernel_rfl)) rfl ?_; (try simp only [Act.put, List.setIfInBounds_toArray, List.set_cons_zero, List.set_cons_succ]); replace hM := Lib.hid (hM.out.newZ 8 41); generalize w.alloc (.cells (z8 8).toArray 41) = a1 at *; generalize w.heap.size = g1 at *
  refine wpList_end ?_
  go_upto_region 1 with fail; refine wp_region_lit ?_
  refine wpList_val (run_alc (vs := z8 8) rfl (by kernel_rfl)) rfl ?_; (try simp only [Act.put, List.setIfInBounds_toArray, List.set_cons_zero, List.set_cons_succ]); replace hM := Lib.hid (hM.out.newZ 8 41); generalize a1.alloc (.cells (z8 8).toArray 41) = a2 at *; generalize a1.heap.size = g2 at *
  refine wpList_end ?_
  replace hM : Hid (Ms w [(g2, upd f (List.replicate 8 0) 0), (g1, List.replicate 8 0)] a2) := Lib.hid (by rw [upd_zero]; exact hM.out)
  go_wp2_with fail
  go_loopw [5] (fun s u => ∃ k : Nat, k ≤ 8 ∧ s = .int .i64 (k : Int) ∧ Ms w [(g2, upd f (List.replicate 8 0) k), (g1, List.replicate 8 0)] u) (fun s _ => (8 - intOf s).toNat)
  case atStart => exact ⟨0, by omega, rfl, hM.out⟩
  case round =>
    obtain ⟨k, hk, rfl, hJ⟩ := hrel
    replace hM := Lib.hid hJ
    clear hJ
    by_cases hlt : k = 8
    · subst hlt
      have hk1 : ¬ (((8 : Nat) : Int) < 8) := by omega
      rw [upd_all List.length_replicate] at hM
      have htl := tab_len 8 f
      generalize tab 8 f = r at *
      go_upto_region 7 with fail; refine wp_region_lit ?_; refine wpList_val (run_ldM (vs := (r).map b8) rfl Tryd.underlying41 rfl (sz sz8 htl) rfl (hM.out.get (i := 0) rfl).range) rfl ?_; (try simp only [Act.put, List.setIfInBounds_toArray, List.set_cons_zero, List.set_cons_succ]); refine wpList_skip (run_stA (vs := (r).map b8) rfl (sz sz8 htl) rfl rfl (oneB _) ((hM.out.get (i := 1) rfl).there8 (by rw [htl, List.length_replicate]))) rfl rfl ?_; refine wpList_end ?_; replace hM := Lib.hid (hM.out.put 1 rfl (m := r) (by rw [htl, List.length_replicate])); go_wp2_with fail; refine bodyPost_ret (v := .agg ((r).map b8).toArray) (results_rowB Tryd.results15 rfl Tryd.underlying41 rfl (sz sz8 htl) (hM.out.get (i := 1) rfl).range) rfl ⟨by rw [EX.out], hM.out.bl⟩
    · have hk1 : (k : Int) < 8 := by omega
      have hul := upd_len f (List.replicate 8 0) k
      rw [List.length_replicate] at hul
      go_upto_region 4 with fail; refine wp_region_lit ?_
      refine wpList_val (run_mv (v := .int _ _) rfl rfl) rfl ?_; (try simp only [Act.put, List.setIfInBounds_toArray, List.set_cons_zero, List.set_cons_succ]); refine wpList_val (run_asg (v := .int _ _) rfl rfl) rfl ?_; (try simp only [Act.put, List.setIfInBounds_toArray, List.set_cons_zero, List.set_cons_succ])
      refine wpList_end ?_
      go_upto_region 5 with fail; refine wp_region_lit ?_
      refine wpList_val (run_mv (v := .int _ _) rfl rfl) rfl ?_; (try simp only [Act.put, List.setIfInBounds_toArray, List.set_cons_zero, List.set_cons_succ]); refine wpList_val (run_mv (v := b64 _) rfl rfl) rfl ?_; (try simp only [Act.put, List.setIfInBounds_toArray, List.set_cons_zero, List.set_cons_succ]); refine wpList_val (run_mv (v := .int _ _) rfl rfl) rfl ?_; (try simp only [Act.put, List.setIfInBounds_toArray, List.set_cons_zero, List.set_cons_succ])
      refine wpList_val (run_subN (a := 7) rfl rfl rfl (by omega) (by omega)) rfl ?_; (try simp only [Act.put, List.setIfInBounds_toArray, List.set_cons_zero, List.set_cons_succ])
      refine wpList_val (run_mulN (a := 8) rfl rfl rfl (by omega)) rfl ?_; (try simp only [Act.put, List.setIfInBounds_toArray, List.set_cons_zero, List.set_cons_succ])
      refine wpList_val (run_shr64i rfl rfl rfl (by omega)) rfl ?_; (try simp only [Act.put, List.setIfInBounds_toArray, List.set_cons_zero, List.set_cons_succ])
      refine wpList_val (run_cv64_8 rfl rfl) rfl ?_; (try simp only [Act.put, List.setIfInBounds_toArray, List.set_cons_zero, List.set_cons_succ])
      rw [EF.out]
      refine wpList_val (run_ix0 rfl Tryd.underlying41 (by kernel_rfl) rfl rfl (by omega)) rfl ?_; (try simp only [Act.put, List.setIfInBounds_toArray, List.set_cons_zero, List.set_cons_succ])
      refine wpList_skip (run_st8 rfl rfl rfl ((hM.out.get (i := 0) rfl).get8 (by omega)) ((hM.out.get (i := 0) rfl).f _)) rfl rfl ?_
      refine wpList_end ?_
      replace hM : Hid (Ms w [(g2, upd f (List.replicate 8 0) (k + 1)), (g1, List.replicate 8 0)] (wr.setCell ⟨g2, k, none⟩ (b8 (f k)))) := Lib.hid (by rw [← upd_set (by rw [List.length_replicate]; omega)]; exact hM.out.set 0 rfl (by omega) _)
      generalize wr.setCell ⟨g2, k, none⟩ (b8 (f k)) = b4 at *
      go_wp2_with fail
      go_roundw
      case rel => exact ⟨k + 1, by omega, by go_num, hM.out⟩
      case measure => simp [intOf]; omega
theorem enters_numberBytes : Enters 15 := enters_of Tryd.func15 (by kernel_rfl) rfl
set_option maxHeartbeats 2000000 in
theorem nonce_any (n : BitVec 64) (w : World) : Calls Tryd.prog 8 #[b64 n] w fun e w' => e = .returned (.agg ((nonceB n).map b8).toArray) ∧ Below w.heap.size w w' := by
  have hM := Lib.hid (Ms.nil w)
  have hml := nb_len n
  have hrl := nonce_len n
  have ER : Hid (nb n ++ List.replicate 8 0 = nonceB n) := Lib.hid rfl
  have HN : Hid (∀ w, Calls Tryd.prog 15 #[b64 n] w fun e w' => e = .returned (.agg ((nb n).map b8).toArray) ∧ Below w.heap.size w w') := Lib.hid fun w => numberBytes_any n w
  generalize nonceB n = r at *
  generalize nb n = m at *
  go_enter Tryd.func8, Tryd.ntmps8
  go_upto_region 0 with fail; refine wp_region_lit ?_
  refine wpList_val (run_alc (vs := z8 16) rfl (by kernel_rfl)) rfl ?_; (try simp only [Act.put, List.setIfInBounds_toArray, List.set_cons_zero, List.set_cons_succ]); replace hM := Lib.hid (hM.out.newZ 16 23); generalize w.alloc (.cells (z8 16).toArray 23) = a1 at *; generalize w.heap.size = g1 at *
  refine wpList_end ?_
  go_upto_region 1 with fail; refine wp_region_lit ?_
  refine wpList_val (run_alc (vs := z8 16) rfl (by kernel_rfl)) rfl ?_; (try simp only [Act.put, List.setIfInBounds_toArray, List.set_cons_zero, List.set_cons_succ]); replace hM := Lib.hid (hM.out.newZ 16 23); generalize a1.alloc (.cells (z8 16).toArray 23) = a2 at *; generalize a1.heap.size = g2 at *
  refine wpList_end ?_
  go_upto_region 2 with fail; refine wp_region_lit ?_
  refine wpList_val (run_mv (v := b64 _) rfl rfl) rfl ?_; (try simp only [Act.put, List.setIfInBounds_toArray, List.set_cons_zero, List.set_cons_succ])
  refine wpList_enter (run_call1 enters_numberBytes rfl rfl rfl) rfl (HN.out _) (fun a3 hb => ?_); (try simp only [Act.put, List.setIfInBounds_toArray, List.set_cons_zero, List.set_cons_succ])
  replace hM := Lib.hid (hM.out.below hb)
  clear hb
  refine wpList_val (run_alc (vs := z8 8) rfl (by kernel_rfl)) rfl ?_; (try simp only [Act.put, List.setIfInBounds_toArray, List.set_cons_zero, List.set_cons_succ]); replace hM := Lib.hid (hM.out.newZ 8 41); generalize a3.alloc (.cells (z8 8).toArray 41) = a4 at *; generalize a3.heap.size = g3 at *
  refine wpList_skip (run_stA (vs := m.map b8) rfl (sz sz8 hml) rfl rfl (oneB _) ((hM.out.get (i := 0) rfl).there8 (by rw [hml, List.length_replicate]))) rfl rfl ?_
  refine wpList_end ?_
  replace hM : Hid (Ms w [(g3, m), (g2, List.replicate 16 0), (g1, List.replicate 16 0)] (a4.setCells g3 0 (m.map b8))) := Lib.hid (hM.out.put 0 rfl (m := m) (by rw [hml, List.length_replicate]))
  generalize a4.setCells g3 0 (m.map b8) = a5 at *
  go_upto_region 3 with fail; refine wp_region_calm 2 (by kernel_rfl) (by kernel_rfl) ?_
  refine wpCalm_step _ (fun V hV => calm_run (run_slA rfl Tryd.underlying23 (by kernel_rfl) rfl)) ?_; (try simp only [Act.put, List.setIfInBounds_toArray, List.set_cons_zero, List.set_cons_succ])
  refine wpCalm_step _ (fun V hV => calm_run (run_slA rfl Tryd.underlying41 (by kernel_rfl) rfl)) ?_; (try simp only [Act.put, List.setIfInBounds_toArray, List.set_cons_zero, List.set_cons_succ])
  refine wpCalm_done ?_; intro a6 hb; simp only [List.drop_succ_cons, List.drop_zero]
  replace hM := Lib.hid (hM.out.below hb)
  clear hb
  have S3 : Hid (Sl (.slice (some ⟨g3, 0, none⟩) 8 8) m a6) := Lib.hid (sl_own (hM.out.get (i := 0) rfl) hml)
  have ht : m.take 16 = m := List.take_of_length_le (by omega)
  refine wpList_val (run_cpyG (l := m) (m := (List.replicate 16 0).map b8) rfl rfl rfl S3.out (hM.out.get (i := 1) rfl) (by rw [ht, hml, List.length_map, List.length_replicate]; omega)) rfl ?_; (try simp only [Act.put, List.setIfInBounds_toArray, List.set_cons_zero, List.set_cons_succ])
  rw [ht]
  refine wpList_end ?_
  replace hM : Hid (Ms w [(g3, m), (g2, r), (g1, List.replicate 16 0)] (a6.setCells g2 0 (m.map b8))) := Lib.hid (by
    have := hM.out.mid 1 rfl (f := 0) (m := m) (by rw [hml, List.length_replicate]; omega)
    rw [List.take_zero, List.nil_append, hml, List.drop_replicate, ER.out] at this
    exact this)
  generalize a6.setCells g2 0 (m.map b8) = a7 at *
  clear S3
  go_upto_region 4 with fail; refine wp_region_lit ?_; refine wpList_val (run_ldM (vs := (r).map b8) rfl Tryd.underlying23 rfl (sz sz16 hrl) rfl (hM.out.get (i := 1) rfl).range) rfl ?_; (try simp only [Act.put, List.setIfInBounds_toArray, List.set_cons_zero, List.set_cons_succ]); refine wpList_skip (run_stA (vs := (r).map b8) rfl (sz sz16 hrl) rfl rfl (oneB _) ((hM.out.get (i := 2) rfl).there8 (by rw [hrl, List.length_replicate]))) rfl rfl ?_; refine wpList_end ?_; replace hM := Lib.hid (hM.out.put 2 rfl (m := r) (by rw [hrl, List.length_replicate])); go_wp2_with fail; refine bodyPost_ret (v := .agg ((r).map b8).toArray) (results_rowB Tryd.results8 rfl Tryd.underlying23 rfl (sz sz16 hrl) (hM.out.get (i := 2) rfl).range) rfl ⟨rfl, hM.out.bl⟩
theorem enters_nonce : Enters 8 := enters_of Tryd.func8 (by kernel_rfl) rfl
end Go.Proofs.YtobpgolchlgpfaaDoor
namespace Go.Proofs.YtobpgolchlgpfaaDoor
open Go.RowKit
set_option maxRecDepth 20000

/-- What stands while both keys are told: the keys' own row; two variables. -/
def TkS (w : World) (gk g1 g2 g3 : Nat) (B key : List (BitVec 8)) (V : World) : Prop := ∃ x y : List (BitVec 8), x.length = 32 ∧ y.length = 32 ∧ Ms w [(gk, B), (g3, y), (g2, x), (g1, key)] V
theorem enters_twoKeys : Enters 16 := enters_of Tryd.func16 (by kernel_rfl) rfl
set_option maxHeartbeats 4000000 in
theorem twoKeys_any (key : List (BitVec 8)) (w : World) (hK : key.length = 32) (hT : Tabs w) : Calls Tryd.prog 16 #[.agg (key.map b8).toArray] w fun e w' => e = .returned (.tuple #[.agg ((encK key).map b8).toArray, .agg ((bindK key).map b8).toArray]) ∧ Below w.heap.size w w' := by
  have hM := Lib.hid (Ms.nil w)
  have HT := Lib.hid hT; clear hT
  have hel := enc_len key
  have hbl := bind_len key
  have hBl := two_len key
  have E1 : Hid ((twoB key).take 32 = encK key) := Lib.hid rfl
  have E2 : Hid ((twoB key).drop 32 = bindK key) := Lib.hid rfl
  have HK : Hid (∀ (vb vi : Value) (u : World), Sl vb key u → Sl vi lblB u → Tabs u → Calls Tryd.prog 25 #[.slice none 0 0, vb, vi, .int .i64 2] u fun e w' => ∃ v', e = .returned v' ∧ ((∃ g, v' = .slice (some ⟨g, 0, none⟩) 2 2 ∧ u.heap.size ≤ g ∧ Arr g ((twoB key).map b8) w') ∧ Below u.heap.size u w')) := Lib.hid fun vb vi u h1 h2 h3 =>
    keys_new (.slice none 0 0) [] vb key vi lblB 2 u (sl_nil u) (by decide) h1 (by omega) h2 (by decide) (by omega) h3
  have hll : lblB.length = 12 := rfl
  generalize encK key = E at *
  generalize bindK key = D at *
  generalize twoB key = B at *
  go_enter Tryd.func16, Tryd.ntmps16
  go_upto_region 0 with fail; refine wp_region_lit ?_
  refine wpList_val (run_box rfl rfl) rfl ?_; (try simp only [Act.put, List.setIfInBounds_toArray, List.set_cons_zero, List.set_cons_succ]); replace hM := Lib.hid (hM.out.new (key) 29); generalize w.alloc (.cells ((key).map b8).toArray 29) = a1 at *; generalize w.heap.size = g1 at *
  refine wpList_val (run_alc (vs := z8 32) rfl (by kernel_rfl)) rfl ?_; (try simp only [Act.put, List.setIfInBounds_toArray, List.set_cons_zero, List.set_cons_succ]); replace hM := Lib.hid (hM.out.newZ 32 29); generalize a1.alloc (.cells (z8 32).toArray 29) = a2 at *; generalize a1.heap.size = g2 at *
  refine wpList_val (run_alc (vs := z8 32) rfl (by kernel_rfl)) rfl ?_; (try simp only [Act.put, List.setIfInBounds_toArray, List.set_cons_zero, List.set_cons_succ]); replace hM := Lib.hid (hM.out.newZ 32 29); generalize a2.alloc (.cells (z8 32).toArray 29) = a3 at *; generalize a2.heap.size = g3 at *
  refine wpList_end ?_
  go_upto_region 1 with fail; refine wp_region_lit ?_
  refine wpList_val (run_slA rfl Tryd.underlying29 (by kernel_rfl) rfl) rfl ?_; (try simp only [Act.put, List.setIfInBounds_toArray, List.set_cons_zero, List.set_cons_succ])
  refine wpList_val (run_bsl (cells := (lblB.map b8).toArray) (z := .int .u8 0) rfl Tryd.underlying30 (by kernel_rfl) (by omega) (by omega) (by kernel_rfl)) rfl ?_; (try simp only [Act.put, List.setIfInBounds_toArray, List.set_cons_zero, List.set_cons_succ])
  refine wpList_val (run_cvb rfl rfl) rfl ?_; (try simp only [Act.put, List.setIfInBounds_toArray, List.set_cons_zero, List.set_cons_succ])
  have hb : Below a3.heap.size a3 (a3.alloc (.cells (lblB.map b8).toArray 5 ((lblB.map b8).toArray.size, (lblB.map b8).toArray.size + 1))) := (Below.refl _ _).alloc (Nat.le_refl _) _
  have S2 : Hid (Sl (.slice (some ⟨a3.heap.size, 0, none⟩) 12 12) lblB (a3.alloc (.cells (lblB.map b8).toArray 5 ((lblB.map b8).toArray.size, (lblB.map b8).toArray.size + 1)))) := Lib.hid (row_const a3 lblB 12 _ hll)
  generalize a3.alloc (.cells (lblB.map b8).toArray 5 ((lblB.map b8).toArray.size, (lblB.map b8).toArray.size + 1)) = a4 at *
  replace hM := Lib.hid (hM.out.below hb)
  clear hb
  generalize a3.heap.size = g4 at *
  refine wpList_callR (run_call4 enters_keys rfl rfl rfl rfl rfl rfl) rfl (HK.out _ _ _ (sl_own (hM.out.get (i := 2) rfl) hK) S2.out (HT.out.below hM.out.bl)) (fun v9 a5 hR => ?_); (try simp only [Act.put, List.setIfInBounds_toArray, List.set_cons_zero, List.set_cons_succ])
  obtain ⟨⟨gk, rfl, hge, hA⟩, hb⟩ := hR
  replace hM := Lib.hid (hM.out.add hb hge hA)
  clear hb hge hA S2 HK
  refine wpList_val (run_asg (v := .slice (some _) _ _) rfl rfl) rfl ?_; (try simp only [Act.put, List.setIfInBounds_toArray, List.set_cons_zero, List.set_cons_succ])
  refine wpList_end ?_
  go_upto_region 2 with fail
  have HA1 : Hid (∀ V, TkS w gk g1 g2 g3 B key V → V.rangeAt gk (0 + 0 * 32) (E.map b8)) := Lib.hid fun V ⟨x, y, _, _, h⟩ => by
    have := rangeAt_take (k := 32) (h.get (i := 0) rfl).range
    rw [← List.map_take, E1.out] at this
    exact this
  have HA2 : Hid (∀ V, TkS w gk g1 g2 g3 B key V → V.rangeAt gk (0 + 1 * 32) (D.map b8)) := Lib.hid fun V ⟨x, y, _, _, h⟩ => by
    have := rangeAt_drop (k := 32) (h.get (i := 0) rfl).range
    rw [← List.map_drop, E2.out] at this
    exact this
  replace hM := Lib.hid (hM.out.below (Below.refl _ _).drew)
  have h0 : TkS w gk g1 g2 g3 B key a5.drew := ⟨_, _, List.length_replicate, List.length_replicate, hM.out⟩
  refine wp_region_noPanic ?_
  refine wp_region_late (S := fun _ V => TkS w gk g1 g2 g3 B key V) (by kernel_rfl) h0 (fun hS => ?_)
  generalize a5.drew = a6 at *
  refine wpAnyL_take 0 rfl rfl (by kernel_rfl) (by kernel_rfl) (by kernel_rfl) (fun _ _ _ h => h) rfl (fun V hV => run_mv (v := .slice (some _) _ _) rfl rfl) hS ?_; (try simp only [Act.put, List.setIfInBounds_toArray, List.set_cons_zero, List.set_cons_succ])
  refine wpAnyL_take 1 rfl rfl (by kernel_rfl) (by kernel_rfl) (by kernel_rfl) (fun _ _ _ h => h) rfl (fun V hV => run_ixK (i := 0) rfl rfl rfl (by omega)) hS ?_; (try simp only [Act.put, List.setIfInBounds_toArray, List.set_cons_zero, List.set_cons_succ])
  refine wpAnyL_take 2 rfl rfl (by kernel_rfl) (by kernel_rfl) (by kernel_rfl) (fun _ _ _ h => h) rfl (fun V hV => run_ldK (l := E) rfl hel rfl (HA1.out V hV)) hS ?_; (try simp only [Act.put, List.setIfInBounds_toArray, List.set_cons_zero, List.set_cons_succ])
  refine wpAnyL_take 3 rfl rfl (by kernel_rfl) (by kernel_rfl) (by kernel_rfl) (fun _ _ _ h => h) rfl (fun V hV => run_mv (v := .slice (some _) _ _) rfl rfl) hS ?_; (try simp only [Act.put, List.setIfInBounds_toArray, List.set_cons_zero, List.set_cons_succ])
  refine wpAnyL_take 4 rfl rfl (by kernel_rfl) (by kernel_rfl) (by kernel_rfl) (fun _ _ _ h => h) rfl (fun V hV => run_ixK (i := 1) rfl rfl rfl (by omega)) hS ?_; (try simp only [Act.put, List.setIfInBounds_toArray, List.set_cons_zero, List.set_cons_succ])
  refine wpAnyL_take 5 rfl rfl (by kernel_rfl) (by kernel_rfl) (by kernel_rfl) (fun _ _ _ h => h) rfl (fun V hV => run_ldK (l := D) rfl hbl rfl (HA2.out V hV)) hS ?_; (try simp only [Act.put, List.setIfInBounds_toArray, List.set_cons_zero, List.set_cons_succ])
  have hM2 := Lib.hid (hM.out.put 2 rfl (m := E) (by rw [hel, List.length_replicate]))
  refine wpAnyL_skip 6 (by kernel_rfl) rfl rfl rfl (run_stA (vs := E.map b8) rfl (sz szKey hel) rfl rfl (oneB _) ((hM.out.get (i := 2) rfl).there8 (by rw [hel, List.length_replicate]))) ⟨_, _, hel, List.length_replicate, hM2.out⟩ ?_
  clear hM
  have hM3 := Lib.hid (hM2.out.put 1 rfl (m := D) (by rw [hbl, List.length_replicate]))
  refine wpAnyL_skip 7 (by kernel_rfl) rfl rfl rfl (run_stA (vs := D.map b8) rfl (sz szKey hbl) rfl rfl (oneB _) ((hM2.out.get (i := 1) rfl).there8 (by rw [hbl, List.length_replicate]))) ⟨_, _, hel, hbl, hM3.out⟩ ?_
  clear hM2
  refine wpAnyL_done (by kernel_rfl) ?_ _; refine NoPanic.normal ?_
  have hM : Hid (Ms w [(gk, B), (g3, D), (g2, E), (g1, key)] ((a6.setCells g2 0 (E.map b8)).setCells g3 0 (D.map b8))) := hM3
  clear hM3 hS h0 HA1 HA2
  generalize (a6.setCells g2 0 (E.map b8)).setCells g3 0 (D.map b8) = a7 at *
  go_upto_region 3 with fail
  replace hM := Lib.hid (hM.out.below (Below.refl _ _).drew)
  refine wp_region_noPanic ?_
  refine wp_region_late (S := fun _ V => Ms w [(gk, B), (g3, D), (g2, E), (g1, key)] V) (by kernel_rfl) hM.out (fun hS => ?_)
  generalize a7.drew = a8 at *
  refine wpAnyL_take 0 rfl rfl (by kernel_rfl) (by kernel_rfl) (by kernel_rfl) (fun _ _ _ h => h) rfl (fun V hV => run_ldM (vs := E.map b8) rfl Tryd.underlying29 rfl (sz szKey hel) rfl (hV.get (i := 2) rfl).range) hS ?_; (try simp only [Act.put, List.setIfInBounds_toArray, List.set_cons_zero, List.set_cons_succ])
  refine wpAnyL_take 1 rfl rfl (by kernel_rfl) (by kernel_rfl) (by kernel_rfl) (fun _ _ _ h => h) rfl (fun V hV => run_ldM (vs := D.map b8) rfl Tryd.underlying29 rfl (sz szKey hbl) rfl (hV.get (i := 1) rfl).range) hS ?_; (try simp only [Act.put, List.setIfInBounds_toArray, List.set_cons_zero, List.set_cons_succ])
  have hM2 : Hid (Ms w [(gk, B), (g3, D), (g2, E), (g1, key)] (a8.setCells g2 0 (E.map b8))) := Lib.hid (hM.out.put 2 rfl (m := E) rfl)
  refine wpAnyL_skip 2 (by kernel_rfl) rfl rfl rfl (run_stA (vs := E.map b8) rfl (sz szKey hel) rfl rfl (oneB _) ((hM.out.get (i := 2) rfl).there8 rfl)) hM2.out ?_
  have hM3 : Hid (Ms w [(gk, B), (g3, D), (g2, E), (g1, key)] ((a8.setCells g2 0 (E.map b8)).setCells g3 0 (D.map b8))) := Lib.hid (hM2.out.put 1 rfl (m := D) rfl)
  refine wpAnyL_skip 3 (by kernel_rfl) rfl rfl rfl (run_stA (vs := D.map b8) rfl (sz szKey hbl) rfl rfl (oneB _) ((hM2.out.get (i := 1) rfl).there8 rfl)) hM3.out ?_
  refine wpAnyL_done (by kernel_rfl) ?_ _; refine NoPanic.normal ?_
  go_wp2_with fail
  refine bodyPost_ret (v := .tuple #[.agg (E.map b8).toArray, .agg (D.map b8).toArray]) (results_two Tryd.results16 rfl rfl Tryd.underlying29 rfl (sz szKey hel) (sz szKey hbl) (hM3.out.get (i := 2) rfl).range (hM3.out.get (i := 1) rfl).range) rfl ⟨rfl, hM3.out.bl⟩
end Go.Proofs.YtobpgolchlgpfaaDoor
namespace Go.Proofs.YtobpgolchlgpfaaDoor
open Go.RowKit
set_option maxRecDepth 20000

theorem zero_size (n : Nat) : (Builtin.zeroCells (Value.int .u8 0).cells n).size = n := by
  show ((Array.range (n * 1)).map _).size = n
  simp
set_option maxHeartbeats 2000000 in
theorem grow_any (n : Nat) (w : World) (hn : n ≤ 16000000) : Calls Tryd.prog 30 #[.slice none 0 0, .int .i64 (n : Int)] w fun e w' => ∃ v', e = .returned v' ∧ S5 w v' [] w' := by
  go_enter Tryd.func30, Tryd.ntmps30
  go_upto_region 1 with fail; refine wp_region_lit ?_
  refine wpList_val (run_mv (v := .int _ _) rfl rfl) rfl ?_; (try simp only [Act.put, List.setIfInBounds_toArray, List.set_cons_zero, List.set_cons_succ])
  refine wpList_val (run_lssb (c := false) rfl rfl rfl (decide_eq_false (by omega))) rfl ?_; (try simp only [Act.put, List.setIfInBounds_toArray, List.set_cons_zero, List.set_cons_succ])
  refine wpList_end ?_
  go_upto_region 3 with fail; refine wp_region_lit ?_
  refine wpList_val (run_mv (v := .int _ _) rfl rfl) rfl ?_; (try simp only [Act.put, List.setIfInBounds_toArray, List.set_cons_zero, List.set_cons_succ]); refine wpList_val (run_mv (v := .slice _ _ _) rfl rfl) rfl ?_; (try simp only [Act.put, List.setIfInBounds_toArray, List.set_cons_zero, List.set_cons_succ])
  refine wpList_val (run_cap rfl Tryd.underlying30 rfl) rfl ?_; (try simp only [Act.put, List.setIfInBounds_toArray, List.set_cons_zero, List.set_cons_succ])
  refine wpList_val (run_mv (v := .slice _ _ _) rfl rfl) rfl ?_; (try simp only [Act.put, List.setIfInBounds_toArray, List.set_cons_zero, List.set_cons_succ])
  refine wpList_val (run_len rfl Tryd.underlying30 rfl) rfl ?_; (try simp only [Act.put, List.setIfInBounds_toArray, List.set_cons_zero, List.set_cons_succ])
  refine wpList_val (run_subN (a := 0) (b := 0) rfl rfl rfl (by omega) (by omega)) rfl ?_; (try simp only [Act.put, List.setIfInBounds_toArray, List.set_cons_zero, List.set_cons_succ])
  refine wpList_val (run_subN (a := n) (b := 0) rfl rfl rfl (by omega) (by omega)) rfl ?_; (try simp only [Act.put, List.setIfInBounds_toArray, List.set_cons_zero, List.set_cons_succ])
  rw [Nat.sub_zero]
  refine wpList_val (run_asg (v := .int _ _) rfl rfl) rfl ?_; (try simp only [Act.put, List.setIfInBounds_toArray, List.set_cons_zero, List.set_cons_succ])
  refine wpList_end ?_
  go_upto_region 4 with fail; refine wp_region_lit ?_
  refine wpList_val (run_mv (v := .int _ _) rfl rfl) rfl ?_; (try simp only [Act.put, List.setIfInBounds_toArray, List.set_cons_zero, List.set_cons_succ])
  by_cases h0 : n = 0
  · subst h0
    refine wpList_val (run_gtrb (c := false) rfl rfl rfl (decide_eq_false (by omega))) rfl ?_; (try simp only [Act.put, List.setIfInBounds_toArray, List.set_cons_zero, List.set_cons_succ])
    refine wpList_end ?_
    go_upto_region 6 with fail; refine wp_region_lit ?_
    refine wpList_val (run_mv (v := .slice _ _ _) rfl rfl) rfl ?_; (try simp only [Act.put, List.setIfInBounds_toArray, List.set_cons_zero, List.set_cons_succ]); refine wpList_val (run_asg (v := .slice _ _ _) rfl rfl) rfl ?_; (try simp only [Act.put, List.setIfInBounds_toArray, List.set_cons_zero, List.set_cons_succ])
    refine wpList_end ?_
    go_wp2_with fail
    exact bodyPost_ret (results_tmp Tryd.results30 _ _ _) rfl ⟨_, rfl, S5.none w⟩
  · refine wpList_val (run_gtrb (c := true) rfl rfl rfl (decide_eq_true (by omega))) rfl ?_; (try simp only [Act.put, List.setIfInBounds_toArray, List.set_cons_zero, List.set_cons_succ])
    refine wpList_end ?_
    have hi : (Tryd.prog.info? 5).map (fun i => (i.size, i.bytes, i.zero)) = some (1, 1, some (.int .u8 0)) := by kernel_rfl
    obtain ⟨inf, h1, h2⟩ := Option.map_eq_some_iff.1 hi
    obtain ⟨e1, e2, e3⟩ : inf.size = 1 ∧ inf.bytes = 1 ∧ inf.zero = some (.int .u8 0) := by simpa using h2
    have HR : Hid (∀ ty, (Builtin.append_ #[30, 3] ty #[.slice none 0 0, .int .i64 (n : Int)]).run Tryd.prog w = .ok (.slice (some ⟨w.heap.size, 0, none⟩) n (grownCap w n 0 5)) (w.drew.alloc (.cells (Builtin.zeroCells (Value.int .u8 0).cells n ++ Builtin.zeroCells (Value.int .u8 0).cells (grownCap w n 0 5 - n)) 5))) := Lib.hid fun ty =>
      Lib.run_append_nil_zeros w 30 3 ty 5 inf (.int .u8 0) .i64 .i64 Tryd.underlying30 Tryd.underlying3 h1 e3 n (by omega) (by omega) (by omega) (by rw [e2]; omega)
    have hG1 := grownCap_ge w n 0 5
    have hG2 := grownCap_le_maxLen w n 0 5 (by unfold maxLen; omega)
    have hS : Hid (S5 w (.slice (some ⟨w.heap.size, 0, none⟩) 0 (grownCap w n 0 5)) [] (w.drew.alloc (.cells (Builtin.zeroCells (Value.int .u8 0).cells n ++ Builtin.zeroCells (Value.int .u8 0).cells (grownCap w n 0 5 - n)) 5))) := Lib.hid (by
      refine ⟨(Below.refl _ _).drew.alloc (Nat.le_refl _) _, ?_⟩
      refine And.intro rfl (Or.inr ?_)
      refine ⟨w.heap.size, grownCap w n 0 5, Builtin.zeroCells (Value.int .u8 0).cells n ++ Builtin.zeroCells (Value.int .u8 0).cells (grownCap w n 0 5 - n), rfl, Nat.le_refl _, ?_, Nat.zero_le _, hG2, ?_, ?_⟩
      · exact Array.getElem?_push_size
      · rw [Array.size_append, zero_size, zero_size]; omega
      · simp)
    clear h1 h2 e1 e2 e3 hi hG2
    generalize w.drew.alloc (.cells (Builtin.zeroCells (Value.int .u8 0).cells n ++ Builtin.zeroCells (Value.int .u8 0).cells (grownCap w n 0 5 - n)) 5) = a1 at *
    generalize grownCap w n 0 5 = G at *
    go_upto_region 5 with fail; refine wp_region_lit ?_
    refine wpList_val (run_mv (v := .slice _ _ _) rfl rfl) rfl ?_; (try simp only [Act.put, List.setIfInBounds_toArray, List.set_cons_zero, List.set_cons_succ]); refine wpList_val (run_mv (v := .slice _ _ _) rfl rfl) rfl ?_; (try simp only [Act.put, List.setIfInBounds_toArray, List.set_cons_zero, List.set_cons_succ])
    refine wpList_val (run_cap rfl Tryd.underlying30 rfl) rfl ?_; (try simp only [Act.put, List.setIfInBounds_toArray, List.set_cons_zero, List.set_cons_succ])
    refine wpList_val (run_slh0 rfl Tryd.underlying30 (by kernel_rfl) rfl rfl) rfl ?_; (try simp only [Act.put, List.setIfInBounds_toArray, List.set_cons_zero, List.set_cons_succ])
    refine wpList_val (run_mv (v := .int _ _) rfl rfl) rfl ?_; (try simp only [Act.put, List.setIfInBounds_toArray, List.set_cons_zero, List.set_cons_succ])
    refine Lib.wpList_append_run _ rfl _ _ _ _ rfl _ _ rfl rfl _ _ (HR.out _) ?_; (try simp only [Act.put, List.setIfInBounds_toArray, List.set_cons_zero, List.set_cons_succ])
    refine wpList_val (run_mv (v := .slice _ _ _) rfl rfl) rfl ?_; (try simp only [Act.put, List.setIfInBounds_toArray, List.set_cons_zero, List.set_cons_succ])
    refine wpList_val (run_len rfl Tryd.underlying30 rfl) rfl ?_; (try simp only [Act.put, List.setIfInBounds_toArray, List.set_cons_zero, List.set_cons_succ])
    refine wpList_val (run_slh (h := 0) rfl Tryd.underlying30 (by kernel_rfl) rfl rfl (by omega)) rfl ?_; (try simp only [Act.put, List.setIfInBounds_toArray, List.set_cons_zero, List.set_cons_succ])
    refine wpList_val (run_asg (v := .slice (some _) _ _) rfl rfl) rfl ?_; (try simp only [Act.put, List.setIfInBounds_toArray, List.set_cons_zero])
    refine wpList_end ?_
    go_upto_region 6 with fail; refine wp_region_lit ?_
    refine wpList_val (run_mv (v := .slice (some _) _ _) rfl rfl) rfl ?_; (try simp only [Act.put, List.setIfInBounds_toArray, List.set_cons_zero, List.set_cons_succ]); refine wpList_val (run_asg (v := .slice (some _) _ _) rfl rfl) rfl ?_; (try simp only [Act.put, List.setIfInBounds_toArray, List.set_cons_zero, List.set_cons_succ])
    refine wpList_end ?_
    go_wp2_with fail
    exact bodyPost_ret (results_tmp Tryd.results30 _ _ _) rfl ⟨_, rfl, hS.out⟩
theorem enters_grow : Enters 30 := enters_of Tryd.func30 (by kernel_rfl) rfl

/-- Slices that lie in a row, and what each reads. -/
structure Cat (g : Nat) (vs : List Value) (ls : List (List (BitVec 8))) (u : World) : Prop where
  lt : g < u.heap.size
  R : u.rangeAt g 0 vs
  S : ∀ i, i < ls.length → ∃ v, vs[i]? = some v ∧ Sl v (ls.getD i []) u
theorem Cat.below {g : Nat} {vs : List Value} {ls : List (List (BitVec 8))} {u u' : World} (h : Cat g vs ls u) (hb : Below u.heap.size u u') : Cat g vs ls u' :=
  ⟨Nat.lt_of_lt_of_le h.lt hb.size, rangeAt_below h.R h.lt hb, fun i hi => by obtain ⟨v, h1, h2⟩ := h.S i hi; exact ⟨v, h1, h2.below hb⟩⟩
def catL (ls : List (List (BitVec 8))) (i : Nat) : List (BitVec 8) := (ls.take i).flatten
theorem catL_succ (ls : List (List (BitVec 8))) (i : Nat) (h : i < ls.length) : catL ls (i + 1) = catL ls i ++ ls.getD i [] := by
  unfold catL
  rw [List.take_add_one, List.flatten_append, List.getElem?_eq_getElem h, List.getD_eq_getElem?_getD, List.getElem?_eq_getElem h]
  simp
theorem catL_all (ls : List (List (BitVec 8))) : catL ls ls.length = ls.flatten := by unfold catL; rw [List.take_length]
theorem catL_le (ls : List (List (BitVec 8))) (i : Nat) : (catL ls i).length ≤ ls.flatten.length := by
  have h : ls.flatten = catL ls i ++ (ls.drop i).flatten := by unfold catL; rw [← List.flatten_append, List.take_append_drop]
  rw [h, List.length_append]; omega
set_option maxHeartbeats 4000000 in
theorem concat_any (g : Nat) (vs : List Value) (ls : List (List (BitVec 8))) (k : Nat) (w : World) (hc : Cat g vs ls w) (hk : ls.length = k) (hk2 : k ≤ 1000) (hn : ls.flatten.length ≤ 16000000) :
    Calls Tryd.prog 19 #[.slice (some ⟨g, 0, none⟩) k k] w fun e w' => ∃ v', e = .returned v' ∧ S5 w v' ls.flatten w' := by
  have HC := Lib.hid hc; clear hc
  have EA : Hid (catL ls k = ls.flatten) := Lib.hid (by rw [← hk]; exact catL_all ls)
  have HL : Hid (∀ i, (catL ls i).length ≤ 16000000) := Lib.hid fun i => Nat.le_trans (catL_le ls i) hn
  have HE : Hid (∀ i, i < k → ∃ v l, w.rangeAt g 0 vs ∧ vs[i]? = some v ∧ Sl v l w ∧ catL ls (i + 1) = catL ls i ++ l ∧ (catL ls i).length + l.length ≤ 16000000) := Lib.hid fun i hi => by
    obtain ⟨v, h1, h2⟩ := HC.out.S i (by omega)
    have e := catL_succ ls i (by omega)
    have := HL.out (i + 1)
    rw [e, List.length_append] at this
    exact ⟨v, _, HC.out.R, h1, h2, e, this⟩
  have hlt := HC.out.lt
  clear HC
  obtain ⟨F, hF⟩ : ∃ F, F = catL ls := ⟨_, rfl⟩
  have E0 : F 0 = [] := by rw [hF]; rfl
  rw [← hF] at EA HL HE
  clear hF hn
  generalize ls.flatten = out at *
  clear hk
  go_enter Tryd.func19, Tryd.ntmps19
  go_upto_region 2 with fail; refine wp_region_lit ?_
  refine wpList_val (run_mv (v := .slice (some _) _ _) rfl rfl) rfl ?_; (try simp only [Act.put, List.setIfInBounds_toArray, List.set_cons_zero, List.set_cons_succ])
  refine wpList_val (run_len rfl Tryd.underlying59 rfl) rfl ?_; (try simp only [Act.put, List.setIfInBounds_toArray, List.set_cons_zero, List.set_cons_succ])
  refine wpList_val (run_mv (v := .int _ _) rfl rfl) rfl ?_; (try simp only [Act.put, List.setIfInBounds_toArray, List.set_cons_zero, List.set_cons_succ])
  refine wpList_end ?_
  go_wp2_with fail
  go_loopw [3, 11] (fun s1 s2 u => ∃ i : Nat, i ≤ k ∧ s1 = .int .i64 ((F i).length : Int) ∧ s2 = .int .i64 (i : Int) ∧ u = w) (fun _ s _ => (k - intOf s).toNat)
  case atStart => exact ⟨0, by omega, by rw [E0]; rfl, rfl, rfl⟩
  case round =>
    obtain ⟨i, hi, rfl, rfl, rfl⟩ := hrel
    have hLi := HL.out i
    by_cases hik : i = k
    · subst hik
      have hk1 : ¬ (((i : Nat) : Int) < (i : Int)) := by omega
      rw [EA.out] at hLi ⊢
      generalize hw0 : wr = w0 at *
      have EW := Lib.hid hw0
      clear hw0
      go_upto_region 9 with fail; refine wp_region_lit ?_
      refine wpList_val (run_mv (v := .int _ _) rfl rfl) rfl ?_; (try simp only [Act.put, List.setIfInBounds_toArray, List.set_cons_zero, List.set_cons_succ])
      refine wpList_callR (run_call2 enters_grow rfl rfl rfl rfl) rfl (grow_any out.length _ hLi) (fun v6 c1 hR => ?_); (try simp only [Act.put, List.setIfInBounds_toArray, List.set_cons_zero, List.set_cons_succ])
      have hI : Hid (S5 w0 v6 (F 0) c1) := Lib.hid (by rw [E0]; exact hR)
      clear hR
      refine wpList_val (run_asg (v := v6) rfl rfl) rfl ?_; (try simp only [Act.put, List.setIfInBounds_toArray, List.set_cons_zero, List.set_cons_succ])
      refine wpList_end ?_
      go_upto_region 10 with fail; refine wp_region_lit ?_
      refine wpList_val (run_mv (v := .slice (some _) _ _) rfl rfl) rfl ?_; (try simp only [Act.put, List.setIfInBounds_toArray, List.set_cons_zero, List.set_cons_succ])
      refine wpList_val (run_len rfl Tryd.underlying59 rfl) rfl ?_; (try simp only [Act.put, List.setIfInBounds_toArray, List.set_cons_zero, List.set_cons_succ])
      refine wpList_val (run_mv (v := .int _ _) rfl rfl) rfl ?_; (try simp only [Act.put, List.setIfInBounds_toArray, List.set_cons_zero, List.set_cons_succ])
      refine wpList_end ?_
      clear hk1 hi
      go_wp2_with fail
      go_loopw [6, 27] (fun s1 s2 u => ∃ j : Nat, j ≤ i ∧ s2 = .int .i64 (j : Int) ∧ S5 w0 s1 (F j) u) (fun _ s _ => (i - intOf s).toNat)
      case atStart => exact ⟨0, by omega, rfl, hI.out⟩
      case round =>
        obtain ⟨j, hj, rfl, hJ⟩ := hrel
        replace hI := Lib.hid hJ
        clear hJ
        by_cases hji : j = i
        · subst hji
          have hk1 : ¬ (((j : Nat) : Int) < (j : Int)) := by omega
          rw [EA.out] at hI
          go_upto_region 15 with fail; refine wp_region_lit ?_
          refine wpList_val (run_mv (v := u6) rfl rfl) rfl ?_; (try simp only [Act.put, List.setIfInBounds_toArray, List.set_cons_zero, List.set_cons_succ])
          refine wpList_val (run_asg (v := u6) rfl rfl) rfl ?_; (try simp only [Act.put, List.setIfInBounds_toArray, List.set_cons_zero, List.set_cons_succ])
          refine wpList_end ?_
          go_wp2_with fail
          exact bodyPost_ret (results_tmp Tryd.results19 _ _ _) rfl ⟨_, rfl, by rw [EW.out]; exact hI.out⟩
        · have hk1 : (j : Int) < (i : Int) := by omega
          obtain ⟨v, l, h1, h2, h3, h4, h5⟩ := HE.out j (by omega)
          have HX := Lib.hid h4; clear h4
          have C1 : Hid (wr.cell? ⟨g, j, none⟩ = some v) := Lib.hid (by
            have := rangeAt_below h1 hlt hI.out.bl j v h2
            rwa [Nat.zero_add] at this)
          have S1 : Hid (Sl v l wr) := Lib.hid (h3.below hI.out.bl)
          clear h1 h2 h3
          go_upto_region 12 with fail; refine wp_region_lit ?_
          refine wpList_val (run_ixs rfl Tryd.underlying59 (by kernel_rfl) rfl rfl (by omega)) rfl ?_; (try simp only [Act.put, List.setIfInBounds_toArray, List.set_cons_zero, List.set_cons_succ])
          refine wpList_val (run_ldSl rfl rfl (by rw [Nat.zero_add]; exact C1.out)) rfl ?_; (try simp only [Act.put, List.setIfInBounds_toArray, List.set_cons_zero, List.set_cons_succ])
          refine wpList_val (run_asg (v := v) rfl rfl) rfl ?_; (try simp only [Act.put, List.setIfInBounds_toArray, List.set_cons_zero, List.set_cons_succ])
          refine wpList_end ?_
          go_upto_region 13 with fail; refine wp_region_lit ?_
          refine wpList_val (run_mv (v := u6) rfl rfl) rfl ?_; (try simp only [Act.put, List.setIfInBounds_toArray, List.set_cons_zero, List.set_cons_succ])
          refine wpList_val (run_mv (v := v) rfl rfl) rfl ?_; (try simp only [Act.put, List.setIfInBounds_toArray, List.set_cons_zero, List.set_cons_succ])
          refine wpList_appG (l := F j) (m := l) rfl rfl rfl hI.out.O rfl S1.out (by omega) hI.out.bl.size (fun v2 c2 h6 hb3 => ?_); (try simp only [Act.put, List.setIfInBounds_toArray, List.set_cons_zero, List.set_cons_succ])
          replace hI : Hid (S5 w0 v2 (F (j + 1)) c2) := Lib.hid ⟨hI.out.bl.trans hb3, by rw [HX.out, List.length_append]; exact h6⟩
          clear h6 hb3 S1 C1
          refine wpList_val (run_asg (v := v2) rfl rfl) rfl ?_; (try simp only [Act.put, List.setIfInBounds_toArray, List.set_cons_zero, List.set_cons_succ])
          refine wpList_end ?_
          go_wp2_with fail
          go_roundw
          case rel => exact ⟨j + 1, by omega, by go_num, hI.out⟩
          case measure => simp [intOf]; omega
    · have hk1 : (i : Int) < (k : Int) := by omega
      obtain ⟨v, l, h1, h2, h3, h4, h5⟩ := HE.out i (by omega)
      have HX := Lib.hid h4; clear h4
      have C1 := Lib.hid (h1 i v h2)
      rw [Nat.zero_add] at C1
      obtain ⟨ao, c, rfl, -, -⟩ := h3
      clear h1 h2
      go_upto_region 4 with fail; refine wp_region_lit ?_
      refine wpList_val (run_ixs rfl Tryd.underlying59 (by kernel_rfl) rfl rfl (by omega)) rfl ?_; (try simp only [Act.put, List.setIfInBounds_toArray, List.set_cons_zero, List.set_cons_succ])
      refine wpList_val (run_ldSl rfl rfl (by rw [Nat.zero_add]; exact C1.out)) rfl ?_; (try simp only [Act.put, List.setIfInBounds_toArray, List.set_cons_zero, List.set_cons_succ])
      refine wpList_val (run_asg (v := .slice _ _ _) rfl rfl) rfl ?_; (try simp only [Act.put, List.setIfInBounds_toArray, List.set_cons_zero, List.set_cons_succ])
      refine wpList_end ?_
      go_upto_region 5 with fail; refine wp_region_lit ?_
      refine wpList_val (run_mv (v := .int _ _) rfl rfl) rfl ?_; (try simp only [Act.put, List.setIfInBounds_toArray, List.set_cons_zero, List.set_cons_succ]); refine wpList_val (run_mv (v := .slice _ _ _) rfl rfl) rfl ?_; (try simp only [Act.put, List.setIfInBounds_toArray, List.set_cons_zero, List.set_cons_succ])
      refine wpList_val (run_len rfl Tryd.underlying30 rfl) rfl ?_; (try simp only [Act.put, List.setIfInBounds_toArray, List.set_cons_zero, List.set_cons_succ])
      refine wpList_val (run_addN rfl rfl rfl (by omega)) rfl ?_; (try simp only [Act.put, List.setIfInBounds_toArray, List.set_cons_zero, List.set_cons_succ])
      refine wpList_val (run_asg (v := .int _ _) rfl rfl) rfl ?_; (try simp only [Act.put, List.setIfInBounds_toArray, List.set_cons_zero, List.set_cons_succ])
      refine wpList_end ?_
      go_upto_region 6 with fail; refine wp_region_lit ?_
      refine wpList_val (run_mv (v := .int _ _) rfl rfl) rfl ?_; (try simp only [Act.put, List.setIfInBounds_toArray, List.set_cons_zero, List.set_cons_succ])
      refine wpList_val (run_lssb (c := false) rfl rfl rfl (decide_eq_false (by omega))) rfl ?_; (try simp only [Act.put, List.setIfInBounds_toArray, List.set_cons_zero, List.set_cons_succ])
      refine wpList_end ?_
      go_wp2_with fail
      go_roundw
      case rel => exact ⟨i + 1, by omega, by rw [HX.out, List.length_append], by go_num, trivial⟩
      case measure => simp [intOf]; omega
theorem enters_concat : Enters 19 := enters_of Tryd.func19 (by kernel_rfl) rfl
end Go.Proofs.YtobpgolchlgpfaaDoor
namespace Go.Proofs.YtobpgolchlgpfaaDoor
open Go.RowKit
set_option maxRecDepth 20000

theorem enters_bind : Enters 18 := enters_of Tryd.func18 (by kernel_rfl) rfl
theorem flat4 (a b c d : List (BitVec 8)) : [a, b, c, d].flatten = a ++ b ++ c ++ d := by simp
theorem flat2 (a b : List (BitVec 8)) : [a, b].flatten = a ++ b := by simp
theorem cat_row (w : World) (vs : List Value) (ls : List (List (BitVec 8))) (hS : ∀ i, i < ls.length → ∃ v, vs[i]? = some v ∧ Sl v (ls.getD i []) w) : Cat w.heap.size vs ls (w.alloc (.cells vs.toArray 30)) :=
  have hb : Below w.heap.size w (w.alloc (.cells vs.toArray 30)) := (Below.refl _ _).alloc (Nat.le_refl _) _
  ⟨(Arr.new w vs 30).lt, (Arr.new w vs 30).range, fun i hi => by obtain ⟨v, h1, h2⟩ := hS i hi; exact ⟨v, h1, h2.below hb⟩⟩
set_option maxHeartbeats 4000000 in
theorem bind_any (m : List (BitVec 8)) (n : BitVec 64) (vw : Value) (wi : List (BitVec 8)) (vh : Value) (h : List (BitVec 8)) (w : World) (hm : m.length = 32) (hw : Sl vw wi w) (hwl : wi.length ≤ 7000000) (hh : Sl vh h w) (hhl : h.length ≤ 7000000) (hT : Tabs w) :
    Calls Tryd.prog 18 #[.agg (m.map b8).toArray, b64 n, vw, vh] w fun e w' => e = .returned (.agg ((tagB m n wi h).map b8).toArray) ∧ Below w.heap.size w w' := by
  have hM := Lib.hid (Ms.nil w)
  have HT := Lib.hid hT; clear hT
  have HW := Lib.hid hw
  have HH := Lib.hid hh
  obtain ⟨aw, cw, rfl, -, -⟩ := hw
  obtain ⟨ah, ch, rfl, -, -⟩ := hh
  have hml := nb_len (BitVec.ofNat 64 wi.length)
  have hrl := nonce_len n
  have htl := tag_len m n wi h
  have ER : Hid (hmac m [nonceB n, wi, h, nb (BitVec.ofNat 64 wi.length)].flatten = tagB m n wi h) := Lib.hid (by rw [flat4]; rfl)
  have hfl : [nonceB n, wi, h, nb (BitVec.ofNat 64 wi.length)].flatten.length ≤ 15000000 := by rw [flat4, List.length_append, List.length_append, List.length_append, hrl, hml]; omega
  have HN1 := Lib.hid (nonce_any n)
  have HN2 := Lib.hid (numberBytes_any (BitVec.ofNat 64 wi.length))
  generalize tagB m n wi h = tg at *
  generalize nonceB n = r at *
  generalize nb (BitVec.ofNat 64 wi.length) = q at *
  go_enter Tryd.func18, Tryd.ntmps18
  go_upto_region 0 with fail; refine wp_region_lit ?_
  refine wpList_val (run_box rfl rfl) rfl ?_; (try simp only [Act.put, List.setIfInBounds_toArray, List.set_cons_zero, List.set_cons_succ]); replace hM := Lib.hid (hM.out.new (m) 29); generalize w.alloc (.cells ((m).map b8).toArray 29) = a1 at *; generalize w.heap.size = g1 at *
  refine wpList_val (run_alc (vs := z8 32) rfl (by kernel_rfl)) rfl ?_; (try simp only [Act.put, List.setIfInBounds_toArray, List.set_cons_zero, List.set_cons_succ]); replace hM := Lib.hid (hM.out.newZ 32 29); generalize a1.alloc (.cells (z8 32).toArray 29) = a2 at *; generalize a1.heap.size = g2 at *
  refine wpList_end ?_
  go_upto_region 1 with fail; refine wp_region_lit ?_
  refine wpList_val (run_mv (v := b64 _) rfl rfl) rfl ?_; (try simp only [Act.put, List.setIfInBounds_toArray, List.set_cons_zero, List.set_cons_succ])
  refine wpList_enter (run_call1 enters_nonce rfl rfl rfl) rfl (HN1.out _) (fun a3 hb => ?_); (try simp only [Act.put, List.setIfInBounds_toArray, List.set_cons_zero, List.set_cons_succ])
  replace hM := Lib.hid (hM.out.below hb)
  clear hb
  refine wpList_val (run_mv (v := .slice _ _ _) rfl rfl) rfl ?_; (try simp only [Act.put, List.setIfInBounds_toArray, List.set_cons_zero, List.set_cons_succ])
  refine wpList_val (run_len rfl Tryd.underlying30 rfl) rfl ?_; (try simp only [Act.put, List.setIfInBounds_toArray, List.set_cons_zero, List.set_cons_succ])
  refine wpList_val (run_cvlen rfl rfl) rfl ?_; (try simp only [Act.put, List.setIfInBounds_toArray, List.set_cons_zero, List.set_cons_succ])
  refine wpList_enter (run_call1 enters_numberBytes rfl rfl rfl) rfl (HN2.out _) (fun a4 hb => ?_); (try simp only [Act.put, List.setIfInBounds_toArray, List.set_cons_zero, List.set_cons_succ])
  replace hM := Lib.hid (hM.out.below hb)
  clear hb
  refine wpList_val (run_alc (vs := z8 16) rfl (by kernel_rfl)) rfl ?_; (try simp only [Act.put, List.setIfInBounds_toArray, List.set_cons_zero, List.set_cons_succ]); replace hM := Lib.hid (hM.out.newZ 16 23); generalize a4.alloc (.cells (z8 16).toArray 23) = a5 at *; generalize a4.heap.size = g3 at *
  refine wpList_val (run_alc (vs := z8 8) rfl (by kernel_rfl)) rfl ?_; (try simp only [Act.put, List.setIfInBounds_toArray, List.set_cons_zero, List.set_cons_succ]); replace hM := Lib.hid (hM.out.newZ 8 41); generalize a5.alloc (.cells (z8 8).toArray 41) = a6 at *; generalize a5.heap.size = g4 at *
  refine wpList_skip (run_stA (vs := r.map b8) rfl (sz sz16 hrl) rfl rfl (oneB _) ((hM.out.get (i := 1) rfl).there8 (by rw [hrl, List.length_replicate]))) rfl rfl ?_
  replace hM := Lib.hid (hM.out.put 1 rfl (m := r) (by rw [hrl, List.length_replicate]))
  generalize a6.setCells g3 0 (r.map b8) = a7 at *
  refine wpList_skip (run_stA (vs := q.map b8) rfl (sz sz8 hml) rfl rfl (oneB _) ((hM.out.get (i := 0) rfl).there8 (by rw [hml, List.length_replicate]))) rfl rfl ?_
  refine wpList_end ?_
  replace hM : Hid (Ms w [(g4, q), (g3, r), (g2, List.replicate 32 0), (g1, m)] (a7.setCells g4 0 (q.map b8))) := Lib.hid (hM.out.put 0 rfl (m := q) (by rw [hml, List.length_replicate]))
  generalize a7.setCells g4 0 (q.map b8) = a8 at *
  go_upto_region 2 with fail
  refine wp_region_noPanic ?_; refine wp_region_late (S := Till 8 (fun V => Below a8.heap.size a8 V)) (by kernel_rfl) (.inr (Below.refl _ _).drew) (fun _ => ?_); have hS : Below a8.heap.size a8 a8.drew := (Below.refl _ _).drew
  generalize a8.drew = a9 at *
  refine wpAnyD_take 0 rfl rfl (by kernel_rfl) (by kernel_rfl) (by kernel_rfl) (by kernel_rfl) (by kernel_rfl) (fun _ _ _ h => h) rfl (fun V hV => run_slA rfl Tryd.underlying29 (by kernel_rfl) rfl) hS ?_; (try simp only [Act.put, List.setIfInBounds_toArray, List.set_cons_zero, List.set_cons_succ])
  refine wpAnyD_take 1 rfl rfl (by kernel_rfl) (by kernel_rfl) (by kernel_rfl) (by kernel_rfl) (by kernel_rfl) (fun _ _ _ h => h) rfl (fun V hV => run_slA rfl Tryd.underlying23 (by kernel_rfl) rfl) hS ?_; (try simp only [Act.put, List.setIfInBounds_toArray, List.set_cons_zero, List.set_cons_succ])
  refine wpAnyD_take 2 rfl rfl (by kernel_rfl) (by kernel_rfl) (by kernel_rfl) (by kernel_rfl) (by kernel_rfl) (fun _ _ _ h => h) rfl (fun V hV => run_mv (v := .slice _ _ _) rfl rfl) hS ?_; (try simp only [Act.put, List.setIfInBounds_toArray, List.set_cons_zero, List.set_cons_succ])
  refine wpAnyD_take 3 rfl rfl (by kernel_rfl) (by kernel_rfl) (by kernel_rfl) (by kernel_rfl) (by kernel_rfl) (fun _ _ _ h => h) rfl (fun V hV => run_mv (v := .slice _ _ _) rfl rfl) hS ?_; (try simp only [Act.put, List.setIfInBounds_toArray, List.set_cons_zero, List.set_cons_succ])
  refine wpAnyD_take 4 rfl rfl (by kernel_rfl) (by kernel_rfl) (by kernel_rfl) (by kernel_rfl) (by kernel_rfl) (fun _ _ _ h => h) rfl (fun V hV => run_slA rfl Tryd.underlying41 (by kernel_rfl) rfl) hS ?_; (try simp only [Act.put, List.setIfInBounds_toArray, List.set_cons_zero, List.set_cons_succ])
  replace hM := Lib.hid (hM.out.below hS)
  have HCt : Hid (Cat a9.heap.size [.slice (some ⟨g3, 0, none⟩) 16 16, .slice aw wi.length cw, .slice ah h.length ch, .slice (some ⟨g4, 0, none⟩) 8 8] [r, wi, h, q] (a9.alloc (.cells #[.slice (some ⟨g3, 0, none⟩) 16 16, .slice aw wi.length cw, .slice ah h.length ch, .slice (some ⟨g4, 0, none⟩) 8 8] 30))) := Lib.hid (cat_row a9 _ [r, wi, h, q] fun i hi => match i, hi with
    | 0, _ => ⟨_, rfl, sl_own (hM.out.get (i := 1) rfl) hrl⟩
    | 1, _ => ⟨_, rfl, HW.out.below hM.out.bl⟩
    | 2, _ => ⟨_, rfl, HH.out.below hM.out.bl⟩
    | 3, _ => ⟨_, rfl, sl_own (hM.out.get (i := 0) rfl) hml⟩
    | i + 4, hi => absurd hi (by simp))
  refine wpAnyD_val 5 (by kernel_rfl) rfl rfl rfl (run_bsl (cells := #[.slice (some ⟨g3, 0, none⟩) 16 16, .slice aw wi.length cw, .slice ah h.length ch, .slice (some ⟨g4, 0, none⟩) 8 8]) (z := .slice none 0 0) rfl Tryd.underlying59 (by kernel_rfl) (by omega) (by omega) (by kernel_rfl)) (.inr (hS.alloc hS.size _)) ?_; (try simp only [Act.put, List.setIfInBounds_toArray, List.set_cons_zero, List.set_cons_succ])
  have hb : Below a9.heap.size a9 (a9.alloc (.cells #[.slice (some ⟨g3, 0, none⟩) 16 16, .slice aw wi.length cw, .slice ah h.length ch, .slice (some ⟨g4, 0, none⟩) 8 8] 30)) := (Below.refl _ _).alloc (Nat.le_refl _) _
  replace hM := Lib.hid (hM.out.below hb)
  replace hS := hS.trans (hb.mono hS.size)
  clear hb
  generalize a9.alloc (.cells #[.slice (some ⟨g3, 0, none⟩) 16 16, .slice aw wi.length cw, .slice ah h.length ch, .slice (some ⟨g4, 0, none⟩) 8 8] 30) = b1 at *
  generalize a9.heap.size = g5 at *
  refine wpAnyD_callR 6 (by kernel_rfl) rfl rfl rfl (run_call1 enters_concat rfl rfl rfl) (concat_any g5 _ [r, wi, h, q] 4 _ HCt.out rfl (by omega) (by omega)) (fun v w' hR => hS.trans (hR.bl.mono hS.size)) (fun v6 b2 hR => ?_); (try simp only [Act.put, List.setIfInBounds_toArray, List.set_cons_zero, List.set_cons_succ])
  have S6 := Lib.hid hR.sl
  replace hM := Lib.hid (hM.out.below hR.bl)
  replace hS := hS.trans (hR.bl.mono hS.size)
  clear hR HCt
  generalize [r, wi, h, q].flatten = fl at *
  refine wpAnyD_call 7 (by kernel_rfl) rfl rfl rfl (run_call2 enters_hmac rfl rfl rfl rfl) (hmac_any _ m _ fl _ (sl_own (hM.out.get (i := 3) rfl) hm) (by omega) S6.out (by omega) (HT.out.below hM.out.bl)) (fun w hb => hS.trans (hb.mono hS.size)) (fun b3 hb7 => ?_); (try simp only [Act.put, List.setIfInBounds_toArray, List.set_cons_zero, List.set_cons_succ])
  rw [ER.out]
  replace hM := Lib.hid (hM.out.below hb7)
  clear hb7
  refine wpAnyL_skip 8 (by kernel_rfl) rfl rfl rfl (run_stA (vs := tg.map b8) rfl (sz szKey htl) rfl rfl (oneB _) ((hM.out.get (i := 2) rfl).there8 (by rw [htl, List.length_replicate]))) (.inl rfl) ?_
  refine wpAnyL_done (by kernel_rfl) ?_ _; refine NoPanic.normal ?_
  replace hM := Lib.hid (hM.out.put 2 rfl (m := tg) (by rw [htl, List.length_replicate]))
  go_wp2_with fail
  refine bodyPost_ret (v := .agg (tg.map b8).toArray) (results_rowB Tryd.results18 rfl Tryd.underlying29 rfl (sz szKey htl) (hM.out.get (i := 2) rfl).range) rfl ⟨rfl, hM.out.bl⟩
end Go.Proofs.YtobpgolchlgpfaaDoor
namespace Go.Proofs.YtobpgolchlgpfaaDoor
open Go.RowKit
set_option maxRecDepth 20000

theorem enters_seal : Enters 10 := enters_of Tryd.func10 (by kernel_rfl) rfl
set_option maxHeartbeats 4000000 in
theorem seal_any (key : List (BitVec 8)) (n : BitVec 64) (vw : Value) (wi : List (BitVec 8)) (vb : Value) (b : List (BitVec 8)) (w : World) (hK : key.length = 32) (hw : Sl vw wi w) (hwl : wi.length ≤ 7000000) (hb : Sl vb b w) (hbl : b.length ≤ 7000000) (hT : Tabs w) :
    Calls Tryd.prog 10 #[.agg (key.map b8).toArray, b64 n, vw, vb] w fun e w' => ∃ v', e = .returned v' ∧ S5 w v' (sealB key n wi b) w' := by
  have hM := Lib.hid (Ms.nil w)
  have HT := Lib.hid hT; clear hT
  have HW := Lib.hid hw; clear hw
  have HB := Lib.hid hb; clear hb
  have hel := enc_len key
  have hdl := bind_len key
  have hrl := nonce_len n
  have htl := tag_len (bindK key) n wi (hidB key n b)
  have hhl := hid_len key n b
  have ES : Hid ([hidB key n b, tagB (bindK key) n wi (hidB key n b)].flatten = sealB key n wi b) := Lib.hid (by rw [flat2]; rfl)
  have hfl : [hidB key n b, tagB (bindK key) n wi (hidB key n b)].flatten.length ≤ 16000000 := by rw [flat2, List.length_append, hhl, htl]; omega
  have HK := Lib.hid (fun w hT => twoKeys_any key w hK hT)
  have HN := Lib.hid (nonce_any n)
  have HC : Hid (∀ (v : Value) (u : World), Sl v b u → Calls Tryd.prog 17 #[.agg ((encK key).map b8).toArray, .agg ((nonceB n).map b8).toArray, v] u fun e w' => ∃ v', e = .returned v' ∧ (Sl v' (hidB key n b) w' ∧ Below u.heap.size u w')) := Lib.hid fun v u h => counter_any (encK key) (nonceB n) v b u hel hrl h (by omega)
  have HBi : Hid (∀ (vh : Value) (u : World), Sl vw wi u → Sl vh (hidB key n b) u → Tabs u → Calls Tryd.prog 18 #[.agg ((bindK key).map b8).toArray, b64 n, vw, vh] u fun e w' => e = .returned (.agg ((tagB (bindK key) n wi (hidB key n b)).map b8).toArray) ∧ Below u.heap.size u w') := Lib.hid fun vh u h1 h2 h3 => bind_any (bindK key) n vw wi vh (hidB key n b) u hdl h1 hwl h2 (by omega) h3
  generalize sealB key n wi b = out at *
  generalize tagB (bindK key) n wi (hidB key n b) = tg at *
  generalize hidB key n b = hd at *
  generalize encK key = E at *
  generalize bindK key = D at *
  generalize nonceB n = r at *
  go_enter Tryd.func10, Tryd.ntmps10
  go_upto_region 0 with fail; refine wp_region_lit ?_
  refine wpList_val (run_box rfl rfl) rfl ?_; (try simp only [Act.put, List.setIfInBounds_toArray, List.set_cons_zero, List.set_cons_succ]); replace hM := Lib.hid (hM.out.new (key) 29); generalize w.alloc (.cells ((key).map b8).toArray 29) = a1 at *; generalize w.heap.size = g1 at *
  refine wpList_val (run_asg (v := .slice none 0 0) rfl rfl) rfl ?_; (try simp only [Act.put, List.setIfInBounds_toArray, List.set_cons_zero, List.set_cons_succ])
  refine wpList_end ?_
  go_upto_region 1 with fail; refine wp_region_lit ?_
  refine wpList_val (run_ldM (vs := key.map b8) rfl Tryd.underlying29 rfl (sz szKey hK) rfl (hM.out.get (i := 0) rfl).range) rfl ?_; (try simp only [Act.put, List.setIfInBounds_toArray, List.set_cons_zero, List.set_cons_succ])
  refine wpList_enter (run_call1 enters_twoKeys rfl rfl rfl) rfl (HK.out _ (HT.out.below hM.out.bl)) (fun a2 hb => ?_); (try simp only [Act.put, List.setIfInBounds_toArray, List.set_cons_zero, List.set_cons_succ])
  replace hM := Lib.hid (hM.out.below hb)
  clear hb
  refine wpList_val (run_mv (v := .tuple _) rfl rfl) rfl ?_; (try simp only [Act.put, List.setIfInBounds_toArray, List.set_cons_zero, List.set_cons_succ])
  refine wpList_val (run_ext (v := .agg (E.map b8).toArray) rfl rfl rfl) rfl ?_; (try simp only [Act.put, List.setIfInBounds_toArray, List.set_cons_zero, List.set_cons_succ])
  refine wpList_val (run_ext (v := .agg (D.map b8).toArray) rfl rfl rfl) rfl ?_; (try simp only [Act.put, List.setIfInBounds_toArray, List.set_cons_zero, List.set_cons_succ])
  refine wpList_val (run_alc (vs := z8 32) rfl (by kernel_rfl)) rfl ?_; (try simp only [Act.put, List.setIfInBounds_toArray, List.set_cons_zero, List.set_cons_succ]); replace hM := Lib.hid (hM.out.newZ 32 29); generalize a2.alloc (.cells (z8 32).toArray 29) = a3 at *; generalize a2.heap.size = g2 at *
  refine wpList_val (run_alc (vs := z8 32) rfl (by kernel_rfl)) rfl ?_; (try simp only [Act.put, List.setIfInBounds_toArray, List.set_cons_zero, List.set_cons_succ]); replace hM := Lib.hid (hM.out.newZ 32 29); generalize a3.alloc (.cells (z8 32).toArray 29) = a4 at *; generalize a3.heap.size = g3 at *
  refine wpList_skip (run_stA (vs := E.map b8) rfl (sz szKey hel) rfl rfl (oneB _) ((hM.out.get (i := 1) rfl).there8 (by rw [hel, List.length_replicate]))) rfl rfl ?_
  replace hM := Lib.hid (hM.out.put 1 rfl (m := E) (by rw [hel, List.length_replicate]))
  generalize a4.setCells g2 0 (E.map b8) = a5 at *
  refine wpList_skip (run_stA (vs := D.map b8) rfl (sz szKey hdl) rfl rfl (oneB _) ((hM.out.get (i := 0) rfl).there8 (by rw [hdl, List.length_replicate]))) rfl rfl ?_
  refine wpList_end ?_
  replace hM : Hid (Ms w [(g3, D), (g2, E), (g1, key)] (a5.setCells g3 0 (D.map b8))) := Lib.hid (hM.out.put 0 rfl (m := D) (by rw [hdl, List.length_replicate]))
  generalize a5.setCells g3 0 (D.map b8) = a6 at *
  go_upto_region 2 with fail
  refine wp_region_noPanic ?_; refine wp_region_late (S := Till 5 (fun V => Below a6.heap.size a6 V)) (by kernel_rfl) (.inr (Below.refl _ _).drew) (fun _ => ?_); have hS : Below a6.heap.size a6 a6.drew := (Below.refl _ _).drew
  generalize a6.drew = a7 at *
  refine wpAnyD_take 0 rfl rfl (by kernel_rfl) (by kernel_rfl) (by kernel_rfl) (by kernel_rfl) (by kernel_rfl) (fun _ _ _ h => h) rfl (fun V hV => run_ldM (vs := E.map b8) rfl Tryd.underlying29 rfl (sz szKey hel) rfl ((hM.out.below hV).get (i := 1) rfl).range) hS ?_; (try simp only [Act.put, List.setIfInBounds_toArray, List.set_cons_zero, List.set_cons_succ])
  refine wpAnyD_take 1 rfl rfl (by kernel_rfl) (by kernel_rfl) (by kernel_rfl) (by kernel_rfl) (by kernel_rfl) (fun _ _ _ h => h) rfl (fun V hV => run_mv (v := b64 _) rfl rfl) hS ?_; (try simp only [Act.put, List.setIfInBounds_toArray, List.set_cons_zero, List.set_cons_succ])
  refine wpAnyD_take 3 rfl rfl (by kernel_rfl) (by kernel_rfl) (by kernel_rfl) (by kernel_rfl) (by kernel_rfl) (fun _ _ _ h => h) rfl (fun V hV => run_mv (v := vb) rfl rfl) hS ?_; (try simp only [Act.put, List.setIfInBounds_toArray, List.set_cons_zero, List.set_cons_succ])
  refine wpAnyD_call 2 (by kernel_rfl) rfl rfl rfl (run_call1 enters_nonce rfl rfl rfl) (HN.out _) (fun w hb => hS.trans (hb.mono hS.size)) (fun a8 hb => ?_); replace hS := hS.trans (hb.mono hS.size); clear hb; (try simp only [Act.put, List.setIfInBounds_toArray, List.set_cons_zero, List.set_cons_succ])
  refine wpAnyD_callR 4 (by kernel_rfl) rfl rfl rfl (run_call3 enters_counter rfl rfl rfl rfl rfl) (HC.out vb _ (HB.out.below (hM.out.below hS).bl)) (fun v w' hR => hS.trans (hR.2.mono hS.size)) (fun v11 a9 hR => ?_); (try simp only [Act.put, List.setIfInBounds_toArray, List.set_cons_zero, List.set_cons_succ])
  replace hS := hS.trans (hR.2.mono hS.size)
  have SH := Lib.hid hR.1
  clear hR
  refine wpAnyD_val 5 (by kernel_rfl) rfl rfl rfl (run_asg (v := v11) rfl rfl) (.inl rfl) ?_; (try simp only [Act.put, List.setIfInBounds_toArray, List.set_cons_zero, List.set_cons_succ])
  refine wpAnyL_done (by kernel_rfl) ?_ _; refine NoPanic.normal ?_
  replace hM := Lib.hid (hM.out.below hS)
  clear hS
  go_upto_region 3 with fail; refine wp_region_lit ?_
  refine wpList_val (run_ldM (vs := D.map b8) rfl Tryd.underlying29 rfl (sz szKey hdl) rfl (hM.out.get (i := 0) rfl).range) rfl ?_; (try simp only [Act.put, List.setIfInBounds_toArray, List.set_cons_zero, List.set_cons_succ])
  refine wpList_val (run_mv (v := b64 _) rfl rfl) rfl ?_; (try simp only [Act.put, List.setIfInBounds_toArray, List.set_cons_zero, List.set_cons_succ])
  refine wpList_val (run_mv (v := vw) rfl rfl) rfl ?_; (try simp only [Act.put, List.setIfInBounds_toArray, List.set_cons_zero, List.set_cons_succ])
  refine wpList_val (run_mv (v := v11) rfl rfl) rfl ?_; (try simp only [Act.put, List.setIfInBounds_toArray, List.set_cons_zero, List.set_cons_succ])
  refine wpList_enter (run_call4 enters_bind rfl rfl rfl rfl rfl rfl) rfl (HBi.out v11 _ (HW.out.below hM.out.bl) SH.out (HT.out.below hM.out.bl)) (fun b1 hb => ?_); (try simp only [Act.put, List.setIfInBounds_toArray, List.set_cons_zero, List.set_cons_succ])
  replace hM := Lib.hid (hM.out.below hb)
  replace SH := Lib.hid (SH.out.below hb)
  clear hb
  replace SH : Hid (Sl v11 hd ((b1.alloc (.cells (z8 32).toArray 29)).setCells b1.heap.size 0 (tg.map b8))) := Lib.hid (SH.out.below (below_setCells (Nat.le_refl _) _ _ ((Below.refl _ _).alloc (Nat.le_refl _) _)))
  refine wpList_val (run_alc (vs := z8 32) rfl (by kernel_rfl)) rfl ?_; (try simp only [Act.put, List.setIfInBounds_toArray, List.set_cons_zero, List.set_cons_succ]); replace hM := Lib.hid (hM.out.newZ 32 29); generalize b1.alloc (.cells (z8 32).toArray 29) = b2 at *; generalize b1.heap.size = g4 at *
  refine wpList_skip (run_stA (vs := tg.map b8) rfl (sz szKey htl) rfl rfl (oneB _) ((hM.out.get (i := 0) rfl).there8 (by rw [htl, List.length_replicate]))) rfl rfl ?_
  refine wpList_end ?_
  replace hM : Hid (Ms w [(g4, tg), (g3, D), (g2, E), (g1, key)] (b2.setCells g4 0 (tg.map b8))) := Lib.hid (hM.out.put 0 rfl (m := tg) (by rw [htl, List.length_replicate]))
  generalize b2.setCells g4 0 (tg.map b8) = b3 at *
  obtain ⟨ah, ch, rfl, -, -⟩ := id SH.out
  have HCt : Hid (Cat b3.heap.size [.slice ah hd.length ch, .slice (some ⟨g4, 0, none⟩) 32 32] [hd, tg] (b3.alloc (.cells #[.slice ah hd.length ch, .slice (some ⟨g4, 0, none⟩) 32 32] 30))) := Lib.hid (cat_row b3 _ [hd, tg] fun i hi => match i, hi with
    | 0, _ => ⟨_, rfl, SH.out⟩
    | 1, _ => ⟨_, rfl, sl_own (hM.out.get (i := 0) rfl) htl⟩
    | i + 2, hi => absurd hi (by simp))
  go_upto_region 4 with fail; refine wp_region_lit ?_
  refine wpList_val (run_mv (v := .slice _ _ _) rfl rfl) rfl ?_; (try simp only [Act.put, List.setIfInBounds_toArray, List.set_cons_zero, List.set_cons_succ])
  refine wpList_val (run_slA rfl Tryd.underlying29 (by kernel_rfl) rfl) rfl ?_; (try simp only [Act.put, List.setIfInBounds_toArray, List.set_cons_zero, List.set_cons_succ])
  refine wpList_val (run_bsl (cells := #[.slice ah hd.length ch, .slice (some ⟨g4, 0, none⟩) 32 32]) (z := .slice none 0 0) rfl Tryd.underlying59 (by kernel_rfl) (by omega) (by omega) (by kernel_rfl)) rfl ?_; (try simp only [Act.put, List.setIfInBounds_toArray, List.set_cons_zero, List.set_cons_succ])
  have hb : Below b3.heap.size b3 (b3.alloc (.cells #[.slice ah hd.length ch, .slice (some ⟨g4, 0, none⟩) 32 32] 30)) := (Below.refl _ _).alloc (Nat.le_refl _) _
  replace hM := Lib.hid (hM.out.below hb)
  clear hb
  generalize b3.alloc (.cells #[.slice ah hd.length ch, .slice (some ⟨g4, 0, none⟩) 32 32] 30) = b4 at *
  generalize b3.heap.size = g5 at *
  refine wpList_callR (run_call1 enters_concat rfl rfl rfl) rfl (concat_any g5 _ [hd, tg] 2 _ HCt.out rfl (by omega) hfl) (fun v8 b5 hR => ?_); (try simp only [Act.put, List.setIfInBounds_toArray, List.set_cons_zero, List.set_cons_succ])
  rw [ES.out] at hR
  refine wpList_val (run_asg (v := v8) rfl rfl) rfl ?_; (try simp only [Act.put, List.setIfInBounds_toArray, List.set_cons_zero, List.set_cons_succ])
  refine wpList_end ?_
  go_wp2_with fail
  exact bodyPost_ret (results_tmp Tryd.results10 _ _ _) rfl ⟨_, rfl, hR.mono hM.out.bl⟩
end Go.Proofs.YtobpgolchlgpfaaDoor
namespace Go.Proofs.YtobpgolchlgpfaaDoor
open Go.RowKit
set_option maxRecDepth 20000

theorem enters_open : Enters 12 := enters_of Tryd.func12 (by kernel_rfl) rfl
/-- What Open answers: bytes, and an error's number. -/
def OpenR (v : Value) (o : List (BitVec 8)) (e : Nat) (u : World) : Prop := ∃ v', v = .tuple #[v', .int .u16 (e : Int)] ∧ Sl v' o u
set_option maxHeartbeats 4000000 in
theorem open_any (key : List (BitVec 8)) (n : BitVec 64) (vw : Value) (wi : List (BitVec 8)) (vb : Value) (b : List (BitVec 8)) (w : World) (hK : key.length = 32) (hw : Sl vw wi w) (hwl : wi.length ≤ 7000000) (hb : Sl vb b w) (hbl : b.length ≤ 7000000) (hT : Tabs w) :
    Calls Tryd.prog 12 #[.agg (key.map b8).toArray, b64 n, vw, vb] w fun e w' => ∃ v, e = .returned v ∧ (OpenR v (openB key n wi b) (openE key n wi b) w' ∧ Below w.heap.size w w') := by
  have hM := Lib.hid (Ms.nil w)
  by_cases h32 : b.length < 32
  · have EE : openE key n wi b = 10 := by unfold openE; rw [if_pos h32]
    have EO : openB key n wi b = [] := by unfold openB; rw [if_pos h32]
    rw [EE, EO]
    obtain ⟨ab, cb, rfl, -, -⟩ := hb
    clear EE EO
    go_enter Tryd.func12, Tryd.ntmps12
    go_upto_region 0 with fail; refine wp_region_lit ?_
    refine wpList_val (run_box rfl rfl) rfl ?_; (try simp only [Act.put, List.setIfInBounds_toArray, List.set_cons_zero, List.set_cons_succ]); replace hM := Lib.hid (hM.out.new (key) 29); generalize w.alloc (.cells ((key).map b8).toArray 29) = a1 at *; generalize w.heap.size = g1 at *
    refine wpList_val (run_asg (v := .slice _ _ _) rfl rfl) rfl ?_; (try simp only [Act.put, List.setIfInBounds_toArray, List.set_cons_zero, List.set_cons_succ]); refine wpList_val (run_asg (v := .int _ _) rfl rfl) rfl ?_; (try simp only [Act.put, List.setIfInBounds_toArray, List.set_cons_zero, List.set_cons_succ])
    refine wpList_end ?_
    go_upto_region 1 with fail; refine wp_region_lit ?_
    refine wpList_val (run_mv (v := .slice _ _ _) rfl rfl) rfl ?_; (try simp only [Act.put, List.setIfInBounds_toArray, List.set_cons_zero, List.set_cons_succ])
    refine wpList_val (run_len rfl Tryd.underlying30 rfl) rfl ?_; (try simp only [Act.put, List.setIfInBounds_toArray, List.set_cons_zero, List.set_cons_succ])
    refine wpList_val (run_lssb (c := true) rfl rfl rfl (decide_eq_true (by omega))) rfl ?_; (try simp only [Act.put, List.setIfInBounds_toArray, List.set_cons_zero, List.set_cons_succ])
    refine wpList_end ?_
    go_upto_region 2 with fail; refine wp_region_lit ?_
    refine wpList_val (run_asg (v := .slice _ _ _) rfl rfl) rfl ?_; (try simp only [Act.put, List.setIfInBounds_toArray, List.set_cons_zero, List.set_cons_succ]); refine wpList_val (run_asg (v := .int _ _) rfl rfl) rfl ?_; (try simp only [Act.put, List.setIfInBounds_toArray, List.set_cons_zero, List.set_cons_succ])
    refine wpList_end ?_
    go_wp2_with fail
    exact bodyPost_ret (results_tmp2 Tryd.results12 _ _ _) rfl ⟨_, rfl, ⟨_, rfl, sl_nil _⟩, hM.out.bl⟩
  have HT := Lib.hid hT; clear hT
  have HW := Lib.hid hw; clear hw
  have HB := Lib.hid hb
  have hel := enc_len key
  have hdl := bind_len key
  have hrl := nonce_len n
  obtain ⟨ab, cb, rfl, hcb, h3⟩ := hb
  obtain ⟨gb, fb, rfl, hgb, hrb⟩ := h3 (by intro h; rw [h] at h32; exact h32 (by decide))
  have hfl : (b.take (b.length - 32)).length = b.length - 32 := by rw [List.length_take]; omega
  have hkl : (b.drop (b.length - 32)).length = 32 := by rw [List.length_drop]; omega
  have htl := tag_len (bindK key) n wi (b.take (b.length - 32))
  have SF : Hid (Sl (.slice (some ⟨gb, fb, none⟩) (b.length - 32) cb) (b.take (b.length - 32)) w) := Lib.hid ⟨_, cb, by rw [hfl], by omega, fun _ => ⟨gb, fb, rfl, hgb, by rw [List.map_take]; exact rangeAt_take hrb⟩⟩
  have SB : Hid (Sl (cutO (some ⟨gb, fb, none⟩) b.length cb (b.length - 32)) (b.drop (b.length - 32)) w) := Lib.hid (Sl.cut HB.out (by omega))
  clear hrb hgb HB h3
  have H1 : Hid (tagB (bindK key) n wi (b.take (b.length - 32)) = b.drop (b.length - 32) → openE key n wi b = 0 ∧ openB key n wi b = hidB key n (b.take (b.length - 32))) := Lib.hid fun h => by
    have h' : opensB key n wi b := h
    unfold openE openB
    rw [if_neg h32, if_neg h32, if_pos h', if_pos h']
    exact ⟨rfl, rfl⟩
  have H2 : Hid (¬ tagB (bindK key) n wi (b.take (b.length - 32)) = b.drop (b.length - 32) → openE key n wi b = 21 ∧ openB key n wi b = []) := Lib.hid fun h => by
    have h' : ¬ opensB key n wi b := h
    unfold openE openB
    rw [if_neg h32, if_neg h32, if_neg h', if_neg h']
    exact ⟨rfl, rfl⟩
  have HK := Lib.hid (fun w hT => twoKeys_any key w hK hT)
  have HN := Lib.hid (nonce_any n)
  have HC : Hid (∀ (v : Value) (u : World), Sl v (b.take (b.length - 32)) u → Calls Tryd.prog 17 #[.agg ((encK key).map b8).toArray, .agg ((nonceB n).map b8).toArray, v] u fun e w' => ∃ v', e = .returned v' ∧ (Sl v' (hidB key n (b.take (b.length - 32))) w' ∧ Below u.heap.size u w')) := Lib.hid fun v u h => counter_any (encK key) (nonceB n) v _ u hel hrl h (by omega)
  have HBi : Hid (∀ (vh : Value) (u : World), Sl vw wi u → Sl vh (b.take (b.length - 32)) u → Tabs u → Calls Tryd.prog 18 #[.agg ((bindK key).map b8).toArray, b64 n, vw, vh] u fun e w' => e = .returned (.agg ((tagB (bindK key) n wi (b.take (b.length - 32))).map b8).toArray) ∧ Below u.heap.size u w') := Lib.hid fun vh u h1 h2 h3 => bind_any (bindK key) n vw wi vh _ u hdl h1 hwl h2 (by omega) h3
  generalize tagB (bindK key) n wi (b.take (b.length - 32)) = tg at *
  generalize hidB key n (b.take (b.length - 32)) = hd at *
  generalize b.take (b.length - 32) = fr at *
  generalize b.drop (b.length - 32) = bk at *
  generalize openE key n wi b = oe at *
  generalize openB key n wi b = oo at *
  generalize b.length = L at *
  generalize encK key = E at *
  generalize bindK key = D at *
  generalize nonceB n = r at *
  go_enter Tryd.func12, Tryd.ntmps12
  go_upto_region 0 with fail; refine wp_region_lit ?_
  refine wpList_val (run_box rfl rfl) rfl ?_; (try simp only [Act.put, List.setIfInBounds_toArray, List.set_cons_zero, List.set_cons_succ]); replace hM := Lib.hid (hM.out.new (key) 29); generalize w.alloc (.cells ((key).map b8).toArray 29) = a1 at *; generalize w.heap.size = g1 at *
  refine wpList_val (run_asg (v := .slice _ _ _) rfl rfl) rfl ?_; (try simp only [Act.put, List.setIfInBounds_toArray, List.set_cons_zero, List.set_cons_succ]); refine wpList_val (run_asg (v := .int _ _) rfl rfl) rfl ?_; (try simp only [Act.put, List.setIfInBounds_toArray, List.set_cons_zero, List.set_cons_succ])
  refine wpList_end ?_
  go_upto_region 1 with fail; refine wp_region_lit ?_
  refine wpList_val (run_mv (v := .slice (some _) _ _) rfl rfl) rfl ?_; (try simp only [Act.put, List.setIfInBounds_toArray, List.set_cons_zero, List.set_cons_succ])
  refine wpList_val (run_len rfl Tryd.underlying30 rfl) rfl ?_; (try simp only [Act.put, List.setIfInBounds_toArray, List.set_cons_zero, List.set_cons_succ])
  refine wpList_val (run_lssb (c := false) rfl rfl rfl (decide_eq_false (by omega))) rfl ?_; (try simp only [Act.put, List.setIfInBounds_toArray, List.set_cons_zero, List.set_cons_succ])
  refine wpList_end ?_
  go_upto_region 3 with fail
  refine wp_region_noPanic ?_; refine wp_region_late (S := fun _ V => Below a1.heap.size a1 V) (by kernel_rfl) ((Below.refl _ _).drew) (fun hS => ?_)
  generalize a1.drew = a2 at *
  refine wpAnyL_take 0 rfl rfl (by kernel_rfl) (by kernel_rfl) (by kernel_rfl) (fun _ _ _ h => h) rfl (fun V hV => run_mv (v := .slice (some _) _ _) rfl rfl) hS ?_; (try simp only [Act.put, List.setIfInBounds_toArray, List.set_cons_zero, List.set_cons_succ])
  refine wpAnyL_take 1 rfl rfl (by kernel_rfl) (by kernel_rfl) (by kernel_rfl) (fun _ _ _ h => h) rfl (fun V hV => run_mv (v := .slice (some _) _ _) rfl rfl) hS ?_; (try simp only [Act.put, List.setIfInBounds_toArray, List.set_cons_zero, List.set_cons_succ])
  refine wpAnyL_take 2 rfl rfl (by kernel_rfl) (by kernel_rfl) (by kernel_rfl) (fun _ _ _ h => h) rfl (fun V hV => run_len rfl Tryd.underlying30 rfl) hS ?_; (try simp only [Act.put, List.setIfInBounds_toArray, List.set_cons_zero, List.set_cons_succ])
  refine wpAnyL_take 3 rfl rfl (by kernel_rfl) (by kernel_rfl) (by kernel_rfl) (fun _ _ _ h => h) rfl (fun V hV => run_subN (b := 32) rfl rfl rfl (by omega) (by omega)) hS ?_; (try simp only [Act.put, List.setIfInBounds_toArray, List.set_cons_zero, List.set_cons_succ])
  refine wpAnyL_take 4 rfl rfl (by kernel_rfl) (by kernel_rfl) (by kernel_rfl) (fun _ _ _ h => h) rfl (fun V hV => run_slh rfl Tryd.underlying30 (by kernel_rfl) rfl rfl (by omega)) hS ?_; (try simp only [Act.put, List.setIfInBounds_toArray, List.set_cons_zero, List.set_cons_succ])
  refine wpAnyL_take 5 rfl rfl (by kernel_rfl) (by kernel_rfl) (by kernel_rfl) (fun _ _ _ h => h) rfl (fun V hV => run_mv (v := .slice (some _) _ _) rfl rfl) hS ?_; (try simp only [Act.put, List.setIfInBounds_toArray, List.set_cons_zero, List.set_cons_succ])
  refine wpAnyL_take 6 rfl rfl (by kernel_rfl) (by kernel_rfl) (by kernel_rfl) (fun _ _ _ h => h) rfl (fun V hV => run_mv (v := .slice (some _) _ _) rfl rfl) hS ?_; (try simp only [Act.put, List.setIfInBounds_toArray, List.set_cons_zero, List.set_cons_succ])
  refine wpAnyL_take 7 rfl rfl (by kernel_rfl) (by kernel_rfl) (by kernel_rfl) (fun _ _ _ h => h) rfl (fun V hV => run_len rfl Tryd.underlying30 rfl) hS ?_; (try simp only [Act.put, List.setIfInBounds_toArray, List.set_cons_zero, List.set_cons_succ])
  refine wpAnyL_take 8 rfl rfl (by kernel_rfl) (by kernel_rfl) (by kernel_rfl) (fun _ _ _ h => h) rfl (fun V hV => run_subN (b := 32) rfl rfl rfl (by omega) (by omega)) hS ?_; (try simp only [Act.put, List.setIfInBounds_toArray, List.set_cons_zero, List.set_cons_succ])
  refine wpAnyL_take 9 rfl rfl (by kernel_rfl) (by kernel_rfl) (by kernel_rfl) (fun _ _ _ h => h) rfl (fun V hV => run_cut rfl Tryd.underlying30 (by kernel_rfl) rfl rfl (by omega)) hS ?_; (try simp only [Act.put, List.setIfInBounds_toArray, List.set_cons_zero, List.set_cons_succ])
  generalize cutO (some ⟨gb, fb, none⟩) L cb (L - 32) = vt at *
  refine wpAnyL_take 10 rfl rfl (by kernel_rfl) (by kernel_rfl) (by kernel_rfl) (fun _ _ _ h => h) rfl (fun V hV => run_asg (v := .slice (some _) _ _) rfl rfl) hS ?_; (try simp only [Act.put, List.setIfInBounds_toArray, List.set_cons_zero, List.set_cons_succ])
  refine wpAnyL_take 11 rfl rfl (by kernel_rfl) (by kernel_rfl) (by kernel_rfl) (fun _ _ _ h => h) rfl (fun V hV => run_asg (v := vt) rfl rfl) hS ?_; (try simp only [Act.put, List.setIfInBounds_toArray, List.set_cons_zero, List.set_cons_succ])
  refine wpAnyL_done (by kernel_rfl) ?_ _; refine NoPanic.normal ?_
  replace hM := Lib.hid (hM.out.below hS)
  clear hS
  go_upto_region 4 with fail; refine wp_region_lit ?_
  refine wpList_val (run_ldM (vs := key.map b8) rfl Tryd.underlying29 rfl (sz szKey hK) rfl (hM.out.get (i := 0) rfl).range) rfl ?_; (try simp only [Act.put, List.setIfInBounds_toArray, List.set_cons_zero, List.set_cons_succ])
  refine wpList_enter (run_call1 enters_twoKeys rfl rfl rfl) rfl (HK.out _ (HT.out.below hM.out.bl)) (fun a3 hb => ?_); (try simp only [Act.put, List.setIfInBounds_toArray, List.set_cons_zero, List.set_cons_succ])
  replace hM := Lib.hid (hM.out.below hb)
  clear hb
  refine wpList_val (run_mv (v := .tuple _) rfl rfl) rfl ?_; (try simp only [Act.put, List.setIfInBounds_toArray, List.set_cons_zero, List.set_cons_succ])
  refine wpList_val (run_ext (v := .agg (E.map b8).toArray) rfl rfl rfl) rfl ?_; (try simp only [Act.put, List.setIfInBounds_toArray, List.set_cons_zero, List.set_cons_succ])
  refine wpList_val (run_ext (v := .agg (D.map b8).toArray) rfl rfl rfl) rfl ?_; (try simp only [Act.put, List.setIfInBounds_toArray, List.set_cons_zero, List.set_cons_succ])
  refine wpList_val (run_alc (vs := z8 32) rfl (by kernel_rfl)) rfl ?_; (try simp only [Act.put, List.setIfInBounds_toArray, List.set_cons_zero, List.set_cons_succ]); replace hM := Lib.hid (hM.out.newZ 32 29); generalize a3.alloc (.cells (z8 32).toArray 29) = a4 at *; generalize a3.heap.size = g2 at *
  refine wpList_val (run_alc (vs := z8 32) rfl (by kernel_rfl)) rfl ?_; (try simp only [Act.put, List.setIfInBounds_toArray, List.set_cons_zero, List.set_cons_succ]); replace hM := Lib.hid (hM.out.newZ 32 29); generalize a4.alloc (.cells (z8 32).toArray 29) = a5 at *; generalize a4.heap.size = g3 at *
  refine wpList_skip (run_stA (vs := E.map b8) rfl (sz szKey hel) rfl rfl (oneB _) ((hM.out.get (i := 1) rfl).there8 (by rw [hel, List.length_replicate]))) rfl rfl ?_
  replace hM := Lib.hid (hM.out.put 1 rfl (m := E) (by rw [hel, List.length_replicate]))
  generalize a5.setCells g2 0 (E.map b8) = a6 at *
  refine wpList_skip (run_stA (vs := D.map b8) rfl (sz szKey hdl) rfl rfl (oneB _) ((hM.out.get (i := 0) rfl).there8 (by rw [hdl, List.length_replicate]))) rfl rfl ?_
  refine wpList_end ?_
  replace hM : Hid (Ms w [(g3, D), (g2, E), (g1, key)] (a6.setCells g3 0 (D.map b8))) := Lib.hid (hM.out.put 0 rfl (m := D) (by rw [hdl, List.length_replicate]))
  generalize a6.setCells g3 0 (D.map b8) = a7 at *
  go_upto_region 5 with fail; refine wp_region_lit ?_
  refine wpList_val (run_ldM (vs := D.map b8) rfl Tryd.underlying29 rfl (sz szKey hdl) rfl (hM.out.get (i := 0) rfl).range) rfl ?_; (try simp only [Act.put, List.setIfInBounds_toArray, List.set_cons_zero, List.set_cons_succ])
  refine wpList_val (run_mv (v := b64 _) rfl rfl) rfl ?_; (try simp only [Act.put, List.setIfInBounds_toArray, List.set_cons_zero, List.set_cons_succ])
  refine wpList_val (run_mv (v := vw) rfl rfl) rfl ?_; (try simp only [Act.put, List.setIfInBounds_toArray, List.set_cons_zero, List.set_cons_succ])
  refine wpList_val (run_mv (v := .slice (some _) _ _) rfl rfl) rfl ?_; (try simp only [Act.put, List.setIfInBounds_toArray, List.set_cons_zero, List.set_cons_succ])
  refine wpList_enter (run_call4 enters_bind rfl rfl rfl rfl rfl rfl) rfl (HBi.out _ _ (HW.out.below hM.out.bl) (SF.out.below hM.out.bl) (HT.out.below hM.out.bl)) (fun b1 hb => ?_); (try simp only [Act.put, List.setIfInBounds_toArray, List.set_cons_zero, List.set_cons_succ])
  replace hM := Lib.hid (hM.out.below hb)
  clear hb
  refine wpList_val (run_alc (vs := z8 32) rfl (by kernel_rfl)) rfl ?_; (try simp only [Act.put, List.setIfInBounds_toArray, List.set_cons_zero, List.set_cons_succ]); replace hM := Lib.hid (hM.out.newZ 32 29); generalize b1.alloc (.cells (z8 32).toArray 29) = b2 at *; generalize b1.heap.size = g4 at *
  refine wpList_skip (run_stA (vs := tg.map b8) rfl (sz szKey htl) rfl rfl (oneB _) ((hM.out.get (i := 0) rfl).there8 (by rw [htl, List.length_replicate]))) rfl rfl ?_
  refine wpList_end ?_
  replace hM : Hid (Ms w [(g4, tg), (g3, D), (g2, E), (g1, key)] (b2.setCells g4 0 (tg.map b8))) := Lib.hid (hM.out.put 0 rfl (m := tg) (by rw [htl, List.length_replicate]))
  generalize b2.setCells g4 0 (tg.map b8) = b3 at *
  go_upto_region 6 with fail; refine wp_region_lit ?_
  refine wpList_val (run_slA rfl Tryd.underlying29 (by kernel_rfl) rfl) rfl ?_; (try simp only [Act.put, List.setIfInBounds_toArray, List.set_cons_zero, List.set_cons_succ])
  refine wpList_val (run_mv (v := vt) rfl rfl) rfl ?_; (try simp only [Act.put, List.setIfInBounds_toArray, List.set_cons_zero, List.set_cons_succ])
  refine wpList_enter (run_call2 enters_same rfl rfl rfl rfl) rfl (same_any _ tg _ bk _ (sl_own (hM.out.get (i := 0) rfl) htl) (SB.out.below hM.out.bl) (by omega)) (fun b4 hb => ?_); (try simp only [Act.put, List.setIfInBounds_toArray, List.set_cons_zero, List.set_cons_succ])
  replace hM := Lib.hid (hM.out.below hb)
  clear hb
  by_cases ho : tg = bk
  · obtain ⟨e1, e2⟩ := H1.out ho
    have EE := Lib.hid e1
    have EO := Lib.hid e2
    clear e1 e2 H1 H2
    rw [decide_eq_true ho]
    refine wpList_val (run_notS (c := true) rfl rfl) rfl ?_; (try simp only [Act.put, List.setIfInBounds_toArray, List.set_cons_zero, List.set_cons_succ])
    refine wpList_end ?_
    go_upto_region 8 with fail
    refine wp_region_noPanic ?_; refine wp_region_late (S := Till 6 (fun V => Below b4.heap.size b4 V)) (by kernel_rfl) (.inr (Below.refl _ _).drew) (fun _ => ?_); have hS : Below b4.heap.size b4 b4.drew := (Below.refl _ _).drew
    generalize b4.drew = b5 at *
    refine wpAnyD_take 0 rfl rfl (by kernel_rfl) (by kernel_rfl) (by kernel_rfl) (by kernel_rfl) (by kernel_rfl) (fun _ _ _ h => h) rfl (fun V hV => run_ldM (vs := E.map b8) rfl Tryd.underlying29 rfl (sz szKey hel) rfl ((hM.out.below hV).get (i := 2) rfl).range) hS ?_; (try simp only [Act.put, List.setIfInBounds_toArray, List.set_cons_zero, List.set_cons_succ])
    refine wpAnyD_take 1 rfl rfl (by kernel_rfl) (by kernel_rfl) (by kernel_rfl) (by kernel_rfl) (by kernel_rfl) (fun _ _ _ h => h) rfl (fun V hV => run_mv (v := b64 _) rfl rfl) hS ?_; (try simp only [Act.put, List.setIfInBounds_toArray, List.set_cons_zero, List.set_cons_succ])
    refine wpAnyD_take 3 rfl rfl (by kernel_rfl) (by kernel_rfl) (by kernel_rfl) (by kernel_rfl) (by kernel_rfl) (fun _ _ _ h => h) rfl (fun V hV => run_mv (v := .slice (some _) _ _) rfl rfl) hS ?_; (try simp only [Act.put, List.setIfInBounds_toArray, List.set_cons_zero, List.set_cons_succ])
    refine wpAnyD_call 2 (by kernel_rfl) rfl rfl rfl (run_call1 enters_nonce rfl rfl rfl) (HN.out _) (fun w hb => hS.trans (hb.mono hS.size)) (fun b6 hb => ?_); replace hS := hS.trans (hb.mono hS.size); clear hb; (try simp only [Act.put, List.setIfInBounds_toArray, List.set_cons_zero, List.set_cons_succ])
    refine wpAnyD_callR 4 (by kernel_rfl) rfl rfl rfl (run_call3 enters_counter rfl rfl rfl rfl rfl) (HC.out _ _ (SF.out.below (hM.out.below hS).bl)) (fun v w' hR => hS.trans (hR.2.mono hS.size)) (fun v11 b7 hR => ?_); (try simp only [Act.put, List.setIfInBounds_toArray, List.set_cons_zero, List.set_cons_succ])
    replace hS := hS.trans (hR.2.mono hS.size)
    have SH := Lib.hid hR.1
    clear hR
    refine wpAnyD_val 5 (by kernel_rfl) rfl rfl rfl (run_asg (v := v11) rfl rfl) (.inr (hS)) ?_; (try simp only [Act.put, List.setIfInBounds_toArray, List.set_cons_zero, List.set_cons_succ])
    refine wpAnyD_val 6 (by kernel_rfl) rfl rfl rfl (run_asg (v := .int _ _) rfl rfl) (.inl rfl) ?_; (try simp only [Act.put, List.setIfInBounds_toArray, List.set_cons_zero, List.set_cons_succ])
    refine wpAnyL_done (by kernel_rfl) ?_ _; refine NoPanic.normal ?_
    replace hM := Lib.hid (hM.out.below hS)
    clear hS
    go_wp2_with fail
    exact bodyPost_ret (results_tmp2 Tryd.results12 _ _ _) rfl ⟨_, rfl, by rw [EE.out, EO.out]; exact ⟨_, rfl, SH.out⟩, hM.out.bl⟩
  · obtain ⟨e1, e2⟩ := H2.out ho
    have EE := Lib.hid e1
    have EO := Lib.hid e2
    clear e1 e2 H1 H2
    rw [decide_eq_false ho]
    refine wpList_val (run_notS (c := false) rfl rfl) rfl ?_; (try simp only [Act.put, List.setIfInBounds_toArray, List.set_cons_zero, List.set_cons_succ])
    refine wpList_end ?_
    go_upto_region 7 with fail; refine wp_region_lit ?_
    refine wpList_val (run_asg (v := .slice _ _ _) rfl rfl) rfl ?_; (try simp only [Act.put, List.setIfInBounds_toArray, List.set_cons_zero, List.set_cons_succ]); refine wpList_val (run_asg (v := .int _ _) rfl rfl) rfl ?_; (try simp only [Act.put, List.setIfInBounds_toArray, List.set_cons_zero, List.set_cons_succ])
    refine wpList_end ?_
    go_wp2_with fail
    exact bodyPost_ret (results_tmp2 Tryd.results12 _ _ _) rfl ⟨_, rfl, by rw [EE.out, EO.out]; exact ⟨_, rfl, sl_nil _⟩, hM.out.bl⟩
end Go.Proofs.YtobpgolchlgpfaaDoor
namespace Go.Proofs.YtobpgolchlgpfaaDoor
open Go.RowKit
set_option maxRecDepth 20000

theorem enters_known6 : Enters 9 := enters_of Tryd.func9 (by kernel_rfl) rfl
set_option maxHeartbeats 4000000 in
theorem known6_any (w : World) (hT : Tabs w) : Calls Tryd.prog 9 #[] w fun e w' => e = .returned (.bool true) ∧ Below w.heap.size w w' := by
  have HT := Lib.hid hT; clear hT
  have hXl := seal_len kk6 2 kx6 kab6
  have HS : Hid (∀ (vw vb : Value) (u : World), Sl vw kx6 u → Sl vb kab6 u → Tabs u → Calls Tryd.prog 10 #[.agg (kk6.map b8).toArray, b64 2, vw, vb] u fun e w' => ∃ v', e = .returned v' ∧ S5 u v' (sealB kk6 2 kx6 kab6) w') := Lib.hid fun vw vb u h1 h2 h3 => seal_any kk6 2 vw kx6 vb kab6 u rfl h1 (by decide) h2 (by decide) h3
  have HO1 : Hid (∀ (vw vb : Value) (u : World), Sl vw kx6 u → Sl vb (sealB kk6 2 kx6 kab6) u → Tabs u → Calls Tryd.prog 12 #[.agg (kk6.map b8).toArray, b64 2, vw, vb] u fun e w' => ∃ v, e = .returned v ∧ (OpenR v kab6 0 w' ∧ Below u.heap.size u w')) := Lib.hid fun vw vb u h1 h2 h3 => by
    have h := open_any kk6 2 vw kx6 vb _ u rfl h1 (by decide) h2 (by rw [hXl]; decide) h3
    rw [(open_sealB kk6 2 kx6 kab6).1, (open_sealB kk6 2 kx6 kab6).2] at h
    exact h
  have HO2 : Hid (∀ (vw vb : Value) (u : World), Sl vw ky6 u → Sl vb (sealB kk6 2 kx6 kab6) u → Tabs u → Calls Tryd.prog 12 #[.agg (kk6.map b8).toArray, b64 2, vw, vb] u fun e w' => ∃ v, e = .returned v ∧ (OpenR v [] 21 w' ∧ Below u.heap.size u w')) := Lib.hid fun vw vb u h1 h2 h3 => by
    have h := open_any kk6 2 vw ky6 vb _ u rfl h1 (by decide) h2 (by rw [hXl]; decide) h3
    rw [known_open2.1, known_open2.2] at h
    exact h
  replace hXl : (sealB kk6 2 kx6 kab6).length = 34 := hXl
  generalize sealB kk6 2 kx6 kab6 = X at *
  have bl := Below.refl w.heap.size w
  go_enter Tryd.func9, Tryd.ntmps9
  go_upto_region 1 with fail; refine wp_region_lit ?_
  refine wpList_val (run_bld (cells := (kk6.map b8).toArray) rfl (by kernel_rfl)) rfl ?_; (try simp only [Act.put, List.setIfInBounds_toArray, List.set_cons_zero, List.set_cons_succ])
  refine wpList_val (run_bsl (cells := ((kx6).map b8).toArray) (z := .int .u8 0) rfl Tryd.underlying30 (by kernel_rfl) (by omega) (by omega) (by kernel_rfl)) rfl ?_; (try simp only [Act.put, List.setIfInBounds_toArray, List.set_cons_zero, List.set_cons_succ]); refine wpList_val (run_cvb rfl rfl) rfl ?_; (try simp only [Act.put, List.setIfInBounds_toArray, List.set_cons_zero, List.set_cons_succ]); have hb : Below w.heap.size w (w.alloc (.cells ((kx6).map b8).toArray 5 (((kx6).map b8).toArray.size, ((kx6).map b8).toArray.size + 1))) := (Below.refl _ _).alloc (Nat.le_refl _) _; have S1 : Hid (Sl (.slice (some ⟨w.heap.size, 0, none⟩) 1 1) kx6 (w.alloc (.cells ((kx6).map b8).toArray 5 (((kx6).map b8).toArray.size, ((kx6).map b8).toArray.size + 1)))) := Lib.hid (row_const w kx6 1 _ rfl); generalize (w.alloc (.cells ((kx6).map b8).toArray 5 (((kx6).map b8).toArray.size, ((kx6).map b8).toArray.size + 1))) = a1 at *; replace bl := bl.trans (hb.mono bl.size)
  clear hb
  refine wpList_val (run_bsl (cells := ((kab6).map b8).toArray) (z := .int .u8 0) rfl Tryd.underlying30 (by kernel_rfl) (by omega) (by omega) (by kernel_rfl)) rfl ?_; (try simp only [Act.put, List.setIfInBounds_toArray, List.set_cons_zero, List.set_cons_succ]); refine wpList_val (run_cvb rfl rfl) rfl ?_; (try simp only [Act.put, List.setIfInBounds_toArray, List.set_cons_zero, List.set_cons_succ]); have hb : Below a1.heap.size a1 (a1.alloc (.cells ((kab6).map b8).toArray 5 (((kab6).map b8).toArray.size, ((kab6).map b8).toArray.size + 1))) := (Below.refl _ _).alloc (Nat.le_refl _) _; have S2 : Hid (Sl (.slice (some ⟨a1.heap.size, 0, none⟩) 2 2) kab6 (a1.alloc (.cells ((kab6).map b8).toArray 5 (((kab6).map b8).toArray.size, ((kab6).map b8).toArray.size + 1)))) := Lib.hid (row_const a1 kab6 2 _ rfl); generalize (a1.alloc (.cells ((kab6).map b8).toArray 5 (((kab6).map b8).toArray.size, ((kab6).map b8).toArray.size + 1))) = a2 at *; replace bl := bl.trans (hb.mono bl.size)
  replace S1 := Lib.hid (S1.out.below hb)
  clear hb
  refine wpList_callR (run_call4 (b := b64 2) enters_seal rfl rfl rfl rfl rfl rfl) rfl (HS.out _ _ _ S1.out S2.out (HT.out.below bl)) (fun v1 a3 hR => ?_); (try simp only [Act.put, List.setIfInBounds_toArray, List.set_cons_zero, List.set_cons_succ])
  replace bl := bl.trans (hR.bl.mono bl.size)
  have SX := Lib.hid hR.sl
  clear hR S1 S2
  refine wpList_val (run_asg (v := v1) rfl rfl) rfl ?_; (try simp only [Act.put, List.setIfInBounds_toArray, List.set_cons_zero, List.set_cons_succ])
  refine wpList_end ?_
  go_upto_region 2 with fail; refine wp_region_lit ?_
  refine wpList_val (run_bld (cells := (kk6.map b8).toArray) rfl (by kernel_rfl)) rfl ?_; (try simp only [Act.put, List.setIfInBounds_toArray, List.set_cons_zero, List.set_cons_succ])
  refine wpList_val (run_bsl (cells := ((kx6).map b8).toArray) (z := .int .u8 0) rfl Tryd.underlying30 (by kernel_rfl) (by omega) (by omega) (by kernel_rfl)) rfl ?_; (try simp only [Act.put, List.setIfInBounds_toArray, List.set_cons_zero, List.set_cons_succ]); refine wpList_val (run_cvb rfl rfl) rfl ?_; (try simp only [Act.put, List.setIfInBounds_toArray, List.set_cons_zero, List.set_cons_succ]); have hb : Below a3.heap.size a3 (a3.alloc (.cells ((kx6).map b8).toArray 5 (((kx6).map b8).toArray.size, ((kx6).map b8).toArray.size + 1))) := (Below.refl _ _).alloc (Nat.le_refl _) _; have S1 : Hid (Sl (.slice (some ⟨a3.heap.size, 0, none⟩) 1 1) kx6 (a3.alloc (.cells ((kx6).map b8).toArray 5 (((kx6).map b8).toArray.size, ((kx6).map b8).toArray.size + 1)))) := Lib.hid (row_const a3 kx6 1 _ rfl); generalize (a3.alloc (.cells ((kx6).map b8).toArray 5 (((kx6).map b8).toArray.size, ((kx6).map b8).toArray.size + 1))) = a4 at *; replace bl := bl.trans (hb.mono bl.size)
  replace SX := Lib.hid (SX.out.below hb)
  clear hb
  refine wpList_val (run_mv (v := v1) rfl rfl) rfl ?_; (try simp only [Act.put, List.setIfInBounds_toArray, List.set_cons_zero, List.set_cons_succ])
  refine wpList_callR (run_call4 (b := b64 2) enters_open rfl rfl rfl rfl rfl rfl) rfl (HO1.out _ _ _ S1.out SX.out (HT.out.below bl)) (fun v2 a5 hR => ?_); (try simp only [Act.put, List.setIfInBounds_toArray, List.set_cons_zero, List.set_cons_succ])
  obtain ⟨⟨o1, rfl, So⟩, hb⟩ := hR
  replace SX := Lib.hid (SX.out.below hb)
  replace bl := bl.trans (hb.mono bl.size)
  replace So := Lib.hid So
  clear hb S1
  refine wpList_val (run_mv (v := .tuple _) rfl rfl) rfl ?_; (try simp only [Act.put, List.setIfInBounds_toArray, List.set_cons_zero, List.set_cons_succ])
  refine wpList_val (run_ext (v := o1) rfl rfl rfl) rfl ?_; (try simp only [Act.put, List.setIfInBounds_toArray, List.set_cons_zero, List.set_cons_succ])
  refine wpList_val (run_ext (v := .int .u16 ((0 : Nat) : Int)) rfl rfl rfl) rfl ?_; (try simp only [Act.put, List.setIfInBounds_toArray, List.set_cons_zero, List.set_cons_succ])
  refine wpList_val (run_asg (v := o1) rfl rfl) rfl ?_; (try simp only [Act.put, List.setIfInBounds_toArray, List.set_cons_zero, List.set_cons_succ])
  refine wpList_val (run_asg (v := .int _ _) rfl rfl) rfl ?_; (try simp only [Act.put, List.setIfInBounds_toArray, List.set_cons_zero, List.set_cons_succ])
  refine wpList_end ?_
  go_upto_region 3 with fail; refine wp_region_lit ?_
  refine wpList_val (run_bld (cells := (kk6.map b8).toArray) rfl (by kernel_rfl)) rfl ?_; (try simp only [Act.put, List.setIfInBounds_toArray, List.set_cons_zero, List.set_cons_succ])
  refine wpList_val (run_bsl (cells := ((ky6).map b8).toArray) (z := .int .u8 0) rfl Tryd.underlying30 (by kernel_rfl) (by omega) (by omega) (by kernel_rfl)) rfl ?_; (try simp only [Act.put, List.setIfInBounds_toArray, List.set_cons_zero, List.set_cons_succ]); refine wpList_val (run_cvb rfl rfl) rfl ?_; (try simp only [Act.put, List.setIfInBounds_toArray, List.set_cons_zero, List.set_cons_succ]); have hb : Below a5.heap.size a5 (a5.alloc (.cells ((ky6).map b8).toArray 5 (((ky6).map b8).toArray.size, ((ky6).map b8).toArray.size + 1))) := (Below.refl _ _).alloc (Nat.le_refl _) _; have S1 : Hid (Sl (.slice (some ⟨a5.heap.size, 0, none⟩) 1 1) ky6 (a5.alloc (.cells ((ky6).map b8).toArray 5 (((ky6).map b8).toArray.size, ((ky6).map b8).toArray.size + 1)))) := Lib.hid (row_const a5 ky6 1 _ rfl); generalize (a5.alloc (.cells ((ky6).map b8).toArray 5 (((ky6).map b8).toArray.size, ((ky6).map b8).toArray.size + 1))) = a6 at *; replace bl := bl.trans (hb.mono bl.size)
  replace SX := Lib.hid (SX.out.below hb)
  replace So := Lib.hid (So.out.below hb)
  clear hb
  refine wpList_val (run_mv (v := v1) rfl rfl) rfl ?_; (try simp only [Act.put, List.setIfInBounds_toArray, List.set_cons_zero, List.set_cons_succ])
  refine wpList_callR (run_call4 (b := b64 2) enters_open rfl rfl rfl rfl rfl rfl) rfl (HO2.out _ _ _ S1.out SX.out (HT.out.below bl)) (fun v3 a7 hR => ?_); (try simp only [Act.put, List.setIfInBounds_toArray, List.set_cons_zero, List.set_cons_succ])
  obtain ⟨⟨o2, rfl, -⟩, hb⟩ := hR
  replace SX := Lib.hid (SX.out.below hb)
  replace So := Lib.hid (So.out.below hb)
  replace bl := bl.trans (hb.mono bl.size)
  clear hb S1
  refine wpList_val (run_mv (v := .tuple _) rfl rfl) rfl ?_; (try simp only [Act.put, List.setIfInBounds_toArray, List.set_cons_zero, List.set_cons_succ])
  refine wpList_val (run_ext (v := o2) rfl rfl rfl) rfl ?_; (try simp only [Act.put, List.setIfInBounds_toArray, List.set_cons_zero, List.set_cons_succ])
  refine wpList_val (run_ext (v := .int .u16 ((21 : Nat) : Int)) rfl rfl rfl) rfl ?_; (try simp only [Act.put, List.setIfInBounds_toArray, List.set_cons_zero, List.set_cons_succ])
  refine wpList_val (run_asg (v := o2) rfl rfl) rfl ?_; (try simp only [Act.put, List.setIfInBounds_toArray, List.set_cons_zero, List.set_cons_succ])
  refine wpList_val (run_asg (v := .int _ _) rfl rfl) rfl ?_; (try simp only [Act.put, List.setIfInBounds_toArray, List.set_cons_zero, List.set_cons_succ])
  refine wpList_end ?_
  obtain ⟨ao, c, rfl, -, -⟩ := id SX.out
  go_upto_region 4 with fail; refine wp_region_lit ?_
  refine wpList_val (run_mv (v := .slice _ _ _) rfl rfl) rfl ?_; (try simp only [Act.put, List.setIfInBounds_toArray, List.set_cons_zero, List.set_cons_succ])
  refine wpList_val (run_len rfl Tryd.underlying30 rfl) rfl ?_; (try simp only [Act.put, List.setIfInBounds_toArray, List.set_cons_zero, List.set_cons_succ])
  refine wpList_val (run_eqlb (c := true) rfl rfl rfl (by rw [hXl]; rfl)) rfl ?_; (try simp only [Act.put, List.setIfInBounds_toArray, List.set_cons_zero, List.set_cons_succ])
  refine wpList_val (run_mv (v := .bool true) rfl rfl) rfl ?_; (try simp only [Act.put, List.setIfInBounds_toArray, List.set_cons_zero, List.set_cons_succ])
  refine wpList_valG (run_mv (v := o1) rfl rfl) rfl ?_; (try simp only [Act.put, List.setIfInBounds_toArray, List.set_cons_zero, List.set_cons_succ])
  refine wpList_valG (run_str rfl rfl So.out) rfl ?_; (try simp only [Act.put, List.setIfInBounds_toArray, List.set_cons_zero, List.set_cons_succ])
  refine wpList_valG (run_eqstr rfl rfl rfl) rfl ?_; (try simp only [Act.put, List.setIfInBounds_toArray, List.set_cons_zero, List.set_cons_succ])
  refine wpList_val (run_pick (b := true) (v := .bool true) rfl rfl rfl) rfl ?_; (try simp only [Act.put, List.setIfInBounds_toArray, List.set_cons_zero, List.set_cons_succ])
  refine wpList_val (run_mv (v := .bool true) rfl rfl) rfl ?_; (try simp only [Act.put, List.setIfInBounds_toArray, List.set_cons_zero, List.set_cons_succ])
  refine wpList_valG (run_mv (v := .int _ _) rfl rfl) rfl ?_; (try simp only [Act.put, List.setIfInBounds_toArray, List.set_cons_zero, List.set_cons_succ])
  refine wpList_valG (run_eqlb (c := true) rfl rfl rfl rfl) rfl ?_; (try simp only [Act.put, List.setIfInBounds_toArray, List.set_cons_zero, List.set_cons_succ])
  refine wpList_val (run_pick (b := true) (v := .bool true) rfl rfl rfl) rfl ?_; (try simp only [Act.put, List.setIfInBounds_toArray, List.set_cons_zero, List.set_cons_succ])
  refine wpList_val (run_mv (v := .bool true) rfl rfl) rfl ?_; (try simp only [Act.put, List.setIfInBounds_toArray, List.set_cons_zero, List.set_cons_succ])
  refine wpList_valG (run_mv (v := .int _ _) rfl rfl) rfl ?_; (try simp only [Act.put, List.setIfInBounds_toArray, List.set_cons_zero, List.set_cons_succ])
  refine wpList_valG (run_eqlb (c := true) rfl rfl rfl rfl) rfl ?_; (try simp only [Act.put, List.setIfInBounds_toArray, List.set_cons_zero, List.set_cons_succ])
  refine wpList_val (run_pick (b := true) (v := .bool true) rfl rfl rfl) rfl ?_; (try simp only [Act.put, List.setIfInBounds_toArray, List.set_cons_zero, List.set_cons_succ])
  refine wpList_val (run_asg (v := .bool true) rfl rfl) rfl ?_; (try simp only [Act.put, List.setIfInBounds_toArray, List.set_cons_zero])
  refine wpList_end ?_
  go_wp2_with fail
  go_ret
  exact ⟨rfl, bl⟩
end Go.Proofs.YtobpgolchlgpfaaDoor
