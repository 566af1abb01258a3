/- What keywardref10's Account answers. -/
import Derived.Test.YtgioojahadlmhaaWrF
namespace Go.Proofs.Ytgioojahadlmhaa
open Go.RowKit
set_option maxRecDepth 20000
attribute [local irreducible] wpList

structure MSlot.Ok (m : MSlot) : Prop where
  signed : m.signed.key.length = 32
  sig : m.sig.length = 64
  ones : ∀ p ∈ m.ones, p.key.length = 32
  many : m.ones.length ≤ 60000
  mail : ∀ p ∈ m.mail, p.Ok
  much : m.mail.length ≤ 60000
  size : (evsB m.mail m.mail.length).length ≤ 8000000
structure MAc.Ok (m : MAc) : Prop where
  pin : m.pin.length ≤ 100000
  ls : m.ls.Ok
  slots : ∀ p ∈ m.slots, p.Ok
  many : m.slots.length ≤ 60000
  tokens : ∀ p ∈ m.tokens, p.length = 32
  much : m.tokens.length ≤ 60000
def slB (m : MSlot) : List (BitVec 8) := viB m.dev ++ pkB m.signed ++ m.sig ++ psB m.ones m.ones.length ++ viB m.last ++ evsB m.mail m.mail.length
def acF (m : MAc) (i : Nat) : List (BitVec 8) := viB m.id ++ txB m.pin ++ viB m.wrong ++ viB m.till ++ lsB m.ls ++ viB (m.slots.length : Int) ++ (m.slots.take i).flatMap slB
def acG (m : MAc) (i : Nat) : List (BitVec 8) := acF m m.slots.length ++ viB (m.tokens.length : Int) ++ (m.tokens.take i).flatten
def acB (m : MAc) : List (BitVec 8) := acG m m.tokens.length
theorem acF_succ {m : MAc} {i : Nat} (h : i < m.slots.length) : acF m (i + 1) = acF m i ++ slB m.slots[i] := by
  unfold acF
  rw [List.take_succ_eq_append_getElem h, List.flatMap_append]
  simp
theorem acG_succ {m : MAc} {i : Nat} (h : i < m.tokens.length) : acG m (i + 1) = acG m i ++ m.tokens[i] := by
  unfold acG
  rw [List.take_succ_eq_append_getElem h, List.flatten_append]
  simp
theorem acG_le (m : MAc) : ∀ k i, i + k = m.tokens.length → (acG m i).length ≤ (acB m).length
  | 0, i, h => by rw [acB, show i = m.tokens.length by omega]; exact Nat.le_refl _
  | k + 1, i, h => Nat.le_trans (by rw [acG_succ (show i < m.tokens.length by omega), List.length_append]; omega) (acG_le m k (i + 1) (by omega))
theorem acF_le (m : MAc) : ∀ k i, i + k = m.slots.length → (acF m i).length ≤ (acF m m.slots.length).length
  | 0, i, h => by rw [show i = m.slots.length by omega]; exact Nat.le_refl _
  | k + 1, i, h => Nat.le_trans (by rw [acF_succ (show i < m.slots.length by omega), List.length_append]; omega) (acF_le m k (i + 1) (by omega))
theorem acF_B (m : MAc) : (acF m m.slots.length).length ≤ (acB m).length := Nat.le_trans (by simp only [acG, List.length_append]; omega) (acG_le m m.tokens.length 0 (by omega))
theorem slAt_len {m : MSlot} {c : List Value} {V : World} (hm : m.Ok) (h : slAt m c V) : c.length = 101 := by
  obtain ⟨_, _, _, _, rfl, -⟩ := h
  exact slR_len (pkC_len' hm.signed) (by rw [List.length_map, hm.sig])
theorem slAt_fix {m : MSlot} {X : List Value} {w : World} (hm : m.Ok) (h : Fro 0 (slAt m X) w) : ∃ a c a2 c2, X = slR (.int .i64 m.dev) (pkC m.signed) (m.sig.map b8) (.slice a m.ones.length c) (.int .i64 m.last) (.slice a2 m.mail.length c2) ∧ Fro 0 (SlR 33 pkAt m.ones a c) w ∧ Fro 0 (SlR 72 evAt m.mail a2 c2) w := by
  obtain ⟨a, c, a2, c2, hq, -⟩ := h.now
  have t2 := pkC_len' hm.signed
  have t3 : (m.sig.map b8).length = 64 := by rw [List.length_map, hm.sig]
  have key : ∀ V, Ext 0 [] w V → SlR 33 pkAt m.ones a c V ∧ SlR 72 evAt m.mail a2 c2 V := fun V hV => by
    obtain ⟨d2, d3, d4, d5, h1, h3, h4⟩ := h V hV
    rw [hq] at h1
    have e2 : (_ : List Value)[98]? = (_ : List Value)[98]? := congrArg (fun l : List Value => l[98]?) h1
    have e3 : (_ : List Value)[100]? = (_ : List Value)[100]? := congrArg (fun l : List Value => l[100]?) h1
    rw [slR_Ones t2 t3, slR_Ones t2 t3] at e2
    rw [slR_Mail t2 t3, slR_Mail t2 t3] at e3
    simp only [Option.some.injEq, Value.slice.injEq] at e2 e3
    obtain ⟨rfl, _, rfl⟩ := e2
    obtain ⟨rfl, _, rfl⟩ := e3
    exact ⟨h3, h4⟩
  exact ⟨a, c, a2, c2, hq, fun V hV => (key V hV).1, fun V hV => (key V hV).2⟩
theorem acAt_fix {m : MAc} {X : List Value} {w : World} (hm : m.Ok) (h : Fro 0 (acAt m X) w) : ∃ c1 a c a2 c2, X = acR (.int .i64 m.id) (.string (strOf m.pin)) (.int .i64 m.wrong) (.int .i64 m.till) c1 (.slice a m.slots.length c) (.slice a2 m.tokens.length c2) ∧ c1.length = 99 ∧ One c1 ∧ Fro 0 (lsAt m.ls c1) w ∧ Fro 0 (SlR 101 slAt m.slots a c) w ∧ Fro 0 (SlR 32 tkAt m.tokens a2 c2) w := by
  obtain ⟨c1, a, c, a2, c2, hq, q1, -⟩ := h.now
  have l1 := lsAt_len hm.ls q1
  have key : ∀ V, Ext 0 [] w V → lsAt m.ls c1 V ∧ SlR 101 slAt m.slots a c V ∧ SlR 32 tkAt m.tokens a2 c2 V := fun V hV => by
    obtain ⟨d1, d2, d3, d4, d5, h1, h2, h3, h4⟩ := h V hV
    have m1 := lsAt_len hm.ls h2
    rw [hq] at h1
    have e1 : (_ : List Value) = (_ : List Value) := congrArg (fun l : List Value => (l.drop 4).take 99) h1
    have e2 : (_ : List Value)[103]? = (_ : List Value)[103]? := congrArg (fun l : List Value => l[103]?) h1
    have e3 : (_ : List Value)[104]? = (_ : List Value)[104]? := congrArg (fun l : List Value => l[104]?) h1
    rw [acR_List l1, acR_List m1] at e1
    rw [acR_Slots l1, acR_Slots m1] at e2
    rw [acR_Tokens l1, acR_Tokens m1] at e3
    simp only [Option.some.injEq, Value.slice.injEq] at e2 e3
    obtain ⟨rfl, _, rfl⟩ := e2
    obtain ⟨rfl, _, rfl⟩ := e3
    subst e1
    exact ⟨h2, h3, h4⟩
  exact ⟨c1, a, c, a2, c2, hq, l1, lsAt_one q1, fun V hV => (key V hV).1, fun V hV => (key V hV).2.1, fun V hV => (key V hV).2.2⟩
theorem enters_account10 : Enters 32 := enters_of Try.func32 (by kernel_rfl) rfl
set_option maxHeartbeats 16000000 in
theorem account10_any (m : MAc) (X : List Value) (w : World) (hm : m.Ok) (hT : (acB m).length ≤ 12000000) (hX : Fro 0 (acAt m X) w) : Calls Try.prog 32 #[.agg X.toArray] w fun x w' => ∃ v', x = .returned v' ∧ S5 w v' (acB m) w' := by
  obtain ⟨c1, ai, ci, aj, cj, rfl, l1, o1, f1, f2, f3⟩ := acAt_fix hm hX
  clear hX
  have C1 : Hid (∀ u : World, Since w u → Calls Try.prog 23 #[.agg c1.toArray] u fun x w' => ∃ v', x = .returned v' ∧ S5 u v' (lsB m.ls) w') := Lib.hid fun u hu => list10_any m.ls c1 u hm.ls fun V hV => f1 V (hV.below hu)
  have HE : Hid (∀ i, i < m.slots.length → ∃ g f dev sg sig last ones mail a2 c2 a3 c3, ai = some ⟨g, f, none⟩ ∧ acF m (i + 1) = acF m i ++ (viB dev ++ pkB sg ++ sig ++ psB ones ones.length ++ viB last ++ evsB mail mail.length) ∧ (acF m i).length + (viB dev ++ pkB sg ++ sig ++ psB ones ones.length ++ viB last ++ evsB mail mail.length).length ≤ 12000000 ∧ (sg : MPk).key.length = 32 ∧ (sig : List (BitVec 8)).length = 64 ∧ (∀ u, Since w u → u.rangeAt g (f + i * 101) (slR (.int .i64 dev) (pkC sg) (sig.map b8) (.slice a2 (ones : List MPk).length c2) (.int .i64 last) (.slice a3 (mail : List MEv).length c3))) ∧ (∀ u, Since w u → Calls Try.prog 64 #[.slice a2 ones.length c2] u fun e w' => ∃ v', e = .returned v' ∧ S5 u v' (psB ones ones.length) w') ∧ (∀ u, Since w u → Calls Try.prog 69 #[.slice a3 mail.length c3] u fun e w' => ∃ v', e = .returned v' ∧ S5 u v' (evsB mail mail.length) w')) := Lib.hid fun i hi => by
    obtain ⟨g, f, cs, h1, h2, h3, h4, h5⟩ := slR_get f2 hi
    have hk := hm.slots _ (List.getElem_mem hi)
    obtain ⟨a2, c2, a3, c3, rfl, q1, q2⟩ := slAt_fix hk h5
    have hle := Nat.le_trans (acF_le m (m.slots.length - (i + 1)) (i + 1) (by omega)) (acF_B m)
    rw [acF_succ hi, List.length_append] at hle
    exact ⟨g, f, m.slots[i].dev, m.slots[i].signed, m.slots[i].sig, m.slots[i].last, m.slots[i].ones, m.slots[i].mail, a2, c2, a3, c3, h1, acF_succ hi, Nat.le_trans hle hT, hk.signed, hk.sig, fun u hu => rangeAt_below h4 h2 hu, fun u hu => prekeys10_any a2 c2 _ u hk.ones hk.many (lz_of (q1 u (Ext.of_below hu))), fun u hu => envelopes10_any a3 c3 _ u hk.mail hk.size hk.much fun V hV => q2 V (hV.below hu)⟩
  have HK : Hid (∀ i, i < m.tokens.length → ∃ g f k, aj = some ⟨g, f, none⟩ ∧ acG m (i + 1) = acG m i ++ k ∧ (k : List (BitVec 8)).length = 32 ∧ (∀ u, Since w u → u.rangeAt g (f + i * 32) (k.map b8))) := Lib.hid fun i hi => by
    obtain ⟨g, f, cs, h1, h2, h3, h4, h5⟩ := slR_get f3 hi
    have e : cs = m.tokens[i].map b8 := h5.now
    subst e
    exact ⟨g, f, m.tokens[i], h1, acG_succ hi, hm.tokens _ (List.getElem_mem hi), fun u hu => rangeAt_below h4 h2 hu⟩
  have HL : Hid (∀ i, i ≤ m.slots.length → (acF m i).length ≤ 12000000) := Lib.hid fun i hi => Nat.le_trans (Nat.le_trans (acF_le m (m.slots.length - i) i (by omega)) (acF_B m)) hT
  have HG : Hid (∀ i, i ≤ m.tokens.length → (acG m i).length ≤ 12000000) := Lib.hid fun i hi => Nat.le_trans (acG_le m (m.tokens.length - i) i (by omega)) hT
  have E0' : Hid (acF m 0 = viB m.id ++ txB m.pin ++ viB m.wrong ++ viB m.till ++ lsB m.ls ++ viB ((m.slots.length : Nat) : Int)) := Lib.hid (by simp [acF])
  have EG : Hid (acG m 0 = acF m m.slots.length ++ viB ((m.tokens.length : Nat) : Int)) := Lib.hid (by simp [acG])
  have EO : Hid (acB m = acG m m.tokens.length) := Lib.hid rfl
  have CT := Lib.hid (fun (l : List (BitVec 8)) (u : World) (h : l.length ≤ 100000) => tx10_any l u (by omega))
  have p1 := hm.pin
  have kn := hm.many
  have kt := hm.much
  have b0 := viB_len m.id
  have b1 := viB_len m.wrong
  have b2 := viB_len m.till
  have b3 := txB_len m.pin
  have b6 := lsB_len hm.ls
  have b9 := viB_len ((m.slots.length : Nat) : Int)
  have ba := viB_len ((m.tokens.length : Nat) : Int)
  have E := Lib.hid (Ev.start (w := w) (F := fun _ => True) fun _ _ => trivial)
  clear f1 f2 f3 hm hT
  obtain ⟨Fl, hFl⟩ : ∃ Fl, Fl = acF m := ⟨_, rfl⟩
  obtain ⟨Gl, hGl⟩ : ∃ Gl, Gl = acG m := ⟨_, rfl⟩
  rw [← hFl] at HE HL E0' EG
  rw [← hGl] at HK HG EG EO
  clear hFl hGl
  generalize acB m = out at *
  generalize lsB m.ls = B1 at *
  generalize m.slots.length = n at *
  generalize m.tokens.length = q at *
  go_enter Try.func32, Try.ntmps32
  go_upto_region 0 with fail; refine wp_region_lit ?_
  refine wpList_val (run_boxL8 (vs := acR (.int .i64 m.id) (.string (strOf m.pin)) (.int .i64 m.wrong) (.int .i64 m.till) (c1) (.slice ai n ci) (.slice aj q cj)) rfl rfl) rfl ?_; (try simp only [Act.put, List.setIfInBounds_toArray, List.set_cons_zero, List.set_cons_succ])
  replace E := Lib.hid (E.out.new (acR (.int .i64 m.id) (.string (strOf m.pin)) (.int .i64 m.wrong) (.int .i64 m.till) (c1) (.slice ai n ci) (.slice aj q cj)) 52)
  generalize w.alloc (.cells (acR (.int .i64 m.id) (.string (strOf m.pin)) (.int .i64 m.wrong) (.int .i64 m.till) (c1) (.slice ai n ci) (.slice aj q cj)).toArray 52) = a1 at *
  generalize w.heap.size = g2 at *
  refine wpList_val (run_asg (v := .slice none 0 0) rfl rfl) rfl ?_; (try simp only [Act.put, List.setIfInBounds_toArray, List.set_cons_zero, List.set_cons_succ])
  refine wpList_end ?_
  go_upto_region 1 with fail
  refine wp_region_noPanic ?_; refine wp_region_late (S := fun _ V => Below a1.heap.size a1 V) (by kernel_rfl) ((Below.refl _ _).drew) (fun hS => ?_)
  have E0 := E
  replace E := Lib.hid (E.out.below hS)
  generalize a1.drew = a3 at *
  refine wpAnyL_take 0 rfl rfl (by kernel_rfl) (by kernel_rfl) (by kernel_rfl) (fun _ _ _ h => h) rfl (fun V hV => run_fad (s := 0) (k := 0) rfl Try.underlying52 rfl (by kernel_rfl) rfl rfl) hS ?_; (try simp only [Act.put, List.setIfInBounds_toArray, List.set_cons_zero, List.set_cons_succ])
  refine wpAnyL_take 1 rfl rfl (by kernel_rfl) (by kernel_rfl) (by kernel_rfl) (fun _ _ _ h => h) rfl (fun V hV => run_ldc rfl Try.underlying3 rfl rfl (((E0.out.below hV).get (i := 0) rfl).c 0 _ (acR_ID ))) hS ?_; (try simp only [Act.put, List.setIfInBounds_toArray, List.set_cons_zero, List.set_cons_succ])
  refine wpAnyL_take 3 rfl rfl (by kernel_rfl) (by kernel_rfl) (by kernel_rfl) (fun _ _ _ h => h) rfl (fun V hV => run_fad (s := 0) (k := 1) rfl Try.underlying52 rfl (by kernel_rfl) rfl rfl) hS ?_; (try simp only [Act.put, List.setIfInBounds_toArray, List.set_cons_zero, List.set_cons_succ])
  refine wpAnyL_take 4 rfl rfl (by kernel_rfl) (by kernel_rfl) (by kernel_rfl) (fun _ _ _ h => h) rfl (fun V hV => run_ldc rfl Try.underlying9 rfl rfl (((E0.out.below hV).get (i := 0) rfl).c 1 _ (acR_Pin ))) hS ?_; (try simp only [Act.put, List.setIfInBounds_toArray, List.set_cons_zero, List.set_cons_succ])
  refine wpAnyL_take 6 rfl rfl (by kernel_rfl) (by kernel_rfl) (by kernel_rfl) (fun _ _ _ h => h) rfl (fun V hV => run_fad (s := 0) (k := 2) rfl Try.underlying52 rfl (by kernel_rfl) rfl rfl) hS ?_; (try simp only [Act.put, List.setIfInBounds_toArray, List.set_cons_zero, List.set_cons_succ])
  refine wpAnyL_take 7 rfl rfl (by kernel_rfl) (by kernel_rfl) (by kernel_rfl) (fun _ _ _ h => h) rfl (fun V hV => run_ldc rfl Try.underlying3 rfl rfl (((E0.out.below hV).get (i := 0) rfl).c 2 _ (acR_Wrong ))) hS ?_; (try simp only [Act.put, List.setIfInBounds_toArray, List.set_cons_zero, List.set_cons_succ])
  refine wpAnyL_take 9 rfl rfl (by kernel_rfl) (by kernel_rfl) (by kernel_rfl) (fun _ _ _ h => h) rfl (fun V hV => run_fad (s := 0) (k := 3) rfl Try.underlying52 rfl (by kernel_rfl) rfl rfl) hS ?_; (try simp only [Act.put, List.setIfInBounds_toArray, List.set_cons_zero, List.set_cons_succ])
  refine wpAnyL_take 10 rfl rfl (by kernel_rfl) (by kernel_rfl) (by kernel_rfl) (fun _ _ _ h => h) rfl (fun V hV => run_ldc rfl Try.underlying3 rfl rfl (((E0.out.below hV).get (i := 0) rfl).c 3 _ (acR_Until ))) hS ?_; (try simp only [Act.put, List.setIfInBounds_toArray, List.set_cons_zero, List.set_cons_succ])
  refine wpAnyL_take 12 rfl rfl (by kernel_rfl) (by kernel_rfl) (by kernel_rfl) (fun _ _ _ h => h) rfl (fun V hV => run_fad (s := 98) (k := 4) rfl Try.underlying52 rfl (by kernel_rfl) rfl rfl) hS ?_; (try simp only [Act.put, List.setIfInBounds_toArray, List.set_cons_zero, List.set_cons_succ])
  refine wpAnyL_take 13 rfl rfl (by kernel_rfl) (by kernel_rfl) (by kernel_rfl) (fun _ _ _ h => h) rfl (fun V hV => run_ldM (vs := c1) rfl Try.underlying40 rfl (szR l1 (by kernel_rfl)) rfl (((E0.out.below hV).get (i := 0) rfl).seg (acR_List l1))) hS ?_; (try simp only [Act.put, List.setIfInBounds_toArray, List.set_cons_zero, List.set_cons_succ])
  refine wpAnyL_take 15 rfl rfl (by kernel_rfl) (by kernel_rfl) (by kernel_rfl) (fun _ _ _ h => h) rfl (fun V hV => run_fad (s := 0) (k := 103) rfl Try.underlying52 rfl (by kernel_rfl) rfl rfl) hS ?_; (try simp only [Act.put, List.setIfInBounds_toArray, List.set_cons_zero, List.set_cons_succ])
  refine wpAnyL_take 16 rfl rfl (by kernel_rfl) (by kernel_rfl) (by kernel_rfl) (fun _ _ _ h => h) rfl (fun V hV => run_ldc rfl Try.underlying49 rfl rfl (((E0.out.below hV).get (i := 0) rfl).c 103 _ (acR_Slots l1))) hS ?_; (try simp only [Act.put, List.setIfInBounds_toArray, List.set_cons_zero, List.set_cons_succ])
  refine wpAnyL_take 17 rfl rfl (by kernel_rfl) (by kernel_rfl) (by kernel_rfl) (fun _ _ _ h => h) rfl (fun V hV => run_len rfl Try.underlying49 rfl) hS ?_; (try simp only [Act.put, List.setIfInBounds_toArray, List.set_cons_zero, List.set_cons_succ])
  refine wpAnyL_call 2 (by kernel_rfl) rfl rfl rfl (run_call1 enters_number10 rfl rfl rfl) (number10_any m.id _) (fun v w h => hS.trans (h.bl.mono hS.size)) (fun v5 a4 hR => ?_); (try simp only [Act.put, List.setIfInBounds_toArray, List.set_cons_zero, List.set_cons_succ])
  have hb9 := hR.bl
  replace hS := hS.trans (hb9.mono hS.size)
  have hs9 := hR.sl
  obtain ⟨xa6, xc7, rfl, -, -⟩ := id hs9
  replace E := Lib.hid (E.out.call hb9 (fro_sl hR.O))
  clear hb9 hR hs9
  refine wpAnyL_call 5 (by kernel_rfl) rfl rfl rfl (run_call1 enters_text10 rfl rfl rfl) (CT.out m.pin _ p1) (fun v w h => hS.trans (h.bl.mono hS.size)) (fun v9 a8 hR => ?_); (try simp only [Act.put, List.setIfInBounds_toArray, List.set_cons_zero, List.set_cons_succ])
  have hb9 := hR.bl
  replace hS := hS.trans (hb9.mono hS.size)
  have hs9 := hR.sl
  obtain ⟨xa10, xc11, rfl, -, -⟩ := id hs9
  replace E := Lib.hid (E.out.call hb9 (fro_sl hR.O))
  clear hb9 hR hs9
  refine wpAnyL_call 8 (by kernel_rfl) rfl rfl rfl (run_call1 enters_number10 rfl rfl rfl) (number10_any m.wrong _) (fun v w h => hS.trans (h.bl.mono hS.size)) (fun v13 a12 hR => ?_); (try simp only [Act.put, List.setIfInBounds_toArray, List.set_cons_zero, List.set_cons_succ])
  have hb9 := hR.bl
  replace hS := hS.trans (hb9.mono hS.size)
  have hs9 := hR.sl
  obtain ⟨xa14, xc15, rfl, -, -⟩ := id hs9
  replace E := Lib.hid (E.out.call hb9 (fro_sl hR.O))
  clear hb9 hR hs9
  refine wpAnyL_call 11 (by kernel_rfl) rfl rfl rfl (run_call1 enters_number10 rfl rfl rfl) (number10_any m.till _) (fun v w h => hS.trans (h.bl.mono hS.size)) (fun v17 a16 hR => ?_); (try simp only [Act.put, List.setIfInBounds_toArray, List.set_cons_zero, List.set_cons_succ])
  have hb9 := hR.bl
  replace hS := hS.trans (hb9.mono hS.size)
  have hs9 := hR.sl
  obtain ⟨xa18, xc19, rfl, -, -⟩ := id hs9
  replace E := Lib.hid (E.out.call hb9 (fro_sl hR.O))
  clear hb9 hR hs9
  refine wpAnyL_call 14 (by kernel_rfl) rfl rfl rfl (run_call1 enters_list10 rfl rfl rfl) (C1.out _ E.out.bl) (fun v w h => hS.trans (h.bl.mono hS.size)) (fun v21 a20 hR => ?_); (try simp only [Act.put, List.setIfInBounds_toArray, List.set_cons_zero, List.set_cons_succ])
  have hb9 := hR.bl
  replace hS := hS.trans (hb9.mono hS.size)
  have hs9 := hR.sl
  obtain ⟨xa22, xc23, rfl, -, -⟩ := id hs9
  replace E := Lib.hid (E.out.call hb9 (fro_sl hR.O))
  clear hb9 hR hs9
  refine wpAnyL_call 18 (by kernel_rfl) rfl rfl rfl (run_call1 enters_number10 rfl rfl rfl) (number10_any ((n : Nat) : Int) _) (fun v w h => hS.trans (h.bl.mono hS.size)) (fun v25 a24 hR => ?_); (try simp only [Act.put, List.setIfInBounds_toArray, List.set_cons_zero, List.set_cons_succ])
  have hb9 := hR.bl
  replace hS := hS.trans (hb9.mono hS.size)
  have hs9 := hR.sl
  obtain ⟨xa26, xc27, rfl, -, -⟩ := id hs9
  replace E := Lib.hid (E.out.call hb9 (fro_sl hR.O))
  clear hb9 hR hs9
  have HC : Hid (Cat a24.heap.size [.slice xa6 (viB m.id).length xc7, .slice xa10 (txB m.pin).length xc11, .slice xa14 (viB m.wrong).length xc15, .slice xa18 (viB m.till).length xc19, .slice xa22 (B1).length xc23, .slice xa26 (viB ((n : Nat) : Int)).length xc27] [viB m.id, txB m.pin, viB m.wrong, viB m.till, B1, viB ((n : Nat) : Int)] (a24.alloc (.cells #[.slice xa6 (viB m.id).length xc7, .slice xa10 (txB m.pin).length xc11, .slice xa14 (viB m.wrong).length xc15, .slice xa18 (viB m.till).length xc19, .slice xa22 (B1).length xc23, .slice xa26 (viB ((n : Nat) : Int)).length xc27] 22))) := Lib.hid (cat_row a24 _ [viB m.id, txB m.pin, viB m.wrong, viB m.till, B1, viB ((n : Nat) : Int)] fun i hi => match i, hi with
    | 0, _ => ⟨_, rfl, E.out.h.2.2.2.2.2.1⟩
    | 1, _ => ⟨_, rfl, E.out.h.2.2.2.2.1⟩
    | 2, _ => ⟨_, rfl, E.out.h.2.2.2.1⟩
    | 3, _ => ⟨_, rfl, E.out.h.2.2.1⟩
    | 4, _ => ⟨_, rfl, E.out.h.2.1⟩
    | 5, _ => ⟨_, rfl, E.out.h.1⟩
    | i + 6, hi => absurd hi (by simp))
  refine wpAnyL_val 19 (by kernel_rfl) rfl rfl rfl (run_bsl (cells := #[.slice xa6 (viB m.id).length xc7, .slice xa10 (txB m.pin).length xc11, .slice xa14 (viB m.wrong).length xc15, .slice xa18 (viB m.till).length xc19, .slice xa22 (B1).length xc23, .slice xa26 (viB ((n : Nat) : Int)).length xc27]) (z := .slice none 0 0) rfl Try.underlying122 (by kernel_rfl) (by omega) (by omega) (by kernel_rfl)) (hS.alloc hS.size _) ?_; (try simp only [Act.put, List.setIfInBounds_toArray, List.set_cons_zero, List.set_cons_succ])
  replace E := Lib.hid (E.out.below (cat_belowA a24 #[.slice xa6 (viB m.id).length xc7, .slice xa10 (txB m.pin).length xc11, .slice xa14 (viB m.wrong).length xc15, .slice xa18 (viB m.till).length xc19, .slice xa22 (B1).length xc23, .slice xa26 (viB ((n : Nat) : Int)).length xc27] 22))
  replace hS := hS.alloc hS.size (.cells #[.slice xa6 (viB m.id).length xc7, .slice xa10 (txB m.pin).length xc11, .slice xa14 (viB m.wrong).length xc15, .slice xa18 (viB m.till).length xc19, .slice xa22 (B1).length xc23, .slice xa26 (viB ((n : Nat) : Int)).length xc27] 22)
  generalize a24.alloc (.cells #[.slice xa6 (viB m.id).length xc7, .slice xa10 (txB m.pin).length xc11, .slice xa14 (viB m.wrong).length xc15, .slice xa18 (viB m.till).length xc19, .slice xa22 (B1).length xc23, .slice xa26 (viB ((n : Nat) : Int)).length xc27] 22) = a28 at *
  generalize a24.heap.size = g29 at *
  refine wpAnyL_call 20 (by kernel_rfl) rfl rfl rfl (run_call1 enters_all10 rfl rfl rfl) (all10_any g29 _ [viB m.id, txB m.pin, viB m.wrong, viB m.till, B1, viB ((n : Nat) : Int)] 6 _ HC.out rfl (by omega) (by simp only [List.flatten_cons, List.flatten_nil, List.length_append, List.length_nil]; omega)) (fun v w h => hS.trans (h.bl.mono hS.size)) (fun V1 a30 hR => ?_); (try simp only [Act.put, List.setIfInBounds_toArray, List.set_cons_zero, List.set_cons_succ])
  have HV1 := Lib.hid (hR.mono E.out.bl)
  replace hS := hS.trans (hR.bl.mono hS.size)
  replace E := Lib.hid (E.out.below hR.bl)
  clear hR HC
  refine wpAnyL_take 21 rfl rfl (by kernel_rfl) (by kernel_rfl) (by kernel_rfl) (fun _ _ _ h => h) rfl (fun V hV => run_asg (v := V1) rfl rfl) hS ?_; (try simp only [Act.put, List.setIfInBounds_toArray, List.set_cons_zero, List.set_cons_succ])
  refine wpAnyL_done (by kernel_rfl) ?_ _; refine NoPanic.normal ?_
  have hI : Hid (S5 w V1 (Fl 0) a30) := Lib.hid (by
    have h := HV1.out
    rw [E0'.out]
    simpa using h)
  clear HV1 hS
  have E1 := Lib.hid (E.out.knowH (H0 := fun _ => True) fun _ _ => trivial)
  clear E E0
  have E := E1
  clear E1
  go_upto_region 2 with fail; refine wp_region_lit ?_
  refine wpList_val (run_asg (v := .int .i64 0) rfl rfl) rfl ?_; (try simp only [Act.put, List.setIfInBounds_toArray, List.set_cons_zero, List.set_cons_succ])
  refine wpList_end ?_
  go_wp2_with fail
  go_loopw [3, 4] (fun s3 s4 u => ∃ i : Nat, i ≤ n ∧ s4 = .int .i64 (i : Int) ∧ S5 w s3 (Fl i) u ∧ Ev w [(g2, acR (.int .i64 m.id) (.string (strOf m.pin)) (.int .i64 m.wrong) (.int .i64 m.till) (c1) (.slice ai n ci) (.slice aj q cj))] [] (fun _ => True) (fun _ => True) u) (fun _ s4 _ => (n - intOf s4).toNat)
  case atStart => exact ⟨0, by omega, rfl, hI.out, E.out⟩
  case round =>
    obtain ⟨i, hi, rfl, hJ, hE⟩ := hrel
    replace hI := Lib.hid hJ
    replace E := Lib.hid hE
    clear hJ hE
    have hfl := HL.out i hi
    by_cases hik : i = n
    · subst hik
      go_upto_region 3 with fail; refine wp_region_lit ?_
      refine wpList_val (run_mv (v := .int .i64 (i : Int)) rfl rfl) rfl ?_; (try simp only [Act.put, List.setIfInBounds_toArray, List.set_cons_zero, List.set_cons_succ])
      refine wpList_val (run_fad (s := 0) (k := 103) rfl Try.underlying52 rfl (by kernel_rfl) rfl rfl) rfl ?_; (try simp only [Act.put, List.setIfInBounds_toArray, List.set_cons_zero, List.set_cons_succ])
      refine wpList_val (run_ldc rfl Try.underlying49 rfl rfl ((E.out.get (i := 0) rfl).c 103 _ (acR_Slots l1))) rfl ?_; (try simp only [Act.put, List.setIfInBounds_toArray, List.set_cons_zero, List.set_cons_succ])
      refine wpList_val (run_len rfl Try.underlying49 rfl) rfl ?_; (try simp only [Act.put, List.setIfInBounds_toArray, List.set_cons_zero, List.set_cons_succ])
      refine wpList_val (run_lssb (c := false) rfl rfl rfl (decide_eq_false (by omega))) rfl ?_; (try simp only [Act.put, List.setIfInBounds_toArray, List.set_cons_zero, List.set_cons_succ])
      refine wpList_end ?_
      have HI := Lib.hid hI.out.sl
      obtain ⟨yy, cy, hy, -, -⟩ := id HI.out
      subst hy
      clear hI
      go_upto_region 7 with fail; refine wp_region_lit ?_
      have hS := Below.refl wr.heap.size wr
      refine wpList_val (run_mv (v := .slice yy (Fl i).length cy) rfl rfl) rfl ?_; (try simp only [Act.put, List.setIfInBounds_toArray, List.set_cons_zero, List.set_cons_succ])
      refine wpList_val (run_fad (s := 0) (k := 104) rfl Try.underlying52 rfl (by kernel_rfl) rfl rfl) rfl ?_; (try simp only [Act.put, List.setIfInBounds_toArray, List.set_cons_zero, List.set_cons_succ])
      refine wpList_val (run_ldc rfl Try.underlying50 rfl rfl ((E.out.get (i := 0) rfl).c 104 _ (acR_Tokens l1))) rfl ?_; (try simp only [Act.put, List.setIfInBounds_toArray, List.set_cons_zero, List.set_cons_succ])
      refine wpList_val (run_len rfl Try.underlying50 rfl) rfl ?_; (try simp only [Act.put, List.setIfInBounds_toArray, List.set_cons_zero, List.set_cons_succ])
      refine wpList_callR (run_call1 enters_number10 rfl rfl rfl) rfl (number10_any ((q : Nat) : Int) _) (fun v33 a32 hR => ?_); (try simp only [Act.put, List.setIfInBounds_toArray, List.set_cons_zero, List.set_cons_succ])
      have hb9 := hR.bl
      replace hS := hS.trans (hb9.mono hS.size)
      have hs9 := hR.sl
      obtain ⟨xa34, xc35, rfl, -, -⟩ := id hs9
      replace E := Lib.hid (E.out.call hb9 (fro_sl hR.O))
      clear hb9 hR hs9
      have HC : Hid (Cat a32.heap.size [.slice yy (Fl i).length cy, .slice xa34 (viB ((q : Nat) : Int)).length xc35] [Fl i, viB ((q : Nat) : Int)] (a32.alloc (.cells #[.slice yy (Fl i).length cy, .slice xa34 (viB ((q : Nat) : Int)).length xc35] 22))) := Lib.hid (cat_row a32 _ [Fl i, viB ((q : Nat) : Int)] fun i hi => match i, hi with
        | 0, _ => ⟨_, rfl, (HI.out.below hS)⟩
        | 1, _ => ⟨_, rfl, E.out.h.1⟩
        | i + 2, hi => absurd hi (by simp))
      refine wpList_val (run_bsl (cells := #[.slice yy (Fl i).length cy, .slice xa34 (viB ((q : Nat) : Int)).length xc35]) (z := .slice none 0 0) rfl Try.underlying122 (by kernel_rfl) (by omega) (by omega) (by kernel_rfl)) rfl ?_; (try simp only [Act.put, List.setIfInBounds_toArray, List.set_cons_zero, List.set_cons_succ])
      replace E := Lib.hid (E.out.below (cat_belowA a32 #[.slice yy (Fl i).length cy, .slice xa34 (viB ((q : Nat) : Int)).length xc35] 22))
      replace hS := hS.alloc hS.size (.cells #[.slice yy (Fl i).length cy, .slice xa34 (viB ((q : Nat) : Int)).length xc35] 22)
      generalize a32.alloc (.cells #[.slice yy (Fl i).length cy, .slice xa34 (viB ((q : Nat) : Int)).length xc35] 22) = a36 at *
      generalize a32.heap.size = g37 at *
      refine wpList_callR (run_call1 enters_all10 rfl rfl rfl) rfl (all10_any g37 _ [Fl i, viB ((q : Nat) : Int)] 2 _ HC.out rfl (by omega) (by simp only [List.flatten_cons, List.flatten_nil, List.length_append, List.length_nil]; omega)) (fun V4 a38 hR => ?_); (try simp only [Act.put, List.setIfInBounds_toArray, List.set_cons_zero, List.set_cons_succ])
      have HV4 := Lib.hid (hR.mono E.out.bl)
      replace hS := hS.trans (hR.bl.mono hS.size)
      replace E := Lib.hid (E.out.below hR.bl)
      clear hR HC
      refine wpList_val (run_asg (v := V4) rfl rfl) rfl ?_; (try simp only [Act.put, List.setIfInBounds_toArray, List.set_cons_zero, List.set_cons_succ])
      refine wpList_end ?_
      have hI : Hid (S5 w V4 (Gl 0) a38) := Lib.hid (by
        have h := HV4.out
        rw [EG.out]
        simpa using h)
      clear HV4 HI hS
      have E1 := Lib.hid (E.out.knowH (H0 := fun _ => True) fun _ _ => trivial)
      clear E
      have E := E1
      clear E1
      go_upto_region 8 with fail; refine wp_region_lit ?_
      refine wpList_val (run_asg (v := .int .i64 0) rfl rfl) rfl ?_; (try simp only [Act.put, List.setIfInBounds_toArray, List.set_cons_zero, List.set_cons_succ])
      refine wpList_end ?_
      go_wp2_with fail
      go_loopw [3, 6] (fun s3 s6 u => ∃ j : Nat, j ≤ q ∧ s6 = .int .i64 (j : Int) ∧ S5 w s3 (Gl j) u ∧ Ev w [(g2, acR (.int .i64 m.id) (.string (strOf m.pin)) (.int .i64 m.wrong) (.int .i64 m.till) (c1) (.slice ai i ci) (.slice aj q cj))] [] (fun _ => True) (fun _ => True) u) (fun _ s6 _ => (q - intOf s6).toNat)
      case atStart => exact ⟨0, by omega, rfl, hI.out, E.out⟩
      case round =>
        obtain ⟨j, hj, rfl, hJ, hE⟩ := hrel
        replace hI := Lib.hid hJ
        replace E := Lib.hid hE
        clear hJ hE
        have hgl := HG.out j hj
        by_cases hjq : j = q
        · subst hjq
          go_upto_region 9 with fail; refine wp_region_lit ?_
          refine wpList_val (run_mv (v := .int .i64 (j : Int)) rfl rfl) rfl ?_; (try simp only [Act.put, List.setIfInBounds_toArray, List.set_cons_zero, List.set_cons_succ])
          refine wpList_val (run_fad (s := 0) (k := 104) rfl Try.underlying52 rfl (by kernel_rfl) rfl rfl) rfl ?_; (try simp only [Act.put, List.setIfInBounds_toArray, List.set_cons_zero, List.set_cons_succ])
          refine wpList_val (run_ldc rfl Try.underlying50 rfl rfl ((E.out.get (i := 0) rfl).c 104 _ (acR_Tokens l1))) rfl ?_; (try simp only [Act.put, List.setIfInBounds_toArray, List.set_cons_zero, List.set_cons_succ])
          refine wpList_val (run_len rfl Try.underlying50 rfl) rfl ?_; (try simp only [Act.put, List.setIfInBounds_toArray, List.set_cons_zero, List.set_cons_succ])
          refine wpList_val (run_lssb (c := false) rfl rfl rfl (decide_eq_false (by omega))) rfl ?_; (try simp only [Act.put, List.setIfInBounds_toArray, List.set_cons_zero, List.set_cons_succ])
          refine wpList_end ?_
          go_upto_region 12 with fail; refine wp_region_lit ?_
          refine wpList_val (run_mv (v := u3) rfl rfl) rfl ?_; (try simp only [Act.put, List.setIfInBounds_toArray, List.set_cons_zero, List.set_cons_succ])
          refine wpList_val (run_asg (v := u3) rfl rfl) rfl ?_; (try simp only [Act.put, List.setIfInBounds_toArray, List.set_cons_zero, List.set_cons_succ])
          refine wpList_end ?_
          have hO : Hid (S5 w u3 out wr) := Lib.hid (by rw [EO.out]; exact hI.out)
          go_wp2_with fail
          exact bodyPost_ret (results_tmp Try.results32 _ _ _) rfl ⟨_, rfl, hO.out⟩
        · go_upto_region 9 with fail; refine wp_region_lit ?_
          refine wpList_val (run_mv (v := .int .i64 (j : Int)) rfl rfl) rfl ?_; (try simp only [Act.put, List.setIfInBounds_toArray, List.set_cons_zero, List.set_cons_succ])
          refine wpList_val (run_fad (s := 0) (k := 104) rfl Try.underlying52 rfl (by kernel_rfl) rfl rfl) rfl ?_; (try simp only [Act.put, List.setIfInBounds_toArray, List.set_cons_zero, List.set_cons_succ])
          refine wpList_val (run_ldc rfl Try.underlying50 rfl rfl ((E.out.get (i := 0) rfl).c 104 _ (acR_Tokens l1))) rfl ?_; (try simp only [Act.put, List.setIfInBounds_toArray, List.set_cons_zero, List.set_cons_succ])
          refine wpList_val (run_len rfl Try.underlying50 rfl) rfl ?_; (try simp only [Act.put, List.setIfInBounds_toArray, List.set_cons_zero, List.set_cons_succ])
          refine wpList_val (run_lssb (c := true) rfl rfl rfl (decide_eq_true (by omega))) rfl ?_; (try simp only [Act.put, List.setIfInBounds_toArray, List.set_cons_zero, List.set_cons_succ])
          refine wpList_end ?_
          have HI := Lib.hid hI.out.sl
          obtain ⟨yz, cz, hy, -, -⟩ := id HI.out
          subst hy
          obtain ⟨g, f, kk, rfl, hx, hk, hr⟩ := HK.out j (by omega)
          have HX := Lib.hid hx
          have HR1 := Lib.hid hr
          clear hx hr
          go_upto_region 11 with fail; refine wp_region_lit ?_
          have hS := Below.refl wr.heap.size wr
          refine wpList_val (run_mv (v := .slice yz (Gl j).length cz) rfl rfl) rfl ?_; (try simp only [Act.put, List.setIfInBounds_toArray, List.set_cons_zero, List.set_cons_succ])
          refine wpList_val (run_fad (s := 0) (k := 104) rfl Try.underlying52 rfl (by kernel_rfl) rfl rfl) rfl ?_; (try simp only [Act.put, List.setIfInBounds_toArray, List.set_cons_zero, List.set_cons_succ])
          refine wpList_val (run_ldc rfl Try.underlying50 rfl rfl ((E.out.get (i := 0) rfl).c 104 _ (acR_Tokens l1))) rfl ?_; (try simp only [Act.put, List.setIfInBounds_toArray, List.set_cons_zero, List.set_cons_succ])
          refine wpList_val (run_mv (v := .int .i64 (j : Int)) rfl rfl) rfl ?_; (try simp only [Act.put, List.setIfInBounds_toArray, List.set_cons_zero, List.set_cons_succ])
          refine wpList_val (run_ixZ (z := 32) (i := j) rfl Try.underlying50 (by kernel_rfl) rfl rfl (by omega)) rfl ?_; (try simp only [Act.put, List.setIfInBounds_toArray, List.set_cons_zero, List.set_cons_succ])
          refine wpList_val (run_ldM (vs := kk.map b8) rfl Try.underlying35 rfl (szR (by rw [List.length_map, hk]) (by kernel_rfl)) rfl (HR1.out _ (E.out.bl))) rfl ?_; (try simp only [Act.put, List.setIfInBounds_toArray, List.set_cons_zero, List.set_cons_succ])
          refine wpList_callR (run_call1 enters_key10 rfl rfl rfl) rfl (key10_any kk _ hk) (fun v41 a40 hR => ?_); (try simp only [Act.put, List.setIfInBounds_toArray, List.set_cons_zero, List.set_cons_succ])
          have hb9 := hR.bl
          replace hS := hS.trans (hb9.mono hS.size)
          have hs9 := hR.sl
          obtain ⟨xa42, xc43, rfl, -, -⟩ := id hs9
          replace E := Lib.hid (E.out.call hb9 (fro_sl hR.O))
          clear hb9 hR hs9
          have HC : Hid (Cat a40.heap.size [.slice yz (Gl j).length cz, .slice xa42 (kk).length xc43] [Gl j, kk] (a40.alloc (.cells #[.slice yz (Gl j).length cz, .slice xa42 (kk).length xc43] 22))) := Lib.hid (cat_row a40 _ [Gl j, kk] fun i hi => match i, hi with
            | 0, _ => ⟨_, rfl, (HI.out.below hS)⟩
            | 1, _ => ⟨_, rfl, E.out.h.1⟩
            | i + 2, hi => absurd hi (by simp))
          refine wpList_val (run_bsl (cells := #[.slice yz (Gl j).length cz, .slice xa42 (kk).length xc43]) (z := .slice none 0 0) rfl Try.underlying122 (by kernel_rfl) (by omega) (by omega) (by kernel_rfl)) rfl ?_; (try simp only [Act.put, List.setIfInBounds_toArray, List.set_cons_zero, List.set_cons_succ])
          replace E := Lib.hid (E.out.below (cat_belowA a40 #[.slice yz (Gl j).length cz, .slice xa42 (kk).length xc43] 22))
          replace hS := hS.alloc hS.size (.cells #[.slice yz (Gl j).length cz, .slice xa42 (kk).length xc43] 22)
          generalize a40.alloc (.cells #[.slice yz (Gl j).length cz, .slice xa42 (kk).length xc43] 22) = a44 at *
          generalize a40.heap.size = g45 at *
          refine wpList_callR (run_call1 enters_all10 rfl rfl rfl) rfl (all10_any g45 _ [Gl j, kk] 2 _ HC.out rfl (by omega) (by simp only [List.flatten_cons, List.flatten_nil, List.length_append, List.length_nil]; omega)) (fun V5 a46 hR => ?_); (try simp only [Act.put, List.setIfInBounds_toArray, List.set_cons_zero, List.set_cons_succ])
          have HV5 := Lib.hid (hR.mono E.out.bl)
          replace hS := hS.trans (hR.bl.mono hS.size)
          replace E := Lib.hid (E.out.below hR.bl)
          clear hR HC
          refine wpList_val (run_asg (v := V5) rfl rfl) rfl ?_; (try simp only [Act.put, List.setIfInBounds_toArray, List.set_cons_zero, List.set_cons_succ])
          refine wpList_end ?_
          go_upto_region 10 with fail; refine wp_region_lit ?_
          refine wpList_val (run_mv (v := .int .i64 (j : Int)) rfl rfl) rfl ?_; (try simp only [Act.put, List.setIfInBounds_toArray, List.set_cons_zero, List.set_cons_succ])
          refine wpList_val (run_addN (a := j) (b := 1) rfl rfl rfl (by omega)) rfl ?_; (try simp only [Act.put, List.setIfInBounds_toArray, List.set_cons_zero, List.set_cons_succ])
          refine wpList_val (run_asg (v := .int .i64 ((j + 1 : Nat) : Int)) rfl rfl) rfl ?_; (try simp only [Act.put, List.setIfInBounds_toArray, List.set_cons_zero, List.set_cons_succ])
          refine wpList_end ?_
          go_wp2_with fail
          exact ⟨⟨j + 1, by omega, rfl, by rw [HX.out]; have h := HV5.out; simpa using h, E.out.knowH fun _ _ => trivial⟩, by simp [intOf]; omega⟩
    · go_upto_region 3 with fail; refine wp_region_lit ?_
      refine wpList_val (run_mv (v := .int .i64 (i : Int)) rfl rfl) rfl ?_; (try simp only [Act.put, List.setIfInBounds_toArray, List.set_cons_zero, List.set_cons_succ])
      refine wpList_val (run_fad (s := 0) (k := 103) rfl Try.underlying52 rfl (by kernel_rfl) rfl rfl) rfl ?_; (try simp only [Act.put, List.setIfInBounds_toArray, List.set_cons_zero, List.set_cons_succ])
      refine wpList_val (run_ldc rfl Try.underlying49 rfl rfl ((E.out.get (i := 0) rfl).c 103 _ (acR_Slots l1))) rfl ?_; (try simp only [Act.put, List.setIfInBounds_toArray, List.set_cons_zero, List.set_cons_succ])
      refine wpList_val (run_len rfl Try.underlying49 rfl) rfl ?_; (try simp only [Act.put, List.setIfInBounds_toArray, List.set_cons_zero, List.set_cons_succ])
      refine wpList_val (run_lssb (c := true) rfl rfl rfl (decide_eq_true (by omega))) rfl ?_; (try simp only [Act.put, List.setIfInBounds_toArray, List.set_cons_zero, List.set_cons_succ])
      refine wpList_end ?_
      have HI := Lib.hid hI.out.sl
      obtain ⟨yy, cy, hy, -, -⟩ := id HI.out
      subst hy
      obtain ⟨g, f, dev, sg, sig, last, ones, mail, a2, c2, a3, c3, rfl, hx, hlen, hs1, hs2, hr, hcp, hce⟩ := HE.out i (by omega)
      have HX := Lib.hid hx
      have HR1 := Lib.hid hr
      have CP := Lib.hid hcp
      have CE := Lib.hid hce
      simp only [List.length_append] at hlen
      clear hx hr hcp hce
      generalize hPS : psB ones ones.length = PS at *
      generalize hEV : evsB mail mail.length = EV at *
      generalize hPK : pkB sg = PK at *
      have hX := fun (V : World) (h : Below wr.heap.size wr V) => HI.out.below h
      have hS := Below.refl wr.heap.size wr
      go_upto_region 5 with fail; refine wp_region_lit ?_
      refine wpList_val (run_fad (s := 0) (k := 103) rfl Try.underlying52 rfl (by kernel_rfl) rfl rfl) rfl ?_; (try simp only [Act.put, List.setIfInBounds_toArray, List.set_cons_zero, List.set_cons_succ])
      refine wpList_val (run_ldc rfl Try.underlying49 rfl rfl ((E.out.get (i := 0) rfl).c 103 _ (acR_Slots l1))) rfl ?_; (try simp only [Act.put, List.setIfInBounds_toArray, List.set_cons_zero, List.set_cons_succ])
      refine wpList_val (run_mv (v := .int .i64 (i : Int)) rfl rfl) rfl ?_; (try simp only [Act.put, List.setIfInBounds_toArray, List.set_cons_zero, List.set_cons_succ])
      refine wpList_val (run_ixZ (z := 101) (i := i) rfl Try.underlying49 (by kernel_rfl) rfl rfl (by omega)) rfl ?_; (try simp only [Act.put, List.setIfInBounds_toArray, List.set_cons_zero, List.set_cons_succ])
      refine wpList_val (run_ldM (vs := slR (.int .i64 dev) (pkC sg) (sig.map b8) (.slice a2 ones.length c2) (.int .i64 last) (.slice a3 mail.length c3)) rfl Try.underlying103 rfl (szR (slR_len (pkC_len' hs1) (by rw [List.length_map, hs2])) (by kernel_rfl)) rfl (HR1.out _ E.out.bl)) rfl ?_; (try simp only [Act.put, List.setIfInBounds_toArray, List.set_cons_zero, List.set_cons_succ])
      refine wpList_val (run_alc (vs := slR ((.int .i64 0)) (pkR ((.int .i64 0)) (z8 32)) (z8 64) ((.slice none 0 0)) ((.int .i64 0)) ((.slice none 0 0))) rfl (by kernel_rfl)) rfl ?_; (try simp only [Act.put, List.setIfInBounds_toArray, List.set_cons_zero, List.set_cons_succ])
      replace E := Lib.hid (E.out.new (slR ((.int .i64 0)) (pkR ((.int .i64 0)) (z8 32)) (z8 64) ((.slice none 0 0)) ((.int .i64 0)) ((.slice none 0 0))) 103)
      replace hS := hS.alloc hS.size (.cells (slR ((.int .i64 0)) (pkR ((.int .i64 0)) (z8 32)) (z8 64) ((.slice none 0 0)) ((.int .i64 0)) ((.slice none 0 0))).toArray 103)
      generalize wr.alloc (.cells (slR ((.int .i64 0)) (pkR ((.int .i64 0)) (z8 32)) (z8 64) ((.slice none 0 0)) ((.int .i64 0)) ((.slice none 0 0))).toArray 103) = a41 at *
      generalize wr.heap.size = g42 at *
      refine wpList_skip (run_stM (vs := slR (.int .i64 dev) (pkC sg) (sig.map b8) (.slice a2 ones.length c2) (.int .i64 last) (.slice a3 mail.length c3)) rfl (szR (slR_len (pkC_len' hs1) (by rw [List.length_map, hs2])) (by kernel_rfl)) rfl rfl (One.all (slR_one rfl (pkC_one hs1) (One.b8 _) rfl rfl rfl)) ((E.out.get (i := 0) rfl).thereM (by have q1 : (slR (.int .i64 dev) (pkC sg) (sig.map b8) (.slice a2 ones.length c2) (.int .i64 last) (.slice a3 mail.length c3)).length = 101 := (slR_len (pkC_len' hs1) (by rw [List.length_map, hs2])); have q2 : (slR ((.int .i64 0)) (pkR ((.int .i64 0)) (z8 32)) (z8 64) ((.slice none 0 0)) ((.int .i64 0)) ((.slice none 0 0))).length = 101 := (slR_len (pkR_len (z8_lenR 32)) (z8_lenR 64)); omega))) rfl rfl ?_
      replace E := Lib.hid (E.out.put 0 rfl (m := slR (.int .i64 dev) (pkC sg) (sig.map b8) (.slice a2 ones.length c2) (.int .i64 last) (.slice a3 mail.length c3)) ((show (slR (.int .i64 dev) (pkC sg) (sig.map b8) (.slice a2 ones.length c2) (.int .i64 last) (.slice a3 mail.length c3)).length = 101 from (slR_len (pkC_len' hs1) (by rw [List.length_map, hs2]))).trans (show (slR ((.int .i64 0)) (pkR ((.int .i64 0)) (z8 32)) (z8 64) ((.slice none 0 0)) ((.int .i64 0)) ((.slice none 0 0))).length = 101 from (slR_len (pkR_len (z8_lenR 32)) (z8_lenR 64))).symm))
      replace hS := below_setCells (Nat.le_refl _) (slR (.int .i64 dev) (pkC sg) (sig.map b8) (.slice a2 ones.length c2) (.int .i64 last) (.slice a3 mail.length c3)) 0 hS
      generalize a41.setCells g42 0 (slR (.int .i64 dev) (pkC sg) (sig.map b8) (.slice a2 ones.length c2) (.int .i64 last) (.slice a3 mail.length c3)) = a43 at *
      replace E := Lib.hid (show Ev _ [(g42, slR (.int .i64 dev) (pkC sg) (sig.map b8) (.slice a2 ones.length c2) (.int .i64 last) (.slice a3 mail.length c3)), (g2, acR (.int .i64 m.id) (.string (strOf m.pin)) (.int .i64 m.wrong) (.int .i64 m.till) (c1) (.slice (some ⟨g, f, none⟩) n ci) (.slice aj q cj))] _ _ _ a43 from E.out)
      refine wpList_end ?_
      replace HI := Lib.hid (hX _ hS)
      clear hX hS
      go_upto_region 6 with fail
      refine wp_region_noPanic ?_; refine wp_region_late (S := fun _ V => Below a43.heap.size a43 V) (by kernel_rfl) ((Below.refl _ _).drew) (fun hS => ?_)
      have E0 := E
      replace E := Lib.hid (E.out.below hS)
      generalize a43.drew = a44 at *
      refine wpAnyL_take 0 rfl rfl (by kernel_rfl) (by kernel_rfl) (by kernel_rfl) (fun _ _ _ h => h) rfl (fun V hV => run_mv (v := .slice yy (Fl i).length cy) rfl rfl) hS ?_; (try simp only [Act.put, List.setIfInBounds_toArray, List.set_cons_zero, List.set_cons_succ])
      refine wpAnyL_take 1 rfl rfl (by kernel_rfl) (by kernel_rfl) (by kernel_rfl) (fun _ _ _ h => h) rfl (fun V hV => run_fad (s := 0) (k := 0) rfl Try.underlying103 rfl (by kernel_rfl) rfl rfl) hS ?_; (try simp only [Act.put, List.setIfInBounds_toArray, List.set_cons_zero, List.set_cons_succ])
      refine wpAnyL_take 2 rfl rfl (by kernel_rfl) (by kernel_rfl) (by kernel_rfl) (fun _ _ _ h => h) rfl (fun V hV => run_ldc rfl Try.underlying3 rfl rfl (((E0.out.below hV).get (i := 0) rfl).c 0 _ (slR_Device ))) hS ?_; (try simp only [Act.put, List.setIfInBounds_toArray, List.set_cons_zero, List.set_cons_succ])
      refine wpAnyL_take 4 rfl rfl (by kernel_rfl) (by kernel_rfl) (by kernel_rfl) (fun _ _ _ h => h) rfl (fun V hV => run_fad (s := 32) (k := 1) rfl Try.underlying103 rfl (by kernel_rfl) rfl rfl) hS ?_; (try simp only [Act.put, List.setIfInBounds_toArray, List.set_cons_zero, List.set_cons_succ])
      refine wpAnyL_take 5 rfl rfl (by kernel_rfl) (by kernel_rfl) (by kernel_rfl) (fun _ _ _ h => h) rfl (fun V hV => run_ldM (vs := pkC sg) rfl Try.underlying42 rfl (szR (pkC_len' hs1) (by kernel_rfl)) rfl (((E0.out.below hV).get (i := 0) rfl).seg (slR_Signed (pkC_len' hs1)))) hS ?_; (try simp only [Act.put, List.setIfInBounds_toArray, List.set_cons_zero, List.set_cons_succ])
      refine wpAnyL_take 7 rfl rfl (by kernel_rfl) (by kernel_rfl) (by kernel_rfl) (fun _ _ _ h => h) rfl (fun V hV => run_fad (s := 63) (k := 34) rfl Try.underlying103 rfl (by kernel_rfl) rfl rfl) hS ?_; (try simp only [Act.put, List.setIfInBounds_toArray, List.set_cons_zero, List.set_cons_succ])
      refine wpAnyL_take 8 rfl rfl (by kernel_rfl) (by kernel_rfl) (by kernel_rfl) (fun _ _ _ h => h) rfl (fun V hV => run_ldM (vs := sig.map b8) rfl Try.underlying38 rfl (szR (by rw [List.length_map, hs2]) (by kernel_rfl)) rfl (((E0.out.below hV).get (i := 0) rfl).seg (slR_Sig (pkC_len' hs1) (by rw [List.length_map, hs2])))) hS ?_; (try simp only [Act.put, List.setIfInBounds_toArray, List.set_cons_zero, List.set_cons_succ])
      refine wpAnyL_take 10 rfl rfl (by kernel_rfl) (by kernel_rfl) (by kernel_rfl) (fun _ _ _ h => h) rfl (fun V hV => run_fad (s := 0) (k := 98) rfl Try.underlying103 rfl (by kernel_rfl) rfl rfl) hS ?_; (try simp only [Act.put, List.setIfInBounds_toArray, List.set_cons_zero, List.set_cons_succ])
      refine wpAnyL_take 11 rfl rfl (by kernel_rfl) (by kernel_rfl) (by kernel_rfl) (fun _ _ _ h => h) rfl (fun V hV => run_ldc rfl Try.underlying43 rfl rfl (((E0.out.below hV).get (i := 0) rfl).c 98 _ (slR_Ones (pkC_len' hs1) (by rw [List.length_map, hs2])))) hS ?_; (try simp only [Act.put, List.setIfInBounds_toArray, List.set_cons_zero, List.set_cons_succ])
      refine wpAnyL_take 13 rfl rfl (by kernel_rfl) (by kernel_rfl) (by kernel_rfl) (fun _ _ _ h => h) rfl (fun V hV => run_fad (s := 0) (k := 99) rfl Try.underlying103 rfl (by kernel_rfl) rfl rfl) hS ?_; (try simp only [Act.put, List.setIfInBounds_toArray, List.set_cons_zero, List.set_cons_succ])
      refine wpAnyL_take 14 rfl rfl (by kernel_rfl) (by kernel_rfl) (by kernel_rfl) (fun _ _ _ h => h) rfl (fun V hV => run_ldc rfl Try.underlying3 rfl rfl (((E0.out.below hV).get (i := 0) rfl).c 99 _ (slR_Last (pkC_len' hs1) (by rw [List.length_map, hs2])))) hS ?_; (try simp only [Act.put, List.setIfInBounds_toArray, List.set_cons_zero, List.set_cons_succ])
      refine wpAnyL_take 16 rfl rfl (by kernel_rfl) (by kernel_rfl) (by kernel_rfl) (fun _ _ _ h => h) rfl (fun V hV => run_fad (s := 0) (k := 100) rfl Try.underlying103 rfl (by kernel_rfl) rfl rfl) hS ?_; (try simp only [Act.put, List.setIfInBounds_toArray, List.set_cons_zero, List.set_cons_succ])
      refine wpAnyL_take 17 rfl rfl (by kernel_rfl) (by kernel_rfl) (by kernel_rfl) (fun _ _ _ h => h) rfl (fun V hV => run_ldc rfl Try.underlying73 rfl rfl (((E0.out.below hV).get (i := 0) rfl).c 100 _ (slR_Mail (pkC_len' hs1) (by rw [List.length_map, hs2])))) hS ?_; (try simp only [Act.put, List.setIfInBounds_toArray, List.set_cons_zero, List.set_cons_succ])
      refine wpAnyL_call 3 (by kernel_rfl) rfl rfl rfl (run_call1 enters_number10 rfl rfl rfl) (number10_any dev _) (fun v w h => hS.trans (h.bl.mono hS.size)) (fun v46 a45 hR => ?_); (try simp only [Act.put, List.setIfInBounds_toArray, List.set_cons_zero, List.set_cons_succ])
      have hb9 := hR.bl
      replace hS := hS.trans (hb9.mono hS.size)
      have hs9 := hR.sl
      obtain ⟨xa47, xc48, rfl, -, -⟩ := id hs9
      replace E := Lib.hid (E.out.call hb9 (fro_sl hR.O))
      clear hb9 hR hs9
      refine wpAnyL_call 6 (by kernel_rfl) rfl rfl rfl (run_call1 enters_prekey10 rfl rfl rfl) (hPK ▸ prekey10_any sg _ hs1) (fun v w h => hS.trans (h.bl.mono hS.size)) (fun v50 a49 hR => ?_); (try simp only [Act.put, List.setIfInBounds_toArray, List.set_cons_zero, List.set_cons_succ])
      have hb9 := hR.bl
      replace hS := hS.trans (hb9.mono hS.size)
      have hs9 := hR.sl
      obtain ⟨xa51, xc52, rfl, -, -⟩ := id hs9
      replace E := Lib.hid (E.out.call hb9 (fro_sl hR.O))
      clear hb9 hR hs9
      refine wpAnyL_call 9 (by kernel_rfl) rfl rfl rfl (run_call1 enters_sig10 rfl rfl rfl) (sig10_any sig _ hs2) (fun v w h => hS.trans (h.bl.mono hS.size)) (fun v54 a53 hR => ?_); (try simp only [Act.put, List.setIfInBounds_toArray, List.set_cons_zero, List.set_cons_succ])
      have hb9 := hR.bl
      replace hS := hS.trans (hb9.mono hS.size)
      have hs9 := hR.sl
      obtain ⟨xa55, xc56, rfl, -, -⟩ := id hs9
      replace E := Lib.hid (E.out.call hb9 (fro_sl hR.O))
      clear hb9 hR hs9
      refine wpAnyL_call 12 (by kernel_rfl) rfl rfl rfl (run_call1 enters_prekeys10 rfl rfl rfl) (CP.out _ E.out.bl) (fun v w h => hS.trans (h.bl.mono hS.size)) (fun v58 a57 hR => ?_); (try simp only [Act.put, List.setIfInBounds_toArray, List.set_cons_zero, List.set_cons_succ])
      have hb9 := hR.bl
      replace hS := hS.trans (hb9.mono hS.size)
      have hs9 := hR.sl
      obtain ⟨xa59, xc60, rfl, -, -⟩ := id hs9
      replace E := Lib.hid (E.out.call hb9 (fro_sl hR.O))
      clear hb9 hR hs9
      refine wpAnyL_call 15 (by kernel_rfl) rfl rfl rfl (run_call1 enters_number10 rfl rfl rfl) (number10_any last _) (fun v w h => hS.trans (h.bl.mono hS.size)) (fun v62 a61 hR => ?_); (try simp only [Act.put, List.setIfInBounds_toArray, List.set_cons_zero, List.set_cons_succ])
      have hb9 := hR.bl
      replace hS := hS.trans (hb9.mono hS.size)
      have hs9 := hR.sl
      obtain ⟨xa63, xc64, rfl, -, -⟩ := id hs9
      replace E := Lib.hid (E.out.call hb9 (fro_sl hR.O))
      clear hb9 hR hs9
      refine wpAnyL_call 18 (by kernel_rfl) rfl rfl rfl (run_call1 enters_envelopes10 rfl rfl rfl) (CE.out _ E.out.bl) (fun v w h => hS.trans (h.bl.mono hS.size)) (fun v66 a65 hR => ?_); (try simp only [Act.put, List.setIfInBounds_toArray, List.set_cons_zero, List.set_cons_succ])
      have hb9 := hR.bl
      replace hS := hS.trans (hb9.mono hS.size)
      have hs9 := hR.sl
      obtain ⟨xa67, xc68, rfl, -, -⟩ := id hs9
      replace E := Lib.hid (E.out.call hb9 (fro_sl hR.O))
      clear hb9 hR hs9
      have HC : Hid (Cat a65.heap.size [.slice yy (Fl i).length cy, .slice xa47 (viB dev).length xc48, .slice xa51 (PK).length xc52, .slice xa55 (sig).length xc56, .slice xa59 (PS).length xc60, .slice xa63 (viB last).length xc64, .slice xa67 (EV).length xc68] [Fl i, viB dev, PK, sig, PS, viB last, EV] (a65.alloc (.cells #[.slice yy (Fl i).length cy, .slice xa47 (viB dev).length xc48, .slice xa51 (PK).length xc52, .slice xa55 (sig).length xc56, .slice xa59 (PS).length xc60, .slice xa63 (viB last).length xc64, .slice xa67 (EV).length xc68] 22))) := Lib.hid (cat_row a65 _ [Fl i, viB dev, PK, sig, PS, viB last, EV] fun i hi => match i, hi with
        | 0, _ => ⟨_, rfl, (HI.out.below hS)⟩
        | 1, _ => ⟨_, rfl, E.out.h.2.2.2.2.2.1⟩
        | 2, _ => ⟨_, rfl, E.out.h.2.2.2.2.1⟩
        | 3, _ => ⟨_, rfl, E.out.h.2.2.2.1⟩
        | 4, _ => ⟨_, rfl, E.out.h.2.2.1⟩
        | 5, _ => ⟨_, rfl, E.out.h.2.1⟩
        | 6, _ => ⟨_, rfl, E.out.h.1⟩
        | i + 7, hi => absurd hi (by simp))
      refine wpAnyL_val 19 (by kernel_rfl) rfl rfl rfl (run_bsl (cells := #[.slice yy (Fl i).length cy, .slice xa47 (viB dev).length xc48, .slice xa51 (PK).length xc52, .slice xa55 (sig).length xc56, .slice xa59 (PS).length xc60, .slice xa63 (viB last).length xc64, .slice xa67 (EV).length xc68]) (z := .slice none 0 0) rfl Try.underlying122 (by kernel_rfl) (by omega) (by omega) (by kernel_rfl)) (hS.alloc hS.size _) ?_; (try simp only [Act.put, List.setIfInBounds_toArray, List.set_cons_zero, List.set_cons_succ])
      replace E := Lib.hid (E.out.below (cat_belowA a65 #[.slice yy (Fl i).length cy, .slice xa47 (viB dev).length xc48, .slice xa51 (PK).length xc52, .slice xa55 (sig).length xc56, .slice xa59 (PS).length xc60, .slice xa63 (viB last).length xc64, .slice xa67 (EV).length xc68] 22))
      replace hS := hS.alloc hS.size (.cells #[.slice yy (Fl i).length cy, .slice xa47 (viB dev).length xc48, .slice xa51 (PK).length xc52, .slice xa55 (sig).length xc56, .slice xa59 (PS).length xc60, .slice xa63 (viB last).length xc64, .slice xa67 (EV).length xc68] 22)
      generalize a65.alloc (.cells #[.slice yy (Fl i).length cy, .slice xa47 (viB dev).length xc48, .slice xa51 (PK).length xc52, .slice xa55 (sig).length xc56, .slice xa59 (PS).length xc60, .slice xa63 (viB last).length xc64, .slice xa67 (EV).length xc68] 22) = a69 at *
      generalize a65.heap.size = g70 at *
      refine wpAnyL_call 20 (by kernel_rfl) rfl rfl rfl (run_call1 enters_all10 rfl rfl rfl) (all10_any g70 _ [Fl i, viB dev, PK, sig, PS, viB last, EV] 7 _ HC.out rfl (by omega) (by simp only [List.flatten_cons, List.flatten_nil, List.length_append, List.length_nil]; omega)) (fun v w h => hS.trans (h.bl.mono hS.size)) (fun V3 a71 hR => ?_); (try simp only [Act.put, List.setIfInBounds_toArray, List.set_cons_zero, List.set_cons_succ])
      have HV3 := Lib.hid (hR.mono E.out.bl)
      replace hS := hS.trans (hR.bl.mono hS.size)
      replace E := Lib.hid (E.out.below hR.bl)
      clear hR HC
      refine wpAnyL_take 21 rfl rfl (by kernel_rfl) (by kernel_rfl) (by kernel_rfl) (fun _ _ _ h => h) rfl (fun V hV => run_asg (v := V3) rfl rfl) hS ?_; (try simp only [Act.put, List.setIfInBounds_toArray, List.set_cons_zero, List.set_cons_succ])
      refine wpAnyL_done (by kernel_rfl) ?_ _; refine NoPanic.normal ?_
      go_upto_region 4 with fail; refine wp_region_lit ?_
      refine wpList_val (run_mv (v := .int .i64 (i : Int)) rfl rfl) rfl ?_; (try simp only [Act.put, List.setIfInBounds_toArray, List.set_cons_zero, List.set_cons_succ])
      refine wpList_val (run_addN (a := i) (b := 1) rfl rfl rfl (by omega)) rfl ?_; (try simp only [Act.put, List.setIfInBounds_toArray, List.set_cons_zero, List.set_cons_succ])
      refine wpList_val (run_asg (v := .int .i64 ((i + 1 : Nat) : Int)) rfl rfl) rfl ?_; (try simp only [Act.put, List.setIfInBounds_toArray, List.set_cons_zero, List.set_cons_succ])
      refine wpList_end ?_
      go_wp2_with fail
      exact ⟨⟨i + 1, by omega, rfl, by rw [HX.out]; have h := HV3.out; simpa using h, (E.out.knowH fun _ _ => trivial).drop⟩, by simp [intOf]; omega⟩
end Go.Proofs.Ytgioojahadlmhaa
