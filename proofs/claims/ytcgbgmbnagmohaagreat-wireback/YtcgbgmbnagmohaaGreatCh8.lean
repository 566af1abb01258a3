import Derived.Test.YtcgbgmbnagmohaaGreatLy
import Derived.Test.YtcgbgmbnagmohaaGreatCh1
import Derived.Test.YtcgbgmbnagmohaaGreatChG
import Derived.Test.YtcgbgmbnagmohaaGreatRdC
namespace Go.Proofs.YtcgbgmbnagmohaaGreat
open Go.RowKit
set_option maxRecDepth 20000
attribute [local irreducible] wpList
theorem sl_oneU (u : World) (x : BitVec 8) : Sl (.slice (some ⟨u.heap.size, 0, none⟩) 1 1) [x] (u.alloc (.cells #[b8 x] 5)) := sl_one u x
def chU (c : List (BitVec 8)) (i : Nat) : MUs := ⟨[97#8 + c.getD i 0 % 9#8], chN c i, ((((c.getD i 0 % 2#8).toNat : Int)) == 0)⟩
def chUs (c : List (BitVec 8)) (n : Nat) : List MUs := (List.range n).map (chU c)
theorem chUs_len (c : List (BitVec 8)) (n : Nat) : (chUs c n).length = n := by simp [chUs]
theorem chUs_succ (c : List (BitVec 8)) (n : Nat) : chUs c (n + 1) = chUs c n ++ [chU c n] := by simp [chUs, List.range_succ]
theorem run_rem8U {w : World} {ρ : Operand → Value} {o : Oper} {x y : Operand} {t t' : TypeId} {a b : BitVec 8} (ho : o.op = .binOp .rem t x y t') (hx : ρ x = b8 a) (hy : ρ y = b8 b) (hb : 0 < b.toNat) : (execOp ρ o).run Tryz.prog w = .ok (.value (b8 (a % b))) w := by
  obtain ⟨dst, op, type, pos, after, guard⟩ := o
  subst ho
  unfold b8 at *
  have e0 : ((a % b).toNat : Int) = (a.toNat : Int).tmod (b.toNat : Int) := by
    rw [BitVec.toNat_umod, Int.tmod_eq_emod_of_nonneg (by omega)]; omega
  rw [e0]
  have h0 : ¬ (b.toNat : Int) = 0 := by omega
  generalize (a.toNat : Int) = a at *
  generalize (b.toNat : Int) = b at *
  go_simp
theorem run_eqc8U {w : World} {ρ : Operand → Value} {o : Oper} {x y : Operand} {t t' : TypeId} {a : BitVec 8} {c : Int} {r : Bool} (ho : o.op = .binOp .eql t x y t') (hx : ρ x = b8 a) (hy : ρ y = .int .u8 c) (h : ((a.toNat : Int) == c) = r) : (execOp ρ o).run Tryz.prog w = .ok (.value (.bool r)) w := qbp ho hx hy h
theorem byteAtU {ao : Option Addr} {c : List (BitVec 8)} {cc : Nat} {u : World} (h : Sl (.slice ao c.length cc) c u) {i : Nat} (hi : i < c.length) : ∃ g f, ao = some ⟨g, f, none⟩ ∧ g < u.heap.size ∧ u.cell? ⟨g, f + i, none⟩ = some (b8 (c.getD i 0)) := by
  obtain ⟨g, f, c2, h1, h2, h3⟩ := h.adr (by omega)
  simp only [Value.slice.injEq] at h1
  obtain ⟨rfl, _, _⟩ := h1
  exact ⟨g, f, rfl, h2, h3 i _ (get_map b8 0 hi)⟩
theorem enters_cu10 : Enters 17 := qan Tryz.func17 (by kernel_rfl) rfl
set_option maxHeartbeats 16000000 in
theorem chUs_any (ao : Option Addr) (c : List (BitVec 8)) (cc : Nat) (w : World) (hc : Sl (.slice ao c.length cc) c w) : Calls Tryz.prog 17 #[.slice ao c.length cc] w fun r w' => ∃ v', r = .returned v' ∧ ((∃ a' c', v' = .slice a' (chUs c (min c.length 6)).length c' ∧ Fro w.heap.size (SlR 3 usAt (chUs c (min c.length 6)) a' c') w') ∧ Below w.heap.size w w') := by
  have CN := chKC c w ao cc hc
  have E := Lib.hid (Ev.start (w := w) (F := fun V => Sl (.slice ao c.length cc) c V) fun V hV => hc.ext hV)
  have HB : Hid (∀ j, j < c.length → ∀ u, Sl (.slice ao c.length cc) c u → ∃ g f, ao = some ⟨g, f, none⟩ ∧ g < u.heap.size ∧ u.cell? ⟨g, f + j, none⟩ = some (b8 (c.getD j 0))) := Lib.hid fun j hj u h => byteAtU h hj
  clear hc
  generalize c.length = m at *
  go_enter Tryz.func17, Tryz.ntmps17
  go_upto_region 0 with fail; refine wp_region_lit ?_
  refine qaa (qak (v := .slice none 0 0) rfl rfl) rfl ?_; (try simp only [Act.put, lyy])
  refine qab ?_
  go_upto_region 1 with fail; refine wp_region_lit ?_
  refine qaa (qak (v := .slice none 0 0) rfl rfl) rfl ?_; (try simp only [Act.put, lyy])
  refine qab ?_
  go_upto_region 2 with fail; refine wp_region_lit ?_
  refine qaa (qak (v := .int .i64 0) rfl rfl) rfl ?_; (try simp only [Act.put, lyy])
  refine qab ?_
  replace E := Lib.hid ((Gw.start E.out 88 3).know (H0 := LR usAt [] []) fun V _ => LR.nil V)
  go_wp2_with fail
  go_loopw [3, 4] (fun s3 s4 u => ∃ (j : Nat) (l : List MUs) (css : List (List Value)) (va : Option Addr) (vn vc : Nat), s3 = .slice va vn vc ∧ s4 = .int .i64 (j : Int) ∧ l = chUs c j ∧ j = l.length ∧ j ≤ m ∧ j ≤ 6 ∧ (∀ p ∈ css, p.length = 3) ∧ Gw w [] 88 3 (.slice va vn vc) j css.flatten (fun V => Sl (.slice ao m cc) c V) (LR usAt l css) u) (fun _ s4 _ => (6 - intOf s4).toNat)
  case atStart => exact ⟨0, [], [], none, 0, 0, rfl, rfl, rfl, rfl, Nat.zero_le _, Nat.zero_le _, (fun _ h => by cases h), E.out⟩
  case round =>
    obtain ⟨j, l, css, va, vn, vc, rfl, rfl, hl, hjl, hjm, hj6, hq, hJ⟩ := hrel
    replace E := Lib.hid hJ
    have HK := Lib.hid hq
    clear hJ hq
    by_cases hjn : j = m ∨ j = 6
    · by_cases hjm2 : m ≤ j
      · go_upto_region 3 with fail; refine wp_region_lit ?_
        refine qaa (qad (v := .int .i64 (j : Int)) rfl rfl) rfl ?_; (try simp only [Act.put, lyy])
        refine qaa (qad (v := .slice ao m cc) rfl rfl) rfl ?_; (try simp only [Act.put, lyy])
        refine qaa (qa4 rfl Tryz.underlying22 rfl) rfl ?_; (try simp only [Act.put, lyy])
        refine qaa (qay (c := false) rfl rfl rfl (decide_eq_false (by omega))) rfl ?_; (try simp only [Act.put, lyy])
        refine qaa (qad (v := .bool false) rfl rfl) rfl ?_; (try simp only [Act.put, lyy])
        refine qco rfl ?_; (try simp only [Act.put, lyy])
        refine qco rfl ?_; (try simp only [Act.put, lyy])
        refine qaa (qaw (b := false) (v := .bool false) rfl rfl rfl) rfl ?_; (try simp only [Act.put, lyy])
        refine qab ?_
        have E1 := Lib.hid E.out.done
        clear E
        have E := E1
        clear E1
        go_upto_region 6 with fail; refine wp_region_lit ?_
        refine qaa (qad (v := .slice va vn vc) rfl rfl) rfl ?_; (try simp only [Act.put, lyy])
        refine qaa (qak (v := .slice va vn vc) rfl rfl) rfl ?_; (try simp only [Act.put, lyy])
        refine qab ?_
        have HF : Hid (Fro w.heap.size (fun V => ∃ a' c', (.slice va vn vc : Value) = .slice a' l.length c' ∧ SlR 3 usAt l a' c' V) wr) := Lib.hid fun V hV => qc5 (E.out.tell V hV).1 hjl (E.out.tell V hV).2.1 HK.out (E.out.tell V hV).2.2
        obtain ⟨a', c', hv6, hS0⟩ := HF.out.now
        simp only [Value.slice.injEq] at hv6
        obtain ⟨-, hvn, -⟩ := hv6
        have HF2 : Hid (Fro w.heap.size (SlR 3 usAt l va vc) wr) := Lib.hid fun V hV => by
          obtain ⟨a2, c2, h1, h2⟩ := HF.out V hV
          simp only [Value.slice.injEq] at h1
          obtain ⟨rfl, _, rfl⟩ := h1
          exact h2
        have hL : chUs c (min m 6) = l := by rw [show min m 6 = j by omega]; exact hl.symm
        subst hvn
        go_wp2_with fail
        exact bodyPost_ret (results_tmp Tryz.results17 _ _ _) rfl ⟨_, rfl, ⟨va, vc, by rw [hL]; rfl, by rw [hL]; exact HF2.out⟩, E.out.bl⟩
      · have hj62 : 6 ≤ j := by omega
        go_upto_region 3 with fail; refine wp_region_lit ?_
        refine qaa (qad (v := .int .i64 (j : Int)) rfl rfl) rfl ?_; (try simp only [Act.put, lyy])
        refine qaa (qad (v := .slice ao m cc) rfl rfl) rfl ?_; (try simp only [Act.put, lyy])
        refine qaa (qa4 rfl Tryz.underlying22 rfl) rfl ?_; (try simp only [Act.put, lyy])
        refine qaa (qay (c := true) rfl rfl rfl (decide_eq_true (by omega))) rfl ?_; (try simp only [Act.put, lyy])
        refine qaa (qad (v := .bool true) rfl rfl) rfl ?_; (try simp only [Act.put, lyy])
        refine qae (qad (v := .int .i64 (j : Int)) rfl rfl) rfl ?_; (try simp only [Act.put, lyy])
        refine qae (qay (c := false) rfl rfl rfl (decide_eq_false (by omega))) rfl ?_; (try simp only [Act.put, lyy])
        refine qaa (qaw (b := true) (v := .bool false) rfl rfl rfl) rfl ?_; (try simp only [Act.put, lyy])
        refine qab ?_
        have E1 := Lib.hid E.out.done
        clear E
        have E := E1
        clear E1
        go_upto_region 6 with fail; refine wp_region_lit ?_
        refine qaa (qad (v := .slice va vn vc) rfl rfl) rfl ?_; (try simp only [Act.put, lyy])
        refine qaa (qak (v := .slice va vn vc) rfl rfl) rfl ?_; (try simp only [Act.put, lyy])
        refine qab ?_
        have HF : Hid (Fro w.heap.size (fun V => ∃ a' c', (.slice va vn vc : Value) = .slice a' l.length c' ∧ SlR 3 usAt l a' c' V) wr) := Lib.hid fun V hV => qc5 (E.out.tell V hV).1 hjl (E.out.tell V hV).2.1 HK.out (E.out.tell V hV).2.2
        obtain ⟨a', c', hv6, hS0⟩ := HF.out.now
        simp only [Value.slice.injEq] at hv6
        obtain ⟨-, hvn, -⟩ := hv6
        have HF2 : Hid (Fro w.heap.size (SlR 3 usAt l va vc) wr) := Lib.hid fun V hV => by
          obtain ⟨a2, c2, h1, h2⟩ := HF.out V hV
          simp only [Value.slice.injEq] at h1
          obtain ⟨rfl, _, rfl⟩ := h1
          exact h2
        have hL : chUs c (min m 6) = l := by rw [show min m 6 = j by omega]; exact hl.symm
        subst hvn
        go_wp2_with fail
        exact bodyPost_ret (results_tmp Tryz.results17 _ _ _) rfl ⟨_, rfl, ⟨va, vc, by rw [hL]; rfl, by rw [hL]; exact HF2.out⟩, E.out.bl⟩
    · have hjl2 : j < m := by omega
      obtain ⟨g, fo, rfl, hg, -⟩ := HB.out j hjl2 _ E.out.ev.f
      have HY : Hid (∀ u, Sl (.slice (some ⟨g, fo, none⟩) m cc) c u → u.cell? ⟨g, fo + j, none⟩ = some (b8 (c.getD j 0))) := Lib.hid fun u hu => by
        obtain ⟨g2, f2, h1, _, h3⟩ := HB.out j hjl2 u hu
        simp only [Option.some.injEq, Addr.mk.injEq] at h1
        obtain ⟨rfl, rfl, _⟩ := h1
        exact h3
      have HU : Hid (chU c j = ⟨[97#8 + c.getD j 0 % 9#8], chN c j, ((((c.getD j 0 % 2#8).toNat : Int)) == 0)⟩) := Lib.hid rfl
      obtain ⟨B, hB⟩ : ∃ B, B = c.getD j 0 := ⟨_, rfl⟩
      rw [← hB] at HY HU
      obtain ⟨sr, hsr⟩ : ∃ sr, sr = ((((B % 2#8).toNat : Int)) == 0) := ⟨_, rfl⟩
      have HSR := Lib.hid hsr.symm
      rw [← hsr] at HU
      obtain ⟨nb, hnb⟩ : ∃ nb, nb = 97#8 + B % 9#8 := ⟨_, rfl⟩
      have HNB := Lib.hid hnb
      rw [← hnb] at HU
      clear hsr hnb hB
      go_upto_region 3 with fail; refine wp_region_lit ?_
      refine qaa (qad (v := .int .i64 (j : Int)) rfl rfl) rfl ?_; (try simp only [Act.put, lyy])
      refine qaa (qad (v := .slice (some ⟨g, fo, none⟩) m cc) rfl rfl) rfl ?_; (try simp only [Act.put, lyy])
      refine qaa (qa4 rfl Tryz.underlying22 rfl) rfl ?_; (try simp only [Act.put, lyy])
      refine qaa (qay (c := true) rfl rfl rfl (decide_eq_true (by omega))) rfl ?_; (try simp only [Act.put, lyy])
      refine qaa (qad (v := .bool true) rfl rfl) rfl ?_; (try simp only [Act.put, lyy])
      refine qae (qad (v := .int .i64 (j : Int)) rfl rfl) rfl ?_; (try simp only [Act.put, lyy])
      refine qae (qay (c := true) rfl rfl rfl (decide_eq_true (by omega))) rfl ?_; (try simp only [Act.put, lyy])
      refine qaa (qaw (b := true) (v := .bool true) rfl rfl rfl) rfl ?_; (try simp only [Act.put, lyy])
      refine qab ?_
      go_upto_region 5 with fail
      refine wp_region_noPanic ?_; refine qbd (S := Till 20 (fun V => Below wr.heap.size wr V)) (by kernel_rfl) (.inr (Below.refl _ _).drew) (fun _ => ?_); have hS : Below wr.heap.size wr wr.drew := (Below.refl _ _).drew
      have E0 := E
      replace E := Lib.hid (E.out.below hS)
      generalize wr.drew = b0 at *
      refine qao 0 rfl rfl (by kernel_rfl) (by kernel_rfl) (by kernel_rfl) (by kernel_rfl) (by kernel_rfl) (fun _ _ _ h => h) rfl (fun V hV => qad (v := .slice va vn vc) rfl rfl) hS ?_; (try simp only [Act.put, lyy])
      refine qao 1 rfl rfl (by kernel_rfl) (by kernel_rfl) (by kernel_rfl) (by kernel_rfl) (by kernel_rfl) (fun _ _ _ h => h) rfl (fun V hV => qad (v := .slice (some ⟨g, fo, none⟩) m cc) rfl rfl) hS ?_; (try simp only [Act.put, lyy])
      refine qao 2 rfl rfl (by kernel_rfl) (by kernel_rfl) (by kernel_rfl) (by kernel_rfl) (by kernel_rfl) (fun _ _ _ h => h) rfl (fun V hV => qad (v := .int .i64 (j : Int)) rfl rfl) hS ?_; (try simp only [Act.put, lyy])
      refine qao 3 rfl rfl (by kernel_rfl) (by kernel_rfl) (by kernel_rfl) (by kernel_rfl) (by kernel_rfl) (fun _ _ _ h => h) rfl (fun V hV => run_ixs (i := j) rfl Tryz.underlying22 (by kernel_rfl) rfl rfl (by omega)) hS ?_; (try simp only [Act.put, lyy])
      refine qao 4 rfl rfl (by kernel_rfl) (by kernel_rfl) (by kernel_rfl) (by kernel_rfl) (by kernel_rfl) (fun _ _ _ h => h) rfl (fun V hV => qam rfl Tryz.underlying5 rfl rfl (HY.out _ (E0.out.below hV).ev.f)) hS ?_; (try simp only [Act.put, lyy])
      refine qao 5 rfl rfl (by kernel_rfl) (by kernel_rfl) (by kernel_rfl) (by kernel_rfl) (by kernel_rfl) (fun _ _ _ h => h) rfl (fun V hV => run_rem8U (b := 9#8) rfl rfl rfl (by decide)) hS ?_; (try simp only [Act.put, lyy])
      refine qao 6 rfl rfl (by kernel_rfl) (by kernel_rfl) (by kernel_rfl) (by kernel_rfl) (by kernel_rfl) (fun _ _ _ h => h) rfl (fun V hV => (HNB.out ▸ run_add8 (a := 97#8) (b := B % 9#8) rfl rfl rfl)) hS ?_; (try simp only [Act.put, lyy])
      refine qao 9 rfl rfl (by kernel_rfl) (by kernel_rfl) (by kernel_rfl) (by kernel_rfl) (by kernel_rfl) (fun _ _ _ h => h) rfl (fun V hV => qad (v := .slice (some ⟨g, fo, none⟩) m cc) rfl rfl) hS ?_; (try simp only [Act.put, lyy])
      refine qao 10 rfl rfl (by kernel_rfl) (by kernel_rfl) (by kernel_rfl) (by kernel_rfl) (by kernel_rfl) (fun _ _ _ h => h) rfl (fun V hV => qad (v := .int .i64 (j : Int)) rfl rfl) hS ?_; (try simp only [Act.put, lyy])
      refine qao 12 rfl rfl (by kernel_rfl) (by kernel_rfl) (by kernel_rfl) (by kernel_rfl) (by kernel_rfl) (fun _ _ _ h => h) rfl (fun V hV => qad (v := .slice (some ⟨g, fo, none⟩) m cc) rfl rfl) hS ?_; (try simp only [Act.put, lyy])
      refine qao 13 rfl rfl (by kernel_rfl) (by kernel_rfl) (by kernel_rfl) (by kernel_rfl) (by kernel_rfl) (fun _ _ _ h => h) rfl (fun V hV => qad (v := .int .i64 (j : Int)) rfl rfl) hS ?_; (try simp only [Act.put, lyy])
      refine qao 14 rfl rfl (by kernel_rfl) (by kernel_rfl) (by kernel_rfl) (by kernel_rfl) (by kernel_rfl) (fun _ _ _ h => h) rfl (fun V hV => run_ixs (i := j) rfl Tryz.underlying22 (by kernel_rfl) rfl rfl (by omega)) hS ?_; (try simp only [Act.put, lyy])
      refine qao 15 rfl rfl (by kernel_rfl) (by kernel_rfl) (by kernel_rfl) (by kernel_rfl) (by kernel_rfl) (fun _ _ _ h => h) rfl (fun V hV => qam rfl Tryz.underlying5 rfl rfl (HY.out _ (E0.out.below hV).ev.f)) hS ?_; (try simp only [Act.put, lyy])
      refine qao 16 rfl rfl (by kernel_rfl) (by kernel_rfl) (by kernel_rfl) (by kernel_rfl) (by kernel_rfl) (fun _ _ _ h => h) rfl (fun V hV => run_rem8U (b := 2#8) rfl rfl rfl (by decide)) hS ?_; (try simp only [Act.put, lyy])
      refine qao 17 rfl rfl (by kernel_rfl) (by kernel_rfl) (by kernel_rfl) (by kernel_rfl) (by kernel_rfl) (fun _ _ _ h => h) rfl (fun V hV => run_eqc8U rfl rfl rfl HSR.out) hS ?_; (try simp only [Act.put, lyy])
      refine qc8 7 11 (by kernel_rfl) ?_ ?_
      · refine wpOp_val 7 rfl rfl rfl (run_bsl (cells := #[b8 nb]) (z := .int .u8 0) rfl Tryz.underlying22 (by kernel_rfl) (by omega) (by omega) (by kernel_rfl)) ?_; (try simp only [Act.put, lyy])
        have HSB := Lib.hid (sl_oneU b0 nb)
        replace hS := hS.alloc hS.size (.cells #[b8 nb] 5)
        replace E := Lib.hid (E.out.below ((Below.refl b0.heap.size b0).alloc (Nat.le_refl _) (.cells #[b8 nb] 5)))
        generalize b0.alloc (.cells #[b8 nb] 5) = b1 at *
        obtain ⟨gs, hgs⟩ : ∃ k, k = b0.heap.size := ⟨_, rfl⟩
        rw [← hgs] at HSB ⊢
        clear hgs
        refine ⟨.inr hS, ?_⟩
        refine qc8 8 11 (by kernel_rfl) ?_ ?_
        · refine wpOp_val 8 rfl rfl rfl (run_str rfl rfl HSB.out) ?_; (try simp only [Act.put, lyy])
          refine ⟨.inr hS, ?_⟩
          refine qb4 11 (by kernel_rfl) rfl rfl rfl (qaf qau rfl rfl rfl rfl) (qbc (CN.out _ j E.out.ev.bl)) (fun v w h => hS.trans (h.2.mono hS.size)) (fun vq b2 hR => ?_); (try simp only [Act.put, lyy])
          obtain ⟨rfl, hb9⟩ := hR
          replace hS := hS.trans (hb9.mono hS.size)
          replace E := Lib.hid (E.out.below hb9)
          clear hb9
          refine qao 18 rfl rfl (by kernel_rfl) (by kernel_rfl) (by kernel_rfl) (by kernel_rfl) (by kernel_rfl) (fun _ _ _ h => h) rfl (fun V hV => qa7 (cells := (usR (.string (strOf [nb])) (.int .i64 (chN c j : Int)) (.bool sr)).toArray) (ps := [(0, .string (strOf [nb])), (1, .int .i64 (chN c j : Int)), (2, .bool sr)]) rfl rfl (usR_all rfl rfl rfl)) hS ?_; (try simp only [Act.put, lyy])
          have hml : (usR (.string (strOf [nb])) (.int .i64 (chN c j : Int)) (.bool sr)).length = 3 := qcx
          have hmo : One (usR (.string (strOf [nb])) (.int .i64 (chN c j : Int)) (.bool sr)) := (usR_one rfl rfl rfl)
          refine qbm 19 (by kernel_rfl) rfl rfl rfl (qcg (m := usR (.string (strOf [nb])) (.int .i64 (chN c j : Int)) (.bool sr)) (z := 3) (zv := .agg ([.string ⟨#[]⟩, .int .i64 0, .bool false] : List Value).toArray) rfl Tryz.underlying63 (by kernel_rfl) rfl hml (by omega) (by omega)) (.inr (hS.alloc hS.size _)) ?_; (try simp only [Act.put, lyy])
          have A2 := Lib.hid (Arr.new b2 (usR (.string (strOf [nb])) (.int .i64 (chN c j : Int)) (.bool sr)) 88)
          replace E := Lib.hid (E.out.below ((Below.refl b2.heap.size b2).alloc (Nat.le_refl _) (.cells (usR (.string (strOf [nb])) (.int .i64 (chN c j : Int)) (.bool sr)).toArray 88)))
          generalize b2.alloc (.cells (usR (.string (strOf [nb])) (.int .i64 (chN c j : Int)) (.bool sr)).toArray 88) = b5 at *
          generalize b2.heap.size = g0 at *
          refine qc9 (t := 63) (bw := 32) (zv := .agg ([.string ⟨#[]⟩, .int .i64 0, .bool false] : List Value).toArray) (z := 3) 20 (by kernel_rfl) rfl rfl rfl rfl rfl Tryz.underlying63 (by kernel_rfl) rfl (by omega) rfl rfl A2.out.range hml hmo (by omega) (by omega) E.out (fun v7 b6 hG => ?_); (try simp only [Act.put, lyy])
          replace E := Lib.hid hG
          clear hG A2 E0 hS
          obtain ⟨ya, yn, yc, rfl⟩ := E.out.isSlice
          refine qbm 21 (by kernel_rfl) rfl rfl rfl (qak (v := .slice ya yn yc) rfl rfl) (.inl rfl) ?_; (try simp only [Act.put, lyy])
          refine qba (by kernel_rfl) ?_ _; refine NoPanic.normal ?_
          have E9 := Lib.hid (E.out.know (H0 := LR usAt (l ++ [chU c j]) (css ++ [usR (.string (strOf [nb])) (.int .i64 (chN c j : Int)) (.bool sr)])) fun V h => h.snoc (by rw [HU.out]; rfl))
          clear E
          have E := E9
          clear E9
          go_upto_region 4 with fail; refine wp_region_lit ?_
          refine qaa (qad (v := .int .i64 (j : Int)) rfl rfl) rfl ?_; (try simp only [Act.put, lyy])
          refine qaa (qa6 (a := j) (b := 1) rfl rfl rfl (by omega)) rfl ?_; (try simp only [Act.put, lyy])
          refine qaa (qak (v := .int .i64 ((j + 1 : Nat) : Int)) rfl rfl) rfl ?_; (try simp only [Act.put, lyy])
          refine qab ?_
          go_wp2_with fail
          exact ⟨⟨j + 1, l ++ [chU c j], css ++ [usR (.string (strOf [nb])) (.int .i64 (chN c j : Int)) (.bool sr)], ya, yn, yc, rfl, rfl, by rw [chUs_succ, hl], by rw [List.length_append, ← hjl]; rfl, by omega, by omega, (fun p hp => by rcases List.mem_append.1 hp with hp | hp; exact HK.out p hp; obtain rfl := List.mem_singleton.1 hp; exact hml), by rw [List.flatten_append]; simpa using E.out⟩, by simp [intOf]; omega⟩
        · refine wpOp_call 11 rfl rfl rfl (qaf qau rfl rfl rfl rfl) (qbc (CN.out _ j E.out.ev.bl)) (fun vq b2 hR => ?_); (try simp only [Act.put, lyy])
          obtain ⟨rfl, hb9⟩ := hR
          replace HSB := Lib.hid (HSB.out.below hb9)
          replace hS := hS.trans (hb9.mono hS.size)
          replace E := Lib.hid (E.out.below hb9)
          clear hb9
          refine ⟨.inr hS, ?_⟩
          refine qbm 8 (by kernel_rfl) rfl rfl rfl (run_str rfl rfl HSB.out) (.inr (hS)) ?_; (try simp only [Act.put, lyy])
          refine qao 18 rfl rfl (by kernel_rfl) (by kernel_rfl) (by kernel_rfl) (by kernel_rfl) (by kernel_rfl) (fun _ _ _ h => h) rfl (fun V hV => qa7 (cells := (usR (.string (strOf [nb])) (.int .i64 (chN c j : Int)) (.bool sr)).toArray) (ps := [(0, .string (strOf [nb])), (1, .int .i64 (chN c j : Int)), (2, .bool sr)]) rfl rfl (usR_all rfl rfl rfl)) hS ?_; (try simp only [Act.put, lyy])
          have hml : (usR (.string (strOf [nb])) (.int .i64 (chN c j : Int)) (.bool sr)).length = 3 := qcx
          have hmo : One (usR (.string (strOf [nb])) (.int .i64 (chN c j : Int)) (.bool sr)) := (usR_one rfl rfl rfl)
          refine qbm 19 (by kernel_rfl) rfl rfl rfl (qcg (m := usR (.string (strOf [nb])) (.int .i64 (chN c j : Int)) (.bool sr)) (z := 3) (zv := .agg ([.string ⟨#[]⟩, .int .i64 0, .bool false] : List Value).toArray) rfl Tryz.underlying63 (by kernel_rfl) rfl hml (by omega) (by omega)) (.inr (hS.alloc hS.size _)) ?_; (try simp only [Act.put, lyy])
          have A2 := Lib.hid (Arr.new b2 (usR (.string (strOf [nb])) (.int .i64 (chN c j : Int)) (.bool sr)) 88)
          replace E := Lib.hid (E.out.below ((Below.refl b2.heap.size b2).alloc (Nat.le_refl _) (.cells (usR (.string (strOf [nb])) (.int .i64 (chN c j : Int)) (.bool sr)).toArray 88)))
          generalize b2.alloc (.cells (usR (.string (strOf [nb])) (.int .i64 (chN c j : Int)) (.bool sr)).toArray 88) = b5 at *
          generalize b2.heap.size = g0 at *
          refine qc9 (t := 63) (bw := 32) (zv := .agg ([.string ⟨#[]⟩, .int .i64 0, .bool false] : List Value).toArray) (z := 3) 20 (by kernel_rfl) rfl rfl rfl rfl rfl Tryz.underlying63 (by kernel_rfl) rfl (by omega) rfl rfl A2.out.range hml hmo (by omega) (by omega) E.out (fun v7 b6 hG => ?_); (try simp only [Act.put, lyy])
          replace E := Lib.hid hG
          clear hG A2 E0 hS
          obtain ⟨ya, yn, yc, rfl⟩ := E.out.isSlice
          refine qbm 21 (by kernel_rfl) rfl rfl rfl (qak (v := .slice ya yn yc) rfl rfl) (.inl rfl) ?_; (try simp only [Act.put, lyy])
          refine qba (by kernel_rfl) ?_ _; refine NoPanic.normal ?_
          have E9 := Lib.hid (E.out.know (H0 := LR usAt (l ++ [chU c j]) (css ++ [usR (.string (strOf [nb])) (.int .i64 (chN c j : Int)) (.bool sr)])) fun V h => h.snoc (by rw [HU.out]; rfl))
          clear E
          have E := E9
          clear E9
          go_upto_region 4 with fail; refine wp_region_lit ?_
          refine qaa (qad (v := .int .i64 (j : Int)) rfl rfl) rfl ?_; (try simp only [Act.put, lyy])
          refine qaa (qa6 (a := j) (b := 1) rfl rfl rfl (by omega)) rfl ?_; (try simp only [Act.put, lyy])
          refine qaa (qak (v := .int .i64 ((j + 1 : Nat) : Int)) rfl rfl) rfl ?_; (try simp only [Act.put, lyy])
          refine qab ?_
          go_wp2_with fail
          exact ⟨⟨j + 1, l ++ [chU c j], css ++ [usR (.string (strOf [nb])) (.int .i64 (chN c j : Int)) (.bool sr)], ya, yn, yc, rfl, rfl, by rw [chUs_succ, hl], by rw [List.length_append, ← hjl]; rfl, by omega, by omega, (fun p hp => by rcases List.mem_append.1 hp with hp | hp; exact HK.out p hp; obtain rfl := List.mem_singleton.1 hp; exact hml), by rw [List.flatten_append]; simpa using E.out⟩, by simp [intOf]; omega⟩
      · refine wpOp_call 11 rfl rfl rfl (qaf qau rfl rfl rfl rfl) (qbc (CN.out _ j E.out.ev.bl)) (fun vq b2 hR => ?_); (try simp only [Act.put, lyy])
        obtain ⟨rfl, hb9⟩ := hR
        replace hS := hS.trans (hb9.mono hS.size)
        replace E := Lib.hid (E.out.below hb9)
        clear hb9
        refine ⟨.inr hS, ?_⟩
        refine qbm 7 (by kernel_rfl) rfl rfl rfl (run_bsl (cells := #[b8 nb]) (z := .int .u8 0) rfl Tryz.underlying22 (by kernel_rfl) (by omega) (by omega) (by kernel_rfl)) (.inr (hS.alloc hS.size _)) ?_; (try simp only [Act.put, lyy])
        have HSB := Lib.hid (sl_oneU b2 nb)
        replace hS := hS.alloc hS.size (.cells #[b8 nb] 5)
        replace E := Lib.hid (E.out.below ((Below.refl b2.heap.size b2).alloc (Nat.le_refl _) (.cells #[b8 nb] 5)))
        generalize b2.alloc (.cells #[b8 nb] 5) = b1 at *
        obtain ⟨gs, hgs⟩ : ∃ k, k = b2.heap.size := ⟨_, rfl⟩
        rw [← hgs] at HSB ⊢
        clear hgs
        refine qbm 8 (by kernel_rfl) rfl rfl rfl (run_str rfl rfl HSB.out) (.inr (hS)) ?_; (try simp only [Act.put, lyy])
        refine qao 18 rfl rfl (by kernel_rfl) (by kernel_rfl) (by kernel_rfl) (by kernel_rfl) (by kernel_rfl) (fun _ _ _ h => h) rfl (fun V hV => qa7 (cells := (usR (.string (strOf [nb])) (.int .i64 (chN c j : Int)) (.bool sr)).toArray) (ps := [(0, .string (strOf [nb])), (1, .int .i64 (chN c j : Int)), (2, .bool sr)]) rfl rfl (usR_all rfl rfl rfl)) hS ?_; (try simp only [Act.put, lyy])
        have hml : (usR (.string (strOf [nb])) (.int .i64 (chN c j : Int)) (.bool sr)).length = 3 := qcx
        have hmo : One (usR (.string (strOf [nb])) (.int .i64 (chN c j : Int)) (.bool sr)) := (usR_one rfl rfl rfl)
        refine qbm 19 (by kernel_rfl) rfl rfl rfl (qcg (m := usR (.string (strOf [nb])) (.int .i64 (chN c j : Int)) (.bool sr)) (z := 3) (zv := .agg ([.string ⟨#[]⟩, .int .i64 0, .bool false] : List Value).toArray) rfl Tryz.underlying63 (by kernel_rfl) rfl hml (by omega) (by omega)) (.inr (hS.alloc hS.size _)) ?_; (try simp only [Act.put, lyy])
        have A2 := Lib.hid (Arr.new b1 (usR (.string (strOf [nb])) (.int .i64 (chN c j : Int)) (.bool sr)) 88)
        replace E := Lib.hid (E.out.below ((Below.refl b1.heap.size b1).alloc (Nat.le_refl _) (.cells (usR (.string (strOf [nb])) (.int .i64 (chN c j : Int)) (.bool sr)).toArray 88)))
        generalize b1.alloc (.cells (usR (.string (strOf [nb])) (.int .i64 (chN c j : Int)) (.bool sr)).toArray 88) = b5 at *
        generalize b1.heap.size = g0 at *
        refine qc9 (t := 63) (bw := 32) (zv := .agg ([.string ⟨#[]⟩, .int .i64 0, .bool false] : List Value).toArray) (z := 3) 20 (by kernel_rfl) rfl rfl rfl rfl rfl Tryz.underlying63 (by kernel_rfl) rfl (by omega) rfl rfl A2.out.range hml hmo (by omega) (by omega) E.out (fun v7 b6 hG => ?_); (try simp only [Act.put, lyy])
        replace E := Lib.hid hG
        clear hG A2 E0 hS
        obtain ⟨ya, yn, yc, rfl⟩ := E.out.isSlice
        refine qbm 21 (by kernel_rfl) rfl rfl rfl (qak (v := .slice ya yn yc) rfl rfl) (.inl rfl) ?_; (try simp only [Act.put, lyy])
        refine qba (by kernel_rfl) ?_ _; refine NoPanic.normal ?_
        have E9 := Lib.hid (E.out.know (H0 := LR usAt (l ++ [chU c j]) (css ++ [usR (.string (strOf [nb])) (.int .i64 (chN c j : Int)) (.bool sr)])) fun V h => h.snoc (by rw [HU.out]; rfl))
        clear E
        have E := E9
        clear E9
        go_upto_region 4 with fail; refine wp_region_lit ?_
        refine qaa (qad (v := .int .i64 (j : Int)) rfl rfl) rfl ?_; (try simp only [Act.put, lyy])
        refine qaa (qa6 (a := j) (b := 1) rfl rfl rfl (by omega)) rfl ?_; (try simp only [Act.put, lyy])
        refine qaa (qak (v := .int .i64 ((j + 1 : Nat) : Int)) rfl rfl) rfl ?_; (try simp only [Act.put, lyy])
        refine qab ?_
        go_wp2_with fail
        exact ⟨⟨j + 1, l ++ [chU c j], css ++ [usR (.string (strOf [nb])) (.int .i64 (chN c j : Int)) (.bool sr)], ya, yn, yc, rfl, rfl, by rw [chUs_succ, hl], by rw [List.length_append, ← hjl]; rfl, by omega, by omega, (fun p hp => by rcases List.mem_append.1 hp with hp | hp; exact HK.out p hp; obtain rfl := List.mem_singleton.1 hp; exact hml), by rw [List.flatten_append]; simpa using E.out⟩, by simp [intOf]; omega⟩
end Go.Proofs.YtcgbgmbnagmohaaGreat
