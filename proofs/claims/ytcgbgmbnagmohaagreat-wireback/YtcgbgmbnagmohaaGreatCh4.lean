import Derived.Test.YtcgbgmbnagmohaaGreatLy
import Derived.Test.YtcgbgmbnagmohaaGreatCh3
import Derived.Test.YtcgbgmbnagmohaaGreatChG
namespace Go.Proofs.YtcgbgmbnagmohaaGreat
open Go.RowKit
set_option maxRecDepth 20000
attribute [local irreducible] wpList
def chS (c : List (BitVec 8)) (i : Nat) : List (BitVec 8) := BitVec.ofNat 8 (chN c i) :: List.replicate 63 0
theorem chS_len (c : List (BitVec 8)) (i : Nat) : (chS c i).length = 64 := rfl
def chD (c : List (BitVec 8)) (i : Nat) : MPk := ⟨chN c (6 + i), chK c (7 + i)⟩
def chDs (c : List (BitVec 8)) (n : Nat) : List MPk := (List.range n).map (chD c)
theorem chDs_len (c : List (BitVec 8)) (n : Nat) : (chDs c n).length = n := by simp [chDs]
theorem chDs_succ (c : List (BitVec 8)) (n : Nat) : chDs c (n + 1) = chDs c n ++ [chD c n] := by simp [chDs, List.range_succ]
def chL (c : List (BitVec 8)) : MLs := ⟨chN c 1, chN c 2, chK c 3, chDs c (chN c 5 % 5), chS c 4⟩
theorem qcs : Enters 7 := qan Tryz.func7 (by kernel_rfl) rfl
set_option maxHeartbeats 8000000 in
theorem chL_any (ao : Option Addr) (c : List (BitVec 8)) (cc : Nat) (w : World) (hc : Sl (.slice ao c.length cc) c w) : Calls Tryz.prog 7 #[.slice ao c.length cc] w fun r w' => ∃ v', r = .returned v' ∧ ((∃ X : List Value, v' = .agg X.toArray ∧ X.length = 99 ∧ One X ∧ Fro w.heap.size (lsAt (chL c) X) w') ∧ Below w.heap.size w w') := by
  have CN := chKC c w ao cc hc
  have CK := chKK c w ao cc hc
  have hN : chN c 5 % 5 ≤ 4 := by omega
  have E := Lib.hid (Ev.start (w := w) (F := fun _ => True) fun _ _ => trivial)
  clear hc
  have ES : Hid (Tryz.prog.built 30 [(0, b8 (BitVec.ofNat 8 (chN c 4)))] = some ((chS c 4).map b8).toArray) := Lib.hid (by kernel_rfl)
  have EL : Hid (Tryz.prog.built 32 [(0, .int .i64 (chN c 1 : Int)), (1, .int .i64 (chN c 2 : Int)), (2, .agg ((chK c 3).map b8).toArray), (4, .agg ((chS c 4).map b8).toArray)] = some (lsR (.int .i64 (chN c 1 : Int)) (.int .i64 (chN c 2 : Int)) ((chK c 3).map b8) (.slice none 0 0) ((chS c 4).map b8)).toArray) := Lib.hid (by kernel_rfl)
  have EC : Hid (chL c = ⟨chN c 1, chN c 2, chK c 3, chDs c (chN c 5 % 5), chS c 4⟩) := Lib.hid rfl
  have HS := chS_len c 4
  generalize chL c = mm at *
  generalize chS c 4 = sg at *
  generalize c.length = m at *
  go_enter Tryz.func7, Tryz.ntmps7
  go_upto_region 0 with fail; refine wp_region_lit ?_
  refine qaa (qa3 (vs := lsR ((.int .i64 0)) ((.int .i64 0)) (z8 32) ((.slice none 0 0)) (z8 64)) rfl (by kernel_rfl)) rfl ?_; (try simp only [Act.put, lyy])
  replace E := Lib.hid (E.out.new (lsR ((.int .i64 0)) ((.int .i64 0)) (z8 32) ((.slice none 0 0)) (z8 64)) 32)
  generalize w.alloc (.cells (lsR ((.int .i64 0)) ((.int .i64 0)) (z8 32) ((.slice none 0 0)) (z8 64)).toArray 32) = a1 at *
  generalize w.heap.size = g2 at *
  refine qab ?_
  go_upto_region 1 with fail; refine wp_region_lit ?_
  refine qaa (qad (v := .slice ao m cc) rfl rfl) rfl ?_; (try simp only [Act.put, lyy])
  refine qav (qaf qau rfl rfl rfl rfl) rfl (CN.out _ 1 E.out.bl) (fun a3 hb => ?_); (try simp only [Act.put, lyy])
  replace E := Lib.hid (E.out.below hb)
  clear hb
  refine qaa (qad (v := .slice ao m cc) rfl rfl) rfl ?_; (try simp only [Act.put, lyy])
  refine qav (qaf qau rfl rfl rfl rfl) rfl (CN.out _ 2 E.out.bl) (fun a4 hb => ?_); (try simp only [Act.put, lyy])
  replace E := Lib.hid (E.out.below hb)
  clear hb
  refine qaa (qad (v := .slice ao m cc) rfl rfl) rfl ?_; (try simp only [Act.put, lyy])
  refine qav (qaf qbx rfl rfl rfl rfl) rfl (CK.out _ 3 E.out.bl) (fun a5 hb => ?_); (try simp only [Act.put, lyy])
  replace E := Lib.hid (E.out.below hb)
  clear hb
  refine qaa (qad (v := .slice ao m cc) rfl rfl) rfl ?_; (try simp only [Act.put, lyy])
  refine qav (qaf qau rfl rfl rfl rfl) rfl (CN.out _ 4 E.out.bl) (fun a6 hb => ?_); (try simp only [Act.put, lyy])
  replace E := Lib.hid (E.out.below hb)
  clear hb
  refine qaa (run_cvi_8 rfl rfl) rfl ?_; (try simp only [Act.put, lyy])
  refine qaa (qa7 (ps := [(0, b8 (BitVec.ofNat 8 (chN c 4)))]) rfl rfl ES.out) rfl ?_; (try simp only [Act.put, lyy])
  refine qaa (qa7 (ps := [(0, .int .i64 (chN c 1 : Int)), (1, .int .i64 (chN c 2 : Int)), (2, .agg ((chK c 3).map b8).toArray), (4, .agg (sg.map b8).toArray)]) rfl rfl EL.out) rfl ?_; (try simp only [Act.put, lyy])
  refine qaa (qa3 (vs := lsR ((.int .i64 0)) ((.int .i64 0)) (z8 32) ((.slice none 0 0)) (z8 64)) rfl (by kernel_rfl)) rfl ?_; (try simp only [Act.put, lyy])
  replace E := Lib.hid (E.out.new (lsR ((.int .i64 0)) ((.int .i64 0)) (z8 32) ((.slice none 0 0)) (z8 64)) 32)
  generalize a6.alloc (.cells (lsR ((.int .i64 0)) ((.int .i64 0)) (z8 32) ((.slice none 0 0)) (z8 64)).toArray 32) = a7 at *
  generalize a6.heap.size = g8 at *
  refine qal (qa0 (vs := lsR (.int .i64 (chN c 1 : Int)) (.int .i64 (chN c 2 : Int)) ((chK c 3).map b8) (.slice none 0 0) (sg.map b8)) rfl (szR (qas (by rw [List.length_map]; exact qap _ _) (by rw [List.length_map, HS])) (by kernel_rfl)) rfl rfl (One.all (qch rfl rfl (One.b8 _) rfl (One.b8 _))) ((E.out.get (i := 0) rfl).thereM (by have q1 : (lsR (.int .i64 (chN c 1 : Int)) (.int .i64 (chN c 2 : Int)) ((chK c 3).map b8) (.slice none 0 0) (sg.map b8)).length = 99 := (qas (by rw [List.length_map]; exact qap _ _) (by rw [List.length_map, HS])); have q2 : (lsR ((.int .i64 0)) ((.int .i64 0)) (z8 32) ((.slice none 0 0)) (z8 64)).length = 99 := (qas (qac 32) (qac 64)); omega))) rfl rfl ?_
  replace E := Lib.hid (E.out.put 0 rfl (m := lsR (.int .i64 (chN c 1 : Int)) (.int .i64 (chN c 2 : Int)) ((chK c 3).map b8) (.slice none 0 0) (sg.map b8)) ((show (lsR (.int .i64 (chN c 1 : Int)) (.int .i64 (chN c 2 : Int)) ((chK c 3).map b8) (.slice none 0 0) (sg.map b8)).length = 99 from (qas (by rw [List.length_map]; exact qap _ _) (by rw [List.length_map, HS]))).trans (show (lsR ((.int .i64 0)) ((.int .i64 0)) (z8 32) ((.slice none 0 0)) (z8 64)).length = 99 from (qas (qac 32) (qac 64))).symm))
  generalize a7.setCells g8 0 (lsR (.int .i64 (chN c 1 : Int)) (.int .i64 (chN c 2 : Int)) ((chK c 3).map b8) (.slice none 0 0) (sg.map b8)) = a9 at *
  replace E := Lib.hid (show Ev _ [(g8, lsR (.int .i64 (chN c 1 : Int)) (.int .i64 (chN c 2 : Int)) ((chK c 3).map b8) (.slice none 0 0) (sg.map b8)), (g2, lsR ((.int .i64 0)) ((.int .i64 0)) (z8 32) ((.slice none 0 0)) (z8 64))] _ _ _ a9 from E.out)
  refine qab ?_
  go_upto_region 2 with fail; refine wp_region_lit ?_
  refine qaa (qak (v := .int .i64 0) rfl rfl) rfl ?_; (try simp only [Act.put, lyy])
  refine qab ?_
  replace E := Lib.hid ((Gw.start E.out 92 33).know (H0 := LR pkAt [] []) fun V _ => LR.nil V)
  go_wp2_with fail
  go_loopw [4] (fun s4 u => ∃ (j : Nat) (l : List MPk) (css : List (List Value)) (va : Option Addr) (vn vc : Nat), s4 = .int .i64 (j : Int) ∧ l = chDs c j ∧ j = l.length ∧ j ≤ chN c 5 % 5 ∧ (∀ p ∈ css, p.length = 33) ∧ Gw w [(g8, lsR (.int .i64 (chN c 1 : Int)) (.int .i64 (chN c 2 : Int)) ((chK c 3).map b8) (.slice va vn vc) (sg.map b8)), (g2, lsR ((.int .i64 0)) ((.int .i64 0)) (z8 32) ((.slice none 0 0)) (z8 64))] 92 33 (.slice va vn vc) j css.flatten (fun _ => True) (LR pkAt l css) u) (fun s4 _ => (((chN c 5 % 5 : Nat) : Int) - intOf s4).toNat)
  case atStart => exact ⟨0, [], [], none, 0, 0, rfl, rfl, rfl, by omega, (fun _ h => by cases h), E.out⟩
  case round =>
    obtain ⟨j, l, css, va, vn, vc, rfl, hl, hjl, hj, hq, hJ⟩ := hrel
    replace E := Lib.hid hJ
    have HK := Lib.hid hq
    clear hJ hq
    by_cases hjn : j = chN c 5 % 5
    · go_upto_region 3 with fail; refine wp_region_lit ?_
      refine qaa (qad (v := .int .i64 (j : Int)) rfl rfl) rfl ?_; (try simp only [Act.put, lyy])
      refine qaa (qad (v := .slice ao m cc) rfl rfl) rfl ?_; (try simp only [Act.put, lyy])
      refine qav (qaf qau rfl rfl rfl rfl) rfl (CN.out _ 5 E.out.bl) (fun a10 hb => ?_); (try simp only [Act.put, lyy])
      replace E := Lib.hid (E.out.below hb)
      clear hb
      refine qaa (qb9 (a := chN c 5) (b := 5) rfl rfl rfl (by omega)) rfl ?_; (try simp only [Act.put, lyy])
      refine qaa (qay (c := false) rfl rfl rfl (decide_eq_false (by omega))) rfl ?_; (try simp only [Act.put, lyy])
      refine qab ?_
      have E1 := Lib.hid E.out.done
      clear E
      have E := E1
      clear E1
      go_upto_region 6 with fail; refine wp_region_lit ?_
      refine qaa (qat (vs := lsR (.int .i64 (chN c 1 : Int)) (.int .i64 (chN c 2 : Int)) ((chK c 3).map b8) (.slice va vn vc) (sg.map b8)) rfl Tryz.underlying32 rfl (szR (qas (by rw [List.length_map]; exact qap _ _) (by rw [List.length_map, HS])) (by kernel_rfl)) rfl (E.out.get (i := 0) rfl).range) rfl ?_; (try simp only [Act.put, lyy])
      refine qal (qa0 (vs := lsR (.int .i64 (chN c 1 : Int)) (.int .i64 (chN c 2 : Int)) ((chK c 3).map b8) (.slice va vn vc) (sg.map b8)) rfl (szR (qas (by rw [List.length_map]; exact qap _ _) (by rw [List.length_map, HS])) (by kernel_rfl)) rfl rfl (One.all (qch rfl rfl (One.b8 _) rfl (One.b8 _))) ((E.out.get (i := 1) rfl).thereM (by have q1 : (lsR (.int .i64 (chN c 1 : Int)) (.int .i64 (chN c 2 : Int)) ((chK c 3).map b8) (.slice va vn vc) (sg.map b8)).length = 99 := (qas (by rw [List.length_map]; exact qap _ _) (by rw [List.length_map, HS])); have q2 : (lsR ((.int .i64 0)) ((.int .i64 0)) (z8 32) ((.slice none 0 0)) (z8 64)).length = 99 := (qas (qac 32) (qac 64)); omega))) rfl rfl ?_
      replace E := Lib.hid (E.out.put 1 rfl (m := lsR (.int .i64 (chN c 1 : Int)) (.int .i64 (chN c 2 : Int)) ((chK c 3).map b8) (.slice va vn vc) (sg.map b8)) ((show (lsR (.int .i64 (chN c 1 : Int)) (.int .i64 (chN c 2 : Int)) ((chK c 3).map b8) (.slice va vn vc) (sg.map b8)).length = 99 from (qas (by rw [List.length_map]; exact qap _ _) (by rw [List.length_map, HS]))).trans (show (lsR ((.int .i64 0)) ((.int .i64 0)) (z8 32) ((.slice none 0 0)) (z8 64)).length = 99 from (qas (qac 32) (qac 64))).symm))
      generalize a10.setCells g2 0 (lsR (.int .i64 (chN c 1 : Int)) (.int .i64 (chN c 2 : Int)) ((chK c 3).map b8) (.slice va vn vc) (sg.map b8)) = a11 at *
      replace E := Lib.hid (show Ev _ [(g8, lsR (.int .i64 (chN c 1 : Int)) (.int .i64 (chN c 2 : Int)) ((chK c 3).map b8) (.slice va vn vc) (sg.map b8)), (g2, lsR (.int .i64 (chN c 1 : Int)) (.int .i64 (chN c 2 : Int)) ((chK c 3).map b8) (.slice va vn vc) (sg.map b8))] _ _ _ a11 from E.out)
      refine qab ?_
      have HF : Hid (Fro w.heap.size (fun V => ∃ a' c', (.slice va vn vc : Value) = .slice a' l.length c' ∧ SlR 33 pkAt l a' c' V) a11) := Lib.hid fun V hV => qc5 (E.out.tell V hV).1 hjl (E.out.tell V hV).2.1 HK.out (E.out.tell V hV).2.2
      obtain ⟨a', c', hv6, hS0⟩ := HF.out.now
      simp only [Value.slice.injEq] at hv6
      obtain ⟨-, hvn, -⟩ := hv6
      have HF2 : Hid (Fro w.heap.size (SlR 33 pkAt l va vc) a11) := Lib.hid fun V hV => by
        obtain ⟨a2, c2, h1, h2⟩ := HF.out V hV
        simp only [Value.slice.injEq] at h1
        obtain ⟨rfl, _, rfl⟩ := h1
        exact h2
      have hL : chDs c (chN c 5 % 5) = l := by rw [← hjn]; exact hl.symm
      have hmm := EC.out
      go_wp2_with fail
      refine bodyPost_ret (v := .agg (lsR (.int .i64 (chN c 1 : Int)) (.int .i64 (chN c 2 : Int)) ((chK c 3).map b8) (.slice va vn vc) (sg.map b8)).toArray) (qbj Tryz.results7 rfl Tryz.underlying32 rfl (szR (qas (by rw [List.length_map]; exact qap _ _) (by rw [List.length_map, HS])) (by kernel_rfl)) (E.out.get (i := 1) rfl).range) rfl ⟨_, rfl, ⟨_, rfl, (qas (by rw [List.length_map]; exact qap _ _) (by rw [List.length_map, HS])), (qch rfl rfl (One.b8 _) rfl (One.b8 _)), fun V hV => ⟨va, vc, ?_, ?_⟩⟩, E.out.bl⟩
      · rw [hmm]
        simp only [hL, hvn]
      · rw [hmm]
        simp only [hL]
        exact HF2.out V hV
    · go_upto_region 3 with fail; refine wp_region_lit ?_
      refine qaa (qad (v := .int .i64 (j : Int)) rfl rfl) rfl ?_; (try simp only [Act.put, lyy])
      refine qaa (qad (v := .slice ao m cc) rfl rfl) rfl ?_; (try simp only [Act.put, lyy])
      refine qav (qaf qau rfl rfl rfl rfl) rfl (CN.out _ 5 E.out.bl) (fun a10 hb => ?_); (try simp only [Act.put, lyy])
      replace E := Lib.hid (E.out.below hb)
      clear hb
      refine qaa (qb9 (a := chN c 5) (b := 5) rfl rfl rfl (by omega)) rfl ?_; (try simp only [Act.put, lyy])
      refine qaa (qay (c := true) rfl rfl rfl (decide_eq_true (by omega))) rfl ?_; (try simp only [Act.put, lyy])
      refine qab ?_
      go_upto_region 5 with fail
      refine wp_region_noPanic ?_; refine qbd (S := Till 12 (fun V => Below a10.heap.size a10 V)) (by kernel_rfl) (.inr (Below.refl _ _).drew) (fun _ => ?_); have hS : Below a10.heap.size a10 a10.drew := (Below.refl _ _).drew
      have E0 := E
      replace E := Lib.hid (E.out.below hS)
      generalize a10.drew = a11 at *
      refine qao 0 rfl rfl (by kernel_rfl) (by kernel_rfl) (by kernel_rfl) (by kernel_rfl) (by kernel_rfl) (fun _ _ _ h => h) rfl (fun V hV => qai (s := 0) (k := 34) rfl Tryz.underlying32 rfl (by kernel_rfl) rfl rfl) hS ?_; (try simp only [Act.put, lyy])
      refine qao 1 rfl rfl (by kernel_rfl) (by kernel_rfl) (by kernel_rfl) (by kernel_rfl) (by kernel_rfl) (fun _ _ _ h => h) rfl (fun V hV => qam rfl Tryz.underlying28 rfl rfl (((E0.out.below hV).get (i := 0) rfl).c 34 _ (qce (by rw [List.length_map]; exact qap _ _)))) hS ?_; (try simp only [Act.put, lyy])
      refine qao 2 rfl rfl (by kernel_rfl) (by kernel_rfl) (by kernel_rfl) (by kernel_rfl) (by kernel_rfl) (fun _ _ _ h => h) rfl (fun V hV => qad (v := .slice ao m cc) rfl rfl) hS ?_; (try simp only [Act.put, lyy])
      refine qao 3 rfl rfl (by kernel_rfl) (by kernel_rfl) (by kernel_rfl) (by kernel_rfl) (by kernel_rfl) (fun _ _ _ h => h) rfl (fun V hV => qad (v := .int .i64 (j : Int)) rfl rfl) hS ?_; (try simp only [Act.put, lyy])
      refine qao 4 rfl rfl (by kernel_rfl) (by kernel_rfl) (by kernel_rfl) (by kernel_rfl) (by kernel_rfl) (fun _ _ _ h => h) rfl (fun V hV => qa6 (a := 6) (b := j) rfl rfl rfl (by omega)) hS ?_; (try simp only [Act.put, lyy])
      refine qao 6 rfl rfl (by kernel_rfl) (by kernel_rfl) (by kernel_rfl) (by kernel_rfl) (by kernel_rfl) (fun _ _ _ h => h) rfl (fun V hV => qad (v := .slice ao m cc) rfl rfl) hS ?_; (try simp only [Act.put, lyy])
      refine qao 7 rfl rfl (by kernel_rfl) (by kernel_rfl) (by kernel_rfl) (by kernel_rfl) (by kernel_rfl) (fun _ _ _ h => h) rfl (fun V hV => qad (v := .int .i64 (j : Int)) rfl rfl) hS ?_; (try simp only [Act.put, lyy])
      refine qao 8 rfl rfl (by kernel_rfl) (by kernel_rfl) (by kernel_rfl) (by kernel_rfl) (by kernel_rfl) (fun _ _ _ h => h) rfl (fun V hV => qa6 (a := 7) (b := j) rfl rfl rfl (by omega)) hS ?_; (try simp only [Act.put, lyy])
      refine qb4 5 (by kernel_rfl) rfl rfl rfl (qaf qau rfl rfl rfl rfl) (qbc (CN.out _ ((6 + j : Nat)) E.out.ev.bl)) (fun v w h => hS.trans (h.2.mono hS.size)) (fun v12 a13 hR => ?_); (try simp only [Act.put, lyy])
      obtain ⟨rfl, hb9⟩ := hR
      replace hS := hS.trans (hb9.mono hS.size)
      replace E := Lib.hid (E.out.below hb9)
      clear hb9
      refine qb4 9 (by kernel_rfl) rfl rfl rfl (qaf qbx rfl rfl rfl rfl) (qbc (CK.out _ ((7 + j : Nat)) E.out.ev.bl)) (fun v w h => hS.trans (h.2.mono hS.size)) (fun v14 a15 hR => ?_); (try simp only [Act.put, lyy])
      obtain ⟨rfl, hb9⟩ := hR
      replace hS := hS.trans (hb9.mono hS.size)
      replace E := Lib.hid (E.out.below hb9)
      clear hb9
      refine qao 10 rfl rfl (by kernel_rfl) (by kernel_rfl) (by kernel_rfl) (by kernel_rfl) (by kernel_rfl) (fun _ _ _ h => h) rfl (fun V hV => qa7 (cells := (enR (.int .i64 (chN c ((6 + j : Nat)) : Int)) ((chK c ((7 + j : Nat))).map b8)).toArray) (ps := [(0, .int .i64 (chN c ((6 + j : Nat)) : Int)), (1, .agg ((chK c ((7 + j : Nat))).map b8).toArray)]) rfl rfl (enR_all rfl (by rw [List.length_map]; exact qap _ _))) hS ?_; (try simp only [Act.put, lyy])
      have hml : (enR (.int .i64 (chN c ((6 + j : Nat)) : Int)) ((chK c ((7 + j : Nat))).map b8)).length = 33 := (enR_len (by rw [List.length_map]; exact qap _ _))
      have hmo : One (enR (.int .i64 (chN c ((6 + j : Nat)) : Int)) ((chK c ((7 + j : Nat))).map b8)) := (enR_one rfl (One.b8 _))
      refine qbm 11 (by kernel_rfl) rfl rfl rfl (qcg (m := enR (.int .i64 (chN c ((6 + j : Nat)) : Int)) ((chK c ((7 + j : Nat))).map b8)) (z := 33) (zv := .agg ([.int .i64 0] ++ List.replicate 32 (.int .u8 0) : List Value).toArray) rfl Tryz.underlying28 (by kernel_rfl) rfl hml (by omega) (by omega)) (.inr (hS.alloc hS.size _)) ?_; (try simp only [Act.put, lyy])
      have A2 := Lib.hid (Arr.new a15 (enR (.int .i64 (chN c ((6 + j : Nat)) : Int)) ((chK c ((7 + j : Nat))).map b8)) 92)
      replace E := Lib.hid (E.out.below ((Below.refl a15.heap.size a15).alloc (Nat.le_refl _) (.cells (enR (.int .i64 (chN c ((6 + j : Nat)) : Int)) ((chK c ((7 + j : Nat))).map b8)).toArray 92)))
      generalize a15.alloc (.cells (enR (.int .i64 (chN c ((6 + j : Nat)) : Int)) ((chK c ((7 + j : Nat))).map b8)).toArray 92) = b1 at *
      generalize a15.heap.size = g0 at *
      refine qc9 (t := 28) (bw := 40) (zv := .agg ([.int .i64 0] ++ List.replicate 32 (.int .u8 0) : List Value).toArray) (z := 33) 12 (by kernel_rfl) rfl rfl rfl rfl rfl Tryz.underlying28 (by kernel_rfl) rfl (by omega) rfl rfl A2.out.range hml hmo (by omega) (by omega) E.out (fun v7 b2 hG => ?_); (try simp only [Act.put, lyy])
      replace E := Lib.hid hG
      clear hG A2 E0 hS
      obtain ⟨ya, yn, yc, rfl⟩ := E.out.isSlice
      refine qbm 13 (by kernel_rfl) rfl rfl rfl (qai (s := 0) (k := 34) rfl Tryz.underlying32 rfl (by kernel_rfl) rfl rfl) (.inl rfl) ?_; (try simp only [Act.put, lyy])
      refine qb1 14 (by kernel_rfl) rfl rfl rfl (qb5 (v := .slice ya yn yc) rfl (by kernel_rfl) rfl rfl rfl rfl ((E.out.get (i := 0) rfl).c _ _ (qce (by rw [List.length_map]; exact qap _ _))) ((E.out.get (i := 0) rfl).f _)) (.inl rfl) ?_
      replace E := Lib.hid (E.out.set 0 rfl (j := 0 + 34) (by have q2 : (lsR (.int .i64 (chN c 1 : Int)) (.int .i64 (chN c 2 : Int)) ((chK c 3).map b8) (.slice va vn vc) (sg.map b8)).length = 99 := (qas (by rw [List.length_map]; exact qap _ _) (by rw [List.length_map, HS])); omega) (.slice ya yn yc))
      simp only [List.set_cons_zero] at E
      rw [show (0 + 34 : Nat) = 34 from rfl, lsR_setDevices (by rw [List.length_map]; exact qap _ _)] at E
      generalize b2.setCell ⟨g8, 0 + 34, none⟩ (.slice ya yn yc) = b3 at *
      refine qba (by kernel_rfl) ?_ _; refine NoPanic.normal ?_
      have E9 := Lib.hid (E.out.know (H0 := LR pkAt (l ++ [chD c j]) (css ++ [enR (.int .i64 (chN c ((6 + j : Nat)) : Int)) ((chK c ((7 + j : Nat))).map b8)])) fun V h => h.snoc (by show _ = pkC _; rw [pkC_en]; rfl))
      clear E
      have E := E9
      clear E9
      go_upto_region 4 with fail; refine wp_region_lit ?_
      refine qaa (qad (v := .int .i64 (j : Int)) rfl rfl) rfl ?_; (try simp only [Act.put, lyy])
      refine qaa (qa6 (a := j) (b := 1) rfl rfl rfl (by omega)) rfl ?_; (try simp only [Act.put, lyy])
      refine qaa (qak (v := .int .i64 ((j + 1 : Nat) : Int)) rfl rfl) rfl ?_; (try simp only [Act.put, lyy])
      refine qab ?_
      go_wp2_with fail
      exact ⟨⟨j + 1, l ++ [chD c j], css ++ [enR (.int .i64 (chN c ((6 + j : Nat)) : Int)) ((chK c ((7 + j : Nat))).map b8)], ya, yn, yc, rfl, by rw [chDs_succ, hl], by rw [List.length_append, ← hjl]; rfl, by omega, (fun p hp => by rcases List.mem_append.1 hp with hp | hp; exact HK.out p hp; obtain rfl := List.mem_singleton.1 hp; exact hml), by rw [List.flatten_append]; simpa using E.out⟩, by simp [intOf]; omega⟩
end Go.Proofs.YtcgbgmbnagmohaaGreat
