import Derived.Test.YtcgbgmbnagmohaaGreatLy
import Derived.Test.YtcgbgmbnagmohaaGreatCh4
import Derived.Deep.CutBlock
namespace Go.Proofs.YtcgbgmbnagmohaaGreat
open Go.RowKit
set_option maxRecDepth 20000
attribute [local irreducible] wpList
set_option maxRecDepth 20000 in
theorem rqR_ch {x0 : Value} (c0 : x0.cells = #[x0]) {x1 : Value} (c1 : x1.cells = #[x1]) {x2 : Value} (c2 : x2.cells = #[x2]) {x3 : Value} (c3 : x3.cells = #[x3]) {x5 : Value} (c5 : x5.cells = #[x5]) {x6 : List Value} (h6 : x6.length = 99) {x7 : List Value} (h7 : x7.length = 32) {x11 : Value} (c11 : x11.cells = #[x11]) : Tryz.prog.built 46 [(0, x0), (1, x1), (2, x2), (3, x3), (5, x5), (6, .agg x6.toArray), (7, .agg x7.toArray), (11, x11)] = some (rqR x0 x1 x2 x3 (.string ⟨#[]⟩) x5 x6 x7 (List.replicate 1 (.int .i64 0) ++ List.replicate 32 (.int .u8 0)) (List.replicate 64 (.int .u8 0)) (.slice none 0 0) x11 (.slice none 0 0)).toArray := by
  have q0 : (Tryz.prog.info? 46).map (·.zero) = some (some (.agg ([.int .u8 0] ++ [.int .i64 0] ++ [.int .i64 0] ++ [.string ⟨#[]⟩] ++ [.string ⟨#[]⟩] ++ [.string ⟨#[]⟩] ++ (List.replicate 2 (.int .i64 0) ++ List.replicate 32 (.int .u8 0) ++ List.replicate 1 (.slice none 0 0) ++ List.replicate 64 (.int .u8 0)) ++ (List.replicate 32 (.int .u8 0)) ++ (List.replicate 1 (.int .i64 0) ++ List.replicate 32 (.int .u8 0)) ++ (List.replicate 64 (.int .u8 0)) ++ [.slice none 0 0] ++ [.int .i64 0] ++ [.slice none 0 0] : List Value).toArray)) := by kernel_rfl
  obtain ⟨it, q1, q2⟩ := Option.map_eq_some_iff.1 q0
  have h := qbz (places := [(0, 1), (1, 1), (2, 1), (3, 1), (4, 1), (5, 1), (6, 99), (105, 32), (137, 33), (170, 64), (234, 1), (235, 1), (236, 1)]) q1 Tryz.underlying46 q2 (by kernel_rfl) [.part 0 x0 [.int .u8 0], .part 1 x1 [.int .i64 0], .part 2 x2 [.int .i64 0], .part 3 x3 [.string ⟨#[]⟩], .gap [.string ⟨#[]⟩], .part 5 x5 [.string ⟨#[]⟩], .part 6 (.agg x6.toArray) (List.replicate 2 (.int .i64 0) ++ List.replicate 32 (.int .u8 0) ++ List.replicate 1 (.slice none 0 0) ++ List.replicate 64 (.int .u8 0)), .part 7 (.agg x7.toArray) (List.replicate 32 (.int .u8 0)), .gap [.int .i64 0, .int .u8 0, .int .u8 0, .int .u8 0, .int .u8 0, .int .u8 0, .int .u8 0, .int .u8 0, .int .u8 0, .int .u8 0, .int .u8 0, .int .u8 0, .int .u8 0, .int .u8 0, .int .u8 0, .int .u8 0, .int .u8 0, .int .u8 0, .int .u8 0, .int .u8 0, .int .u8 0, .int .u8 0, .int .u8 0, .int .u8 0, .int .u8 0, .int .u8 0, .int .u8 0, .int .u8 0, .int .u8 0, .int .u8 0, .int .u8 0, .int .u8 0, .int .u8 0], .gap (List.replicate 64 (.int .u8 0)), .gap [.slice none 0 0], .part 11 x11 [.int .i64 0], .gap [.slice none 0 0]] (by kernel_rfl) (by simp [Seg.Ok, qbl, c0, c1, c2, c3, c5, h6, h7, c11])
  rw [show Seg.told _ = [(0, x0), (1, x1), (2, x2), (3, x3), (5, x5), (6, .agg x6.toArray), (7, .agg x7.toArray), (11, x11)] from rfl] at h
  rw [h]
  simp [Seg.out, rqR, qbl, c0, c1, c2, c3, c5, c11]
theorem SlR.to {α : Type} {z : Nat} {Ra Rb : α → List Value → World → Prop} {l : List α} {a : Option Addr} {c : Nat} {u : World} (h : SlR z Ra l a c u) (k : ∀ m cs, Ra m cs u → Rb m cs u) : SlR z Rb l a c u := by
  obtain ⟨h1, css, h2, h3, h4, h5⟩ := h
  exact ⟨h1, css, h2, h3, fun i m cs a b => k m cs (h4 i m cs a b), h5⟩
def itC (v : Value) (c : List (BitVec 8)) (m : Int × MEv) (cs : List Value) (V : World) : Prop := Sl v c V → itAt m cs V
def chI (c : List (BitVec 8)) (i : Nat) : Int × MEv := ((chN c (10 + i) : Int), chE c (11 + i))
def chIs (c : List (BitVec 8)) (n : Nat) : List (Int × MEv) := (List.range n).map (chI c)
theorem chIs_len (c : List (BitVec 8)) (n : Nat) : (chIs c n).length = n := by simp [chIs]
theorem chIs_succ (c : List (BitVec 8)) (n : Nat) : chIs c (n + 1) = chIs c n ++ [chI c n] := by simp [chIs, List.range_succ]
def chRq (c : List (BitVec 8)) : MRq := ⟨((chN c 0 % 15 : Nat) : Int), chN c 1, chN c 2, c.take (min c.length 3), [], [97#8], chL c, chK c 3, ⟨chN c 5, chK c 6⟩, chS c 7, chPs c 8 (chN c 8 % 4), chN c 4, chIs c (chN c 9 % 3)⟩
theorem enters_cr10 : Enters 11 := qan Tryz.func11 (by kernel_rfl) rfl
set_option maxHeartbeats 16000000 in
theorem chRq_any (ao : Option Addr) (c : List (BitVec 8)) (cc : Nat) (w : World) (hc : Sl (.slice ao c.length cc) c w) : Calls Tryz.prog 11 #[.slice ao c.length cc] w fun r w' => ∃ v', r = .returned v' ∧ ((∃ X : List Value, v' = .agg X.toArray ∧ X.length = 237 ∧ One X ∧ Fro 0 (rqAt (chRq c) X) w') ∧ Below w.heap.size w w') := by
  have CN := chKC c w ao cc hc
  have CK := chKK c w ao cc hc
  have CL : Hid (∀ u, Since w u → Calls Tryz.prog 7 #[.slice ao c.length cc] u fun r w' => ∃ v', r = .returned v' ∧ ((∃ X : List Value, v' = .agg X.toArray ∧ X.length = 99 ∧ One X ∧ Fro u.heap.size (lsAt (chL c) X) w') ∧ Below u.heap.size u w')) := Lib.hid fun u hu => chL_any ao c cc u (hc.below hu)
  have CP : Hid (∀ u, Since w u → Calls Tryz.prog 48 #[.slice ao c.length cc, .int .i64 8] u fun r w' => ∃ v', r = .returned v' ∧ ((∃ a' c', v' = .slice a' (chPs c 8 (chN c 8 % 4)).length c' ∧ Fro u.heap.size (SlR 33 pkAt (chPs c 8 (chN c 8 % 4)) a' c') w') ∧ Below u.heap.size u w')) := Lib.hid fun u hu => chPs_any ao c cc 8 u (hc.below hu) (by omega)
  have CE : Hid (∀ (u : World) (k : Nat), Since w u → k ≤ 100000 → Calls Tryz.prog 9 #[.slice ao c.length cc, .int .i64 (k : Int)] u fun r w' => ∃ v', r = .returned v' ∧ ((∃ X : List Value, v' = .agg X.toArray ∧ X.length = 72 ∧ One X ∧ ∀ V, Sl (.slice ao c.length cc) c V → evAt (chE c k) X V) ∧ Below u.heap.size u w')) := Lib.hid fun u k hu hk => chE_anyC ao c cc k u (hc.below hu) hk
  have hcc : c.length ≤ cc := by obtain ⟨_, _, h1, h2, _⟩ := hc; simp only [Value.slice.injEq] at h1; omega
  have HP : Hid (∀ V, Sl (.slice ao c.length cc) c V → Sl (.slice ao (min c.length 3) cc) (c.take (min c.length 3)) V) := Lib.hid fun V h => by
    have h2 := h.takeC (n := min c.length 3) (Nat.min_le_left _ _)
    rwa [List.length_take, Nat.min_eq_left (Nat.min_le_left _ _)] at h2
  have EC : Hid (chRq c = ⟨((chN c 0 % 15 : Nat) : Int), chN c 1, chN c 2, c.take (min c.length 3), [], [97#8], chL c, chK c 3, ⟨chN c 5, chK c 6⟩, chS c 7, chPs c 8 (chN c 8 % 4), chN c 4, chIs c (chN c 9 % 3)⟩) := Lib.hid rfl
  have ES : Hid (Tryz.prog.built 30 [(0, b8 (BitVec.ofNat 8 (chN c 7)))] = some ((chS c 7).map b8).toArray) := Lib.hid (by kernel_rfl)
  have HS := chS_len c 7
  have hkd : (0 : Int) ≤ ((chN c 0 % 15 : Nat) : Int) ∧ ((chN c 0 % 15 : Nat) : Int) ≤ 255 := by omega
  have E := Lib.hid (Ev.start (w := w) (F := fun V => Sl (.slice ao c.length cc) c V) fun V hV => hc.ext hV)
  clear hc
  generalize chRq c = mm at *
  generalize chS c 7 = sg at *
  generalize chL c = LL at *
  generalize chPs c 8 (chN c 8 % 4) = ON at *
  generalize c.take (min c.length 3) = pin at *
  generalize hkk : ((chN c 0 % 15 : Nat) : Int) = kd at *
  have HKK := Lib.hid hkk
  clear hkk
  generalize c.length = m at *
  have EB : Hid (∀ X : List Value, X.length = 99 → Tryz.prog.built 46 [(0, .int .u8 kd), (1, .int .i64 (chN c 1 : Int)), (2, .int .i64 (chN c 2 : Int)), (3, .string (strOf pin)), (5, .string ⟨#[97]⟩), (6, .agg X.toArray), (7, .agg ((chK c 3).map b8).toArray), (11, .int .i64 (chN c 4 : Int))] = some (rqR (.int .u8 kd) (.int .i64 (chN c 1 : Int)) (.int .i64 (chN c 2 : Int)) (.string (strOf pin)) ((.string ⟨#[]⟩)) (.string ⟨#[97]⟩) (X) ((chK c 3).map b8) (pkR ((.int .i64 0)) (z8 32)) (z8 64) ((.slice none 0 0)) (.int .i64 (chN c 4 : Int)) ((.slice none 0 0))).toArray) := Lib.hid fun X hX => by
    have h := rqR_ch (x0 := .int .u8 kd) rfl (x1 := .int .i64 (chN c 1 : Int)) rfl (x2 := .int .i64 (chN c 2 : Int)) rfl (x3 := .string (strOf pin)) rfl (x5 := .string ⟨#[97]⟩) rfl hX (x7 := (chK c 3).map b8) (by rw [List.length_map]; exact qap _ _) (x11 := .int .i64 (chN c 4 : Int)) rfl
    unfold pkR z8
    exact h
  go_enter Tryz.func11, Tryz.ntmps11
  go_upto_region 0 with fail; refine wp_region_lit ?_
  refine qaa (qa3 (vs := rqR ((.int .u8 0)) ((.int .i64 0)) ((.int .i64 0)) ((.string ⟨#[]⟩)) ((.string ⟨#[]⟩)) ((.string ⟨#[]⟩)) (lsR ((.int .i64 0)) ((.int .i64 0)) (z8 32) ((.slice none 0 0)) (z8 64)) (z8 32) (pkR ((.int .i64 0)) (z8 32)) (z8 64) ((.slice none 0 0)) ((.int .i64 0)) ((.slice none 0 0))) rfl (by kernel_rfl)) rfl ?_; (try simp only [Act.put, lyy])
  replace E := Lib.hid (E.out.new (rqR ((.int .u8 0)) ((.int .i64 0)) ((.int .i64 0)) ((.string ⟨#[]⟩)) ((.string ⟨#[]⟩)) ((.string ⟨#[]⟩)) (lsR ((.int .i64 0)) ((.int .i64 0)) (z8 32) ((.slice none 0 0)) (z8 64)) (z8 32) (pkR ((.int .i64 0)) (z8 32)) (z8 64) ((.slice none 0 0)) ((.int .i64 0)) ((.slice none 0 0))) 46)
  generalize w.alloc (.cells (rqR ((.int .u8 0)) ((.int .i64 0)) ((.int .i64 0)) ((.string ⟨#[]⟩)) ((.string ⟨#[]⟩)) ((.string ⟨#[]⟩)) (lsR ((.int .i64 0)) ((.int .i64 0)) (z8 32) ((.slice none 0 0)) (z8 64)) (z8 32) (pkR ((.int .i64 0)) (z8 32)) (z8 64) ((.slice none 0 0)) ((.int .i64 0)) ((.slice none 0 0))).toArray 46) = a1 at *
  generalize w.heap.size = g2 at *
  refine qab ?_
  go_upto_region 1 with fail
  go_cut [3] (fun s3 u => ∃ (g : Nat) (X : List Value), s3 = .pointer (some ⟨g, 0, none⟩) ∧ X.length = 99 ∧ One X ∧ Ev w [(g, rqR (.int .u8 kd) (.int .i64 (chN c 1 : Int)) (.int .i64 (chN c 2 : Int)) (.string (strOf pin)) ((.string ⟨#[]⟩)) (.string ⟨#[97]⟩) (X) ((chK c 3).map b8) (pkR ((.int .i64 0)) (z8 32)) (z8 64) ((.slice none 0 0)) (.int .i64 (chN c 4 : Int)) ((.slice none 0 0))), (g2, rqR ((.int .u8 0)) ((.int .i64 0)) ((.int .i64 0)) ((.string ⟨#[]⟩)) ((.string ⟨#[]⟩)) ((.string ⟨#[]⟩)) (lsR ((.int .i64 0)) ((.int .i64 0)) (z8 32) ((.slice none 0 0)) (z8 64)) (z8 32) (pkR ((.int .i64 0)) (z8 32)) (z8 64) ((.slice none 0 0)) ((.int .i64 0)) ((.slice none 0 0)))] [] (fun V => Sl (.slice ao m cc) c V) (fun V => lsAt LL X V) u)
  case first =>
    refine wp_region_noPanic ?_; refine qbd (S := fun _ V => Below a1.heap.size a1 V) (by kernel_rfl) ((Below.refl _ _).drew) (fun hS => ?_)
    have E0 := E
    replace E := Lib.hid (E.out.below hS)
    generalize a1.drew = a3 at *
    refine qah 0 rfl rfl (by kernel_rfl) (by kernel_rfl) (by kernel_rfl) (fun _ _ _ h => h) rfl (fun V hV => qad (v := .slice ao m cc) rfl rfl) hS ?_; (try simp only [Act.put, lyy])
    refine qah 4 rfl rfl (by kernel_rfl) (by kernel_rfl) (by kernel_rfl) (fun _ _ _ h => h) rfl (fun V hV => qad (v := .slice ao m cc) rfl rfl) hS ?_; (try simp only [Act.put, lyy])
    refine qah 6 rfl rfl (by kernel_rfl) (by kernel_rfl) (by kernel_rfl) (fun _ _ _ h => h) rfl (fun V hV => qad (v := .slice ao m cc) rfl rfl) hS ?_; (try simp only [Act.put, lyy])
    refine qah 8 rfl rfl (by kernel_rfl) (by kernel_rfl) (by kernel_rfl) (fun _ _ _ h => h) rfl (fun V hV => qad (v := .slice ao m cc) rfl rfl) hS ?_; (try simp only [Act.put, lyy])
    refine qah 9 rfl rfl (by kernel_rfl) (by kernel_rfl) (by kernel_rfl) (fun _ _ _ h => h) rfl (fun V hV => qad (v := .slice ao m cc) rfl rfl) hS ?_; (try simp only [Act.put, lyy])
    refine qah 10 rfl rfl (by kernel_rfl) (by kernel_rfl) (by kernel_rfl) (fun _ _ _ h => h) rfl (fun V hV => qa4 rfl Tryz.underlying22 rfl) hS ?_; (try simp only [Act.put, lyy])
    refine qah 11 rfl rfl (by kernel_rfl) (by kernel_rfl) (by kernel_rfl) (fun _ _ _ h => h) rfl (fun V hV => run_min (a := m) (b := 3) _ rfl rfl rfl) hS ?_; (try simp only [Act.put, lyy])
    refine qah 12 rfl rfl (by kernel_rfl) (by kernel_rfl) (by kernel_rfl) (fun _ _ _ h => h) rfl (fun V hV => run_slo rfl Tryz.underlying22 (by kernel_rfl) rfl rfl (Nat.le_trans (Nat.min_le_left _ _) hcc)) hS ?_; (try simp only [Act.put, lyy])
    refine qah 13 rfl rfl (by kernel_rfl) (by kernel_rfl) (by kernel_rfl) (fun _ _ _ h => h) rfl (fun V hV => run_str rfl rfl (HP.out _ ((E0.out.below hV).f))) hS ?_; (try simp only [Act.put, lyy])
    refine qah 14 rfl rfl (by kernel_rfl) (by kernel_rfl) (by kernel_rfl) (fun _ _ _ h => h) rfl (fun V hV => qad (v := .slice ao m cc) rfl rfl) hS ?_; (try simp only [Act.put, lyy])
    refine qah 16 rfl rfl (by kernel_rfl) (by kernel_rfl) (by kernel_rfl) (fun _ _ _ h => h) rfl (fun V hV => qad (v := .slice ao m cc) rfl rfl) hS ?_; (try simp only [Act.put, lyy])
    refine qah 18 rfl rfl (by kernel_rfl) (by kernel_rfl) (by kernel_rfl) (fun _ _ _ h => h) rfl (fun V hV => qad (v := .slice ao m cc) rfl rfl) hS ?_; (try simp only [Act.put, lyy])
    refine qc8 1 21 (by kernel_rfl) ?_ ?_
    · refine wpOp_call 1 rfl rfl rfl (qaf qau rfl rfl rfl rfl) (qbc (CN.out _ 0 E.out.bl)) (fun v4 a5 hR => ?_); (try simp only [Act.put, lyy])
      obtain ⟨rfl, hb9⟩ := hR
      replace hS := hS.trans (hb9.mono hS.size)
      replace E := Lib.hid (E.out.below hb9)
      clear hb9
      refine ⟨hS, ?_⟩
      refine qah 2 rfl rfl (by kernel_rfl) (by kernel_rfl) (by kernel_rfl) (fun _ _ _ h => h) rfl (fun V hV => qb9 (a := chN c 0) (b := 15) rfl rfl rfl (by omega)) hS ?_; (try simp only [Act.put, lyy])
      refine qah 3 rfl rfl (by kernel_rfl) (by kernel_rfl) (by kernel_rfl) (fun _ _ _ h => h) rfl (fun V hV => run_cvu8R rfl (by rw [← HKK.out]; rfl) hkd.1 hkd.2) hS ?_; (try simp only [Act.put, lyy])
      refine qc8 5 21 (by kernel_rfl) ?_ ?_
      · refine wpOp_call 5 rfl rfl rfl (qaf qau rfl rfl rfl rfl) (qbc (CN.out _ 1 E.out.bl)) (fun v6 a7 hR => ?_); (try simp only [Act.put, lyy])
        obtain ⟨rfl, hb9⟩ := hR
        replace hS := hS.trans (hb9.mono hS.size)
        replace E := Lib.hid (E.out.below hb9)
        clear hb9
        refine ⟨hS, ?_⟩
        refine qc8 7 21 (by kernel_rfl) ?_ ?_
        · refine wpOp_call 7 rfl rfl rfl (qaf qau rfl rfl rfl rfl) (qbc (CN.out _ 2 E.out.bl)) (fun v8 a9 hR => ?_); (try simp only [Act.put, lyy])
          obtain ⟨rfl, hb9⟩ := hR
          replace hS := hS.trans (hb9.mono hS.size)
          replace E := Lib.hid (E.out.below hb9)
          clear hb9
          refine ⟨hS, ?_⟩
          refine qc8 15 21 (by kernel_rfl) ?_ ?_
          · refine wpOp_call 15 rfl rfl rfl (qaq qcs rfl rfl rfl) (CL.out _ E.out.bl) (fun v10 a11 hR => ?_); (try simp only [Act.put, lyy])
            obtain ⟨⟨X, rfl, lX, oX, fX⟩, hb9⟩ := hR
            replace hS := hS.trans (hb9.mono hS.size)
            replace E := Lib.hid (E.out.call hb9 fX)
            clear hb9 fX
            refine ⟨hS, ?_⟩
            refine qc8 17 21 (by kernel_rfl) ?_ ?_
            · refine wpOp_call 17 rfl rfl rfl (qaf qbx rfl rfl rfl rfl) (qbc (CK.out _ 3 E.out.bl)) (fun v12 a13 hR => ?_); (try simp only [Act.put, lyy])
              obtain ⟨rfl, hb9⟩ := hR
              replace hS := hS.trans (hb9.mono hS.size)
              replace E := Lib.hid (E.out.below hb9)
              clear hb9
              refine ⟨hS, ?_⟩
              refine qc8 19 21 (by kernel_rfl) ?_ ?_
              · refine wpOp_call 19 rfl rfl rfl (qaf qau rfl rfl rfl rfl) (qbc (CN.out _ 4 E.out.bl)) (fun v14 a15 hR => ?_); (try simp only [Act.put, lyy])
                obtain ⟨rfl, hb9⟩ := hR
                replace hS := hS.trans (hb9.mono hS.size)
                replace E := Lib.hid (E.out.below hb9)
                clear hb9
                refine ⟨hS, ?_⟩
                refine qah 20 rfl rfl (by kernel_rfl) (by kernel_rfl) (by kernel_rfl) (fun _ _ _ h => h) rfl (fun V hV => qa7 (ps := [(0, .int .u8 kd), (1, .int .i64 (chN c 1 : Int)), (2, .int .i64 (chN c 2 : Int)), (3, .string (strOf pin)), (5, .string ⟨#[97]⟩), (6, .agg X.toArray), (7, .agg ((chK c 3).map b8).toArray), (11, .int .i64 (chN c 4 : Int))]) rfl rfl (EB.out X lX)) hS ?_; (try simp only [Act.put, lyy])
                refine wpAnyL_val 21 (by kernel_rfl) rfl rfl rfl (qa3 (vs := rqR ((.int .u8 0)) ((.int .i64 0)) ((.int .i64 0)) ((.string ⟨#[]⟩)) ((.string ⟨#[]⟩)) ((.string ⟨#[]⟩)) (lsR ((.int .i64 0)) ((.int .i64 0)) (z8 32) ((.slice none 0 0)) (z8 64)) (z8 32) (pkR ((.int .i64 0)) (z8 32)) (z8 64) ((.slice none 0 0)) ((.int .i64 0)) ((.slice none 0 0))) rfl (by kernel_rfl)) (hS.alloc hS.size _) ?_; (try simp only [Act.put, lyy])
                have hg := hS.size
                replace hS := hS.alloc hg (.cells (rqR ((.int .u8 0)) ((.int .i64 0)) ((.int .i64 0)) ((.string ⟨#[]⟩)) ((.string ⟨#[]⟩)) ((.string ⟨#[]⟩)) (lsR ((.int .i64 0)) ((.int .i64 0)) (z8 32) ((.slice none 0 0)) (z8 64)) (z8 32) (pkR ((.int .i64 0)) (z8 32)) (z8 64) ((.slice none 0 0)) ((.int .i64 0)) ((.slice none 0 0))).toArray 46)
                replace E := Lib.hid (E.out.new (rqR ((.int .u8 0)) ((.int .i64 0)) ((.int .i64 0)) ((.string ⟨#[]⟩)) ((.string ⟨#[]⟩)) ((.string ⟨#[]⟩)) (lsR ((.int .i64 0)) ((.int .i64 0)) (z8 32) ((.slice none 0 0)) (z8 64)) (z8 32) (pkR ((.int .i64 0)) (z8 32)) (z8 64) ((.slice none 0 0)) ((.int .i64 0)) ((.slice none 0 0))) 46)
                generalize a15.alloc (.cells (rqR ((.int .u8 0)) ((.int .i64 0)) ((.int .i64 0)) ((.string ⟨#[]⟩)) ((.string ⟨#[]⟩)) ((.string ⟨#[]⟩)) (lsR ((.int .i64 0)) ((.int .i64 0)) (z8 32) ((.slice none 0 0)) (z8 64)) (z8 32) (pkR ((.int .i64 0)) (z8 32)) (z8 64) ((.slice none 0 0)) ((.int .i64 0)) ((.slice none 0 0))).toArray 46) = a16 at *
                generalize a15.heap.size = g17 at *
                refine qb1 22 (by kernel_rfl) rfl rfl rfl (qa0 (vs := rqR (.int .u8 kd) (.int .i64 (chN c 1 : Int)) (.int .i64 (chN c 2 : Int)) (.string (strOf pin)) ((.string ⟨#[]⟩)) (.string ⟨#[97]⟩) (X) ((chK c 3).map b8) (pkR ((.int .i64 0)) (z8 32)) (z8 64) ((.slice none 0 0)) (.int .i64 (chN c 4 : Int)) ((.slice none 0 0))) rfl (szR (qa1 lX (by rw [List.length_map]; exact qap _ _) (qar (qac 32)) (qac 64)) (by kernel_rfl)) rfl rfl (One.all (qc6 rfl rfl rfl rfl rfl rfl oX (One.b8 _) (qb8 rfl (One.b8 _)) (One.b8 _) rfl rfl rfl)) ((E.out.get (i := 0) rfl).thereM (by have q1 : (rqR (.int .u8 kd) (.int .i64 (chN c 1 : Int)) (.int .i64 (chN c 2 : Int)) (.string (strOf pin)) ((.string ⟨#[]⟩)) (.string ⟨#[97]⟩) (X) ((chK c 3).map b8) (pkR ((.int .i64 0)) (z8 32)) (z8 64) ((.slice none 0 0)) (.int .i64 (chN c 4 : Int)) ((.slice none 0 0))).length = 237 := (qa1 lX (by rw [List.length_map]; exact qap _ _) (qar (qac 32)) (qac 64)); have q2 : (rqR ((.int .u8 0)) ((.int .i64 0)) ((.int .i64 0)) ((.string ⟨#[]⟩)) ((.string ⟨#[]⟩)) ((.string ⟨#[]⟩)) (lsR ((.int .i64 0)) ((.int .i64 0)) (z8 32) ((.slice none 0 0)) (z8 64)) (z8 32) (pkR ((.int .i64 0)) (z8 32)) (z8 64) ((.slice none 0 0)) ((.int .i64 0)) ((.slice none 0 0))).length = 237 := (qa1 (qas (qac 32) (qac 64)) (qac 32) (qar (qac 32)) (qac 64)); omega))) (qbe hg _ _ hS) ?_
                refine qba (by kernel_rfl) ?_ _; refine NoPanic.normal ?_
                replace E := Lib.hid (E.out.put 0 rfl (m := rqR (.int .u8 kd) (.int .i64 (chN c 1 : Int)) (.int .i64 (chN c 2 : Int)) (.string (strOf pin)) ((.string ⟨#[]⟩)) (.string ⟨#[97]⟩) (X) ((chK c 3).map b8) (pkR ((.int .i64 0)) (z8 32)) (z8 64) ((.slice none 0 0)) (.int .i64 (chN c 4 : Int)) ((.slice none 0 0))) ((show (rqR (.int .u8 kd) (.int .i64 (chN c 1 : Int)) (.int .i64 (chN c 2 : Int)) (.string (strOf pin)) ((.string ⟨#[]⟩)) (.string ⟨#[97]⟩) (X) ((chK c 3).map b8) (pkR ((.int .i64 0)) (z8 32)) (z8 64) ((.slice none 0 0)) (.int .i64 (chN c 4 : Int)) ((.slice none 0 0))).length = 237 from (qa1 lX (by rw [List.length_map]; exact qap _ _) (qar (qac 32)) (qac 64))).trans (show (rqR ((.int .u8 0)) ((.int .i64 0)) ((.int .i64 0)) ((.string ⟨#[]⟩)) ((.string ⟨#[]⟩)) ((.string ⟨#[]⟩)) (lsR ((.int .i64 0)) ((.int .i64 0)) (z8 32) ((.slice none 0 0)) (z8 64)) (z8 32) (pkR ((.int .i64 0)) (z8 32)) (z8 64) ((.slice none 0 0)) ((.int .i64 0)) ((.slice none 0 0))).length = 237 from (qa1 (qas (qac 32) (qac 64)) (qac 32) (qar (qac 32)) (qac 64))).symm))
                generalize a16.setCells g17 0 (rqR (.int .u8 kd) (.int .i64 (chN c 1 : Int)) (.int .i64 (chN c 2 : Int)) (.string (strOf pin)) ((.string ⟨#[]⟩)) (.string ⟨#[97]⟩) (X) ((chK c 3).map b8) (pkR ((.int .i64 0)) (z8 32)) (z8 64) ((.slice none 0 0)) (.int .i64 (chN c 4 : Int)) ((.slice none 0 0))) = b1 at *
                replace E := Lib.hid (show Ev _ [(g17, rqR (.int .u8 kd) (.int .i64 (chN c 1 : Int)) (.int .i64 (chN c 2 : Int)) (.string (strOf pin)) ((.string ⟨#[]⟩)) (.string ⟨#[97]⟩) (X) ((chK c 3).map b8) (pkR ((.int .i64 0)) (z8 32)) (z8 64) ((.slice none 0 0)) (.int .i64 (chN c 4 : Int)) ((.slice none 0 0))), (g2, rqR ((.int .u8 0)) ((.int .i64 0)) ((.int .i64 0)) ((.string ⟨#[]⟩)) ((.string ⟨#[]⟩)) ((.string ⟨#[]⟩)) (lsR ((.int .i64 0)) ((.int .i64 0)) (z8 32) ((.slice none 0 0)) (z8 64)) (z8 32) (pkR ((.int .i64 0)) (z8 32)) (z8 64) ((.slice none 0 0)) ((.int .i64 0)) ((.slice none 0 0)))] _ _ _ b1 from E.out)
                go_wp2_with fail
                go_meet
                exact ⟨g17, X, rfl, lX, oX, E.out.knowH fun _ h => h.1⟩
              · refine wpOp_val 21 rfl rfl rfl (qa3 (vs := rqR ((.int .u8 0)) ((.int .i64 0)) ((.int .i64 0)) ((.string ⟨#[]⟩)) ((.string ⟨#[]⟩)) ((.string ⟨#[]⟩)) (lsR ((.int .i64 0)) ((.int .i64 0)) (z8 32) ((.slice none 0 0)) (z8 64)) (z8 32) (pkR ((.int .i64 0)) (z8 32)) (z8 64) ((.slice none 0 0)) ((.int .i64 0)) ((.slice none 0 0))) rfl (by kernel_rfl)) ?_; (try simp only [Act.put, lyy])
                have hg := hS.size
                replace hS := hS.alloc hg (.cells (rqR ((.int .u8 0)) ((.int .i64 0)) ((.int .i64 0)) ((.string ⟨#[]⟩)) ((.string ⟨#[]⟩)) ((.string ⟨#[]⟩)) (lsR ((.int .i64 0)) ((.int .i64 0)) (z8 32) ((.slice none 0 0)) (z8 64)) (z8 32) (pkR ((.int .i64 0)) (z8 32)) (z8 64) ((.slice none 0 0)) ((.int .i64 0)) ((.slice none 0 0))).toArray 46)
                replace E := Lib.hid (E.out.new (rqR ((.int .u8 0)) ((.int .i64 0)) ((.int .i64 0)) ((.string ⟨#[]⟩)) ((.string ⟨#[]⟩)) ((.string ⟨#[]⟩)) (lsR ((.int .i64 0)) ((.int .i64 0)) (z8 32) ((.slice none 0 0)) (z8 64)) (z8 32) (pkR ((.int .i64 0)) (z8 32)) (z8 64) ((.slice none 0 0)) ((.int .i64 0)) ((.slice none 0 0))) 46)
                generalize a13.alloc (.cells (rqR ((.int .u8 0)) ((.int .i64 0)) ((.int .i64 0)) ((.string ⟨#[]⟩)) ((.string ⟨#[]⟩)) ((.string ⟨#[]⟩)) (lsR ((.int .i64 0)) ((.int .i64 0)) (z8 32) ((.slice none 0 0)) (z8 64)) (z8 32) (pkR ((.int .i64 0)) (z8 32)) (z8 64) ((.slice none 0 0)) ((.int .i64 0)) ((.slice none 0 0))).toArray 46) = a14 at *
                generalize a13.heap.size = g15 at *
                refine ⟨hS, ?_⟩
                refine qa2 19 (by kernel_rfl) rfl rfl rfl (qaf qau rfl rfl rfl rfl) (qbc (CN.out _ 4 E.out.bl)) (fun v w h => hS.trans ((h.2).mono hS.size)) (fun v16 a17 hR => ?_); (try simp only [Act.put, lyy])
                obtain ⟨rfl, hb9⟩ := hR
                replace hS := hS.trans (hb9.mono hS.size)
                replace E := Lib.hid (E.out.below hb9)
                clear hb9
                refine qah 20 rfl rfl (by kernel_rfl) (by kernel_rfl) (by kernel_rfl) (fun _ _ _ h => h) rfl (fun V hV => qa7 (ps := [(0, .int .u8 kd), (1, .int .i64 (chN c 1 : Int)), (2, .int .i64 (chN c 2 : Int)), (3, .string (strOf pin)), (5, .string ⟨#[97]⟩), (6, .agg X.toArray), (7, .agg ((chK c 3).map b8).toArray), (11, .int .i64 (chN c 4 : Int))]) rfl rfl (EB.out X lX)) hS ?_; (try simp only [Act.put, lyy])
                refine qb1 22 (by kernel_rfl) rfl rfl rfl (qa0 (vs := rqR (.int .u8 kd) (.int .i64 (chN c 1 : Int)) (.int .i64 (chN c 2 : Int)) (.string (strOf pin)) ((.string ⟨#[]⟩)) (.string ⟨#[97]⟩) (X) ((chK c 3).map b8) (pkR ((.int .i64 0)) (z8 32)) (z8 64) ((.slice none 0 0)) (.int .i64 (chN c 4 : Int)) ((.slice none 0 0))) rfl (szR (qa1 lX (by rw [List.length_map]; exact qap _ _) (qar (qac 32)) (qac 64)) (by kernel_rfl)) rfl rfl (One.all (qc6 rfl rfl rfl rfl rfl rfl oX (One.b8 _) (qb8 rfl (One.b8 _)) (One.b8 _) rfl rfl rfl)) ((E.out.get (i := 0) rfl).thereM (by have q1 : (rqR (.int .u8 kd) (.int .i64 (chN c 1 : Int)) (.int .i64 (chN c 2 : Int)) (.string (strOf pin)) ((.string ⟨#[]⟩)) (.string ⟨#[97]⟩) (X) ((chK c 3).map b8) (pkR ((.int .i64 0)) (z8 32)) (z8 64) ((.slice none 0 0)) (.int .i64 (chN c 4 : Int)) ((.slice none 0 0))).length = 237 := (qa1 lX (by rw [List.length_map]; exact qap _ _) (qar (qac 32)) (qac 64)); have q2 : (rqR ((.int .u8 0)) ((.int .i64 0)) ((.int .i64 0)) ((.string ⟨#[]⟩)) ((.string ⟨#[]⟩)) ((.string ⟨#[]⟩)) (lsR ((.int .i64 0)) ((.int .i64 0)) (z8 32) ((.slice none 0 0)) (z8 64)) (z8 32) (pkR ((.int .i64 0)) (z8 32)) (z8 64) ((.slice none 0 0)) ((.int .i64 0)) ((.slice none 0 0))).length = 237 := (qa1 (qas (qac 32) (qac 64)) (qac 32) (qar (qac 32)) (qac 64)); omega))) (qbe hg _ _ hS) ?_
                refine qba (by kernel_rfl) ?_ _; refine NoPanic.normal ?_
                replace E := Lib.hid (E.out.put 0 rfl (m := rqR (.int .u8 kd) (.int .i64 (chN c 1 : Int)) (.int .i64 (chN c 2 : Int)) (.string (strOf pin)) ((.string ⟨#[]⟩)) (.string ⟨#[97]⟩) (X) ((chK c 3).map b8) (pkR ((.int .i64 0)) (z8 32)) (z8 64) ((.slice none 0 0)) (.int .i64 (chN c 4 : Int)) ((.slice none 0 0))) ((show (rqR (.int .u8 kd) (.int .i64 (chN c 1 : Int)) (.int .i64 (chN c 2 : Int)) (.string (strOf pin)) ((.string ⟨#[]⟩)) (.string ⟨#[97]⟩) (X) ((chK c 3).map b8) (pkR ((.int .i64 0)) (z8 32)) (z8 64) ((.slice none 0 0)) (.int .i64 (chN c 4 : Int)) ((.slice none 0 0))).length = 237 from (qa1 lX (by rw [List.length_map]; exact qap _ _) (qar (qac 32)) (qac 64))).trans (show (rqR ((.int .u8 0)) ((.int .i64 0)) ((.int .i64 0)) ((.string ⟨#[]⟩)) ((.string ⟨#[]⟩)) ((.string ⟨#[]⟩)) (lsR ((.int .i64 0)) ((.int .i64 0)) (z8 32) ((.slice none 0 0)) (z8 64)) (z8 32) (pkR ((.int .i64 0)) (z8 32)) (z8 64) ((.slice none 0 0)) ((.int .i64 0)) ((.slice none 0 0))).length = 237 from (qa1 (qas (qac 32) (qac 64)) (qac 32) (qar (qac 32)) (qac 64))).symm))
                generalize a17.setCells g15 0 (rqR (.int .u8 kd) (.int .i64 (chN c 1 : Int)) (.int .i64 (chN c 2 : Int)) (.string (strOf pin)) ((.string ⟨#[]⟩)) (.string ⟨#[97]⟩) (X) ((chK c 3).map b8) (pkR ((.int .i64 0)) (z8 32)) (z8 64) ((.slice none 0 0)) (.int .i64 (chN c 4 : Int)) ((.slice none 0 0))) = b1 at *
                replace E := Lib.hid (show Ev _ [(g15, rqR (.int .u8 kd) (.int .i64 (chN c 1 : Int)) (.int .i64 (chN c 2 : Int)) (.string (strOf pin)) ((.string ⟨#[]⟩)) (.string ⟨#[97]⟩) (X) ((chK c 3).map b8) (pkR ((.int .i64 0)) (z8 32)) (z8 64) ((.slice none 0 0)) (.int .i64 (chN c 4 : Int)) ((.slice none 0 0))), (g2, rqR ((.int .u8 0)) ((.int .i64 0)) ((.int .i64 0)) ((.string ⟨#[]⟩)) ((.string ⟨#[]⟩)) ((.string ⟨#[]⟩)) (lsR ((.int .i64 0)) ((.int .i64 0)) (z8 32) ((.slice none 0 0)) (z8 64)) (z8 32) (pkR ((.int .i64 0)) (z8 32)) (z8 64) ((.slice none 0 0)) ((.int .i64 0)) ((.slice none 0 0)))] _ _ _ b1 from E.out)
                go_wp2_with fail
                go_meet
                exact ⟨g15, X, rfl, lX, oX, E.out.knowH fun _ h => h.1⟩
            · refine wpOp_val 21 rfl rfl rfl (qa3 (vs := rqR ((.int .u8 0)) ((.int .i64 0)) ((.int .i64 0)) ((.string ⟨#[]⟩)) ((.string ⟨#[]⟩)) ((.string ⟨#[]⟩)) (lsR ((.int .i64 0)) ((.int .i64 0)) (z8 32) ((.slice none 0 0)) (z8 64)) (z8 32) (pkR ((.int .i64 0)) (z8 32)) (z8 64) ((.slice none 0 0)) ((.int .i64 0)) ((.slice none 0 0))) rfl (by kernel_rfl)) ?_; (try simp only [Act.put, lyy])
              have hg := hS.size
              replace hS := hS.alloc hg (.cells (rqR ((.int .u8 0)) ((.int .i64 0)) ((.int .i64 0)) ((.string ⟨#[]⟩)) ((.string ⟨#[]⟩)) ((.string ⟨#[]⟩)) (lsR ((.int .i64 0)) ((.int .i64 0)) (z8 32) ((.slice none 0 0)) (z8 64)) (z8 32) (pkR ((.int .i64 0)) (z8 32)) (z8 64) ((.slice none 0 0)) ((.int .i64 0)) ((.slice none 0 0))).toArray 46)
              replace E := Lib.hid (E.out.new (rqR ((.int .u8 0)) ((.int .i64 0)) ((.int .i64 0)) ((.string ⟨#[]⟩)) ((.string ⟨#[]⟩)) ((.string ⟨#[]⟩)) (lsR ((.int .i64 0)) ((.int .i64 0)) (z8 32) ((.slice none 0 0)) (z8 64)) (z8 32) (pkR ((.int .i64 0)) (z8 32)) (z8 64) ((.slice none 0 0)) ((.int .i64 0)) ((.slice none 0 0))) 46)
              generalize a11.alloc (.cells (rqR ((.int .u8 0)) ((.int .i64 0)) ((.int .i64 0)) ((.string ⟨#[]⟩)) ((.string ⟨#[]⟩)) ((.string ⟨#[]⟩)) (lsR ((.int .i64 0)) ((.int .i64 0)) (z8 32) ((.slice none 0 0)) (z8 64)) (z8 32) (pkR ((.int .i64 0)) (z8 32)) (z8 64) ((.slice none 0 0)) ((.int .i64 0)) ((.slice none 0 0))).toArray 46) = a12 at *
              generalize a11.heap.size = g13 at *
              refine ⟨hS, ?_⟩
              refine qa2 17 (by kernel_rfl) rfl rfl rfl (qaf qbx rfl rfl rfl rfl) (qbc (CK.out _ 3 E.out.bl)) (fun v w h => hS.trans ((h.2).mono hS.size)) (fun v14 a15 hR => ?_); (try simp only [Act.put, lyy])
              obtain ⟨rfl, hb9⟩ := hR
              replace hS := hS.trans (hb9.mono hS.size)
              replace E := Lib.hid (E.out.below hb9)
              clear hb9
              refine qa2 19 (by kernel_rfl) rfl rfl rfl (qaf qau rfl rfl rfl rfl) (qbc (CN.out _ 4 E.out.bl)) (fun v w h => hS.trans ((h.2).mono hS.size)) (fun v16 a17 hR => ?_); (try simp only [Act.put, lyy])
              obtain ⟨rfl, hb9⟩ := hR
              replace hS := hS.trans (hb9.mono hS.size)
              replace E := Lib.hid (E.out.below hb9)
              clear hb9
              refine qah 20 rfl rfl (by kernel_rfl) (by kernel_rfl) (by kernel_rfl) (fun _ _ _ h => h) rfl (fun V hV => qa7 (ps := [(0, .int .u8 kd), (1, .int .i64 (chN c 1 : Int)), (2, .int .i64 (chN c 2 : Int)), (3, .string (strOf pin)), (5, .string ⟨#[97]⟩), (6, .agg X.toArray), (7, .agg ((chK c 3).map b8).toArray), (11, .int .i64 (chN c 4 : Int))]) rfl rfl (EB.out X lX)) hS ?_; (try simp only [Act.put, lyy])
              refine qb1 22 (by kernel_rfl) rfl rfl rfl (qa0 (vs := rqR (.int .u8 kd) (.int .i64 (chN c 1 : Int)) (.int .i64 (chN c 2 : Int)) (.string (strOf pin)) ((.string ⟨#[]⟩)) (.string ⟨#[97]⟩) (X) ((chK c 3).map b8) (pkR ((.int .i64 0)) (z8 32)) (z8 64) ((.slice none 0 0)) (.int .i64 (chN c 4 : Int)) ((.slice none 0 0))) rfl (szR (qa1 lX (by rw [List.length_map]; exact qap _ _) (qar (qac 32)) (qac 64)) (by kernel_rfl)) rfl rfl (One.all (qc6 rfl rfl rfl rfl rfl rfl oX (One.b8 _) (qb8 rfl (One.b8 _)) (One.b8 _) rfl rfl rfl)) ((E.out.get (i := 0) rfl).thereM (by have q1 : (rqR (.int .u8 kd) (.int .i64 (chN c 1 : Int)) (.int .i64 (chN c 2 : Int)) (.string (strOf pin)) ((.string ⟨#[]⟩)) (.string ⟨#[97]⟩) (X) ((chK c 3).map b8) (pkR ((.int .i64 0)) (z8 32)) (z8 64) ((.slice none 0 0)) (.int .i64 (chN c 4 : Int)) ((.slice none 0 0))).length = 237 := (qa1 lX (by rw [List.length_map]; exact qap _ _) (qar (qac 32)) (qac 64)); have q2 : (rqR ((.int .u8 0)) ((.int .i64 0)) ((.int .i64 0)) ((.string ⟨#[]⟩)) ((.string ⟨#[]⟩)) ((.string ⟨#[]⟩)) (lsR ((.int .i64 0)) ((.int .i64 0)) (z8 32) ((.slice none 0 0)) (z8 64)) (z8 32) (pkR ((.int .i64 0)) (z8 32)) (z8 64) ((.slice none 0 0)) ((.int .i64 0)) ((.slice none 0 0))).length = 237 := (qa1 (qas (qac 32) (qac 64)) (qac 32) (qar (qac 32)) (qac 64)); omega))) (qbe hg _ _ hS) ?_
              refine qba (by kernel_rfl) ?_ _; refine NoPanic.normal ?_
              replace E := Lib.hid (E.out.put 0 rfl (m := rqR (.int .u8 kd) (.int .i64 (chN c 1 : Int)) (.int .i64 (chN c 2 : Int)) (.string (strOf pin)) ((.string ⟨#[]⟩)) (.string ⟨#[97]⟩) (X) ((chK c 3).map b8) (pkR ((.int .i64 0)) (z8 32)) (z8 64) ((.slice none 0 0)) (.int .i64 (chN c 4 : Int)) ((.slice none 0 0))) ((show (rqR (.int .u8 kd) (.int .i64 (chN c 1 : Int)) (.int .i64 (chN c 2 : Int)) (.string (strOf pin)) ((.string ⟨#[]⟩)) (.string ⟨#[97]⟩) (X) ((chK c 3).map b8) (pkR ((.int .i64 0)) (z8 32)) (z8 64) ((.slice none 0 0)) (.int .i64 (chN c 4 : Int)) ((.slice none 0 0))).length = 237 from (qa1 lX (by rw [List.length_map]; exact qap _ _) (qar (qac 32)) (qac 64))).trans (show (rqR ((.int .u8 0)) ((.int .i64 0)) ((.int .i64 0)) ((.string ⟨#[]⟩)) ((.string ⟨#[]⟩)) ((.string ⟨#[]⟩)) (lsR ((.int .i64 0)) ((.int .i64 0)) (z8 32) ((.slice none 0 0)) (z8 64)) (z8 32) (pkR ((.int .i64 0)) (z8 32)) (z8 64) ((.slice none 0 0)) ((.int .i64 0)) ((.slice none 0 0))).length = 237 from (qa1 (qas (qac 32) (qac 64)) (qac 32) (qar (qac 32)) (qac 64))).symm))
              generalize a17.setCells g13 0 (rqR (.int .u8 kd) (.int .i64 (chN c 1 : Int)) (.int .i64 (chN c 2 : Int)) (.string (strOf pin)) ((.string ⟨#[]⟩)) (.string ⟨#[97]⟩) (X) ((chK c 3).map b8) (pkR ((.int .i64 0)) (z8 32)) (z8 64) ((.slice none 0 0)) (.int .i64 (chN c 4 : Int)) ((.slice none 0 0))) = b1 at *
              replace E := Lib.hid (show Ev _ [(g13, rqR (.int .u8 kd) (.int .i64 (chN c 1 : Int)) (.int .i64 (chN c 2 : Int)) (.string (strOf pin)) ((.string ⟨#[]⟩)) (.string ⟨#[97]⟩) (X) ((chK c 3).map b8) (pkR ((.int .i64 0)) (z8 32)) (z8 64) ((.slice none 0 0)) (.int .i64 (chN c 4 : Int)) ((.slice none 0 0))), (g2, rqR ((.int .u8 0)) ((.int .i64 0)) ((.int .i64 0)) ((.string ⟨#[]⟩)) ((.string ⟨#[]⟩)) ((.string ⟨#[]⟩)) (lsR ((.int .i64 0)) ((.int .i64 0)) (z8 32) ((.slice none 0 0)) (z8 64)) (z8 32) (pkR ((.int .i64 0)) (z8 32)) (z8 64) ((.slice none 0 0)) ((.int .i64 0)) ((.slice none 0 0)))] _ _ _ b1 from E.out)
              go_wp2_with fail
              go_meet
              exact ⟨g13, X, rfl, lX, oX, E.out.knowH fun _ h => h.1⟩
          · refine wpOp_val 21 rfl rfl rfl (qa3 (vs := rqR ((.int .u8 0)) ((.int .i64 0)) ((.int .i64 0)) ((.string ⟨#[]⟩)) ((.string ⟨#[]⟩)) ((.string ⟨#[]⟩)) (lsR ((.int .i64 0)) ((.int .i64 0)) (z8 32) ((.slice none 0 0)) (z8 64)) (z8 32) (pkR ((.int .i64 0)) (z8 32)) (z8 64) ((.slice none 0 0)) ((.int .i64 0)) ((.slice none 0 0))) rfl (by kernel_rfl)) ?_; (try simp only [Act.put, lyy])
            have hg := hS.size
            replace hS := hS.alloc hg (.cells (rqR ((.int .u8 0)) ((.int .i64 0)) ((.int .i64 0)) ((.string ⟨#[]⟩)) ((.string ⟨#[]⟩)) ((.string ⟨#[]⟩)) (lsR ((.int .i64 0)) ((.int .i64 0)) (z8 32) ((.slice none 0 0)) (z8 64)) (z8 32) (pkR ((.int .i64 0)) (z8 32)) (z8 64) ((.slice none 0 0)) ((.int .i64 0)) ((.slice none 0 0))).toArray 46)
            replace E := Lib.hid (E.out.new (rqR ((.int .u8 0)) ((.int .i64 0)) ((.int .i64 0)) ((.string ⟨#[]⟩)) ((.string ⟨#[]⟩)) ((.string ⟨#[]⟩)) (lsR ((.int .i64 0)) ((.int .i64 0)) (z8 32) ((.slice none 0 0)) (z8 64)) (z8 32) (pkR ((.int .i64 0)) (z8 32)) (z8 64) ((.slice none 0 0)) ((.int .i64 0)) ((.slice none 0 0))) 46)
            generalize a9.alloc (.cells (rqR ((.int .u8 0)) ((.int .i64 0)) ((.int .i64 0)) ((.string ⟨#[]⟩)) ((.string ⟨#[]⟩)) ((.string ⟨#[]⟩)) (lsR ((.int .i64 0)) ((.int .i64 0)) (z8 32) ((.slice none 0 0)) (z8 64)) (z8 32) (pkR ((.int .i64 0)) (z8 32)) (z8 64) ((.slice none 0 0)) ((.int .i64 0)) ((.slice none 0 0))).toArray 46) = a10 at *
            generalize a9.heap.size = g11 at *
            refine ⟨hS, ?_⟩
            refine qa2 15 (by kernel_rfl) rfl rfl rfl (qaq qcs rfl rfl rfl) (CL.out _ E.out.bl) (fun v w h => hS.trans ((h.2).mono hS.size)) (fun v12 a13 hR => ?_); (try simp only [Act.put, lyy])
            obtain ⟨⟨X, rfl, lX, oX, fX⟩, hb9⟩ := hR
            replace hS := hS.trans (hb9.mono hS.size)
            replace E := Lib.hid (E.out.call hb9 fX)
            clear hb9 fX
            refine qa2 17 (by kernel_rfl) rfl rfl rfl (qaf qbx rfl rfl rfl rfl) (qbc (CK.out _ 3 E.out.bl)) (fun v w h => hS.trans ((h.2).mono hS.size)) (fun v14 a15 hR => ?_); (try simp only [Act.put, lyy])
            obtain ⟨rfl, hb9⟩ := hR
            replace hS := hS.trans (hb9.mono hS.size)
            replace E := Lib.hid (E.out.below hb9)
            clear hb9
            refine qa2 19 (by kernel_rfl) rfl rfl rfl (qaf qau rfl rfl rfl rfl) (qbc (CN.out _ 4 E.out.bl)) (fun v w h => hS.trans ((h.2).mono hS.size)) (fun v16 a17 hR => ?_); (try simp only [Act.put, lyy])
            obtain ⟨rfl, hb9⟩ := hR
            replace hS := hS.trans (hb9.mono hS.size)
            replace E := Lib.hid (E.out.below hb9)
            clear hb9
            refine qah 20 rfl rfl (by kernel_rfl) (by kernel_rfl) (by kernel_rfl) (fun _ _ _ h => h) rfl (fun V hV => qa7 (ps := [(0, .int .u8 kd), (1, .int .i64 (chN c 1 : Int)), (2, .int .i64 (chN c 2 : Int)), (3, .string (strOf pin)), (5, .string ⟨#[97]⟩), (6, .agg X.toArray), (7, .agg ((chK c 3).map b8).toArray), (11, .int .i64 (chN c 4 : Int))]) rfl rfl (EB.out X lX)) hS ?_; (try simp only [Act.put, lyy])
            refine qb1 22 (by kernel_rfl) rfl rfl rfl (qa0 (vs := rqR (.int .u8 kd) (.int .i64 (chN c 1 : Int)) (.int .i64 (chN c 2 : Int)) (.string (strOf pin)) ((.string ⟨#[]⟩)) (.string ⟨#[97]⟩) (X) ((chK c 3).map b8) (pkR ((.int .i64 0)) (z8 32)) (z8 64) ((.slice none 0 0)) (.int .i64 (chN c 4 : Int)) ((.slice none 0 0))) rfl (szR (qa1 lX (by rw [List.length_map]; exact qap _ _) (qar (qac 32)) (qac 64)) (by kernel_rfl)) rfl rfl (One.all (qc6 rfl rfl rfl rfl rfl rfl oX (One.b8 _) (qb8 rfl (One.b8 _)) (One.b8 _) rfl rfl rfl)) ((E.out.get (i := 0) rfl).thereM (by have q1 : (rqR (.int .u8 kd) (.int .i64 (chN c 1 : Int)) (.int .i64 (chN c 2 : Int)) (.string (strOf pin)) ((.string ⟨#[]⟩)) (.string ⟨#[97]⟩) (X) ((chK c 3).map b8) (pkR ((.int .i64 0)) (z8 32)) (z8 64) ((.slice none 0 0)) (.int .i64 (chN c 4 : Int)) ((.slice none 0 0))).length = 237 := (qa1 lX (by rw [List.length_map]; exact qap _ _) (qar (qac 32)) (qac 64)); have q2 : (rqR ((.int .u8 0)) ((.int .i64 0)) ((.int .i64 0)) ((.string ⟨#[]⟩)) ((.string ⟨#[]⟩)) ((.string ⟨#[]⟩)) (lsR ((.int .i64 0)) ((.int .i64 0)) (z8 32) ((.slice none 0 0)) (z8 64)) (z8 32) (pkR ((.int .i64 0)) (z8 32)) (z8 64) ((.slice none 0 0)) ((.int .i64 0)) ((.slice none 0 0))).length = 237 := (qa1 (qas (qac 32) (qac 64)) (qac 32) (qar (qac 32)) (qac 64)); omega))) (qbe hg _ _ hS) ?_
            refine qba (by kernel_rfl) ?_ _; refine NoPanic.normal ?_
            replace E := Lib.hid (E.out.put 0 rfl (m := rqR (.int .u8 kd) (.int .i64 (chN c 1 : Int)) (.int .i64 (chN c 2 : Int)) (.string (strOf pin)) ((.string ⟨#[]⟩)) (.string ⟨#[97]⟩) (X) ((chK c 3).map b8) (pkR ((.int .i64 0)) (z8 32)) (z8 64) ((.slice none 0 0)) (.int .i64 (chN c 4 : Int)) ((.slice none 0 0))) ((show (rqR (.int .u8 kd) (.int .i64 (chN c 1 : Int)) (.int .i64 (chN c 2 : Int)) (.string (strOf pin)) ((.string ⟨#[]⟩)) (.string ⟨#[97]⟩) (X) ((chK c 3).map b8) (pkR ((.int .i64 0)) (z8 32)) (z8 64) ((.slice none 0 0)) (.int .i64 (chN c 4 : Int)) ((.slice none 0 0))).length = 237 from (qa1 lX (by rw [List.length_map]; exact qap _ _) (qar (qac 32)) (qac 64))).trans (show (rqR ((.int .u8 0)) ((.int .i64 0)) ((.int .i64 0)) ((.string ⟨#[]⟩)) ((.string ⟨#[]⟩)) ((.string ⟨#[]⟩)) (lsR ((.int .i64 0)) ((.int .i64 0)) (z8 32) ((.slice none 0 0)) (z8 64)) (z8 32) (pkR ((.int .i64 0)) (z8 32)) (z8 64) ((.slice none 0 0)) ((.int .i64 0)) ((.slice none 0 0))).length = 237 from (qa1 (qas (qac 32) (qac 64)) (qac 32) (qar (qac 32)) (qac 64))).symm))
            generalize a17.setCells g11 0 (rqR (.int .u8 kd) (.int .i64 (chN c 1 : Int)) (.int .i64 (chN c 2 : Int)) (.string (strOf pin)) ((.string ⟨#[]⟩)) (.string ⟨#[97]⟩) (X) ((chK c 3).map b8) (pkR ((.int .i64 0)) (z8 32)) (z8 64) ((.slice none 0 0)) (.int .i64 (chN c 4 : Int)) ((.slice none 0 0))) = b1 at *
            replace E := Lib.hid (show Ev _ [(g11, rqR (.int .u8 kd) (.int .i64 (chN c 1 : Int)) (.int .i64 (chN c 2 : Int)) (.string (strOf pin)) ((.string ⟨#[]⟩)) (.string ⟨#[97]⟩) (X) ((chK c 3).map b8) (pkR ((.int .i64 0)) (z8 32)) (z8 64) ((.slice none 0 0)) (.int .i64 (chN c 4 : Int)) ((.slice none 0 0))), (g2, rqR ((.int .u8 0)) ((.int .i64 0)) ((.int .i64 0)) ((.string ⟨#[]⟩)) ((.string ⟨#[]⟩)) ((.string ⟨#[]⟩)) (lsR ((.int .i64 0)) ((.int .i64 0)) (z8 32) ((.slice none 0 0)) (z8 64)) (z8 32) (pkR ((.int .i64 0)) (z8 32)) (z8 64) ((.slice none 0 0)) ((.int .i64 0)) ((.slice none 0 0)))] _ _ _ b1 from E.out)
            go_wp2_with fail
            go_meet
            exact ⟨g11, X, rfl, lX, oX, E.out.knowH fun _ h => h.1⟩
        · refine wpOp_val 21 rfl rfl rfl (qa3 (vs := rqR ((.int .u8 0)) ((.int .i64 0)) ((.int .i64 0)) ((.string ⟨#[]⟩)) ((.string ⟨#[]⟩)) ((.string ⟨#[]⟩)) (lsR ((.int .i64 0)) ((.int .i64 0)) (z8 32) ((.slice none 0 0)) (z8 64)) (z8 32) (pkR ((.int .i64 0)) (z8 32)) (z8 64) ((.slice none 0 0)) ((.int .i64 0)) ((.slice none 0 0))) rfl (by kernel_rfl)) ?_; (try simp only [Act.put, lyy])
          have hg := hS.size
          replace hS := hS.alloc hg (.cells (rqR ((.int .u8 0)) ((.int .i64 0)) ((.int .i64 0)) ((.string ⟨#[]⟩)) ((.string ⟨#[]⟩)) ((.string ⟨#[]⟩)) (lsR ((.int .i64 0)) ((.int .i64 0)) (z8 32) ((.slice none 0 0)) (z8 64)) (z8 32) (pkR ((.int .i64 0)) (z8 32)) (z8 64) ((.slice none 0 0)) ((.int .i64 0)) ((.slice none 0 0))).toArray 46)
          replace E := Lib.hid (E.out.new (rqR ((.int .u8 0)) ((.int .i64 0)) ((.int .i64 0)) ((.string ⟨#[]⟩)) ((.string ⟨#[]⟩)) ((.string ⟨#[]⟩)) (lsR ((.int .i64 0)) ((.int .i64 0)) (z8 32) ((.slice none 0 0)) (z8 64)) (z8 32) (pkR ((.int .i64 0)) (z8 32)) (z8 64) ((.slice none 0 0)) ((.int .i64 0)) ((.slice none 0 0))) 46)
          generalize a7.alloc (.cells (rqR ((.int .u8 0)) ((.int .i64 0)) ((.int .i64 0)) ((.string ⟨#[]⟩)) ((.string ⟨#[]⟩)) ((.string ⟨#[]⟩)) (lsR ((.int .i64 0)) ((.int .i64 0)) (z8 32) ((.slice none 0 0)) (z8 64)) (z8 32) (pkR ((.int .i64 0)) (z8 32)) (z8 64) ((.slice none 0 0)) ((.int .i64 0)) ((.slice none 0 0))).toArray 46) = a8 at *
          generalize a7.heap.size = g9 at *
          refine ⟨hS, ?_⟩
          refine qa2 7 (by kernel_rfl) rfl rfl rfl (qaf qau rfl rfl rfl rfl) (qbc (CN.out _ 2 E.out.bl)) (fun v w h => hS.trans ((h.2).mono hS.size)) (fun v10 a11 hR => ?_); (try simp only [Act.put, lyy])
          obtain ⟨rfl, hb9⟩ := hR
          replace hS := hS.trans (hb9.mono hS.size)
          replace E := Lib.hid (E.out.below hb9)
          clear hb9
          refine qa2 15 (by kernel_rfl) rfl rfl rfl (qaq qcs rfl rfl rfl) (CL.out _ E.out.bl) (fun v w h => hS.trans ((h.2).mono hS.size)) (fun v12 a13 hR => ?_); (try simp only [Act.put, lyy])
          obtain ⟨⟨X, rfl, lX, oX, fX⟩, hb9⟩ := hR
          replace hS := hS.trans (hb9.mono hS.size)
          replace E := Lib.hid (E.out.call hb9 fX)
          clear hb9 fX
          refine qa2 17 (by kernel_rfl) rfl rfl rfl (qaf qbx rfl rfl rfl rfl) (qbc (CK.out _ 3 E.out.bl)) (fun v w h => hS.trans ((h.2).mono hS.size)) (fun v14 a15 hR => ?_); (try simp only [Act.put, lyy])
          obtain ⟨rfl, hb9⟩ := hR
          replace hS := hS.trans (hb9.mono hS.size)
          replace E := Lib.hid (E.out.below hb9)
          clear hb9
          refine qa2 19 (by kernel_rfl) rfl rfl rfl (qaf qau rfl rfl rfl rfl) (qbc (CN.out _ 4 E.out.bl)) (fun v w h => hS.trans ((h.2).mono hS.size)) (fun v16 a17 hR => ?_); (try simp only [Act.put, lyy])
          obtain ⟨rfl, hb9⟩ := hR
          replace hS := hS.trans (hb9.mono hS.size)
          replace E := Lib.hid (E.out.below hb9)
          clear hb9
          refine qah 20 rfl rfl (by kernel_rfl) (by kernel_rfl) (by kernel_rfl) (fun _ _ _ h => h) rfl (fun V hV => qa7 (ps := [(0, .int .u8 kd), (1, .int .i64 (chN c 1 : Int)), (2, .int .i64 (chN c 2 : Int)), (3, .string (strOf pin)), (5, .string ⟨#[97]⟩), (6, .agg X.toArray), (7, .agg ((chK c 3).map b8).toArray), (11, .int .i64 (chN c 4 : Int))]) rfl rfl (EB.out X lX)) hS ?_; (try simp only [Act.put, lyy])
          refine qb1 22 (by kernel_rfl) rfl rfl rfl (qa0 (vs := rqR (.int .u8 kd) (.int .i64 (chN c 1 : Int)) (.int .i64 (chN c 2 : Int)) (.string (strOf pin)) ((.string ⟨#[]⟩)) (.string ⟨#[97]⟩) (X) ((chK c 3).map b8) (pkR ((.int .i64 0)) (z8 32)) (z8 64) ((.slice none 0 0)) (.int .i64 (chN c 4 : Int)) ((.slice none 0 0))) rfl (szR (qa1 lX (by rw [List.length_map]; exact qap _ _) (qar (qac 32)) (qac 64)) (by kernel_rfl)) rfl rfl (One.all (qc6 rfl rfl rfl rfl rfl rfl oX (One.b8 _) (qb8 rfl (One.b8 _)) (One.b8 _) rfl rfl rfl)) ((E.out.get (i := 0) rfl).thereM (by have q1 : (rqR (.int .u8 kd) (.int .i64 (chN c 1 : Int)) (.int .i64 (chN c 2 : Int)) (.string (strOf pin)) ((.string ⟨#[]⟩)) (.string ⟨#[97]⟩) (X) ((chK c 3).map b8) (pkR ((.int .i64 0)) (z8 32)) (z8 64) ((.slice none 0 0)) (.int .i64 (chN c 4 : Int)) ((.slice none 0 0))).length = 237 := (qa1 lX (by rw [List.length_map]; exact qap _ _) (qar (qac 32)) (qac 64)); have q2 : (rqR ((.int .u8 0)) ((.int .i64 0)) ((.int .i64 0)) ((.string ⟨#[]⟩)) ((.string ⟨#[]⟩)) ((.string ⟨#[]⟩)) (lsR ((.int .i64 0)) ((.int .i64 0)) (z8 32) ((.slice none 0 0)) (z8 64)) (z8 32) (pkR ((.int .i64 0)) (z8 32)) (z8 64) ((.slice none 0 0)) ((.int .i64 0)) ((.slice none 0 0))).length = 237 := (qa1 (qas (qac 32) (qac 64)) (qac 32) (qar (qac 32)) (qac 64)); omega))) (qbe hg _ _ hS) ?_
          refine qba (by kernel_rfl) ?_ _; refine NoPanic.normal ?_
          replace E := Lib.hid (E.out.put 0 rfl (m := rqR (.int .u8 kd) (.int .i64 (chN c 1 : Int)) (.int .i64 (chN c 2 : Int)) (.string (strOf pin)) ((.string ⟨#[]⟩)) (.string ⟨#[97]⟩) (X) ((chK c 3).map b8) (pkR ((.int .i64 0)) (z8 32)) (z8 64) ((.slice none 0 0)) (.int .i64 (chN c 4 : Int)) ((.slice none 0 0))) ((show (rqR (.int .u8 kd) (.int .i64 (chN c 1 : Int)) (.int .i64 (chN c 2 : Int)) (.string (strOf pin)) ((.string ⟨#[]⟩)) (.string ⟨#[97]⟩) (X) ((chK c 3).map b8) (pkR ((.int .i64 0)) (z8 32)) (z8 64) ((.slice none 0 0)) (.int .i64 (chN c 4 : Int)) ((.slice none 0 0))).length = 237 from (qa1 lX (by rw [List.length_map]; exact qap _ _) (qar (qac 32)) (qac 64))).trans (show (rqR ((.int .u8 0)) ((.int .i64 0)) ((.int .i64 0)) ((.string ⟨#[]⟩)) ((.string ⟨#[]⟩)) ((.string ⟨#[]⟩)) (lsR ((.int .i64 0)) ((.int .i64 0)) (z8 32) ((.slice none 0 0)) (z8 64)) (z8 32) (pkR ((.int .i64 0)) (z8 32)) (z8 64) ((.slice none 0 0)) ((.int .i64 0)) ((.slice none 0 0))).length = 237 from (qa1 (qas (qac 32) (qac 64)) (qac 32) (qar (qac 32)) (qac 64))).symm))
          generalize a17.setCells g9 0 (rqR (.int .u8 kd) (.int .i64 (chN c 1 : Int)) (.int .i64 (chN c 2 : Int)) (.string (strOf pin)) ((.string ⟨#[]⟩)) (.string ⟨#[97]⟩) (X) ((chK c 3).map b8) (pkR ((.int .i64 0)) (z8 32)) (z8 64) ((.slice none 0 0)) (.int .i64 (chN c 4 : Int)) ((.slice none 0 0))) = b1 at *
          replace E := Lib.hid (show Ev _ [(g9, rqR (.int .u8 kd) (.int .i64 (chN c 1 : Int)) (.int .i64 (chN c 2 : Int)) (.string (strOf pin)) ((.string ⟨#[]⟩)) (.string ⟨#[97]⟩) (X) ((chK c 3).map b8) (pkR ((.int .i64 0)) (z8 32)) (z8 64) ((.slice none 0 0)) (.int .i64 (chN c 4 : Int)) ((.slice none 0 0))), (g2, rqR ((.int .u8 0)) ((.int .i64 0)) ((.int .i64 0)) ((.string ⟨#[]⟩)) ((.string ⟨#[]⟩)) ((.string ⟨#[]⟩)) (lsR ((.int .i64 0)) ((.int .i64 0)) (z8 32) ((.slice none 0 0)) (z8 64)) (z8 32) (pkR ((.int .i64 0)) (z8 32)) (z8 64) ((.slice none 0 0)) ((.int .i64 0)) ((.slice none 0 0)))] _ _ _ b1 from E.out)
          go_wp2_with fail
          go_meet
          exact ⟨g9, X, rfl, lX, oX, E.out.knowH fun _ h => h.1⟩
      · refine wpOp_val 21 rfl rfl rfl (qa3 (vs := rqR ((.int .u8 0)) ((.int .i64 0)) ((.int .i64 0)) ((.string ⟨#[]⟩)) ((.string ⟨#[]⟩)) ((.string ⟨#[]⟩)) (lsR ((.int .i64 0)) ((.int .i64 0)) (z8 32) ((.slice none 0 0)) (z8 64)) (z8 32) (pkR ((.int .i64 0)) (z8 32)) (z8 64) ((.slice none 0 0)) ((.int .i64 0)) ((.slice none 0 0))) rfl (by kernel_rfl)) ?_; (try simp only [Act.put, lyy])
        have hg := hS.size
        replace hS := hS.alloc hg (.cells (rqR ((.int .u8 0)) ((.int .i64 0)) ((.int .i64 0)) ((.string ⟨#[]⟩)) ((.string ⟨#[]⟩)) ((.string ⟨#[]⟩)) (lsR ((.int .i64 0)) ((.int .i64 0)) (z8 32) ((.slice none 0 0)) (z8 64)) (z8 32) (pkR ((.int .i64 0)) (z8 32)) (z8 64) ((.slice none 0 0)) ((.int .i64 0)) ((.slice none 0 0))).toArray 46)
        replace E := Lib.hid (E.out.new (rqR ((.int .u8 0)) ((.int .i64 0)) ((.int .i64 0)) ((.string ⟨#[]⟩)) ((.string ⟨#[]⟩)) ((.string ⟨#[]⟩)) (lsR ((.int .i64 0)) ((.int .i64 0)) (z8 32) ((.slice none 0 0)) (z8 64)) (z8 32) (pkR ((.int .i64 0)) (z8 32)) (z8 64) ((.slice none 0 0)) ((.int .i64 0)) ((.slice none 0 0))) 46)
        generalize a5.alloc (.cells (rqR ((.int .u8 0)) ((.int .i64 0)) ((.int .i64 0)) ((.string ⟨#[]⟩)) ((.string ⟨#[]⟩)) ((.string ⟨#[]⟩)) (lsR ((.int .i64 0)) ((.int .i64 0)) (z8 32) ((.slice none 0 0)) (z8 64)) (z8 32) (pkR ((.int .i64 0)) (z8 32)) (z8 64) ((.slice none 0 0)) ((.int .i64 0)) ((.slice none 0 0))).toArray 46) = a6 at *
        generalize a5.heap.size = g7 at *
        refine ⟨hS, ?_⟩
        refine qa2 5 (by kernel_rfl) rfl rfl rfl (qaf qau rfl rfl rfl rfl) (qbc (CN.out _ 1 E.out.bl)) (fun v w h => hS.trans ((h.2).mono hS.size)) (fun v8 a9 hR => ?_); (try simp only [Act.put, lyy])
        obtain ⟨rfl, hb9⟩ := hR
        replace hS := hS.trans (hb9.mono hS.size)
        replace E := Lib.hid (E.out.below hb9)
        clear hb9
        refine qa2 7 (by kernel_rfl) rfl rfl rfl (qaf qau rfl rfl rfl rfl) (qbc (CN.out _ 2 E.out.bl)) (fun v w h => hS.trans ((h.2).mono hS.size)) (fun v10 a11 hR => ?_); (try simp only [Act.put, lyy])
        obtain ⟨rfl, hb9⟩ := hR
        replace hS := hS.trans (hb9.mono hS.size)
        replace E := Lib.hid (E.out.below hb9)
        clear hb9
        refine qa2 15 (by kernel_rfl) rfl rfl rfl (qaq qcs rfl rfl rfl) (CL.out _ E.out.bl) (fun v w h => hS.trans ((h.2).mono hS.size)) (fun v12 a13 hR => ?_); (try simp only [Act.put, lyy])
        obtain ⟨⟨X, rfl, lX, oX, fX⟩, hb9⟩ := hR
        replace hS := hS.trans (hb9.mono hS.size)
        replace E := Lib.hid (E.out.call hb9 fX)
        clear hb9 fX
        refine qa2 17 (by kernel_rfl) rfl rfl rfl (qaf qbx rfl rfl rfl rfl) (qbc (CK.out _ 3 E.out.bl)) (fun v w h => hS.trans ((h.2).mono hS.size)) (fun v14 a15 hR => ?_); (try simp only [Act.put, lyy])
        obtain ⟨rfl, hb9⟩ := hR
        replace hS := hS.trans (hb9.mono hS.size)
        replace E := Lib.hid (E.out.below hb9)
        clear hb9
        refine qa2 19 (by kernel_rfl) rfl rfl rfl (qaf qau rfl rfl rfl rfl) (qbc (CN.out _ 4 E.out.bl)) (fun v w h => hS.trans ((h.2).mono hS.size)) (fun v16 a17 hR => ?_); (try simp only [Act.put, lyy])
        obtain ⟨rfl, hb9⟩ := hR
        replace hS := hS.trans (hb9.mono hS.size)
        replace E := Lib.hid (E.out.below hb9)
        clear hb9
        refine qah 20 rfl rfl (by kernel_rfl) (by kernel_rfl) (by kernel_rfl) (fun _ _ _ h => h) rfl (fun V hV => qa7 (ps := [(0, .int .u8 kd), (1, .int .i64 (chN c 1 : Int)), (2, .int .i64 (chN c 2 : Int)), (3, .string (strOf pin)), (5, .string ⟨#[97]⟩), (6, .agg X.toArray), (7, .agg ((chK c 3).map b8).toArray), (11, .int .i64 (chN c 4 : Int))]) rfl rfl (EB.out X lX)) hS ?_; (try simp only [Act.put, lyy])
        refine qb1 22 (by kernel_rfl) rfl rfl rfl (qa0 (vs := rqR (.int .u8 kd) (.int .i64 (chN c 1 : Int)) (.int .i64 (chN c 2 : Int)) (.string (strOf pin)) ((.string ⟨#[]⟩)) (.string ⟨#[97]⟩) (X) ((chK c 3).map b8) (pkR ((.int .i64 0)) (z8 32)) (z8 64) ((.slice none 0 0)) (.int .i64 (chN c 4 : Int)) ((.slice none 0 0))) rfl (szR (qa1 lX (by rw [List.length_map]; exact qap _ _) (qar (qac 32)) (qac 64)) (by kernel_rfl)) rfl rfl (One.all (qc6 rfl rfl rfl rfl rfl rfl oX (One.b8 _) (qb8 rfl (One.b8 _)) (One.b8 _) rfl rfl rfl)) ((E.out.get (i := 0) rfl).thereM (by have q1 : (rqR (.int .u8 kd) (.int .i64 (chN c 1 : Int)) (.int .i64 (chN c 2 : Int)) (.string (strOf pin)) ((.string ⟨#[]⟩)) (.string ⟨#[97]⟩) (X) ((chK c 3).map b8) (pkR ((.int .i64 0)) (z8 32)) (z8 64) ((.slice none 0 0)) (.int .i64 (chN c 4 : Int)) ((.slice none 0 0))).length = 237 := (qa1 lX (by rw [List.length_map]; exact qap _ _) (qar (qac 32)) (qac 64)); have q2 : (rqR ((.int .u8 0)) ((.int .i64 0)) ((.int .i64 0)) ((.string ⟨#[]⟩)) ((.string ⟨#[]⟩)) ((.string ⟨#[]⟩)) (lsR ((.int .i64 0)) ((.int .i64 0)) (z8 32) ((.slice none 0 0)) (z8 64)) (z8 32) (pkR ((.int .i64 0)) (z8 32)) (z8 64) ((.slice none 0 0)) ((.int .i64 0)) ((.slice none 0 0))).length = 237 := (qa1 (qas (qac 32) (qac 64)) (qac 32) (qar (qac 32)) (qac 64)); omega))) (qbe hg _ _ hS) ?_
        refine qba (by kernel_rfl) ?_ _; refine NoPanic.normal ?_
        replace E := Lib.hid (E.out.put 0 rfl (m := rqR (.int .u8 kd) (.int .i64 (chN c 1 : Int)) (.int .i64 (chN c 2 : Int)) (.string (strOf pin)) ((.string ⟨#[]⟩)) (.string ⟨#[97]⟩) (X) ((chK c 3).map b8) (pkR ((.int .i64 0)) (z8 32)) (z8 64) ((.slice none 0 0)) (.int .i64 (chN c 4 : Int)) ((.slice none 0 0))) ((show (rqR (.int .u8 kd) (.int .i64 (chN c 1 : Int)) (.int .i64 (chN c 2 : Int)) (.string (strOf pin)) ((.string ⟨#[]⟩)) (.string ⟨#[97]⟩) (X) ((chK c 3).map b8) (pkR ((.int .i64 0)) (z8 32)) (z8 64) ((.slice none 0 0)) (.int .i64 (chN c 4 : Int)) ((.slice none 0 0))).length = 237 from (qa1 lX (by rw [List.length_map]; exact qap _ _) (qar (qac 32)) (qac 64))).trans (show (rqR ((.int .u8 0)) ((.int .i64 0)) ((.int .i64 0)) ((.string ⟨#[]⟩)) ((.string ⟨#[]⟩)) ((.string ⟨#[]⟩)) (lsR ((.int .i64 0)) ((.int .i64 0)) (z8 32) ((.slice none 0 0)) (z8 64)) (z8 32) (pkR ((.int .i64 0)) (z8 32)) (z8 64) ((.slice none 0 0)) ((.int .i64 0)) ((.slice none 0 0))).length = 237 from (qa1 (qas (qac 32) (qac 64)) (qac 32) (qar (qac 32)) (qac 64))).symm))
        generalize a17.setCells g7 0 (rqR (.int .u8 kd) (.int .i64 (chN c 1 : Int)) (.int .i64 (chN c 2 : Int)) (.string (strOf pin)) ((.string ⟨#[]⟩)) (.string ⟨#[97]⟩) (X) ((chK c 3).map b8) (pkR ((.int .i64 0)) (z8 32)) (z8 64) ((.slice none 0 0)) (.int .i64 (chN c 4 : Int)) ((.slice none 0 0))) = b1 at *
        replace E := Lib.hid (show Ev _ [(g7, rqR (.int .u8 kd) (.int .i64 (chN c 1 : Int)) (.int .i64 (chN c 2 : Int)) (.string (strOf pin)) ((.string ⟨#[]⟩)) (.string ⟨#[97]⟩) (X) ((chK c 3).map b8) (pkR ((.int .i64 0)) (z8 32)) (z8 64) ((.slice none 0 0)) (.int .i64 (chN c 4 : Int)) ((.slice none 0 0))), (g2, rqR ((.int .u8 0)) ((.int .i64 0)) ((.int .i64 0)) ((.string ⟨#[]⟩)) ((.string ⟨#[]⟩)) ((.string ⟨#[]⟩)) (lsR ((.int .i64 0)) ((.int .i64 0)) (z8 32) ((.slice none 0 0)) (z8 64)) (z8 32) (pkR ((.int .i64 0)) (z8 32)) (z8 64) ((.slice none 0 0)) ((.int .i64 0)) ((.slice none 0 0)))] _ _ _ b1 from E.out)
        go_wp2_with fail
        go_meet
        exact ⟨g7, X, rfl, lX, oX, E.out.knowH fun _ h => h.1⟩
    · refine wpOp_val 21 rfl rfl rfl (qa3 (vs := rqR ((.int .u8 0)) ((.int .i64 0)) ((.int .i64 0)) ((.string ⟨#[]⟩)) ((.string ⟨#[]⟩)) ((.string ⟨#[]⟩)) (lsR ((.int .i64 0)) ((.int .i64 0)) (z8 32) ((.slice none 0 0)) (z8 64)) (z8 32) (pkR ((.int .i64 0)) (z8 32)) (z8 64) ((.slice none 0 0)) ((.int .i64 0)) ((.slice none 0 0))) rfl (by kernel_rfl)) ?_; (try simp only [Act.put, lyy])
      have hg := hS.size
      replace hS := hS.alloc hg (.cells (rqR ((.int .u8 0)) ((.int .i64 0)) ((.int .i64 0)) ((.string ⟨#[]⟩)) ((.string ⟨#[]⟩)) ((.string ⟨#[]⟩)) (lsR ((.int .i64 0)) ((.int .i64 0)) (z8 32) ((.slice none 0 0)) (z8 64)) (z8 32) (pkR ((.int .i64 0)) (z8 32)) (z8 64) ((.slice none 0 0)) ((.int .i64 0)) ((.slice none 0 0))).toArray 46)
      replace E := Lib.hid (E.out.new (rqR ((.int .u8 0)) ((.int .i64 0)) ((.int .i64 0)) ((.string ⟨#[]⟩)) ((.string ⟨#[]⟩)) ((.string ⟨#[]⟩)) (lsR ((.int .i64 0)) ((.int .i64 0)) (z8 32) ((.slice none 0 0)) (z8 64)) (z8 32) (pkR ((.int .i64 0)) (z8 32)) (z8 64) ((.slice none 0 0)) ((.int .i64 0)) ((.slice none 0 0))) 46)
      generalize a3.alloc (.cells (rqR ((.int .u8 0)) ((.int .i64 0)) ((.int .i64 0)) ((.string ⟨#[]⟩)) ((.string ⟨#[]⟩)) ((.string ⟨#[]⟩)) (lsR ((.int .i64 0)) ((.int .i64 0)) (z8 32) ((.slice none 0 0)) (z8 64)) (z8 32) (pkR ((.int .i64 0)) (z8 32)) (z8 64) ((.slice none 0 0)) ((.int .i64 0)) ((.slice none 0 0))).toArray 46) = a4 at *
      generalize a3.heap.size = g5 at *
      refine ⟨hS, ?_⟩
      refine qa2 1 (by kernel_rfl) rfl rfl rfl (qaf qau rfl rfl rfl rfl) (qbc (CN.out _ 0 E.out.bl)) (fun v w h => hS.trans ((h.2).mono hS.size)) (fun v6 a7 hR => ?_); (try simp only [Act.put, lyy])
      obtain ⟨rfl, hb9⟩ := hR
      replace hS := hS.trans (hb9.mono hS.size)
      replace E := Lib.hid (E.out.below hb9)
      clear hb9
      refine qah 2 rfl rfl (by kernel_rfl) (by kernel_rfl) (by kernel_rfl) (fun _ _ _ h => h) rfl (fun V hV => qb9 (a := chN c 0) (b := 15) rfl rfl rfl (by omega)) hS ?_; (try simp only [Act.put, lyy])
      refine qah 3 rfl rfl (by kernel_rfl) (by kernel_rfl) (by kernel_rfl) (fun _ _ _ h => h) rfl (fun V hV => run_cvu8R rfl (by rw [← HKK.out]; rfl) hkd.1 hkd.2) hS ?_; (try simp only [Act.put, lyy])
      refine qa2 5 (by kernel_rfl) rfl rfl rfl (qaf qau rfl rfl rfl rfl) (qbc (CN.out _ 1 E.out.bl)) (fun v w h => hS.trans ((h.2).mono hS.size)) (fun v8 a9 hR => ?_); (try simp only [Act.put, lyy])
      obtain ⟨rfl, hb9⟩ := hR
      replace hS := hS.trans (hb9.mono hS.size)
      replace E := Lib.hid (E.out.below hb9)
      clear hb9
      refine qa2 7 (by kernel_rfl) rfl rfl rfl (qaf qau rfl rfl rfl rfl) (qbc (CN.out _ 2 E.out.bl)) (fun v w h => hS.trans ((h.2).mono hS.size)) (fun v10 a11 hR => ?_); (try simp only [Act.put, lyy])
      obtain ⟨rfl, hb9⟩ := hR
      replace hS := hS.trans (hb9.mono hS.size)
      replace E := Lib.hid (E.out.below hb9)
      clear hb9
      refine qa2 15 (by kernel_rfl) rfl rfl rfl (qaq qcs rfl rfl rfl) (CL.out _ E.out.bl) (fun v w h => hS.trans ((h.2).mono hS.size)) (fun v12 a13 hR => ?_); (try simp only [Act.put, lyy])
      obtain ⟨⟨X, rfl, lX, oX, fX⟩, hb9⟩ := hR
      replace hS := hS.trans (hb9.mono hS.size)
      replace E := Lib.hid (E.out.call hb9 fX)
      clear hb9 fX
      refine qa2 17 (by kernel_rfl) rfl rfl rfl (qaf qbx rfl rfl rfl rfl) (qbc (CK.out _ 3 E.out.bl)) (fun v w h => hS.trans ((h.2).mono hS.size)) (fun v14 a15 hR => ?_); (try simp only [Act.put, lyy])
      obtain ⟨rfl, hb9⟩ := hR
      replace hS := hS.trans (hb9.mono hS.size)
      replace E := Lib.hid (E.out.below hb9)
      clear hb9
      refine qa2 19 (by kernel_rfl) rfl rfl rfl (qaf qau rfl rfl rfl rfl) (qbc (CN.out _ 4 E.out.bl)) (fun v w h => hS.trans ((h.2).mono hS.size)) (fun v16 a17 hR => ?_); (try simp only [Act.put, lyy])
      obtain ⟨rfl, hb9⟩ := hR
      replace hS := hS.trans (hb9.mono hS.size)
      replace E := Lib.hid (E.out.below hb9)
      clear hb9
      refine qah 20 rfl rfl (by kernel_rfl) (by kernel_rfl) (by kernel_rfl) (fun _ _ _ h => h) rfl (fun V hV => qa7 (ps := [(0, .int .u8 kd), (1, .int .i64 (chN c 1 : Int)), (2, .int .i64 (chN c 2 : Int)), (3, .string (strOf pin)), (5, .string ⟨#[97]⟩), (6, .agg X.toArray), (7, .agg ((chK c 3).map b8).toArray), (11, .int .i64 (chN c 4 : Int))]) rfl rfl (EB.out X lX)) hS ?_; (try simp only [Act.put, lyy])
      refine qb1 22 (by kernel_rfl) rfl rfl rfl (qa0 (vs := rqR (.int .u8 kd) (.int .i64 (chN c 1 : Int)) (.int .i64 (chN c 2 : Int)) (.string (strOf pin)) ((.string ⟨#[]⟩)) (.string ⟨#[97]⟩) (X) ((chK c 3).map b8) (pkR ((.int .i64 0)) (z8 32)) (z8 64) ((.slice none 0 0)) (.int .i64 (chN c 4 : Int)) ((.slice none 0 0))) rfl (szR (qa1 lX (by rw [List.length_map]; exact qap _ _) (qar (qac 32)) (qac 64)) (by kernel_rfl)) rfl rfl (One.all (qc6 rfl rfl rfl rfl rfl rfl oX (One.b8 _) (qb8 rfl (One.b8 _)) (One.b8 _) rfl rfl rfl)) ((E.out.get (i := 0) rfl).thereM (by have q1 : (rqR (.int .u8 kd) (.int .i64 (chN c 1 : Int)) (.int .i64 (chN c 2 : Int)) (.string (strOf pin)) ((.string ⟨#[]⟩)) (.string ⟨#[97]⟩) (X) ((chK c 3).map b8) (pkR ((.int .i64 0)) (z8 32)) (z8 64) ((.slice none 0 0)) (.int .i64 (chN c 4 : Int)) ((.slice none 0 0))).length = 237 := (qa1 lX (by rw [List.length_map]; exact qap _ _) (qar (qac 32)) (qac 64)); have q2 : (rqR ((.int .u8 0)) ((.int .i64 0)) ((.int .i64 0)) ((.string ⟨#[]⟩)) ((.string ⟨#[]⟩)) ((.string ⟨#[]⟩)) (lsR ((.int .i64 0)) ((.int .i64 0)) (z8 32) ((.slice none 0 0)) (z8 64)) (z8 32) (pkR ((.int .i64 0)) (z8 32)) (z8 64) ((.slice none 0 0)) ((.int .i64 0)) ((.slice none 0 0))).length = 237 := (qa1 (qas (qac 32) (qac 64)) (qac 32) (qar (qac 32)) (qac 64)); omega))) (qbe hg _ _ hS) ?_
      refine qba (by kernel_rfl) ?_ _; refine NoPanic.normal ?_
      replace E := Lib.hid (E.out.put 0 rfl (m := rqR (.int .u8 kd) (.int .i64 (chN c 1 : Int)) (.int .i64 (chN c 2 : Int)) (.string (strOf pin)) ((.string ⟨#[]⟩)) (.string ⟨#[97]⟩) (X) ((chK c 3).map b8) (pkR ((.int .i64 0)) (z8 32)) (z8 64) ((.slice none 0 0)) (.int .i64 (chN c 4 : Int)) ((.slice none 0 0))) ((show (rqR (.int .u8 kd) (.int .i64 (chN c 1 : Int)) (.int .i64 (chN c 2 : Int)) (.string (strOf pin)) ((.string ⟨#[]⟩)) (.string ⟨#[97]⟩) (X) ((chK c 3).map b8) (pkR ((.int .i64 0)) (z8 32)) (z8 64) ((.slice none 0 0)) (.int .i64 (chN c 4 : Int)) ((.slice none 0 0))).length = 237 from (qa1 lX (by rw [List.length_map]; exact qap _ _) (qar (qac 32)) (qac 64))).trans (show (rqR ((.int .u8 0)) ((.int .i64 0)) ((.int .i64 0)) ((.string ⟨#[]⟩)) ((.string ⟨#[]⟩)) ((.string ⟨#[]⟩)) (lsR ((.int .i64 0)) ((.int .i64 0)) (z8 32) ((.slice none 0 0)) (z8 64)) (z8 32) (pkR ((.int .i64 0)) (z8 32)) (z8 64) ((.slice none 0 0)) ((.int .i64 0)) ((.slice none 0 0))).length = 237 from (qa1 (qas (qac 32) (qac 64)) (qac 32) (qar (qac 32)) (qac 64))).symm))
      generalize a17.setCells g5 0 (rqR (.int .u8 kd) (.int .i64 (chN c 1 : Int)) (.int .i64 (chN c 2 : Int)) (.string (strOf pin)) ((.string ⟨#[]⟩)) (.string ⟨#[97]⟩) (X) ((chK c 3).map b8) (pkR ((.int .i64 0)) (z8 32)) (z8 64) ((.slice none 0 0)) (.int .i64 (chN c 4 : Int)) ((.slice none 0 0))) = b1 at *
      replace E := Lib.hid (show Ev _ [(g5, rqR (.int .u8 kd) (.int .i64 (chN c 1 : Int)) (.int .i64 (chN c 2 : Int)) (.string (strOf pin)) ((.string ⟨#[]⟩)) (.string ⟨#[97]⟩) (X) ((chK c 3).map b8) (pkR ((.int .i64 0)) (z8 32)) (z8 64) ((.slice none 0 0)) (.int .i64 (chN c 4 : Int)) ((.slice none 0 0))), (g2, rqR ((.int .u8 0)) ((.int .i64 0)) ((.int .i64 0)) ((.string ⟨#[]⟩)) ((.string ⟨#[]⟩)) ((.string ⟨#[]⟩)) (lsR ((.int .i64 0)) ((.int .i64 0)) (z8 32) ((.slice none 0 0)) (z8 64)) (z8 32) (pkR ((.int .i64 0)) (z8 32)) (z8 64) ((.slice none 0 0)) ((.int .i64 0)) ((.slice none 0 0)))] _ _ _ b1 from E.out)
      go_wp2_with fail
      go_meet
      exact ⟨g5, X, rfl, lX, oX, E.out.knowH fun _ h => h.1⟩
  case rest =>
    obtain ⟨g9, X, rfl, lX, oX, hJ⟩ := hcut
    generalize hwc : wc = b0 at *
    clear hwc
    have E := Lib.hid hJ
    clear hJ
    go_upto_region 2 with fail; refine wp_region_lit ?_
    refine qaa (qad (v := .slice ao m cc) rfl rfl) rfl ?_; (try simp only [Act.put, lyy])
    refine qav (qaf qau rfl rfl rfl rfl) rfl (CN.out _ 5 E.out.bl) (fun a44 hb => ?_); (try simp only [Act.put, lyy])
    replace E := Lib.hid (E.out.below hb)
    clear hb
    refine qaa (qad (v := .slice ao m cc) rfl rfl) rfl ?_; (try simp only [Act.put, lyy])
    refine qav (qaf qbx rfl rfl rfl rfl) rfl (CK.out _ 6 E.out.bl) (fun a45 hb => ?_); (try simp only [Act.put, lyy])
    replace E := Lib.hid (E.out.below hb)
    clear hb
    refine qaa (qa7 (cells := (pkR (.int .i64 (chN c 5 : Int)) ((chK c 6).map b8)).toArray) (ps := [(0, .int .i64 (chN c 5 : Int)), (1, .agg ((chK c 6).map b8).toArray)]) rfl rfl (pkR_all rfl (by rw [List.length_map]; exact qap _ _))) rfl ?_; (try simp only [Act.put, lyy])
    refine qaa (qai (s := 32) (k := 137) rfl Tryz.underlying46 rfl (by kernel_rfl) rfl rfl) rfl ?_; (try simp only [Act.put, lyy])
    refine qal (qa0 (vs := pkR (.int .i64 (chN c 5 : Int)) ((chK c 6).map b8)) rfl (szR (qar (by rw [List.length_map]; exact qap _ _)) (by kernel_rfl)) rfl rfl (One.all (qb8 rfl (One.b8 _))) ((E.out.get (i := 0) rfl).thereM (by have q1 : (pkR (.int .i64 (chN c 5 : Int)) ((chK c 6).map b8)).length = 33 := (qar (by rw [List.length_map]; exact qap _ _)); have q2 : (rqR (.int .u8 kd) (.int .i64 (chN c 1 : Int)) (.int .i64 (chN c 2 : Int)) (.string (strOf pin)) ((.string ⟨#[]⟩)) (.string ⟨#[97]⟩) (X) ((chK c 3).map b8) (pkR ((.int .i64 0)) (z8 32)) (z8 64) ((.slice none 0 0)) (.int .i64 (chN c 4 : Int)) ((.slice none 0 0))).length = 237 := (qa1 lX (by rw [List.length_map]; exact qap _ _) (qar (qac 32)) (qac 64)); omega))) rfl rfl ?_
    replace E := Lib.hid (E.out.mid 0 rfl (f := 137) (m := pkR (.int .i64 (chN c 5 : Int)) ((chK c 6).map b8)) (by have q1 : (pkR (.int .i64 (chN c 5 : Int)) ((chK c 6).map b8)).length = 33 := (qar (by rw [List.length_map]; exact qap _ _)); have q2 : (rqR (.int .u8 kd) (.int .i64 (chN c 1 : Int)) (.int .i64 (chN c 2 : Int)) (.string (strOf pin)) ((.string ⟨#[]⟩)) (.string ⟨#[97]⟩) (X) ((chK c 3).map b8) (pkR ((.int .i64 0)) (z8 32)) (z8 64) ((.slice none 0 0)) (.int .i64 (chN c 4 : Int)) ((.slice none 0 0))).length = 237 := (qa1 lX (by rw [List.length_map]; exact qap _ _) (qar (qac 32)) (qac 64)); omega))
    rw [show (rqR (.int .u8 kd) (.int .i64 (chN c 1 : Int)) (.int .i64 (chN c 2 : Int)) (.string (strOf pin)) ((.string ⟨#[]⟩)) (.string ⟨#[97]⟩) (X) ((chK c 3).map b8) (pkR ((.int .i64 0)) (z8 32)) (z8 64) ((.slice none 0 0)) (.int .i64 (chN c 4 : Int)) ((.slice none 0 0))).take 137 ++ (pkR (.int .i64 (chN c 5 : Int)) ((chK c 6).map b8) ++ (rqR (.int .u8 kd) (.int .i64 (chN c 1 : Int)) (.int .i64 (chN c 2 : Int)) (.string (strOf pin)) ((.string ⟨#[]⟩)) (.string ⟨#[97]⟩) (X) ((chK c 3).map b8) (pkR ((.int .i64 0)) (z8 32)) (z8 64) ((.slice none 0 0)) (.int .i64 (chN c 4 : Int)) ((.slice none 0 0))).drop (137 + (pkR (.int .i64 (chN c 5 : Int)) ((chK c 6).map b8)).length)) = rqR (.int .u8 kd) (.int .i64 (chN c 1 : Int)) (.int .i64 (chN c 2 : Int)) (.string (strOf pin)) ((.string ⟨#[]⟩)) (.string ⟨#[97]⟩) (X) ((chK c 3).map b8) (pkR (.int .i64 (chN c 5 : Int)) ((chK c 6).map b8)) (z8 64) ((.slice none 0 0)) (.int .i64 (chN c 4 : Int)) ((.slice none 0 0)) from (rqR_setSigned lX (by rw [List.length_map]; exact qap _ _) (qar (qac 32)) (qar (by rw [List.length_map]; exact qap _ _)))] at E
    generalize a45.setCells g9 137 (pkR (.int .i64 (chN c 5 : Int)) ((chK c 6).map b8)) = a46 at *
    replace E := Lib.hid (show Ev _ [(g9, rqR (.int .u8 kd) (.int .i64 (chN c 1 : Int)) (.int .i64 (chN c 2 : Int)) (.string (strOf pin)) ((.string ⟨#[]⟩)) (.string ⟨#[97]⟩) (X) ((chK c 3).map b8) (pkR (.int .i64 (chN c 5 : Int)) ((chK c 6).map b8)) (z8 64) ((.slice none 0 0)) (.int .i64 (chN c 4 : Int)) ((.slice none 0 0))), (g2, rqR ((.int .u8 0)) ((.int .i64 0)) ((.int .i64 0)) ((.string ⟨#[]⟩)) ((.string ⟨#[]⟩)) ((.string ⟨#[]⟩)) (lsR ((.int .i64 0)) ((.int .i64 0)) (z8 32) ((.slice none 0 0)) (z8 64)) (z8 32) (pkR ((.int .i64 0)) (z8 32)) (z8 64) ((.slice none 0 0)) ((.int .i64 0)) ((.slice none 0 0)))] _ _ _ a46 from E.out)
    refine qab ?_
    go_upto_region 3 with fail; refine wp_region_lit ?_
    refine qaa (qad (v := .slice ao m cc) rfl rfl) rfl ?_; (try simp only [Act.put, lyy])
    refine qav (qaf qau rfl rfl rfl rfl) rfl (CN.out _ 7 E.out.bl) (fun a47 hb => ?_); (try simp only [Act.put, lyy])
    replace E := Lib.hid (E.out.below hb)
    clear hb
    refine qaa (run_cvi_8 rfl rfl) rfl ?_; (try simp only [Act.put, lyy])
    refine qaa (qa7 (ps := [(0, b8 (BitVec.ofNat 8 (chN c 7)))]) rfl rfl ES.out) rfl ?_; (try simp only [Act.put, lyy])
    refine qaa (qai (s := 63) (k := 170) rfl Tryz.underlying46 rfl (by kernel_rfl) rfl rfl) rfl ?_; (try simp only [Act.put, lyy])
    refine qal (qa0 (vs := sg.map b8) rfl (szR (by rw [List.length_map, HS]) (by kernel_rfl)) rfl rfl (One.all (One.b8 _)) ((E.out.get (i := 0) rfl).thereM (by have q1 : (sg.map b8).length = 64 := (by rw [List.length_map, HS]); have q2 : (rqR (.int .u8 kd) (.int .i64 (chN c 1 : Int)) (.int .i64 (chN c 2 : Int)) (.string (strOf pin)) ((.string ⟨#[]⟩)) (.string ⟨#[97]⟩) (X) ((chK c 3).map b8) (pkR (.int .i64 (chN c 5 : Int)) ((chK c 6).map b8)) (z8 64) ((.slice none 0 0)) (.int .i64 (chN c 4 : Int)) ((.slice none 0 0))).length = 237 := (qa1 lX (by rw [List.length_map]; exact qap _ _) (qar (by rw [List.length_map]; exact qap _ _)) (qac 64)); omega))) rfl rfl ?_
    replace E := Lib.hid (E.out.mid 0 rfl (f := 170) (m := sg.map b8) (by have q1 : (sg.map b8).length = 64 := (by rw [List.length_map, HS]); have q2 : (rqR (.int .u8 kd) (.int .i64 (chN c 1 : Int)) (.int .i64 (chN c 2 : Int)) (.string (strOf pin)) ((.string ⟨#[]⟩)) (.string ⟨#[97]⟩) (X) ((chK c 3).map b8) (pkR (.int .i64 (chN c 5 : Int)) ((chK c 6).map b8)) (z8 64) ((.slice none 0 0)) (.int .i64 (chN c 4 : Int)) ((.slice none 0 0))).length = 237 := (qa1 lX (by rw [List.length_map]; exact qap _ _) (qar (by rw [List.length_map]; exact qap _ _)) (qac 64)); omega))
    rw [show (rqR (.int .u8 kd) (.int .i64 (chN c 1 : Int)) (.int .i64 (chN c 2 : Int)) (.string (strOf pin)) ((.string ⟨#[]⟩)) (.string ⟨#[97]⟩) (X) ((chK c 3).map b8) (pkR (.int .i64 (chN c 5 : Int)) ((chK c 6).map b8)) (z8 64) ((.slice none 0 0)) (.int .i64 (chN c 4 : Int)) ((.slice none 0 0))).take 170 ++ (sg.map b8 ++ (rqR (.int .u8 kd) (.int .i64 (chN c 1 : Int)) (.int .i64 (chN c 2 : Int)) (.string (strOf pin)) ((.string ⟨#[]⟩)) (.string ⟨#[97]⟩) (X) ((chK c 3).map b8) (pkR (.int .i64 (chN c 5 : Int)) ((chK c 6).map b8)) (z8 64) ((.slice none 0 0)) (.int .i64 (chN c 4 : Int)) ((.slice none 0 0))).drop (170 + (sg.map b8).length)) = rqR (.int .u8 kd) (.int .i64 (chN c 1 : Int)) (.int .i64 (chN c 2 : Int)) (.string (strOf pin)) ((.string ⟨#[]⟩)) (.string ⟨#[97]⟩) (X) ((chK c 3).map b8) (pkR (.int .i64 (chN c 5 : Int)) ((chK c 6).map b8)) (sg.map b8) ((.slice none 0 0)) (.int .i64 (chN c 4 : Int)) ((.slice none 0 0)) from (rqR_setSig lX (by rw [List.length_map]; exact qap _ _) (qar (by rw [List.length_map]; exact qap _ _)) (qac 64) (by rw [List.length_map, HS]))] at E
    generalize a47.setCells g9 170 (sg.map b8) = a48 at *
    replace E := Lib.hid (show Ev _ [(g9, rqR (.int .u8 kd) (.int .i64 (chN c 1 : Int)) (.int .i64 (chN c 2 : Int)) (.string (strOf pin)) ((.string ⟨#[]⟩)) (.string ⟨#[97]⟩) (X) ((chK c 3).map b8) (pkR (.int .i64 (chN c 5 : Int)) ((chK c 6).map b8)) (sg.map b8) ((.slice none 0 0)) (.int .i64 (chN c 4 : Int)) ((.slice none 0 0))), (g2, rqR ((.int .u8 0)) ((.int .i64 0)) ((.int .i64 0)) ((.string ⟨#[]⟩)) ((.string ⟨#[]⟩)) ((.string ⟨#[]⟩)) (lsR ((.int .i64 0)) ((.int .i64 0)) (z8 32) ((.slice none 0 0)) (z8 64)) (z8 32) (pkR ((.int .i64 0)) (z8 32)) (z8 64) ((.slice none 0 0)) ((.int .i64 0)) ((.slice none 0 0)))] _ _ _ a48 from E.out)
    refine qab ?_
    go_upto_region 4 with fail; refine wp_region_lit ?_
    refine qaa (qad (v := .slice ao m cc) rfl rfl) rfl ?_; (try simp only [Act.put, lyy])
    refine qag (qaf enters_cp10 rfl rfl rfl rfl) rfl (CP.out _ E.out.bl) (fun v50 a49 hR => ?_); (try simp only [Act.put, lyy])
    obtain ⟨⟨a', c', rfl, hF⟩, hb7⟩ := hR
    replace E := Lib.hid (E.out.call hb7 hF)
    clear hF hb7
    refine qaa (qai (s := 0) (k := 234) rfl Tryz.underlying46 rfl (by kernel_rfl) rfl rfl) rfl ?_; (try simp only [Act.put, lyy])
    refine qal (qb5 (v := .slice a' ON.length c') rfl (by kernel_rfl) rfl rfl rfl rfl ((E.out.get (i := 0) rfl).c 234 _ (rqR_Ones lX (by rw [List.length_map]; exact qap _ _) (qar (by rw [List.length_map]; exact qap _ _)) (by rw [List.length_map, HS]))) ((E.out.get (i := 0) rfl).f _)) rfl rfl ?_
    replace E := Lib.hid (E.out.set 0 rfl (j := 234) (by have q2 : (rqR (.int .u8 kd) (.int .i64 (chN c 1 : Int)) (.int .i64 (chN c 2 : Int)) (.string (strOf pin)) ((.string ⟨#[]⟩)) (.string ⟨#[97]⟩) (X) ((chK c 3).map b8) (pkR (.int .i64 (chN c 5 : Int)) ((chK c 6).map b8)) (sg.map b8) ((.slice none 0 0)) (.int .i64 (chN c 4 : Int)) ((.slice none 0 0))).length = 237 := (qa1 lX (by rw [List.length_map]; exact qap _ _) (qar (by rw [List.length_map]; exact qap _ _)) (by rw [List.length_map, HS])); omega) (.slice a' ON.length c'))
    rw [show (rqR (.int .u8 kd) (.int .i64 (chN c 1 : Int)) (.int .i64 (chN c 2 : Int)) (.string (strOf pin)) ((.string ⟨#[]⟩)) (.string ⟨#[97]⟩) (X) ((chK c 3).map b8) (pkR (.int .i64 (chN c 5 : Int)) ((chK c 6).map b8)) (sg.map b8) ((.slice none 0 0)) (.int .i64 (chN c 4 : Int)) ((.slice none 0 0))).set 234 (.slice a' ON.length c') = rqR (.int .u8 kd) (.int .i64 (chN c 1 : Int)) (.int .i64 (chN c 2 : Int)) (.string (strOf pin)) ((.string ⟨#[]⟩)) (.string ⟨#[97]⟩) (X) ((chK c 3).map b8) (pkR (.int .i64 (chN c 5 : Int)) ((chK c 6).map b8)) (sg.map b8) (.slice a' ON.length c') (.int .i64 (chN c 4 : Int)) ((.slice none 0 0)) from (rqR_setOnes lX (by rw [List.length_map]; exact qap _ _) (qar (by rw [List.length_map]; exact qap _ _)) (by rw [List.length_map, HS]) _)] at E
    generalize a49.setCell ⟨g9, 234, none⟩ (.slice a' ON.length c') = a51 at *
    replace E := Lib.hid (show Ev _ [(g9, rqR (.int .u8 kd) (.int .i64 (chN c 1 : Int)) (.int .i64 (chN c 2 : Int)) (.string (strOf pin)) ((.string ⟨#[]⟩)) (.string ⟨#[97]⟩) (X) ((chK c 3).map b8) (pkR (.int .i64 (chN c 5 : Int)) ((chK c 6).map b8)) (sg.map b8) (.slice a' ON.length c') (.int .i64 (chN c 4 : Int)) ((.slice none 0 0))), (g2, rqR ((.int .u8 0)) ((.int .i64 0)) ((.int .i64 0)) ((.string ⟨#[]⟩)) ((.string ⟨#[]⟩)) ((.string ⟨#[]⟩)) (lsR ((.int .i64 0)) ((.int .i64 0)) (z8 32) ((.slice none 0 0)) (z8 64)) (z8 32) (pkR ((.int .i64 0)) (z8 32)) (z8 64) ((.slice none 0 0)) ((.int .i64 0)) ((.slice none 0 0)))] _ _ _ a51 from E.out)
    refine qab ?_
    go_upto_region 5 with fail; refine wp_region_lit ?_
    refine qaa (qak (v := .int .i64 0) rfl rfl) rfl ?_; (try simp only [Act.put, lyy])
    refine qab ?_
    replace E := Lib.hid ((Gw.start E.out 102 73).know (H0 := fun V => LR (itC (.slice ao m cc) c) [] [] V ∧ SlR 33 pkAt ON a' c' V ∧ lsAt LL X V) fun V h => ⟨LR.nil V, h⟩)
    go_wp2_with fail
    go_loopw [4] (fun s4 u => ∃ (j : Nat) (l : List (Int × MEv)) (css : List (List Value)) (va : Option Addr) (vn vc : Nat), s4 = .int .i64 (j : Int) ∧ l = chIs c j ∧ j = l.length ∧ j ≤ chN c 9 % 3 ∧ (∀ p ∈ css, p.length = 73) ∧ Gw w [(g9, rqR (.int .u8 kd) (.int .i64 (chN c 1 : Int)) (.int .i64 (chN c 2 : Int)) (.string (strOf pin)) ((.string ⟨#[]⟩)) (.string ⟨#[97]⟩) (X) ((chK c 3).map b8) (pkR (.int .i64 (chN c 5 : Int)) ((chK c 6).map b8)) (sg.map b8) (.slice a' ON.length c') (.int .i64 (chN c 4 : Int)) (.slice va vn vc)), (g2, rqR ((.int .u8 0)) ((.int .i64 0)) ((.int .i64 0)) ((.string ⟨#[]⟩)) ((.string ⟨#[]⟩)) ((.string ⟨#[]⟩)) (lsR ((.int .i64 0)) ((.int .i64 0)) (z8 32) ((.slice none 0 0)) (z8 64)) (z8 32) (pkR ((.int .i64 0)) (z8 32)) (z8 64) ((.slice none 0 0)) ((.int .i64 0)) ((.slice none 0 0)))] 102 73 (.slice va vn vc) j css.flatten (fun V => Sl (.slice ao m cc) c V) (fun V => LR (itC (.slice ao m cc) c) l css V ∧ SlR 33 pkAt ON a' c' V ∧ lsAt LL X V) u) (fun s4 _ => (((chN c 9 % 3 : Nat) : Int) - intOf s4).toNat)
    case atStart => exact ⟨0, [], [], none, 0, 0, rfl, rfl, rfl, by omega, (fun _ h => by cases h), E.out⟩
    case round =>
      obtain ⟨j, l, css, va, vn, vc, rfl, hl, hjl, hj, hq, hJ⟩ := hrel
      replace E := Lib.hid hJ
      have HK := Lib.hid hq
      clear hJ hq
      by_cases hjn : j = chN c 9 % 3
      · go_upto_region 6 with fail; refine wp_region_lit ?_
        refine qaa (qad (v := .int .i64 (j : Int)) rfl rfl) rfl ?_; (try simp only [Act.put, lyy])
        refine qaa (qad (v := .slice ao m cc) rfl rfl) rfl ?_; (try simp only [Act.put, lyy])
        refine qav (qaf qau rfl rfl rfl rfl) rfl (CN.out _ 9 E.out.bl) (fun a52 hb => ?_); (try simp only [Act.put, lyy])
        replace E := Lib.hid (E.out.below hb)
        clear hb
        refine qaa (qb9 (a := chN c 9) (b := 3) rfl rfl rfl (by omega)) rfl ?_; (try simp only [Act.put, lyy])
        refine qaa (qay (c := false) rfl rfl rfl (decide_eq_false (by omega))) rfl ?_; (try simp only [Act.put, lyy])
        refine qab ?_
        have E1 := Lib.hid E.out.done
        clear E
        have E := E1
        clear E1
        go_upto_region 9 with fail; refine wp_region_lit ?_
        refine qaa (qat (vs := rqR (.int .u8 kd) (.int .i64 (chN c 1 : Int)) (.int .i64 (chN c 2 : Int)) (.string (strOf pin)) ((.string ⟨#[]⟩)) (.string ⟨#[97]⟩) (X) ((chK c 3).map b8) (pkR (.int .i64 (chN c 5 : Int)) ((chK c 6).map b8)) (sg.map b8) (.slice a' ON.length c') (.int .i64 (chN c 4 : Int)) (.slice va vn vc)) rfl Tryz.underlying46 rfl (szR (qa1 lX (by rw [List.length_map]; exact qap _ _) (qar (by rw [List.length_map]; exact qap _ _)) (by rw [List.length_map, HS])) (by kernel_rfl)) rfl (E.out.get (i := 0) rfl).range) rfl ?_; (try simp only [Act.put, lyy])
        refine qal (qa0 (vs := rqR (.int .u8 kd) (.int .i64 (chN c 1 : Int)) (.int .i64 (chN c 2 : Int)) (.string (strOf pin)) ((.string ⟨#[]⟩)) (.string ⟨#[97]⟩) (X) ((chK c 3).map b8) (pkR (.int .i64 (chN c 5 : Int)) ((chK c 6).map b8)) (sg.map b8) (.slice a' ON.length c') (.int .i64 (chN c 4 : Int)) (.slice va vn vc)) rfl (szR (qa1 lX (by rw [List.length_map]; exact qap _ _) (qar (by rw [List.length_map]; exact qap _ _)) (by rw [List.length_map, HS])) (by kernel_rfl)) rfl rfl (One.all (qc6 rfl rfl rfl rfl rfl rfl oX (One.b8 _) (qb8 rfl (One.b8 _)) (One.b8 _) rfl rfl rfl)) ((E.out.get (i := 1) rfl).thereM (by have q1 : (rqR (.int .u8 kd) (.int .i64 (chN c 1 : Int)) (.int .i64 (chN c 2 : Int)) (.string (strOf pin)) ((.string ⟨#[]⟩)) (.string ⟨#[97]⟩) (X) ((chK c 3).map b8) (pkR (.int .i64 (chN c 5 : Int)) ((chK c 6).map b8)) (sg.map b8) (.slice a' ON.length c') (.int .i64 (chN c 4 : Int)) (.slice va vn vc)).length = 237 := (qa1 lX (by rw [List.length_map]; exact qap _ _) (qar (by rw [List.length_map]; exact qap _ _)) (by rw [List.length_map, HS])); have q2 : (rqR ((.int .u8 0)) ((.int .i64 0)) ((.int .i64 0)) ((.string ⟨#[]⟩)) ((.string ⟨#[]⟩)) ((.string ⟨#[]⟩)) (lsR ((.int .i64 0)) ((.int .i64 0)) (z8 32) ((.slice none 0 0)) (z8 64)) (z8 32) (pkR ((.int .i64 0)) (z8 32)) (z8 64) ((.slice none 0 0)) ((.int .i64 0)) ((.slice none 0 0))).length = 237 := (qa1 (qas (qac 32) (qac 64)) (qac 32) (qar (qac 32)) (qac 64)); omega))) rfl rfl ?_
        replace E := Lib.hid (E.out.put 1 rfl (m := rqR (.int .u8 kd) (.int .i64 (chN c 1 : Int)) (.int .i64 (chN c 2 : Int)) (.string (strOf pin)) ((.string ⟨#[]⟩)) (.string ⟨#[97]⟩) (X) ((chK c 3).map b8) (pkR (.int .i64 (chN c 5 : Int)) ((chK c 6).map b8)) (sg.map b8) (.slice a' ON.length c') (.int .i64 (chN c 4 : Int)) (.slice va vn vc)) ((show (rqR (.int .u8 kd) (.int .i64 (chN c 1 : Int)) (.int .i64 (chN c 2 : Int)) (.string (strOf pin)) ((.string ⟨#[]⟩)) (.string ⟨#[97]⟩) (X) ((chK c 3).map b8) (pkR (.int .i64 (chN c 5 : Int)) ((chK c 6).map b8)) (sg.map b8) (.slice a' ON.length c') (.int .i64 (chN c 4 : Int)) (.slice va vn vc)).length = 237 from (qa1 lX (by rw [List.length_map]; exact qap _ _) (qar (by rw [List.length_map]; exact qap _ _)) (by rw [List.length_map, HS]))).trans (show (rqR ((.int .u8 0)) ((.int .i64 0)) ((.int .i64 0)) ((.string ⟨#[]⟩)) ((.string ⟨#[]⟩)) ((.string ⟨#[]⟩)) (lsR ((.int .i64 0)) ((.int .i64 0)) (z8 32) ((.slice none 0 0)) (z8 64)) (z8 32) (pkR ((.int .i64 0)) (z8 32)) (z8 64) ((.slice none 0 0)) ((.int .i64 0)) ((.slice none 0 0))).length = 237 from (qa1 (qas (qac 32) (qac 64)) (qac 32) (qar (qac 32)) (qac 64))).symm))
        generalize a52.setCells g2 0 (rqR (.int .u8 kd) (.int .i64 (chN c 1 : Int)) (.int .i64 (chN c 2 : Int)) (.string (strOf pin)) ((.string ⟨#[]⟩)) (.string ⟨#[97]⟩) (X) ((chK c 3).map b8) (pkR (.int .i64 (chN c 5 : Int)) ((chK c 6).map b8)) (sg.map b8) (.slice a' ON.length c') (.int .i64 (chN c 4 : Int)) (.slice va vn vc)) = a53 at *
        replace E := Lib.hid (show Ev _ [(g9, rqR (.int .u8 kd) (.int .i64 (chN c 1 : Int)) (.int .i64 (chN c 2 : Int)) (.string (strOf pin)) ((.string ⟨#[]⟩)) (.string ⟨#[97]⟩) (X) ((chK c 3).map b8) (pkR (.int .i64 (chN c 5 : Int)) ((chK c 6).map b8)) (sg.map b8) (.slice a' ON.length c') (.int .i64 (chN c 4 : Int)) (.slice va vn vc)), (g2, rqR (.int .u8 kd) (.int .i64 (chN c 1 : Int)) (.int .i64 (chN c 2 : Int)) (.string (strOf pin)) ((.string ⟨#[]⟩)) (.string ⟨#[97]⟩) (X) ((chK c 3).map b8) (pkR (.int .i64 (chN c 5 : Int)) ((chK c 6).map b8)) (sg.map b8) (.slice a' ON.length c') (.int .i64 (chN c 4 : Int)) (.slice va vn vc))] _ _ _ a53 from E.out)
        refine qab ?_
        have HF : Hid (Fro w.heap.size (fun V => ∃ a' c', (.slice va vn vc : Value) = .slice a' l.length c' ∧ SlR 73 (itC (.slice ao m cc) c) l a' c' V) a53) := Lib.hid fun V hV => qc5 (E.out.tell V hV).1 hjl (E.out.tell V hV).2.1.1 HK.out (E.out.tell V hV).2.1.2
        obtain ⟨a2, c2, hv6, hS0⟩ := HF.out.now
        simp only [Value.slice.injEq] at hv6
        obtain ⟨-, hvn, -⟩ := hv6
        have HF2 : Hid (Fro w.heap.size (SlR 73 (itC (.slice ao m cc) c) l va vc) a53) := Lib.hid fun V hV => by
          obtain ⟨a2, c2, h1, h2⟩ := HF.out V hV
          simp only [Value.slice.injEq] at h1
          obtain ⟨rfl, _, rfl⟩ := h1
          exact h2
        have hL : chIs c (chN c 9 % 3) = l := by rw [← hjn]; exact hl.symm
        have hmm := EC.out
        rw [hL] at hmm
        subst hmm
        go_wp2_with fail
        refine bodyPost_ret (v := .agg (rqR (.int .u8 kd) (.int .i64 (chN c 1 : Int)) (.int .i64 (chN c 2 : Int)) (.string (strOf pin)) ((.string ⟨#[]⟩)) (.string ⟨#[97]⟩) (X) ((chK c 3).map b8) (pkR (.int .i64 (chN c 5 : Int)) ((chK c 6).map b8)) (sg.map b8) (.slice a' ON.length c') (.int .i64 (chN c 4 : Int)) (.slice va vn vc)).toArray) (qbj Tryz.results11 rfl Tryz.underlying46 rfl (szR (qa1 lX (by rw [List.length_map]; exact qap _ _) (qar (by rw [List.length_map]; exact qap _ _)) (by rw [List.length_map, HS])) (by kernel_rfl)) (E.out.get (i := 1) rfl).range) rfl ⟨_, rfl, ⟨_, rfl, (qa1 lX (by rw [List.length_map]; exact qap _ _) (qar (by rw [List.length_map]; exact qap _ _)) (by rw [List.length_map, HS])), (qc6 rfl rfl rfl rfl rfl rfl oX (One.b8 _) (qb8 rfl (One.b8 _)) (One.b8 _) rfl rfl rfl), fun V hV => ?_⟩, E.out.bl⟩
        have hV2 := hV.mono (Nat.zero_le w.heap.size) fun _ h => h
        have hT := (E.out.tell V hV2).2.2
        have hc0 := E.out.fs V (hV.mono (Nat.le_refl _) fun _ h => by cases h)
        refine ⟨X, a', c', va, vc, ?_, hT.2, hT.1, (HF2.out V hV2).to fun m cs h => h hc0⟩
        rw [pkC_row, hvn]
        rfl
      · go_upto_region 6 with fail; refine wp_region_lit ?_
        refine qaa (qad (v := .int .i64 (j : Int)) rfl rfl) rfl ?_; (try simp only [Act.put, lyy])
        refine qaa (qad (v := .slice ao m cc) rfl rfl) rfl ?_; (try simp only [Act.put, lyy])
        refine qav (qaf qau rfl rfl rfl rfl) rfl (CN.out _ 9 E.out.bl) (fun a52 hb => ?_); (try simp only [Act.put, lyy])
        replace E := Lib.hid (E.out.below hb)
        clear hb
        refine qaa (qb9 (a := chN c 9) (b := 3) rfl rfl rfl (by omega)) rfl ?_; (try simp only [Act.put, lyy])
        refine qaa (qay (c := true) rfl rfl rfl (decide_eq_true (by omega))) rfl ?_; (try simp only [Act.put, lyy])
        refine qab ?_
        go_upto_region 8 with fail
        refine wp_region_noPanic ?_; refine qbd (S := Till 12 (fun V => Below a52.heap.size a52 V)) (by kernel_rfl) (.inr (Below.refl _ _).drew) (fun _ => ?_); have hS : Below a52.heap.size a52 a52.drew := (Below.refl _ _).drew
        have E0 := E
        replace E := Lib.hid (E.out.below hS)
        generalize a52.drew = a53 at *
        refine qao 0 rfl rfl (by kernel_rfl) (by kernel_rfl) (by kernel_rfl) (by kernel_rfl) (by kernel_rfl) (fun _ _ _ h => h) rfl (fun V hV => qai (s := 0) (k := 236) rfl Tryz.underlying46 rfl (by kernel_rfl) rfl rfl) hS ?_; (try simp only [Act.put, lyy])
        refine qao 1 rfl rfl (by kernel_rfl) (by kernel_rfl) (by kernel_rfl) (by kernel_rfl) (by kernel_rfl) (fun _ _ _ h => h) rfl (fun V hV => qam rfl Tryz.underlying44 rfl rfl (((E0.out.below hV).get (i := 0) rfl).c 236 _ (rqR_Items lX (by rw [List.length_map]; exact qap _ _) (qar (by rw [List.length_map]; exact qap _ _)) (by rw [List.length_map, HS])))) hS ?_; (try simp only [Act.put, lyy])
        refine qao 2 rfl rfl (by kernel_rfl) (by kernel_rfl) (by kernel_rfl) (by kernel_rfl) (by kernel_rfl) (fun _ _ _ h => h) rfl (fun V hV => qad (v := .slice ao m cc) rfl rfl) hS ?_; (try simp only [Act.put, lyy])
        refine qao 3 rfl rfl (by kernel_rfl) (by kernel_rfl) (by kernel_rfl) (by kernel_rfl) (by kernel_rfl) (fun _ _ _ h => h) rfl (fun V hV => qad (v := .int .i64 (j : Int)) rfl rfl) hS ?_; (try simp only [Act.put, lyy])
        refine qao 4 rfl rfl (by kernel_rfl) (by kernel_rfl) (by kernel_rfl) (by kernel_rfl) (by kernel_rfl) (fun _ _ _ h => h) rfl (fun V hV => qa6 (a := 10) (b := j) rfl rfl rfl (by omega)) hS ?_; (try simp only [Act.put, lyy])
        refine qao 6 rfl rfl (by kernel_rfl) (by kernel_rfl) (by kernel_rfl) (by kernel_rfl) (by kernel_rfl) (fun _ _ _ h => h) rfl (fun V hV => qad (v := .slice ao m cc) rfl rfl) hS ?_; (try simp only [Act.put, lyy])
        refine qao 7 rfl rfl (by kernel_rfl) (by kernel_rfl) (by kernel_rfl) (by kernel_rfl) (by kernel_rfl) (fun _ _ _ h => h) rfl (fun V hV => qad (v := .int .i64 (j : Int)) rfl rfl) hS ?_; (try simp only [Act.put, lyy])
        refine qao 8 rfl rfl (by kernel_rfl) (by kernel_rfl) (by kernel_rfl) (by kernel_rfl) (by kernel_rfl) (fun _ _ _ h => h) rfl (fun V hV => qa6 (a := 11) (b := j) rfl rfl rfl (by omega)) hS ?_; (try simp only [Act.put, lyy])
        refine qb4 5 (by kernel_rfl) rfl rfl rfl (qaf qau rfl rfl rfl rfl) (qbc (CN.out _ ((10 + j : Nat)) E.out.ev.bl)) (fun v w h => hS.trans (h.2.mono hS.size)) (fun v54 a55 hR => ?_); (try simp only [Act.put, lyy])
        obtain ⟨rfl, hb9⟩ := hR
        replace hS := hS.trans (hb9.mono hS.size)
        replace E := Lib.hid (E.out.below hb9)
        clear hb9
        refine qb4 9 (by kernel_rfl) rfl rfl rfl (qaf enters_cv10 rfl rfl rfl rfl) (CE.out _ (11 + j) E.out.ev.bl (by omega)) (fun v w h => hS.trans ((h.2).mono hS.size)) (fun v56 a57 hR => ?_); (try simp only [Act.put, lyy])
        obtain ⟨⟨Y, rfl, lY, oY, fY⟩, hb9⟩ := hR
        replace hS := hS.trans (hb9.mono hS.size)
        replace E := Lib.hid (E.out.call hb9 (H0 := fun V => Sl (.slice ao m cc) c V → evAt (chE c (11 + j)) Y V) fun V _ => fY V)
        clear hb9 fY
        refine qao 10 rfl rfl (by kernel_rfl) (by kernel_rfl) (by kernel_rfl) (by kernel_rfl) (by kernel_rfl) (fun _ _ _ h => h) rfl (fun V hV => qa7 (cells := (itR (.int .i64 (chN c ((10 + j : Nat)) : Int)) (Y)).toArray) (ps := [(0, .int .i64 (chN c ((10 + j : Nat)) : Int)), (1, .agg (Y).toArray)]) rfl rfl (itR_all rfl lY)) hS ?_; (try simp only [Act.put, lyy])
        have hml : (itR (.int .i64 (chN c ((10 + j : Nat)) : Int)) (Y)).length = 73 := (itR_len lY)
        have hmo : One (itR (.int .i64 (chN c ((10 + j : Nat)) : Int)) (Y)) := (itR_one rfl oY)
        refine qbm 11 (by kernel_rfl) rfl rfl rfl (qcg (m := itR (.int .i64 (chN c ((10 + j : Nat)) : Int)) (Y)) (z := 73) (zv := .agg ([.int .i64 0, .int .i64 0, .int .i64 0, .bool false, .int .u8 0, .int .u8 0, .int .u8 0, .int .u8 0, .int .u8 0, .int .u8 0, .int .u8 0, .int .u8 0, .int .u8 0, .int .u8 0, .int .u8 0, .int .u8 0, .int .u8 0, .int .u8 0, .int .u8 0, .int .u8 0, .int .u8 0, .int .u8 0, .int .u8 0, .int .u8 0, .int .u8 0, .int .u8 0, .int .u8 0, .int .u8 0, .int .u8 0, .int .u8 0, .int .u8 0, .int .u8 0, .int .u8 0, .int .u8 0, .int .u8 0, .int .u8 0, .int .i64 0, .int .i64 0, .int .u8 0, .int .u8 0, .int .u8 0, .int .u8 0, .int .u8 0, .int .u8 0, .int .u8 0, .int .u8 0, .int .u8 0, .int .u8 0, .int .u8 0, .int .u8 0, .int .u8 0, .int .u8 0, .int .u8 0, .int .u8 0, .int .u8 0, .int .u8 0, .int .u8 0, .int .u8 0, .int .u8 0, .int .u8 0, .int .u8 0, .int .u8 0, .int .u8 0, .int .u8 0, .int .u8 0, .int .u8 0, .int .u8 0, .int .u8 0, .int .u8 0, .int .u8 0, .int .i64 0, .int .i64 0, .slice none 0 0] : List Value).toArray) rfl Tryz.underlying44 (by kernel_rfl) rfl hml (by omega) (by omega)) (.inr (hS.alloc hS.size _)) ?_; (try simp only [Act.put, lyy])
        have A2 := Lib.hid (Arr.new a57 (itR (.int .i64 (chN c ((10 + j : Nat)) : Int)) (Y)) 102)
        replace E := Lib.hid (E.out.below ((Below.refl a57.heap.size a57).alloc (Nat.le_refl _) (.cells (itR (.int .i64 (chN c ((10 + j : Nat)) : Int)) (Y)).toArray 102)))
        generalize a57.alloc (.cells (itR (.int .i64 (chN c ((10 + j : Nat)) : Int)) (Y)).toArray 102) = b1 at *
        generalize a57.heap.size = g0 at *
        refine qc9 (t := 44) (bw := 152) (zv := .agg ([.int .i64 0, .int .i64 0, .int .i64 0, .bool false, .int .u8 0, .int .u8 0, .int .u8 0, .int .u8 0, .int .u8 0, .int .u8 0, .int .u8 0, .int .u8 0, .int .u8 0, .int .u8 0, .int .u8 0, .int .u8 0, .int .u8 0, .int .u8 0, .int .u8 0, .int .u8 0, .int .u8 0, .int .u8 0, .int .u8 0, .int .u8 0, .int .u8 0, .int .u8 0, .int .u8 0, .int .u8 0, .int .u8 0, .int .u8 0, .int .u8 0, .int .u8 0, .int .u8 0, .int .u8 0, .int .u8 0, .int .u8 0, .int .i64 0, .int .i64 0, .int .u8 0, .int .u8 0, .int .u8 0, .int .u8 0, .int .u8 0, .int .u8 0, .int .u8 0, .int .u8 0, .int .u8 0, .int .u8 0, .int .u8 0, .int .u8 0, .int .u8 0, .int .u8 0, .int .u8 0, .int .u8 0, .int .u8 0, .int .u8 0, .int .u8 0, .int .u8 0, .int .u8 0, .int .u8 0, .int .u8 0, .int .u8 0, .int .u8 0, .int .u8 0, .int .u8 0, .int .u8 0, .int .u8 0, .int .u8 0, .int .u8 0, .int .u8 0, .int .i64 0, .int .i64 0, .slice none 0 0] : List Value).toArray) (z := 73) 12 (by kernel_rfl) rfl rfl rfl rfl rfl Tryz.underlying44 (by kernel_rfl) rfl (by omega) rfl rfl A2.out.range hml hmo (by omega) (by omega) E.out (fun v7 b2 hG => ?_); (try simp only [Act.put, lyy])
        replace E := Lib.hid hG
        clear hG A2 E0 hS
        obtain ⟨ya, yn, yc, rfl⟩ := E.out.isSlice
        refine qbm 13 (by kernel_rfl) rfl rfl rfl (qai (s := 0) (k := 236) rfl Tryz.underlying46 rfl (by kernel_rfl) rfl rfl) (.inl rfl) ?_; (try simp only [Act.put, lyy])
        refine qb1 14 (by kernel_rfl) rfl rfl rfl (qb5 (v := .slice ya yn yc) rfl (by kernel_rfl) rfl rfl rfl rfl ((E.out.get (i := 0) rfl).c _ _ (rqR_Items lX (by rw [List.length_map]; exact qap _ _) (qar (by rw [List.length_map]; exact qap _ _)) (by rw [List.length_map, HS]))) ((E.out.get (i := 0) rfl).f _)) (.inl rfl) ?_
        replace E := Lib.hid (E.out.set 0 rfl (j := 0 + 236) (by have q2 : (rqR (.int .u8 kd) (.int .i64 (chN c 1 : Int)) (.int .i64 (chN c 2 : Int)) (.string (strOf pin)) ((.string ⟨#[]⟩)) (.string ⟨#[97]⟩) (X) ((chK c 3).map b8) (pkR (.int .i64 (chN c 5 : Int)) ((chK c 6).map b8)) (sg.map b8) (.slice a' ON.length c') (.int .i64 (chN c 4 : Int)) (.slice va vn vc)).length = 237 := (qa1 lX (by rw [List.length_map]; exact qap _ _) (qar (by rw [List.length_map]; exact qap _ _)) (by rw [List.length_map, HS])); omega) (.slice ya yn yc))
        simp only [List.set_cons_zero] at E
        rw [show (0 + 236 : Nat) = 236 from rfl, rqR_setItems lX (by rw [List.length_map]; exact qap _ _) (qar (by rw [List.length_map]; exact qap _ _)) (by rw [List.length_map, HS])] at E
        generalize b2.setCell ⟨g9, 0 + 236, none⟩ (.slice ya yn yc) = b3 at *
        refine qba (by kernel_rfl) ?_ _; refine NoPanic.normal ?_
        have E9 := Lib.hid (E.out.know (H0 := fun V => LR (itC (.slice ao m cc) c) (l ++ [chI c j]) (css ++ [itR (.int .i64 (chN c ((10 + j : Nat)) : Int)) (Y)]) V ∧ SlR 33 pkAt ON a' c' V ∧ lsAt LL X V) fun V h => ⟨h.2.1.snoc (fun hs => ⟨Y, rfl, h.1 hs⟩), h.2.2⟩)
        clear E
        have E := E9
        clear E9
        go_upto_region 7 with fail; refine wp_region_lit ?_
        refine qaa (qad (v := .int .i64 (j : Int)) rfl rfl) rfl ?_; (try simp only [Act.put, lyy])
        refine qaa (qa6 (a := j) (b := 1) rfl rfl rfl (by omega)) rfl ?_; (try simp only [Act.put, lyy])
        refine qaa (qak (v := .int .i64 ((j + 1 : Nat) : Int)) rfl rfl) rfl ?_; (try simp only [Act.put, lyy])
        refine qab ?_
        go_wp2_with fail
        exact ⟨⟨j + 1, l ++ [chI c j], css ++ [itR (.int .i64 (chN c ((10 + j : Nat)) : Int)) (Y)], ya, yn, yc, rfl, by rw [chIs_succ, hl], by rw [List.length_append, ← hjl]; rfl, by omega, (fun p hp => by rcases List.mem_append.1 hp with hp | hp; exact HK.out p hp; obtain rfl := List.mem_singleton.1 hp; exact hml), by rw [List.flatten_append]; simpa using E.out⟩, by simp [intOf]; omega⟩
end Go.Proofs.YtcgbgmbnagmohaaGreat
