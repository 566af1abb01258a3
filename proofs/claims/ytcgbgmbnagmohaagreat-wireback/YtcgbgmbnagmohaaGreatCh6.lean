import Derived.Test.YtcgbgmbnagmohaaGreatLy
import Derived.Test.YtcgbgmbnagmohaaGreatCh5
namespace Go.Proofs.YtcgbgmbnagmohaaGreat
open Go.RowKit
set_option maxRecDepth 20000
attribute [local irreducible] wpList
set_option maxRecDepth 20000 in
theorem rpR_ch {x0 : Value} (c0 : x0.cells = #[x0]) {x1 : List Value} (h1 : x1.length = 99) : Tryz.prog.built 54 [(0, x0), (1, .agg x1.toArray)] = some (rpR x0 x1 (List.replicate 2 (.int .i64 0) ++ List.replicate 64 (.int .u8 0) ++ List.replicate 1 (.int .i64 0) ++ List.replicate 96 (.int .u8 0) ++ List.replicate 1 (.slice none 0 0)) (.slice none 0 0)).toArray := by
  have q0 : (Tryz.prog.info? 54).map (·.zero) = some (some (.agg ([.int .u16 0] ++ (List.replicate 2 (.int .i64 0) ++ List.replicate 32 (.int .u8 0) ++ List.replicate 1 (.slice none 0 0) ++ List.replicate 64 (.int .u8 0)) ++ (List.replicate 2 (.int .i64 0) ++ List.replicate 64 (.int .u8 0) ++ List.replicate 1 (.int .i64 0) ++ List.replicate 96 (.int .u8 0) ++ List.replicate 1 (.slice none 0 0)) ++ [.slice none 0 0] : List Value).toArray)) := by kernel_rfl
  obtain ⟨it, q1, q2⟩ := Option.map_eq_some_iff.1 q0
  have h := qbz (places := [(0, 1), (1, 99), (100, 164), (264, 1)]) q1 Tryz.underlying54 q2 (by kernel_rfl) [.part 0 x0 [.int .u16 0], .part 1 (.agg x1.toArray) (List.replicate 2 (.int .i64 0) ++ List.replicate 32 (.int .u8 0) ++ List.replicate 1 (.slice none 0 0) ++ List.replicate 64 (.int .u8 0)), .gap (List.replicate 2 (.int .i64 0) ++ List.replicate 64 (.int .u8 0) ++ List.replicate 1 (.int .i64 0) ++ List.replicate 96 (.int .u8 0) ++ List.replicate 1 (.slice none 0 0)), .gap [.slice none 0 0]] (by kernel_rfl) (by simp [Seg.Ok, qbl, c0, h1])
  rw [show Seg.told _ = [(0, x0), (1, .agg x1.toArray)] from rfl] at h
  rw [h]
  simp [Seg.out, rpR, qbl, c0]
def chMs (c : List (BitVec 8)) (n : Nat) : List MEv := (List.range n).map fun i => chE c (8 + i)
theorem chMs_len (c : List (BitVec 8)) (n : Nat) : (chMs c n).length = n := by simp [chMs]
theorem chMs_succ (c : List (BitVec 8)) (n : Nat) : chMs c (n + 1) = chMs c n ++ [chE c (8 + n)] := by simp [chMs, List.range_succ]
def evC9 (v : Value) (c : List (BitVec 8)) (m : MEv) (cs : List Value) (V : World) : Prop := Sl v c V → evAt m cs V
def chRp (c : List (BitVec 8)) : MRp := ⟨((chN c 0 % 60 : Nat) : Int), chL c, ⟨chN c 1, chN c 2, chK c 3, chK c 4, ⟨chN c 5, List.replicate 32 0⟩, List.replicate 64 0, chPs c 6 (chN c 6 % 4)⟩, chMs c (chN c 7 % 3)⟩
theorem enters_cs10 : Enters 13 := qan Tryz.func13 (by kernel_rfl) rfl
set_option maxHeartbeats 16000000 in
theorem chRp_any (ao : Option Addr) (c : List (BitVec 8)) (cc : Nat) (w : World) (hc : Sl (.slice ao c.length cc) c w) : Calls Tryz.prog 13 #[.slice ao c.length cc] w fun r w' => ∃ v', r = .returned v' ∧ ((∃ X : List Value, v' = .agg X.toArray ∧ X.length = 265 ∧ One X ∧ Fro 0 (rpAt (chRp c) X) w') ∧ Below w.heap.size w w') := by
  have CN := chKC c w ao cc hc
  have CK := chKK c w ao cc hc
  have CL : Hid (∀ u, Since w u → Calls Tryz.prog 7 #[.slice ao c.length cc] u fun r w' => ∃ v', r = .returned v' ∧ ((∃ X : List Value, v' = .agg X.toArray ∧ X.length = 99 ∧ One X ∧ Fro u.heap.size (lsAt (chL c) X) w') ∧ Below u.heap.size u w')) := Lib.hid fun u hu => chL_any ao c cc u (hc.below hu)
  have CP : Hid (∀ u, Since w u → Calls Tryz.prog 48 #[.slice ao c.length cc, .int .i64 6] u fun r w' => ∃ v', r = .returned v' ∧ ((∃ a' c', v' = .slice a' (chPs c 6 (chN c 6 % 4)).length c' ∧ Fro u.heap.size (SlR 33 pkAt (chPs c 6 (chN c 6 % 4)) a' c') w') ∧ Below u.heap.size u w')) := Lib.hid fun u hu => chPs_any ao c cc 6 u (hc.below hu) (by omega)
  have CE : Hid (∀ (u : World) (k : Nat), Since w u → k ≤ 100000 → Calls Tryz.prog 9 #[.slice ao c.length cc, .int .i64 (k : Int)] u fun r w' => ∃ v', r = .returned v' ∧ ((∃ X : List Value, v' = .agg X.toArray ∧ X.length = 72 ∧ One X ∧ ∀ V, Sl (.slice ao c.length cc) c V → evAt (chE c k) X V) ∧ Below u.heap.size u w')) := Lib.hid fun u k hu hk => chE_anyC ao c cc k u (hc.below hu) hk
  have EC : Hid (chRp c = ⟨((chN c 0 % 60 : Nat) : Int), chL c, ⟨chN c 1, chN c 2, chK c 3, chK c 4, ⟨chN c 5, List.replicate 32 0⟩, List.replicate 64 0, chPs c 6 (chN c 6 % 4)⟩, chMs c (chN c 7 % 3)⟩) := Lib.hid rfl
  have hkd : (0 : Int) ≤ ((chN c 0 % 60 : Nat) : Int) ∧ ((chN c 0 % 60 : Nat) : Int) ≤ 255 := by omega
  have E := Lib.hid (Ev.start (w := w) (F := fun V => Sl (.slice ao c.length cc) c V) fun V hV => hc.ext hV)
  clear hc
  generalize chRp c = mm at *
  generalize chL c = LL at *
  generalize chPs c 6 (chN c 6 % 4) = ON at *
  generalize hkk : ((chN c 0 % 60 : Nat) : Int) = er at *
  have HKK := Lib.hid hkk
  clear hkk
  generalize c.length = m at *
  have EP : Hid (Tryz.prog.built 42 [(0, .int .i64 (chN c 5 : Int))] = some (pkR (.int .i64 (chN c 5 : Int)) (z8 32)).toArray) := Lib.hid (by kernel_rfl)
  have EU : Hid (∀ (a' : Option Addr) (c' : Nat), Tryz.prog.built 51 [(0, .int .i64 (chN c 1 : Int)), (1, .int .i64 (chN c 2 : Int)), (2, .agg ((chK c 3).map b8).toArray), (3, .agg ((chK c 4).map b8).toArray), (4, .agg (pkR (.int .i64 (chN c 5 : Int)) (z8 32)).toArray), (6, .slice a' ON.length c')] = some (buR (.int .i64 (chN c 1 : Int)) (.int .i64 (chN c 2 : Int)) ((chK c 3).map b8) ((chK c 4).map b8) (pkR (.int .i64 (chN c 5 : Int)) (z8 32)) (z8 64) (.slice a' ON.length c')).toArray) := Lib.hid fun a' c' => by kernel_rfl
  have EB : Hid (∀ X : List Value, X.length = 99 → Tryz.prog.built 54 [(0, .int .u16 er), (1, .agg X.toArray)] = some (rpR (.int .u16 er) (X) (buR ((.int .i64 0)) ((.int .i64 0)) (z8 32) (z8 32) (pkR ((.int .i64 0)) (z8 32)) (z8 64) ((.slice none 0 0))) (.slice none 0 0)).toArray) := Lib.hid fun X hX => by
    have h := rpR_ch (x0 := .int .u16 er) rfl hX
    unfold buR pkR z8
    exact h
  go_enter Tryz.func13, Tryz.ntmps13
  go_upto_region 0 with fail; refine wp_region_lit ?_
  refine qaa (qa3 (vs := rpR ((.int .u16 0)) (lsR ((.int .i64 0)) ((.int .i64 0)) (z8 32) ((.slice none 0 0)) (z8 64)) (buR ((.int .i64 0)) ((.int .i64 0)) (z8 32) (z8 32) (pkR ((.int .i64 0)) (z8 32)) (z8 64) ((.slice none 0 0))) ((.slice none 0 0))) rfl (by kernel_rfl)) rfl ?_; (try simp only [Act.put, lyy])
  replace E := Lib.hid (E.out.new (rpR ((.int .u16 0)) (lsR ((.int .i64 0)) ((.int .i64 0)) (z8 32) ((.slice none 0 0)) (z8 64)) (buR ((.int .i64 0)) ((.int .i64 0)) (z8 32) (z8 32) (pkR ((.int .i64 0)) (z8 32)) (z8 64) ((.slice none 0 0))) ((.slice none 0 0))) 54)
  generalize w.alloc (.cells (rpR ((.int .u16 0)) (lsR ((.int .i64 0)) ((.int .i64 0)) (z8 32) ((.slice none 0 0)) (z8 64)) (buR ((.int .i64 0)) ((.int .i64 0)) (z8 32) (z8 32) (pkR ((.int .i64 0)) (z8 32)) (z8 64) ((.slice none 0 0))) ((.slice none 0 0))).toArray 54) = a1 at *
  generalize w.heap.size = g2 at *
  refine qab ?_
  go_upto_region 1 with fail; refine wp_region_lit ?_
  refine qaa (qad (v := .slice ao m cc) rfl rfl) rfl ?_; (try simp only [Act.put, lyy])
  refine qav (qaf qau rfl rfl rfl rfl) rfl (CN.out _ 0 E.out.bl) (fun a3 hb => ?_); (try simp only [Act.put, lyy])
  replace E := Lib.hid (E.out.below hb)
  clear hb
  refine qaa (qb9 (a := chN c 0) (b := 60) rfl rfl rfl (by omega)) rfl ?_; (try simp only [Act.put, lyy])
  refine qaa (run_cvu16 rfl (by rw [← HKK.out]; rfl) hkd.1 hkd.2) rfl ?_; (try simp only [Act.put, lyy])
  refine qaa (qad (v := .slice ao m cc) rfl rfl) rfl ?_; (try simp only [Act.put, lyy])
  refine qag (qaq qcs rfl rfl rfl) rfl (CL.out _ E.out.bl) (fun v5 a4 hR => ?_); (try simp only [Act.put, lyy])
  obtain ⟨⟨X, rfl, lX, oX, fX⟩, hb7⟩ := hR
  replace E := Lib.hid (E.out.call hb7 fX)
  clear fX hb7
  refine qaa (qa7 (ps := [(0, .int .u16 er), (1, .agg X.toArray)]) rfl rfl (EB.out X lX)) rfl ?_; (try simp only [Act.put, lyy])
  refine qaa (qa3 (vs := rpR ((.int .u16 0)) (lsR ((.int .i64 0)) ((.int .i64 0)) (z8 32) ((.slice none 0 0)) (z8 64)) (buR ((.int .i64 0)) ((.int .i64 0)) (z8 32) (z8 32) (pkR ((.int .i64 0)) (z8 32)) (z8 64) ((.slice none 0 0))) ((.slice none 0 0))) rfl (by kernel_rfl)) rfl ?_; (try simp only [Act.put, lyy])
  replace E := Lib.hid (E.out.new (rpR ((.int .u16 0)) (lsR ((.int .i64 0)) ((.int .i64 0)) (z8 32) ((.slice none 0 0)) (z8 64)) (buR ((.int .i64 0)) ((.int .i64 0)) (z8 32) (z8 32) (pkR ((.int .i64 0)) (z8 32)) (z8 64) ((.slice none 0 0))) ((.slice none 0 0))) 54)
  generalize a4.alloc (.cells (rpR ((.int .u16 0)) (lsR ((.int .i64 0)) ((.int .i64 0)) (z8 32) ((.slice none 0 0)) (z8 64)) (buR ((.int .i64 0)) ((.int .i64 0)) (z8 32) (z8 32) (pkR ((.int .i64 0)) (z8 32)) (z8 64) ((.slice none 0 0))) ((.slice none 0 0))).toArray 54) = a6 at *
  generalize a4.heap.size = g7 at *
  refine qal (qa0 (vs := rpR (.int .u16 er) (X) (buR ((.int .i64 0)) ((.int .i64 0)) (z8 32) (z8 32) (pkR ((.int .i64 0)) (z8 32)) (z8 64) ((.slice none 0 0))) (.slice none 0 0)) rfl (szR (qbo lX (qbg (qac 32) (qac 32) (qar (qac 32)) (qac 64))) (by kernel_rfl)) rfl rfl (One.all (rpR_one rfl oX (buR_one rfl rfl (One.b8 _) (One.b8 _) (qb8 rfl (One.b8 _)) (One.b8 _) rfl) rfl)) ((E.out.get (i := 0) rfl).thereM (by have q1 : (rpR (.int .u16 er) (X) (buR ((.int .i64 0)) ((.int .i64 0)) (z8 32) (z8 32) (pkR ((.int .i64 0)) (z8 32)) (z8 64) ((.slice none 0 0))) (.slice none 0 0)).length = 265 := (qbo lX (qbg (qac 32) (qac 32) (qar (qac 32)) (qac 64))); have q2 : (rpR ((.int .u16 0)) (lsR ((.int .i64 0)) ((.int .i64 0)) (z8 32) ((.slice none 0 0)) (z8 64)) (buR ((.int .i64 0)) ((.int .i64 0)) (z8 32) (z8 32) (pkR ((.int .i64 0)) (z8 32)) (z8 64) ((.slice none 0 0))) ((.slice none 0 0))).length = 265 := (qbo (qas (qac 32) (qac 64)) (qbg (qac 32) (qac 32) (qar (qac 32)) (qac 64))); omega))) rfl rfl ?_
  replace E := Lib.hid (E.out.put 0 rfl (m := rpR (.int .u16 er) (X) (buR ((.int .i64 0)) ((.int .i64 0)) (z8 32) (z8 32) (pkR ((.int .i64 0)) (z8 32)) (z8 64) ((.slice none 0 0))) (.slice none 0 0)) ((show (rpR (.int .u16 er) (X) (buR ((.int .i64 0)) ((.int .i64 0)) (z8 32) (z8 32) (pkR ((.int .i64 0)) (z8 32)) (z8 64) ((.slice none 0 0))) (.slice none 0 0)).length = 265 from (qbo lX (qbg (qac 32) (qac 32) (qar (qac 32)) (qac 64)))).trans (show (rpR ((.int .u16 0)) (lsR ((.int .i64 0)) ((.int .i64 0)) (z8 32) ((.slice none 0 0)) (z8 64)) (buR ((.int .i64 0)) ((.int .i64 0)) (z8 32) (z8 32) (pkR ((.int .i64 0)) (z8 32)) (z8 64) ((.slice none 0 0))) ((.slice none 0 0))).length = 265 from (qbo (qas (qac 32) (qac 64)) (qbg (qac 32) (qac 32) (qar (qac 32)) (qac 64)))).symm))
  generalize a6.setCells g7 0 (rpR (.int .u16 er) (X) (buR ((.int .i64 0)) ((.int .i64 0)) (z8 32) (z8 32) (pkR ((.int .i64 0)) (z8 32)) (z8 64) ((.slice none 0 0))) (.slice none 0 0)) = a8 at *
  replace E := Lib.hid (show Ev _ [(g7, rpR (.int .u16 er) (X) (buR ((.int .i64 0)) ((.int .i64 0)) (z8 32) (z8 32) (pkR ((.int .i64 0)) (z8 32)) (z8 64) ((.slice none 0 0))) (.slice none 0 0)), (g2, rpR ((.int .u16 0)) (lsR ((.int .i64 0)) ((.int .i64 0)) (z8 32) ((.slice none 0 0)) (z8 64)) (buR ((.int .i64 0)) ((.int .i64 0)) (z8 32) (z8 32) (pkR ((.int .i64 0)) (z8 32)) (z8 64) ((.slice none 0 0))) ((.slice none 0 0)))] _ _ _ a8 from E.out)
  refine qab ?_
  go_upto_region 2 with fail; refine wp_region_lit ?_
  refine qaa (qad (v := .slice ao m cc) rfl rfl) rfl ?_; (try simp only [Act.put, lyy])
  refine qav (qaf qau rfl rfl rfl rfl) rfl (CN.out _ 1 E.out.bl) (fun a9 hb => ?_); (try simp only [Act.put, lyy])
  replace E := Lib.hid (E.out.below hb)
  clear hb
  refine qaa (qad (v := .slice ao m cc) rfl rfl) rfl ?_; (try simp only [Act.put, lyy])
  refine qav (qaf qau rfl rfl rfl rfl) rfl (CN.out _ 2 E.out.bl) (fun a10 hb => ?_); (try simp only [Act.put, lyy])
  replace E := Lib.hid (E.out.below hb)
  clear hb
  refine qaa (qad (v := .slice ao m cc) rfl rfl) rfl ?_; (try simp only [Act.put, lyy])
  refine qav (qaf qbx rfl rfl rfl rfl) rfl (CK.out _ 3 E.out.bl) (fun a11 hb => ?_); (try simp only [Act.put, lyy])
  replace E := Lib.hid (E.out.below hb)
  clear hb
  refine qaa (qad (v := .slice ao m cc) rfl rfl) rfl ?_; (try simp only [Act.put, lyy])
  refine qav (qaf qbx rfl rfl rfl rfl) rfl (CK.out _ 4 E.out.bl) (fun a12 hb => ?_); (try simp only [Act.put, lyy])
  replace E := Lib.hid (E.out.below hb)
  clear hb
  refine qaa (qad (v := .slice ao m cc) rfl rfl) rfl ?_; (try simp only [Act.put, lyy])
  refine qav (qaf qau rfl rfl rfl rfl) rfl (CN.out _ 5 E.out.bl) (fun a13 hb => ?_); (try simp only [Act.put, lyy])
  replace E := Lib.hid (E.out.below hb)
  clear hb
  refine qaa (qa7 (ps := [(0, .int .i64 (chN c 5 : Int))]) rfl rfl EP.out) rfl ?_; (try simp only [Act.put, lyy])
  refine qaa (qad (v := .slice ao m cc) rfl rfl) rfl ?_; (try simp only [Act.put, lyy])
  refine qag (qaf enters_cp10 rfl rfl rfl rfl) rfl (CP.out _ E.out.bl) (fun v15 a14 hR => ?_); (try simp only [Act.put, lyy])
  obtain ⟨⟨a', c', rfl, hF⟩, hb7⟩ := hR
  replace E := Lib.hid (E.out.call hb7 hF)
  clear hF hb7
  refine qaa (qa7 (ps := [(0, .int .i64 (chN c 1 : Int)), (1, .int .i64 (chN c 2 : Int)), (2, .agg ((chK c 3).map b8).toArray), (3, .agg ((chK c 4).map b8).toArray), (4, .agg (pkR (.int .i64 (chN c 5 : Int)) (z8 32)).toArray), (6, .slice a' ON.length c')]) rfl rfl (EU.out a' c')) rfl ?_; (try simp only [Act.put, lyy])
  refine qaa (qai (s := 163) (k := 100) rfl Tryz.underlying54 rfl (by kernel_rfl) rfl rfl) rfl ?_; (try simp only [Act.put, lyy])
  refine qal (qa0 (vs := buR (.int .i64 (chN c 1 : Int)) (.int .i64 (chN c 2 : Int)) ((chK c 3).map b8) ((chK c 4).map b8) (pkR (.int .i64 (chN c 5 : Int)) (z8 32)) (z8 64) (.slice a' ON.length c')) rfl (szR (qbg (by rw [List.length_map]; exact qap _ _) (by rw [List.length_map]; exact qap _ _) (qar (qac 32)) (qac 64)) (by kernel_rfl)) rfl rfl (One.all (buR_one rfl rfl (One.b8 _) (One.b8 _) (qb8 rfl (One.b8 _)) (One.b8 _) rfl)) ((E.out.get (i := 0) rfl).thereM (by have q1 : (buR (.int .i64 (chN c 1 : Int)) (.int .i64 (chN c 2 : Int)) ((chK c 3).map b8) ((chK c 4).map b8) (pkR (.int .i64 (chN c 5 : Int)) (z8 32)) (z8 64) (.slice a' ON.length c')).length = 164 := (qbg (by rw [List.length_map]; exact qap _ _) (by rw [List.length_map]; exact qap _ _) (qar (qac 32)) (qac 64)); have q2 : (rpR (.int .u16 er) (X) (buR ((.int .i64 0)) ((.int .i64 0)) (z8 32) (z8 32) (pkR ((.int .i64 0)) (z8 32)) (z8 64) ((.slice none 0 0))) (.slice none 0 0)).length = 265 := (qbo lX (qbg (qac 32) (qac 32) (qar (qac 32)) (qac 64))); omega))) rfl rfl ?_
  replace E := Lib.hid (E.out.mid 0 rfl (f := 100) (m := buR (.int .i64 (chN c 1 : Int)) (.int .i64 (chN c 2 : Int)) ((chK c 3).map b8) ((chK c 4).map b8) (pkR (.int .i64 (chN c 5 : Int)) (z8 32)) (z8 64) (.slice a' ON.length c')) (by have q1 : (buR (.int .i64 (chN c 1 : Int)) (.int .i64 (chN c 2 : Int)) ((chK c 3).map b8) ((chK c 4).map b8) (pkR (.int .i64 (chN c 5 : Int)) (z8 32)) (z8 64) (.slice a' ON.length c')).length = 164 := (qbg (by rw [List.length_map]; exact qap _ _) (by rw [List.length_map]; exact qap _ _) (qar (qac 32)) (qac 64)); have q2 : (rpR (.int .u16 er) (X) (buR ((.int .i64 0)) ((.int .i64 0)) (z8 32) (z8 32) (pkR ((.int .i64 0)) (z8 32)) (z8 64) ((.slice none 0 0))) (.slice none 0 0)).length = 265 := (qbo lX (qbg (qac 32) (qac 32) (qar (qac 32)) (qac 64))); omega))
  rw [show (rpR (.int .u16 er) (X) (buR ((.int .i64 0)) ((.int .i64 0)) (z8 32) (z8 32) (pkR ((.int .i64 0)) (z8 32)) (z8 64) ((.slice none 0 0))) (.slice none 0 0)).take 100 ++ (buR (.int .i64 (chN c 1 : Int)) (.int .i64 (chN c 2 : Int)) ((chK c 3).map b8) ((chK c 4).map b8) (pkR (.int .i64 (chN c 5 : Int)) (z8 32)) (z8 64) (.slice a' ON.length c') ++ (rpR (.int .u16 er) (X) (buR ((.int .i64 0)) ((.int .i64 0)) (z8 32) (z8 32) (pkR ((.int .i64 0)) (z8 32)) (z8 64) ((.slice none 0 0))) (.slice none 0 0)).drop (100 + (buR (.int .i64 (chN c 1 : Int)) (.int .i64 (chN c 2 : Int)) ((chK c 3).map b8) ((chK c 4).map b8) (pkR (.int .i64 (chN c 5 : Int)) (z8 32)) (z8 64) (.slice a' ON.length c')).length)) = rpR (.int .u16 er) (X) (buR (.int .i64 (chN c 1 : Int)) (.int .i64 (chN c 2 : Int)) ((chK c 3).map b8) ((chK c 4).map b8) (pkR (.int .i64 (chN c 5 : Int)) (z8 32)) (z8 64) (.slice a' ON.length c')) (.slice none 0 0) from (rpR_setBundle lX (qbg (qac 32) (qac 32) (qar (qac 32)) (qac 64)) (qbg (by rw [List.length_map]; exact qap _ _) (by rw [List.length_map]; exact qap _ _) (qar (qac 32)) (qac 64)))] at E
  generalize a14.setCells g7 100 (buR (.int .i64 (chN c 1 : Int)) (.int .i64 (chN c 2 : Int)) ((chK c 3).map b8) ((chK c 4).map b8) (pkR (.int .i64 (chN c 5 : Int)) (z8 32)) (z8 64) (.slice a' ON.length c')) = a16 at *
  replace E := Lib.hid (show Ev _ [(g7, rpR (.int .u16 er) (X) (buR (.int .i64 (chN c 1 : Int)) (.int .i64 (chN c 2 : Int)) ((chK c 3).map b8) ((chK c 4).map b8) (pkR (.int .i64 (chN c 5 : Int)) (z8 32)) (z8 64) (.slice a' ON.length c')) (.slice none 0 0)), (g2, rpR ((.int .u16 0)) (lsR ((.int .i64 0)) ((.int .i64 0)) (z8 32) ((.slice none 0 0)) (z8 64)) (buR ((.int .i64 0)) ((.int .i64 0)) (z8 32) (z8 32) (pkR ((.int .i64 0)) (z8 32)) (z8 64) ((.slice none 0 0))) ((.slice none 0 0)))] _ _ _ a16 from E.out)
  refine qab ?_
  go_upto_region 3 with fail; refine wp_region_lit ?_
  refine qaa (qak (v := .int .i64 0) rfl rfl) rfl ?_; (try simp only [Act.put, lyy])
  refine qab ?_
  replace E := Lib.hid ((Gw.start E.out 38 72).know (H0 := fun V => LR (evC9 (.slice ao m cc) c) [] [] V ∧ SlR 33 pkAt ON a' c' V ∧ lsAt LL X V) fun V h => ⟨LR.nil V, h.1, h.2.1⟩)
  go_wp2_with fail
  go_loopw [4] (fun s4 u => ∃ (j : Nat) (l : List MEv) (css : List (List Value)) (va : Option Addr) (vn vc : Nat), s4 = .int .i64 (j : Int) ∧ l = chMs c j ∧ j = l.length ∧ j ≤ chN c 7 % 3 ∧ (∀ p ∈ css, p.length = 72) ∧ Gw w [(g7, rpR (.int .u16 er) (X) (buR (.int .i64 (chN c 1 : Int)) (.int .i64 (chN c 2 : Int)) ((chK c 3).map b8) ((chK c 4).map b8) (pkR (.int .i64 (chN c 5 : Int)) (z8 32)) (z8 64) (.slice a' ON.length c')) (.slice va vn vc)), (g2, rpR ((.int .u16 0)) (lsR ((.int .i64 0)) ((.int .i64 0)) (z8 32) ((.slice none 0 0)) (z8 64)) (buR ((.int .i64 0)) ((.int .i64 0)) (z8 32) (z8 32) (pkR ((.int .i64 0)) (z8 32)) (z8 64) ((.slice none 0 0))) ((.slice none 0 0)))] 38 72 (.slice va vn vc) j css.flatten (fun V => Sl (.slice ao m cc) c V) (fun V => LR (evC9 (.slice ao m cc) c) l css V ∧ SlR 33 pkAt ON a' c' V ∧ lsAt LL X V) u) (fun s4 _ => (((chN c 7 % 3 : Nat) : Int) - intOf s4).toNat)
  case atStart => exact ⟨0, [], [], none, 0, 0, rfl, rfl, rfl, by omega, (fun _ h => by cases h), E.out⟩
  case round =>
    obtain ⟨j, l, css, va, vn, vc, rfl, hl, hjl, hj, hq, hJ⟩ := hrel
    replace E := Lib.hid hJ
    have HK := Lib.hid hq
    clear hJ hq
    by_cases hjn : j = chN c 7 % 3
    · go_upto_region 4 with fail; refine wp_region_lit ?_
      refine qaa (qad (v := .int .i64 (j : Int)) rfl rfl) rfl ?_; (try simp only [Act.put, lyy])
      refine qaa (qad (v := .slice ao m cc) rfl rfl) rfl ?_; (try simp only [Act.put, lyy])
      refine qav (qaf qau rfl rfl rfl rfl) rfl (CN.out _ 7 E.out.bl) (fun a17 hb => ?_); (try simp only [Act.put, lyy])
      replace E := Lib.hid (E.out.below hb)
      clear hb
      refine qaa (qb9 (a := chN c 7) (b := 3) rfl rfl rfl (by omega)) rfl ?_; (try simp only [Act.put, lyy])
      refine qaa (qay (c := false) rfl rfl rfl (decide_eq_false (by omega))) rfl ?_; (try simp only [Act.put, lyy])
      refine qab ?_
      have E1 := Lib.hid E.out.done
      clear E
      have E := E1
      clear E1
      go_upto_region 7 with fail; refine wp_region_lit ?_
      refine qaa (qat (vs := rpR (.int .u16 er) (X) (buR (.int .i64 (chN c 1 : Int)) (.int .i64 (chN c 2 : Int)) ((chK c 3).map b8) ((chK c 4).map b8) (pkR (.int .i64 (chN c 5 : Int)) (z8 32)) (z8 64) (.slice a' ON.length c')) (.slice va vn vc)) rfl Tryz.underlying54 rfl (szR (qbo lX (qbg (by rw [List.length_map]; exact qap _ _) (by rw [List.length_map]; exact qap _ _) (qar (qac 32)) (qac 64))) (by kernel_rfl)) rfl (E.out.get (i := 0) rfl).range) rfl ?_; (try simp only [Act.put, lyy])
      refine qal (qa0 (vs := rpR (.int .u16 er) (X) (buR (.int .i64 (chN c 1 : Int)) (.int .i64 (chN c 2 : Int)) ((chK c 3).map b8) ((chK c 4).map b8) (pkR (.int .i64 (chN c 5 : Int)) (z8 32)) (z8 64) (.slice a' ON.length c')) (.slice va vn vc)) rfl (szR (qbo lX (qbg (by rw [List.length_map]; exact qap _ _) (by rw [List.length_map]; exact qap _ _) (qar (qac 32)) (qac 64))) (by kernel_rfl)) rfl rfl (One.all (rpR_one rfl oX (buR_one rfl rfl (One.b8 _) (One.b8 _) (qb8 rfl (One.b8 _)) (One.b8 _) rfl) rfl)) ((E.out.get (i := 1) rfl).thereM (by have q1 : (rpR (.int .u16 er) (X) (buR (.int .i64 (chN c 1 : Int)) (.int .i64 (chN c 2 : Int)) ((chK c 3).map b8) ((chK c 4).map b8) (pkR (.int .i64 (chN c 5 : Int)) (z8 32)) (z8 64) (.slice a' ON.length c')) (.slice va vn vc)).length = 265 := (qbo lX (qbg (by rw [List.length_map]; exact qap _ _) (by rw [List.length_map]; exact qap _ _) (qar (qac 32)) (qac 64))); have q2 : (rpR ((.int .u16 0)) (lsR ((.int .i64 0)) ((.int .i64 0)) (z8 32) ((.slice none 0 0)) (z8 64)) (buR ((.int .i64 0)) ((.int .i64 0)) (z8 32) (z8 32) (pkR ((.int .i64 0)) (z8 32)) (z8 64) ((.slice none 0 0))) ((.slice none 0 0))).length = 265 := (qbo (qas (qac 32) (qac 64)) (qbg (qac 32) (qac 32) (qar (qac 32)) (qac 64))); omega))) rfl rfl ?_
      replace E := Lib.hid (E.out.put 1 rfl (m := rpR (.int .u16 er) (X) (buR (.int .i64 (chN c 1 : Int)) (.int .i64 (chN c 2 : Int)) ((chK c 3).map b8) ((chK c 4).map b8) (pkR (.int .i64 (chN c 5 : Int)) (z8 32)) (z8 64) (.slice a' ON.length c')) (.slice va vn vc)) ((show (rpR (.int .u16 er) (X) (buR (.int .i64 (chN c 1 : Int)) (.int .i64 (chN c 2 : Int)) ((chK c 3).map b8) ((chK c 4).map b8) (pkR (.int .i64 (chN c 5 : Int)) (z8 32)) (z8 64) (.slice a' ON.length c')) (.slice va vn vc)).length = 265 from (qbo lX (qbg (by rw [List.length_map]; exact qap _ _) (by rw [List.length_map]; exact qap _ _) (qar (qac 32)) (qac 64)))).trans (show (rpR ((.int .u16 0)) (lsR ((.int .i64 0)) ((.int .i64 0)) (z8 32) ((.slice none 0 0)) (z8 64)) (buR ((.int .i64 0)) ((.int .i64 0)) (z8 32) (z8 32) (pkR ((.int .i64 0)) (z8 32)) (z8 64) ((.slice none 0 0))) ((.slice none 0 0))).length = 265 from (qbo (qas (qac 32) (qac 64)) (qbg (qac 32) (qac 32) (qar (qac 32)) (qac 64)))).symm))
      generalize a17.setCells g2 0 (rpR (.int .u16 er) (X) (buR (.int .i64 (chN c 1 : Int)) (.int .i64 (chN c 2 : Int)) ((chK c 3).map b8) ((chK c 4).map b8) (pkR (.int .i64 (chN c 5 : Int)) (z8 32)) (z8 64) (.slice a' ON.length c')) (.slice va vn vc)) = a18 at *
      replace E := Lib.hid (show Ev _ [(g7, rpR (.int .u16 er) (X) (buR (.int .i64 (chN c 1 : Int)) (.int .i64 (chN c 2 : Int)) ((chK c 3).map b8) ((chK c 4).map b8) (pkR (.int .i64 (chN c 5 : Int)) (z8 32)) (z8 64) (.slice a' ON.length c')) (.slice va vn vc)), (g2, rpR (.int .u16 er) (X) (buR (.int .i64 (chN c 1 : Int)) (.int .i64 (chN c 2 : Int)) ((chK c 3).map b8) ((chK c 4).map b8) (pkR (.int .i64 (chN c 5 : Int)) (z8 32)) (z8 64) (.slice a' ON.length c')) (.slice va vn vc))] _ _ _ a18 from E.out)
      refine qab ?_
      have HF : Hid (Fro w.heap.size (fun V => ∃ a' c', (.slice va vn vc : Value) = .slice a' l.length c' ∧ SlR 72 (evC9 (.slice ao m cc) c) l a' c' V) a18) := Lib.hid fun V hV => qc5 (E.out.tell V hV).1 hjl (E.out.tell V hV).2.1.1 HK.out (E.out.tell V hV).2.1.2
      obtain ⟨a2, c2, hv6, hS0⟩ := HF.out.now
      simp only [Value.slice.injEq] at hv6
      obtain ⟨-, hvn, -⟩ := hv6
      have HF2 : Hid (Fro w.heap.size (SlR 72 (evC9 (.slice ao m cc) c) l va vc) a18) := Lib.hid fun V hV => by
        obtain ⟨a2, c2, h1, h2⟩ := HF.out V hV
        simp only [Value.slice.injEq] at h1
        obtain ⟨rfl, _, rfl⟩ := h1
        exact h2
      have hL : chMs c (chN c 7 % 3) = l := by rw [← hjn]; exact hl.symm
      have hmm := EC.out
      rw [hL] at hmm
      subst hmm
      go_wp2_with fail
      refine bodyPost_ret (v := .agg (rpR (.int .u16 er) (X) (buR (.int .i64 (chN c 1 : Int)) (.int .i64 (chN c 2 : Int)) ((chK c 3).map b8) ((chK c 4).map b8) (pkR (.int .i64 (chN c 5 : Int)) (z8 32)) (z8 64) (.slice a' ON.length c')) (.slice va vn vc)).toArray) (qbj Tryz.results13 rfl Tryz.underlying54 rfl (szR (qbo lX (qbg (by rw [List.length_map]; exact qap _ _) (by rw [List.length_map]; exact qap _ _) (qar (qac 32)) (qac 64))) (by kernel_rfl)) (E.out.get (i := 1) rfl).range) rfl ⟨_, rfl, ⟨_, rfl, (qbo lX (qbg (by rw [List.length_map]; exact qap _ _) (by rw [List.length_map]; exact qap _ _) (qar (qac 32)) (qac 64))), (rpR_one rfl oX (buR_one rfl rfl (One.b8 _) (One.b8 _) (qb8 rfl (One.b8 _)) (One.b8 _) rfl) rfl), fun V hV => ?_⟩, E.out.bl⟩
      have hV2 := hV.mono (Nat.zero_le w.heap.size) fun _ h => h
      have hT := (E.out.tell V hV2).2.2
      have hc0 := E.out.fs V (hV.mono (Nat.le_refl _) fun _ h => by cases h)
      refine ⟨X, _, va, vc, ?_, hT.2, ⟨a', c', rfl, hT.1⟩, (HF2.out V hV2).to fun m cs h => h hc0⟩
      rw [pkC_row, hvn]
      rfl
    · go_upto_region 4 with fail; refine wp_region_lit ?_
      refine qaa (qad (v := .int .i64 (j : Int)) rfl rfl) rfl ?_; (try simp only [Act.put, lyy])
      refine qaa (qad (v := .slice ao m cc) rfl rfl) rfl ?_; (try simp only [Act.put, lyy])
      refine qav (qaf qau rfl rfl rfl rfl) rfl (CN.out _ 7 E.out.bl) (fun a17 hb => ?_); (try simp only [Act.put, lyy])
      replace E := Lib.hid (E.out.below hb)
      clear hb
      refine qaa (qb9 (a := chN c 7) (b := 3) rfl rfl rfl (by omega)) rfl ?_; (try simp only [Act.put, lyy])
      refine qaa (qay (c := true) rfl rfl rfl (decide_eq_true (by omega))) rfl ?_; (try simp only [Act.put, lyy])
      refine qab ?_
      go_upto_region 6 with fail
      refine wp_region_noPanic ?_; refine qbd (S := Till 7 (fun V => Below a17.heap.size a17 V)) (by kernel_rfl) (.inr (Below.refl _ _).drew) (fun _ => ?_); have hS : Below a17.heap.size a17 a17.drew := (Below.refl _ _).drew
      have E0 := E
      replace E := Lib.hid (E.out.below hS)
      generalize a17.drew = a18 at *
      refine qao 0 rfl rfl (by kernel_rfl) (by kernel_rfl) (by kernel_rfl) (by kernel_rfl) (by kernel_rfl) (fun _ _ _ h => h) rfl (fun V hV => qai (s := 0) (k := 264) rfl Tryz.underlying54 rfl (by kernel_rfl) rfl rfl) hS ?_; (try simp only [Act.put, lyy])
      refine qao 1 rfl rfl (by kernel_rfl) (by kernel_rfl) (by kernel_rfl) (by kernel_rfl) (by kernel_rfl) (fun _ _ _ h => h) rfl (fun V hV => qam rfl Tryz.underlying52 rfl rfl (((E0.out.below hV).get (i := 0) rfl).c 264 _ (rpR_Mail lX (qbg (by rw [List.length_map]; exact qap _ _) (by rw [List.length_map]; exact qap _ _) (qar (qac 32)) (qac 64))))) hS ?_; (try simp only [Act.put, lyy])
      refine qao 2 rfl rfl (by kernel_rfl) (by kernel_rfl) (by kernel_rfl) (by kernel_rfl) (by kernel_rfl) (fun _ _ _ h => h) rfl (fun V hV => qad (v := .slice ao m cc) rfl rfl) hS ?_; (try simp only [Act.put, lyy])
      refine qao 3 rfl rfl (by kernel_rfl) (by kernel_rfl) (by kernel_rfl) (by kernel_rfl) (by kernel_rfl) (fun _ _ _ h => h) rfl (fun V hV => qad (v := .int .i64 (j : Int)) rfl rfl) hS ?_; (try simp only [Act.put, lyy])
      refine qao 4 rfl rfl (by kernel_rfl) (by kernel_rfl) (by kernel_rfl) (by kernel_rfl) (by kernel_rfl) (fun _ _ _ h => h) rfl (fun V hV => qa6 (a := 8) (b := j) rfl rfl rfl (by omega)) hS ?_; (try simp only [Act.put, lyy])
      refine qb4 5 (by kernel_rfl) rfl rfl rfl (qaf enters_cv10 rfl rfl rfl rfl) (CE.out _ (8 + j) E.out.ev.bl (by omega)) (fun v w h => hS.trans ((h.2).mono hS.size)) (fun v19 a20 hR => ?_); (try simp only [Act.put, lyy])
      obtain ⟨⟨Y, rfl, lY, oY, fY⟩, hb9⟩ := hR
      replace hS := hS.trans (hb9.mono hS.size)
      replace E := Lib.hid (E.out.call hb9 (H0 := fun V => Sl (.slice ao m cc) c V → evAt (chE c (8 + j)) Y V) fun V _ => fY V)
      clear hb9 fY
      have hml : (Y).length = 72 := lY
      have hmo : One (Y) := oY
      refine qbm 6 (by kernel_rfl) rfl rfl rfl (qcg (m := Y) (z := 72) (zv := .agg ([.int .i64 0, .int .i64 0, .bool false, .int .u8 0, .int .u8 0, .int .u8 0, .int .u8 0, .int .u8 0, .int .u8 0, .int .u8 0, .int .u8 0, .int .u8 0, .int .u8 0, .int .u8 0, .int .u8 0, .int .u8 0, .int .u8 0, .int .u8 0, .int .u8 0, .int .u8 0, .int .u8 0, .int .u8 0, .int .u8 0, .int .u8 0, .int .u8 0, .int .u8 0, .int .u8 0, .int .u8 0, .int .u8 0, .int .u8 0, .int .u8 0, .int .u8 0, .int .u8 0, .int .u8 0, .int .u8 0, .int .i64 0, .int .i64 0, .int .u8 0, .int .u8 0, .int .u8 0, .int .u8 0, .int .u8 0, .int .u8 0, .int .u8 0, .int .u8 0, .int .u8 0, .int .u8 0, .int .u8 0, .int .u8 0, .int .u8 0, .int .u8 0, .int .u8 0, .int .u8 0, .int .u8 0, .int .u8 0, .int .u8 0, .int .u8 0, .int .u8 0, .int .u8 0, .int .u8 0, .int .u8 0, .int .u8 0, .int .u8 0, .int .u8 0, .int .u8 0, .int .u8 0, .int .u8 0, .int .u8 0, .int .u8 0, .int .i64 0, .int .i64 0, .slice none 0 0] : List Value).toArray) rfl Tryz.underlying52 (by kernel_rfl) rfl hml (by omega) (by omega)) (.inr (hS.alloc hS.size _)) ?_; (try simp only [Act.put, lyy])
      have A2 := Lib.hid (Arr.new a20 (Y) 38)
      replace E := Lib.hid (E.out.below ((Below.refl a20.heap.size a20).alloc (Nat.le_refl _) (.cells (Y).toArray 38)))
      generalize a20.alloc (.cells (Y).toArray 38) = b1 at *
      generalize a20.heap.size = g0 at *
      refine qc9 (t := 52) (bw := 144) (zv := .agg ([.int .i64 0, .int .i64 0, .bool false, .int .u8 0, .int .u8 0, .int .u8 0, .int .u8 0, .int .u8 0, .int .u8 0, .int .u8 0, .int .u8 0, .int .u8 0, .int .u8 0, .int .u8 0, .int .u8 0, .int .u8 0, .int .u8 0, .int .u8 0, .int .u8 0, .int .u8 0, .int .u8 0, .int .u8 0, .int .u8 0, .int .u8 0, .int .u8 0, .int .u8 0, .int .u8 0, .int .u8 0, .int .u8 0, .int .u8 0, .int .u8 0, .int .u8 0, .int .u8 0, .int .u8 0, .int .u8 0, .int .i64 0, .int .i64 0, .int .u8 0, .int .u8 0, .int .u8 0, .int .u8 0, .int .u8 0, .int .u8 0, .int .u8 0, .int .u8 0, .int .u8 0, .int .u8 0, .int .u8 0, .int .u8 0, .int .u8 0, .int .u8 0, .int .u8 0, .int .u8 0, .int .u8 0, .int .u8 0, .int .u8 0, .int .u8 0, .int .u8 0, .int .u8 0, .int .u8 0, .int .u8 0, .int .u8 0, .int .u8 0, .int .u8 0, .int .u8 0, .int .u8 0, .int .u8 0, .int .u8 0, .int .u8 0, .int .i64 0, .int .i64 0, .slice none 0 0] : List Value).toArray) (z := 72) 7 (by kernel_rfl) rfl rfl rfl rfl rfl Tryz.underlying52 (by kernel_rfl) rfl (by omega) rfl rfl A2.out.range hml hmo (by omega) (by omega) E.out (fun v7 b2 hG => ?_); (try simp only [Act.put, lyy])
      replace E := Lib.hid hG
      clear hG A2 E0 hS
      obtain ⟨ya, yn, yc, rfl⟩ := E.out.isSlice
      refine qbm 8 (by kernel_rfl) rfl rfl rfl (qai (s := 0) (k := 264) rfl Tryz.underlying54 rfl (by kernel_rfl) rfl rfl) (.inl rfl) ?_; (try simp only [Act.put, lyy])
      refine qb1 9 (by kernel_rfl) rfl rfl rfl (qb5 (v := .slice ya yn yc) rfl (by kernel_rfl) rfl rfl rfl rfl ((E.out.get (i := 0) rfl).c _ _ (rpR_Mail lX (qbg (by rw [List.length_map]; exact qap _ _) (by rw [List.length_map]; exact qap _ _) (qar (qac 32)) (qac 64)))) ((E.out.get (i := 0) rfl).f _)) (.inl rfl) ?_
      replace E := Lib.hid (E.out.set 0 rfl (j := 0 + 264) (by have q2 : (rpR (.int .u16 er) (X) (buR (.int .i64 (chN c 1 : Int)) (.int .i64 (chN c 2 : Int)) ((chK c 3).map b8) ((chK c 4).map b8) (pkR (.int .i64 (chN c 5 : Int)) (z8 32)) (z8 64) (.slice a' ON.length c')) (.slice va vn vc)).length = 265 := (qbo lX (qbg (by rw [List.length_map]; exact qap _ _) (by rw [List.length_map]; exact qap _ _) (qar (qac 32)) (qac 64))); omega) (.slice ya yn yc))
      simp only [List.set_cons_zero] at E
      rw [show (0 + 264 : Nat) = 264 from rfl, rpR_setMail lX (qbg (by rw [List.length_map]; exact qap _ _) (by rw [List.length_map]; exact qap _ _) (qar (qac 32)) (qac 64))] at E
      generalize b2.setCell ⟨g7, 0 + 264, none⟩ (.slice ya yn yc) = b3 at *
      refine qba (by kernel_rfl) ?_ _; refine NoPanic.normal ?_
      have E9 := Lib.hid (E.out.know (H0 := fun V => LR (evC9 (.slice ao m cc) c) (l ++ [chE c (8 + j)]) (css ++ [Y]) V ∧ SlR 33 pkAt ON a' c' V ∧ lsAt LL X V) fun V h => ⟨h.2.1.snoc (fun hs => h.1 hs), h.2.2⟩)
      clear E
      have E := E9
      clear E9
      go_upto_region 5 with fail; refine wp_region_lit ?_
      refine qaa (qad (v := .int .i64 (j : Int)) rfl rfl) rfl ?_; (try simp only [Act.put, lyy])
      refine qaa (qa6 (a := j) (b := 1) rfl rfl rfl (by omega)) rfl ?_; (try simp only [Act.put, lyy])
      refine qaa (qak (v := .int .i64 ((j + 1 : Nat) : Int)) rfl rfl) rfl ?_; (try simp only [Act.put, lyy])
      refine qab ?_
      go_wp2_with fail
      exact ⟨⟨j + 1, l ++ [chE c (8 + j)], css ++ [Y], ya, yn, yc, rfl, by rw [chMs_succ, hl], by rw [List.length_append, ← hjl]; rfl, by omega, (fun p hp => by rcases List.mem_append.1 hp with hp | hp; exact HK.out p hp; obtain rfl := List.mem_singleton.1 hp; exact hml), by rw [List.flatten_append]; simpa using E.out⟩, by simp [intOf]; omega⟩
end Go.Proofs.YtcgbgmbnagmohaaGreat
