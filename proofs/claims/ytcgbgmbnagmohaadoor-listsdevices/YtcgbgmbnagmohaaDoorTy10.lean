import Derived.Test.YtcgbgmbnagmohaaDoorSt
namespace Go.Proofs.YtcgbgmbnagmohaaDoor
open Go.RowKit
set_option maxRecDepth 20000
theorem agg_cells (c : Array Value) : (Value.agg c).cells = c := rfl
theorem midAt {L A B C D y : List Value} {n : Nat} (e : L = A ++ (B ++ C)) (e2 : D = A ++ (y ++ C)) (hn : A.length = n) (hm : B.length = y.length) : L.take n ++ (y ++ L.drop (n + y.length)) = D := by
 subst e; subst hn; subst e2
 rw [List.take_left' rfl, ← hm, ← List.length_append, ← List.append_assoc A B C, List.drop_left' rfl]
@[irreducible] def usR (x0 : Value) (x1 : Value) (x2 : Value) : List Value := (x0 :: (x1 :: [x2]))
@[irreducible] def enR (x0 : Value) (x1 : List Value) : List Value := (x0 :: x1)
theorem qbn {x0 : Value} {x1 : List Value} (h1 : x1.length = 32) : (enR x0 x1).length = 33 := by simp [enR, h1]
theorem enR_one {x0 : Value} {x1 : List Value} (o0 : x0.oneCell' = true) (o1 : One x1) : One (enR x0 x1) := by unfold enR; exact (One.cons o0 o1)
theorem enR_ID {x0 : Value} {x1 : List Value}  : (enR x0 x1)[0]? = some x0 := cellAt (A := []) (C := x1) (by simp [enR]) (rfl)
theorem enR_Key {x0 : Value} {x1 : List Value} (h1 : x1.length = 32) : ((enR x0 x1).drop 1).take 32 = x1 := partAt (A := [x0]) (C := []) (by simp [enR]) (by simp) h1
set_option maxRecDepth 20000 in
theorem enR_all {x0 : Value} (c0 : x0.cells = #[x0]) {x1 : List Value} (h1 : x1.length = 32) : Tryd.prog.built 34 [(0, x0), (1, .agg x1.toArray)] = some (enR x0 x1).toArray := by
 have q0 : (Tryd.prog.info? 34).map (·.zero) = some (some (.agg ([.int .i64 0] ++ (List.replicate 32 (.int .u8 0)) : List Value).toArray)) := by kernel_rfl
 obtain ⟨it, q1, q2⟩ := Option.map_eq_some_iff.1 q0
 have h := built_segs (places := [(0, 1), (1, 32)]) q1 Tryd.underlying34 q2 (by kernel_rfl) [.part 0 x0 [.int .i64 0], .part 1 (.agg x1.toArray) (List.replicate 32 (.int .u8 0))] (by kernel_rfl) (by simp [Seg.Ok, agg_cells, c0, h1])
 rw [show Seg.told _ = [(0, x0), (1, .agg x1.toArray)] from rfl] at h
 rw [h]
 simp [Seg.out, enR, agg_cells, c0]
@[irreducible] def pkR (x0 : Value) (x1 : List Value) : List Value := (x0 :: x1)
theorem pkR_one {x0 : Value} {x1 : List Value} (o0 : x0.oneCell' = true) (o1 : One x1) : One (pkR x0 x1) := by unfold pkR; exact (One.cons o0 o1)
@[irreducible] def hdR (x0 : List Value) (x1 : Value) (x2 : Value) : List Value := (x0 ++ (x1 :: [x2]))
@[irreducible] def evR (x0 : Value) (x1 : Value) (x2 : Value) (x3 : List Value) (x4 : Value) (x5 : Value) (x6 : List Value) (x7 : Value) : List Value := (x0 :: (x1 :: (x2 :: (x3 ++ (x4 :: (x5 :: (x6 ++ [x7])))))))
@[irreducible] def itR (x0 : Value) (x1 : List Value) : List Value := (x0 :: x1)
@[irreducible] def lsR (x0 : Value) (x1 : Value) (x2 : List Value) (x3 : Value) (x4 : List Value) : List Value := (x0 :: (x1 :: (x2 ++ (x3 :: x4))))
theorem qas {x0 : Value} {x1 : Value} {x2 : List Value} {x3 : Value} {x4 : List Value} (h2 : x2.length = 32) (h4 : x4.length = 64) : (lsR x0 x1 x2 x3 x4).length = 99 := by simp [lsR, h2, h4]
theorem lsR_one {x0 : Value} {x1 : Value} {x2 : List Value} {x3 : Value} {x4 : List Value} (o0 : x0.oneCell' = true) (o1 : x1.oneCell' = true) (o2 : One x2) (o3 : x3.oneCell' = true) (o4 : One x4) : One (lsR x0 x1 x2 x3 x4) := by unfold lsR; exact (One.cons o0 (One.cons o1 (One.app o2 (One.cons o3 o4))))
theorem lsR_Account {x0 : Value} {x1 : Value} {x2 : List Value} {x3 : Value} {x4 : List Value}  : (lsR x0 x1 x2 x3 x4)[0]? = some x0 := cellAt (A := []) (C := (x1 :: (x2 ++ (x3 :: x4)))) (by simp [lsR]) (rfl)
theorem lsR_setAccount {x0 : Value} {x1 : Value} {x2 : List Value} {x3 : Value} {x4 : List Value}  (y : Value) : (lsR x0 x1 x2 x3 x4).set 0 y = lsR y x1 x2 x3 x4 := (setAt (A := []) (x := x0) (C := (x1 :: (x2 ++ (x3 :: x4)))) (by simp [lsR]) (rfl)).trans (by simp [lsR])
theorem lsR_Version {x0 : Value} {x1 : Value} {x2 : List Value} {x3 : Value} {x4 : List Value}  : (lsR x0 x1 x2 x3 x4)[1]? = some x1 := cellAt (A := [x0]) (C := (x2 ++ (x3 :: x4))) (by simp [lsR]) (by simp)
theorem lsR_setVersion {x0 : Value} {x1 : Value} {x2 : List Value} {x3 : Value} {x4 : List Value}  (y : Value) : (lsR x0 x1 x2 x3 x4).set 1 y = lsR x0 y x2 x3 x4 := (setAt (A := [x0]) (x := x1) (C := (x2 ++ (x3 :: x4))) (by simp [lsR]) (by simp)).trans (by simp [lsR])
theorem lsR_Ident {x0 : Value} {x1 : Value} {x2 : List Value} {x3 : Value} {x4 : List Value} (h2 : x2.length = 32) : ((lsR x0 x1 x2 x3 x4).drop 2).take 32 = x2 := partAt (A := (x0 :: [x1])) (C := (x3 :: x4)) (by simp [lsR]) (by simp) h2
theorem lsR_setIdent {x0 : Value} {x1 : Value} {x2 : List Value} {x3 : Value} {x4 : List Value} (h2 : x2.length = 32) {y : List Value} (hy : y.length = 32) : (lsR x0 x1 x2 x3 x4).take 2 ++ (y ++ (lsR x0 x1 x2 x3 x4).drop (2 + y.length)) = lsR x0 x1 y x3 x4 := midAt (A := (x0 :: [x1])) (B := x2) (C := (x3 :: x4)) (by simp [lsR]) (by simp [lsR]) (by simp) (by rw [h2, hy])
theorem qal {x0 : Value} {x1 : Value} {x2 : List Value} {x3 : Value} {x4 : List Value} (h2 : x2.length = 32) : (lsR x0 x1 x2 x3 x4)[34]? = some x3 := cellAt (A := (x0 :: (x1 :: x2))) (C := x4) (by simp [lsR]) (by simp [h2])
theorem qdb {x0 : Value} {x1 : Value} {x2 : List Value} {x3 : Value} {x4 : List Value} (h2 : x2.length = 32) (y : Value) : (lsR x0 x1 x2 x3 x4).set 34 y = lsR x0 x1 x2 y x4 := (setAt (A := (x0 :: (x1 :: x2))) (x := x3) (C := x4) (by simp [lsR]) (by simp [h2])).trans (by simp [lsR])
theorem lsR_Sig {x0 : Value} {x1 : Value} {x2 : List Value} {x3 : Value} {x4 : List Value} (h2 : x2.length = 32) (h4 : x4.length = 64) : ((lsR x0 x1 x2 x3 x4).drop 35).take 64 = x4 := partAt (A := (x0 :: (x1 :: (x2 ++ [x3])))) (C := []) (by simp [lsR]) (by simp [h2]) h4
theorem lsR_setSig {x0 : Value} {x1 : Value} {x2 : List Value} {x3 : Value} {x4 : List Value} (h2 : x2.length = 32) (h4 : x4.length = 64) {y : List Value} (hy : y.length = 64) : (lsR x0 x1 x2 x3 x4).take 35 ++ (y ++ (lsR x0 x1 x2 x3 x4).drop (35 + y.length)) = lsR x0 x1 x2 x3 y := midAt (A := (x0 :: (x1 :: (x2 ++ [x3])))) (B := x4) (C := []) (by simp [lsR]) (by simp [lsR]) (by simp [h2]) (by rw [h4, hy])
@[irreducible] def buR (x0 : Value) (x1 : Value) (x2 : List Value) (x3 : List Value) (x4 : List Value) (x5 : List Value) (x6 : Value) : List Value := (x0 :: (x1 :: (x2 ++ (x3 ++ (x4 ++ (x5 ++ [x6]))))))
@[irreducible] def rqR (x0 : Value) (x1 : Value) (x2 : Value) (x3 : Value) (x4 : Value) (x5 : Value) (x6 : List Value) (x7 : List Value) (x8 : List Value) (x9 : List Value) (x10 : Value) (x11 : Value) (x12 : Value) : List Value := (x0 :: (x1 :: (x2 :: (x3 :: (x4 :: (x5 :: (x6 ++ (x7 ++ (x8 ++ (x9 ++ (x10 :: (x11 :: [x12]))))))))))))
@[irreducible] def rpR (x0 : Value) (x1 : List Value) (x2 : List Value) (x3 : Value) : List Value := (x0 :: (x1 ++ (x2 ++ [x3])))
@[irreducible] def slR (x0 : Value) (x1 : List Value) (x2 : List Value) (x3 : Value) (x4 : Value) (x5 : Value) : List Value := (x0 :: (x1 ++ (x2 ++ (x3 :: (x4 :: [x5])))))
@[irreducible] def acR (x0 : Value) (x1 : Value) (x2 : Value) (x3 : Value) (x4 : List Value) (x5 : Value) (x6 : Value) : List Value := (x0 :: (x1 :: (x2 :: (x3 :: (x4 ++ (x5 :: [x6]))))))
@[irreducible] def rdR (x0 : Value) (x1 : Value) (x2 : Value) : List Value := (x0 :: (x1 :: [x2]))
end Go.Proofs.YtcgbgmbnagmohaaDoor
