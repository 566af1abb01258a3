import Derived.Test.YtcgbgmbnagmohaaDoorGen
namespace Go.Proofs.YtcgbgmbnagmohaaDoor
open Go.RowKit
set_option maxRecDepth 20000
def One (l : List Value) : Prop := ∀ v ∈ l, v.oneCell' = true
theorem One.nil : One [] := fun _ h => by cases h
theorem One.cons {v : Value} {l : List Value} (h : v.oneCell' = true) (h2 : One l) : One (v :: l) := fun x hx => by
 rcases List.mem_cons.1 hx with rfl | hx
 ·exact h
 ·exact h2 x hx
theorem One.app {l m : List Value} (h : One l) (h2 : One m) : One (l ++ m) := fun x hx => by
 rcases List.mem_append.1 hx with hx | hx
 ·exact h x hx
 ·exact h2 x hx
theorem One.b8 (l : List (BitVec 8)) : One (l.map b8) := fun v hv => by rw [List.mem_map] at hv; obtain ⟨x, _, rfl⟩ := hv; rfl
theorem One.all {l : List Value} (h : One l) : l.toArray.all (·.oneCell') = true := all_oneCell_toArray h
theorem cellAt {L A C : List Value} {x : Value} {n : Nat} (e : L = A ++ (x :: C)) (hn : A.length = n) : L[n]? = some x := by
 subst e; subst hn
 rw [List.getElem?_append_right (Nat.le_refl _), Nat.sub_self]; rfl
theorem partAt {L A B C : List Value} {n m : Nat} (e : L = A ++ (B ++ C)) (hn : A.length = n) (hm : B.length = m) : (L.drop n).take m = B := by
 subst e; subst hn; subst hm
 rw [List.drop_left' rfl, List.take_left' rfl]
theorem setAt {L A C : List Value} {x y : Value} {n : Nat} (e : L = A ++ (x :: C)) (hn : A.length = n) : L.set n y = A ++ (y :: C) := by
 subst e; subst hn
 rw [List.set_append_right _ _ (Nat.le_refl _), Nat.sub_self]; rfl
theorem Arr.seg {g n m : Nat} {l s : List Value} {u : World} (h : Arr g l u) (e : (l.drop n).take m = s) : u.rangeAt g n s := by
 have := h.part n m
 rwa [e] at this
theorem szR {t : TypeId} {l : List Value} {n : Nat} (hl : l.length = n) (h : (Tryd.prog.info? t).map (·.size) = some n) : (Tryd.prog.info? t).map (·.size) = some l.length := by rw [hl]; exact h
inductive Seg where
 | part (i : Nat) (v : Value) (z : List Value)
 | gap (z : List Value)
def Seg.z : Seg → List Value
 | .part _ _ z => z
 | .gap z => z
def Seg.out : Seg → List Value
 | .part _ v _ => v.cells.toList
 | .gap z => z
def Seg.told : List Seg → List (Nat × Value)
 | [] => []
 | .part i v _ :: r => (i, v) :: Seg.told r
 | .gap _ :: r => Seg.told r
def Seg.Ok (place : Nat → Option (Nat × Nat)) : Nat → List Seg → Prop
 | _, [] => True
 | n, .part i v z :: r => place i = some (n, v.cells.size) ∧ z.length = v.cells.size ∧ Seg.Ok place (n + v.cells.size) r
 | n, .gap z :: r => Seg.Ok place (n + z.length) r
theorem fold_fillO (off : Nat) (l : List Value) : ∀ (k : Nat) (z : Array Value), off + k + l.length ≤ z.size → (l.zipIdx k).foldl (fun cs (c, j) => cs.setIfInBounds (off + j) c) z = (z.toList.take (off + k) ++ (l ++ z.toList.drop (off + k + l.length))).toArray := by
 induction l with
 | nil => intro k z _; simp
 | cons v l ih =>
  intro k z h
  simp only [List.length_cons] at h
  rw [List.zipIdx_cons, List.foldl_cons, ih (k + 1) _ (by simp; omega)]
  apply congrArg List.toArray
  simp only [Array.toList_setIfInBounds]
  have hk : off + k < z.toList.length := by simp; omega
  rw [show off + (k + 1) = off + k + 1 by omega, List.take_set, List.drop_set_of_lt (by omega), List.take_succ_eq_append_getElem hk, List.set_append_right _ _ (by rw [List.length_take]; omega)]
  have e1 : off + k - (List.take (off + k) z.toList).length = 0 := by rw [List.length_take]; omega
  rw [e1, show off + k + 1 + l.length = off + k + (v :: l).length by rw [List.length_cons]; omega]
  simp
theorem fill_segs (place : Nat → Option (Nat × Nat)) : ∀ (segs : List Seg) (pre : List Value), Seg.Ok place pre.length segs → Instr.fill place (pre ++ segs.flatMap Seg.z).toArray (Seg.told segs) = some (pre ++ segs.flatMap Seg.out).toArray
 | [], pre, _ => by simp [Seg.told, Instr.fill]
 | .gap z :: r, pre, h => by
  have h' : Seg.Ok place (pre ++ z).length r := by rw [List.length_append]; exact h
  have := fill_segs place r (pre ++ z) h'
  simp only [List.append_assoc] at this
  simpa [Seg.told, Seg.z, Seg.out] using this
 | .part i v z :: r, pre, ⟨h1, h2, h3⟩ => by
  have h' : Seg.Ok place (pre ++ v.cells.toList).length r := by rw [List.length_append, Array.length_toList]; exact h3
  have ih := fill_segs place r (pre ++ v.cells.toList) h'
  simp only [List.append_assoc] at ih
  have hs : (v.cells.zipIdx.foldl (fun cs (c, j) => cs.setIfInBounds (pre.length + j) c) (pre ++ (z ++ r.flatMap Seg.z)).toArray) = (pre ++ (v.cells.toList ++ r.flatMap Seg.z)).toArray := by
   rw [← Array.foldl_toList, Array.toList_zipIdx]
   have hf := fold_fillO pre.length v.cells.toList 0 (pre ++ (z ++ r.flatMap Seg.z)).toArray (by simp; omega)
   rw [Nat.add_zero] at hf
   rw [hf]
   apply congrArg List.toArray
   have e : (pre ++ (z ++ r.flatMap Seg.z)).drop (pre.length + v.cells.toList.length) = r.flatMap Seg.z := by
    rw [← List.append_assoc, List.drop_left' (by rw [List.length_append, h2]; simp)]
   show (pre ++ (z ++ r.flatMap Seg.z)).take pre.length ++ (v.cells.toList ++ (pre ++ (z ++ r.flatMap Seg.z)).drop (pre.length + v.cells.toList.length)) = _
   rw [List.take_left' rfl, e]
  show Instr.fill place (pre ++ (z ++ r.flatMap Seg.z)).toArray ((i, v) :: Seg.told r) = some (pre ++ (v.cells.toList ++ r.flatMap Seg.out)).toArray
  unfold Instr.fill
  rw [h1]
  simp only
  rw [if_neg (by simp; omega), hs]
  exact ih
theorem built_segs {t : TypeId} {fs : Array Field} {it : TypeInfo} {zv : Value} {places : List (Nat × Nat)} (hit : Tryd.prog.info? t = some it) (hu : Tryd.prog.underlying t = some (.struct fs)) (hz : it.zero = some zv) (hp : fs.toList.mapM (fun f => (Tryd.prog.info? f.type).map fun i => (f.offset, i.size)) = some places)
  (segs : List Seg) (hc : zv.cells.toList = segs.flatMap Seg.z) (hS : Seg.Ok (places.toArray[·]?) 0 segs) : Tryd.prog.built t (Seg.told segs) = some (segs.flatMap Seg.out).toArray := by
 rw [built_struct hit hu hz hp]
 have h := fill_segs (places.toArray[·]?) segs [] hS
 simp only [List.nil_append] at h
 rw [← h, ← hc]
end Go.Proofs.YtcgbgmbnagmohaaDoor
