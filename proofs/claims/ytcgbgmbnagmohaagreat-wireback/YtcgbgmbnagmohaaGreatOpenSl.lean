import Derived.Test.YtcgbgmbnagmohaaGreatShut
import Derived.Test.YtcgbgmbnagmohaaGreatSl
import Derived.Carry
import Derived.ChangeSlices
import Derived.SizedLaws
namespace Go.Proofs.YtcgbgmbnagmohaaGreat
open Go.ChangeShapes Go.WideShapes Go.ChangeAt Go.RowKit
set_option maxRecDepth 20000
theorem laidOut : laidOutB Tryz.prog = true := by kernel_rfl
theorem byte_of {x : Int} (h : 0 ≤ x ∧ x ≤ 255) : ∃ y : BitVec 8, x = (y.toNat : Int) := ⟨BitVec.ofNat 8 x.toNat, by rw [BitVec.toNat_ofNat]; omega⟩
theorem bytes_of : ∀ l : List Int, (∀ x ∈ l, 0 ≤ x ∧ x ≤ 255) → ∃ m : List (BitVec 8), l = m.map fun y => (y.toNat : Int)
  | [], _ => ⟨[], rfl⟩
  | x :: l, h => by
    obtain ⟨y, hy⟩ := byte_of (h x (by simp))
    obtain ⟨m, hm⟩ := bytes_of l fun z hz => h z (by simp [hz])
    exact ⟨y :: m, by rw [hy, hm]; rfl⟩
theorem open_sl {H : Type} {enc : TypeId × Value → H} {w : World} {r : Reach} {b0 : Nat} {v : Value} {d : DataW H} {p : List MemPlace} (hval : Value.okWide Tryz.prog w r b0 22 v) (h : DataW.Trod enc Tryz.prog w 0 (fun _ => true) true 22 v d p) :
    ∃ l : List (BitVec 8), Sl v l w ∧ l.length ≤ maxLen ∧ (l = [] ∨ ∃ elems spare, d = .slice elems spare ∧ l.length ≤ elems.length) := by
  obtain ⟨a0, len, cap, rfl⟩ := okWide_slice Tryz.underlying22 hval
  obtain ⟨fuel, hf⟩ := h
  rcases open_ints Tryz.underlying22 Tryz.underlying5 cellsU8 hf with ⟨hcs, _⟩ | ⟨a, len', cap', zs, hcs, _, hl, hm, hz, hdd, hcell, hwz⟩
  · simp [Value.cells] at hcs
    obtain ⟨rfl, rfl, rfl⟩ := hcs
    exact ⟨[], ⟨none, 0, rfl, Nat.le_refl _, fun h => absurd rfl h⟩, Nat.zero_le _, .inl rfl⟩
  · simp [Value.cells] at hcs
    obtain ⟨rfl, rfl, rfl⟩ := hcs
    simp only [if_true] at hz
    obtain ⟨m, hm'⟩ := bytes_of (zs.take len) fun x hx => wf_u8 (hwz x (List.mem_of_mem_take hx))
    have hml : m.length = len := by
      have := congrArg List.length hm'
      simp at this; omega
    refine ⟨m, ⟨some a, cap, by rw [hml], by omega, fun hne => ?_⟩, by omega, .inr ⟨_, _, (Prod.mk.inj hdd).1, by simp [lits, hml]; omega⟩⟩
    have hpos : 0 < len := by
      rcases Nat.eq_zero_or_pos len with h | h
      · exact absurd (List.eq_nil_of_length_eq_zero (hml.trans h)) hne
      · exact h
    have key : ∀ j x, m[j]? = some x → w.cell? (a.add j) = some (b8 x) := fun j x hj => by
      have hjm : j < m.length := by
        rcases Nat.lt_or_ge j m.length with h | h
        · exact h
        · rw [List.getElem?_eq_none h] at hj; cases hj
      rw [hcell j (by omega)]
      have h1 : (zs.take len)[j]? = some (x.toNat : Int) := by rw [hm', List.getElem?_map, hj]; rfl
      rw [List.getElem?_take_of_lt (by omega)] at h1
      simp [List.getD, h1, b8]
    have h0 := key 0 _ (List.getElem?_eq_getElem (show 0 < m.length by omega))
    rw [show a.add 0 = a by unfold Addr.add; simp] at h0
    have hsp : a.spot = none := by
      cases hs : a.spot with
      | none => rfl
      | some s =>
        simp only [World.cell?, hs] at h0
        split at h0 <;> simp at h0
    obtain ⟨ab, af, asp⟩ := a
    simp only at hsp
    subst hsp
    exact ⟨ab, af, rfl, World.block_lt_of_cell? w _ h0, fun j v hv => by
      rw [List.getElem?_map] at hv
      obtain ⟨x, hx, rfl⟩ := Option.map_eq_some_iff.1 hv
      have := key j x hx
      rwa [Addr.add_mid] at this⟩
theorem sl_reach {H : Type} {ts : List TypeId} {ds : List (DataW H)} {j : Nat} {d : DataW H} {l : List (BitVec 8)} (hz : (DataW.weightsEach Tryz.prog ts ds).all (· ≤ reachBytes) = true) (ht : ts[j]? = some 22) (hd : ds[j]? = some d) (ho : l = [] ∨ ∃ elems spare, d = .slice elems spare ∧ l.length ≤ elems.length) : l.length ≤ 140737488351232 := by
  rcases ho with rfl | ⟨elems, spare, rfl, hl⟩
  · simp
  · have h1 := sized_slice hz ht hd Tryz.underlying22
    have h2 : Tryz.prog.bytesOf 5 = 1 := by kernel_rfl
    have h3 : reachBytes = 140737488351232 := by decide
    rw [h2, h3] at h1
    omega
theorem post_below {H : Type} {enc : TypeId × Value → H} {P : Program} {f : Func} {s : ChangeSpec} {apart fresh handsOn : Bool} {W W' : World} {args : Array Value} {v : Value} {ds gs : List (DataW H)} {p q : List MemPlace}
    (hW : DataW.Whole enc P f.params.toList s.vars apart W args.toList ds gs p)
    (hres : ∀ (b : Nat) (sp : Nat → Bool) (hd : Bool), DataW.TrodAll enc P W' b sp hd f.resultTypes.toList (v.resultList f.resultTypes.size) (s.fn H (ds ++ gs)).results [])
    (hargs : DataW.TrodAll enc P W' 0 (fun b => decide (b < W.heap.size)) true f.params.toList args.toList (s.fn H (ds ++ gs)).args q)
    (hvars : ∀ sp : Nat → Bool, DataW.TrodVars enc P W' sp s.vars (s.fn H (ds ++ gs)).vars [])
    (hb : Below W.heap.size W W') : s.post enc P f apart fresh handsOn false W args v W' :=
  ⟨ds, gs, p, [], q, [], hW, hres _ _ _, hargs, hvars _, hb.frame _, fun h => by cases h⟩
end Go.Proofs.YtcgbgmbnagmohaaGreat
