import Derived.Test.YtcgbgmbnagmohaaDoorShut
import Derived.Test.YtcgbgmbnagmohaaDoorSl
import Derived.Carry
import Derived.ChangeSlices
import Derived.SizedLaws
import Derived.Test.YtcgbgmbnagmohaaDoorSlA
namespace Go.Proofs.YtcgbgmbnagmohaaDoor
open Go.ChangeShapes Go.WideShapes Go.ChangeAt Go.RowKit
set_option maxRecDepth 20000
theorem laidOut : laidOutB Tryd.prog = true := by kernel_rfl
theorem byte_of {x : Int} (h : 0 ≤ x ∧ x ≤ 255) : ∃ y : BitVec 8, x = (y.toNat : Int) := ⟨BitVec.ofNat 8 x.toNat, by rw [BitVec.toNat_ofNat]; omega⟩
theorem bytes_of : ∀ l : List Int, (∀ x ∈ l, 0 ≤ x ∧ x ≤ 255) → ∃ m : List (BitVec 8), l = m.map fun y => (y.toNat : Int)
 | [], _ => ⟨[], rfl⟩
 | x :: l, h => by
  obtain ⟨y, hy⟩ := byte_of (h x (by simp))
  obtain ⟨m, hm⟩ := bytes_of l fun z hz => h z (by simp [hz])
  exact ⟨y :: m, by rw [hy, hm]; rfl⟩
theorem open_sl {H : Type} {enc : TypeId × Value → H} {w : World} {r : Reach} {b0 : Nat} {v : Value} {d : DataW H} {p : List MemPlace} (hval : Value.okWide Tryd.prog w r b0 22 v) (h : DataW.Trod enc Tryd.prog w 0 (fun _ => true) true 22 v d p) :
  ∃ l : List (BitVec 8), Sl v l w ∧ l.length ≤ maxLen ∧ (l = [] ∨ ∃ elems spare, d = .slice elems spare ∧ l.length ≤ elems.length) := by
 obtain ⟨a0, len, cap, rfl⟩ := okWide_slice Tryd.underlying22 hval
 obtain ⟨fuel, hf⟩ := h
 rcases open_ints Tryd.underlying22 Tryd.underlying5 cellsU8 hf with ⟨hcs, _⟩ | ⟨a, len', cap', zs, hcs, _, hl, hm, hz, hdd, hcell, hwz⟩
 ·simp [Value.cells] at hcs
  obtain ⟨rfl, rfl, rfl⟩ := hcs
  exact ⟨[], ⟨none, 0, rfl, Nat.le_refl _, fun h => absurd rfl h⟩, Nat.zero_le _, .inl rfl⟩
 ·simp [Value.cells] at hcs
  obtain ⟨rfl, rfl, rfl⟩ := hcs
  simp only [if_true] at hz
  obtain ⟨m, hm'⟩ := bytes_of (zs.take len) fun x hx => wf_u8 (hwz x (List.mem_of_mem_take hx))
  have hml : m.length = len := by
   have := congrArg List.length hm'
   simp at this; omega
  refine ⟨m, ⟨some a, cap, by rw [hml], by omega, fun hne => ?_⟩, by omega, .inr ⟨_, _, (Prod.mk.inj hdd).1, by simp [lits, hml]; omega⟩⟩
  have hpos : 0 < len := by
   rcases Nat.eq_zero_or_pos len with h | h
   ·exact absurd (List.eq_nil_of_length_eq_zero (hml.trans h)) hne
   ·exact h
  have key : ∀ j x, m[j]? = some x → w.cell? (a.add j) = some (b8 x) := fun j x hj => by
   have hjm : j < m.length := by
    rcases Nat.lt_or_ge j m.length with h | h
    ·exact h
    ·rw [List.getElem?_eq_none h] at hj; cases hj
   rw [hcell j (by omega)]
   have h1 : (zs.take len)[j]? = some (x.toNat : Int) := by rw [hm', List.getElem?_map, hj]; rfl
   rw [List.getElem?_take_of_lt (by omega)] at h1
   simp [List.getD, h1, b8]
  have h0 := key 0 _ (List.getElem?_eq_getElem (show 0 < m.length by omega))
  rw [show a.add 0 = a by unfold Addr.add; simp] at h0
  have hsp : a.spot = none := by
   cases hs : a.spot with
   | none => rfl
   | some s =>
    simp only [World.cell?, hs] at h0
    split at h0 <;> simp at h0
  obtain ⟨ab, af, asp⟩ := a
  simp only at hsp
  subst hsp
  exact ⟨ab, af, rfl, World.block_lt_of_cell? w _ h0, fun j v hv => by
   rw [List.getElem?_map] at hv
   obtain ⟨x, hx, rfl⟩ := Option.map_eq_some_iff.1 hv
   have := key j x hx
   rwa [Addr.add_mid] at this⟩
theorem sl_reach {H : Type} {ts : List TypeId} {ds : List (DataW H)} {j : Nat} {d : DataW H} {l : List (BitVec 8)} (hz : (DataW.weightsEach Tryd.prog ts ds).all (· ≤ reachBytes) = true) (ht : ts[j]? = some 22) (hd : ds[j]? = some d) (ho : l = [] ∨ ∃ elems spare, d = .slice elems spare ∧ l.length ≤ elems.length) : l.length ≤ 140737488351232 := by
 rcases ho with rfl | ⟨elems, spare, rfl, hl⟩
 ·simp
 ·have h1 := sized_slice hz ht hd Tryd.underlying22
  have h2 : Tryd.prog.bytesOf 5 = 1 := by kernel_rfl
  have h3 : reachBytes = 140737488351232 := by decide
  rw [h2, h3] at h1
  omega
theorem post_below {H : Type} {enc : TypeId × Value → H} {P : Program} {f : Func} {s : ChangeSpec} {apart fresh handsOn : Bool} {W W' : World} {args : Array Value} {v : Value} {ds gs : List (DataW H)} {p q : List MemPlace}
  (hW : DataW.Whole enc P f.params.toList s.vars apart W args.toList ds gs p)
  (hres : ∀ (b : Nat) (sp : Nat → Bool) (hd : Bool), DataW.TrodAll enc P W' b sp hd f.resultTypes.toList (v.resultList f.resultTypes.size) (s.fn H (ds ++ gs)).results [])
  (hargs : DataW.TrodAll enc P W' 0 (fun b => decide (b < W.heap.size)) true f.params.toList args.toList (s.fn H (ds ++ gs)).args q)
  (hvars : ∀ sp : Nat → Bool, DataW.TrodVars enc P W' sp s.vars (s.fn H (ds ++ gs)).vars [])
  (hb : Below W.heap.size W W') : s.post enc P f apart fresh handsOn false W args v W' :=
 ⟨ds, gs, p, [], q, [], hW, hres _ _ _, hargs, hvars _, hb.frame _, fun h => by cases h⟩
end Go.Proofs.YtcgbgmbnagmohaaDoor
namespace Go.Proofs.YtcgbgmbnagmohaaDoor
open Go.ChangeShapes Go.WideShapes Go.ChangeAt Go.RowKit
set_option maxRecDepth 20000
def lsZ : Value := .agg (#[.int .i64 0, .int .i64 0] ++ Array.replicate 32 (.int .u8 0) ++ #[.slice none 0 0] ++ Array.replicate 64 (.int .u8 0))
theorem part_next {cs a : List Value} {o k : Nat} (h : (cs.drop o).take k = a) : cs.drop o = a ++ cs.drop (o + k) := by
 rw [← h, ← List.drop_drop]
 exact (List.take_append_drop k _).symm
theorem slR_fro {α : Type} {z : Nat} {Rr : α → List Value → World → Prop} {l : List α} {a : Option Addr} {c : Nat} {w : World} (h : SlR z Rr l a c w) (hR : ∀ m cs V, Ext 0 [] w V → Rr m cs w → Rr m cs V) : Fro 0 (SlR z Rr l a c) w := fun V hV => by
 obtain ⟨h1, css, h2, h3, h4, h5⟩ := h
 refine ⟨h1, css, h2, h3, fun i m cs q1 q2 => hR m cs V hV (h4 i m cs q1 q2), fun hn => ?_⟩
 obtain ⟨g, f, q1, q2, q3⟩ := h5 hn
 exact ⟨g, f, q1, Nat.lt_of_lt_of_le q2 hV.size, fun j x hx => (World.cell?_of_block (a := ⟨g, f + j, none⟩) (hV.block g (Nat.zero_le _) q2 (by simp))).trans (q3 j x hx)⟩
section
variable {H : Type} {enc : TypeId × Value → H} {w : World} {spare : Nat → Bool} {held : Bool} {fuel : Nat} {cs : List Value} {x : DataW H × List MemPlace}
theorem op_int {t : TypeId} {k : IntKind} (ht : Tryd.prog.underlying t = some (.int k)) (h : DataW.trod enc Tryd.prog w 0 spare held fuel t cs = some x) : ∃ n, cs = [.int k n] ∧ (Lit.int k n).wf = true := by
 obtain ⟨n, h1, _, h2⟩ := DataW.trod_int ht h
 exact ⟨n, h1, h2⟩
theorem op_by {t e : TypeId} {n : Nat} (ht : Tryd.prog.underlying t = some (.array n e)) (he : Tryd.prog.underlying e = some (.int .u8)) (hce : Tryd.prog.cellsOf e = 1) (hct : Tryd.prog.cellsOf t = n) (h : DataW.trod enc Tryd.prog w 0 spare held fuel t cs = some x) : ∃ m : List (BitVec 8), m.length = n ∧ cs = m.map b8 := by
 obtain ⟨l, hl, h1, _, _, h2⟩ := trod_arr ht he hce hct h
 obtain ⟨m, rfl⟩ := bytes_of l fun y hy => wf_u8 (h2 y hy)
 refine ⟨m, by simpa using hl, ?_⟩
 rw [h1, List.map_map]
 rfl
theorem op_sl {α : Type} {t e : TypeId} {z : Nat} {Rr : α → List Value → World → Prop} {G : α → Prop} (ht : Tryd.prog.underlying t = some (.slice e)) (hz : Tryd.prog.cellsOf e = z) (hz0 : 0 < z) (hel : ∀ (fuel : Nat) (cs : List Value) (x : DataW H × List MemPlace), DataW.trod enc Tryd.prog w 0 spare held fuel e cs = some x → ∃ m, G m ∧ Rr m cs w)
  (h : DataW.trod enc Tryd.prog w 0 spare held fuel t cs = some x) : ∃ (l : List α) (a : Option Addr) (c : Nat), cs = [.slice a l.length c] ∧ (∀ m ∈ l, G m) ∧ SlR z Rr l a c w ∧ (l = [] ∨ ∃ elems more, x.1 = .slice elems more ∧ l.length ≤ elems.length) := by
 rcases DataW.trod_slice ht h with ⟨rfl, _⟩ | ⟨a, len, cap, elems, rest, n, _, rfl, hx1, _, hl, _, hlen, hq, _⟩
 ·exact ⟨[], none, 0, rfl, (fun _ h => by cases h), ⟨Nat.zero_le _, [], rfl, (fun _ h => by cases h), (fun i m cs h => by simp at h), fun h => absurd rfl h⟩, .inl rfl⟩
 ·have key : ∀ i, i < len → ∃ (m : α) (rs : List Value), rs.length = z ∧ (∀ j, j < z → w.cell? ((a.add (i * z)).add j) = rs[j]?) ∧ G m ∧ Rr m rs w := fun i hi => by
   have q := hq i hi
   rw [hz, List.getElem?_eq_getElem (show i < elems.length by omega)] at q
   obtain ⟨rs, q1, q2⟩ := Option.bind_eq_some_iff.1 q
   obtain ⟨_, q3, q4⟩ := World.cells?_some q1
   obtain ⟨m, g1, g2⟩ := hel _ _ _ q2
   exact ⟨m, rs, q3, q4, g1, g2⟩
  have key2 : ∀ k, k ≤ len → ∃ (l : List α) (css : List (List Value)), l.length = k ∧ css.length = k ∧ (∀ m ∈ l, G m) ∧ (∀ rs ∈ css, rs.length = z) ∧ (∀ (i : Nat) (m : α) (rs : List Value), l[i]? = some m → css[i]? = some rs → Rr m rs w) ∧ ∀ i, i < k → ∀ j, j < z → w.cell? ((a.add (i * z)).add j) = (css.getD i [])[j]? := by
   intro k
   induction k with
   | zero => exact fun _ => ⟨[], [], rfl, rfl, (fun _ h => by cases h), (fun _ h => by cases h), (fun i m rs h => by simp at h), fun i h => absurd h (by omega)⟩
   | succ k ih =>
    intro hk
    obtain ⟨l, css, e1, e2, e3, e4, e5, e6⟩ := ih (by omega)
    obtain ⟨m, rs, f1, f2, f3, f4⟩ := key k (by omega)
    refine ⟨l ++ [m], css ++ [rs], by simp [e1], by simp [e2], fun q hq => ?_, fun q hq => ?_, fun i m' rs' h1 h2 => ?_, fun i hi j hj => ?_⟩
    ·rcases List.mem_append.1 hq with hq | hq
     ·exact e3 q hq
     ·rw [List.mem_singleton.1 hq]; exact f3
    ·rcases List.mem_append.1 hq with hq | hq
     ·exact e4 q hq
     ·rw [List.mem_singleton.1 hq]; exact f1
    ·rcases Nat.lt_or_ge i k with hi | hi
     ·rw [List.getElem?_append_left (by omega)] at h1 h2
      exact e5 i m' rs' h1 h2
     ·rw [List.getElem?_append_right (by omega)] at h1 h2
      have hi0 : i - k = 0 := by
       rcases Nat.eq_zero_or_pos (i - k) with h | h
       ·exact h
       ·rw [e1, List.getElem?_eq_none (by simp; omega)] at h1
        cases h1
      rw [e1, hi0] at h1
      rw [e2, hi0] at h2
      cases h1
      cases h2
      exact f4
    ·rcases Nat.lt_or_ge i k with h | h
     ·rw [e6 i h j hj]
      simp [List.getD, List.getElem?_append_left (show i < css.length by omega)]
     ·obtain rfl : i = k := by omega
      rw [f2 j hj]
      simp [List.getD, ← e2]
  obtain ⟨l, css, e1, e2, e3, e4, e5, e6⟩ := key2 len (Nat.le_refl _)
  refine ⟨l, some a, cap, by rw [e1], e3, ⟨by omega, css, by omega, e4, e5, fun hn => ?_⟩, .inr ⟨_, _, by rw [hx1], by rw [List.length_map]; omega⟩⟩
  have hpos : 0 < len := by
   rcases Nat.eq_zero_or_pos len with h | h
   ·exact absurd (List.eq_nil_of_length_eq_zero (e1.trans h)) hn
   ·exact h
  have hc : ∀ i, i < len → ∀ j, j < z → ∃ v, w.cell? ((a.add (i * z)).add j) = some v := fun i hi j hj => by
   have h1 : (css.getD i []).length = z := by
    have h2 : i < css.length := by omega
    simp only [List.getD, List.getElem?_eq_getElem h2, Option.getD_some]
    exact e4 _ (List.getElem_mem _)
   exact ⟨_, (e6 i hi j hj).trans (List.getElem?_eq_getElem (by omega))⟩
  obtain ⟨v0, h0⟩ := hc 0 hpos 0 hz0
  rw [Nat.zero_mul, show (a.add 0).add 0 = a by unfold Addr.add; simp] at h0
  have hsp : a.spot = none := by
   cases hs : a.spot with
   | none => rfl
   | some s =>
    simp only [World.cell?, hs] at h0
    split at h0 <;> simp at h0
  obtain ⟨ab, af, asp⟩ := a
  simp only at hsp
  subst hsp
  refine ⟨ab, af, rfl, World.block_lt_of_cell? w _ h0, fun p v hv => ?_⟩
  obtain ⟨i, j, hp, hj, hi, hij⟩ : ∃ i j, p = i * z + j ∧ j < z ∧ i < len ∧ (css.getD i [])[j]? = some v := by
   have hfl : ∀ (L : List (List Value)), (∀ rs ∈ L, rs.length = z) → ∀ p v, L.flatten[p]? = some v → ∃ i j, p = i * z + j ∧ j < z ∧ i < L.length ∧ (L.getD i [])[j]? = some v := by
    intro L
    induction L with
    | nil => intro _ p v h; simp at h
    | cons r L ih =>
     intro hL p v h
     have hr := hL r (by simp)
     rw [List.flatten_cons] at h
     rcases Nat.lt_or_ge p z with hpz | hpz
     ·rw [List.getElem?_append_left (by omega)] at h
      exact ⟨0, p, by omega, hpz, by simp, by simpa [List.getD] using h⟩
     ·rw [List.getElem?_append_right (by omega), hr] at h
      obtain ⟨i, j, q1, q2, q3, q4⟩ := ih (fun rs hrs => hL rs (by simp [hrs])) _ v h
      exact ⟨i + 1, j, by rw [Nat.add_mul, Nat.one_mul]; omega, q2, by simp; omega, by simpa [List.getD] using q4⟩
   obtain ⟨i, j, q1, q2, q3, q4⟩ := hfl css e4 p v hv
   exact ⟨i, j, q1, q2, by omega, q4⟩
  have q := e6 i hi j hj
  rw [hij, Addr.add_mid, Addr.add_mid, Nat.add_assoc] at q
  rw [hp]
  exact q
theorem op_en (h : DataW.trod enc Tryd.prog w 0 spare held fuel 34 cs = some x) : ∃ p : MPk, p.key.length = 32 ∧ pkAt p cs w := by
 obtain ⟨xs, n, _, _, hl, hlen, hf⟩ := DataW.trod_struct Tryd.underlying34 h
 have c0 : Tryd.prog.cellsOf 3 = 1 := by kernel_rfl
 have c1 : Tryd.prog.cellsOf 24 = 32 := by kernel_rfl
 have c2 : Tryd.prog.cellsOf 34 = 33 := by kernel_rfl
 have h0 := hf 0 _ rfl
 have h1 := hf 1 _ rfl
 rw [List.getElem?_eq_getElem (show 0 < xs.length by rw [hlen]; decide)] at h0
 rw [List.getElem?_eq_getElem (show 1 < xs.length by rw [hlen]; decide)] at h1
 obtain ⟨a, e0, _⟩ := op_int Tryd.underlying3 h0
 obtain ⟨k, k1, e1⟩ := op_by Tryd.underlying24 Tryd.underlying5 cellsU8 c1 h1
 change (cs.drop 0).take (Tryd.prog.cellsOf 3) = _ at e0
 rw [c0] at e0
 change (cs.drop 1).take (Tryd.prog.cellsOf 24) = _ at e1
 rw [c1] at e1
 have p0 := part_next e0
 have p1 := part_next e1
 rw [List.drop_zero] at p0
 refine ⟨⟨a, k⟩, k1, ?_⟩
 show cs = pkC ⟨a, k⟩
 rw [p0, p1, List.drop_of_length_le (by rw [hl, c2]; omega)]
 simp [pkC]
theorem op_ls (h : DataW.trod enc Tryd.prog w 0 spare held fuel 29 cs = some x) : ∃ m : MLs, (m.ident.length = 32 ∧ m.sig.length = 64 ∧ ∀ p ∈ m.devs, p.key.length = 32) ∧ lsAt m cs w ∧ ∃ parts, x.1 = .agg parts ∧ (m.devs = [] ∨ ∃ elems more, parts[3]? = some (.slice elems more) ∧ m.devs.length ≤ elems.length) := by
 obtain ⟨xs, n, _, hx1, hl, hlen, hf⟩ := DataW.trod_struct Tryd.underlying29 h
 have c0 : Tryd.prog.cellsOf 3 = 1 := by kernel_rfl
 have c1 : Tryd.prog.cellsOf 24 = 32 := by kernel_rfl
 have c3 : Tryd.prog.cellsOf 25 = 1 := by kernel_rfl
 have c4 : Tryd.prog.cellsOf 27 = 64 := by kernel_rfl
 have c5 : Tryd.prog.cellsOf 29 = 99 := by kernel_rfl
 have c6 : Tryd.prog.cellsOf 34 = 33 := by kernel_rfl
 have h0 := hf 0 _ rfl
 have h1 := hf 1 _ rfl
 have h2 := hf 2 _ rfl
 have h3 := hf 3 _ rfl
 have h4 := hf 4 _ rfl
 rw [List.getElem?_eq_getElem (show 0 < xs.length by rw [hlen]; decide)] at h0
 rw [List.getElem?_eq_getElem (show 1 < xs.length by rw [hlen]; decide)] at h1
 rw [List.getElem?_eq_getElem (show 2 < xs.length by rw [hlen]; decide)] at h2
 rw [List.getElem?_eq_getElem (show 3 < xs.length by rw [hlen]; decide)] at h3
 rw [List.getElem?_eq_getElem (show 4 < xs.length by rw [hlen]; decide)] at h4
 obtain ⟨a, e0, _⟩ := op_int Tryd.underlying3 h0
 obtain ⟨b, e1, _⟩ := op_int Tryd.underlying3 h1
 obtain ⟨k, k1, e2⟩ := op_by Tryd.underlying24 Tryd.underlying5 cellsU8 c1 h2
 obtain ⟨l, d, q, e3, g3, s3, m3⟩ := op_sl (z := 33) (Rr := pkAt) (G := fun p : MPk => p.key.length = 32) Tryd.underlying25 c6 (by omega) (fun _ _ _ h => op_en h) h3
 obtain ⟨g, g1, e4⟩ := op_by Tryd.underlying27 Tryd.underlying5 cellsU8 c4 h4
 change (cs.drop 0).take (Tryd.prog.cellsOf 3) = _ at e0
 rw [c0] at e0
 change (cs.drop 1).take (Tryd.prog.cellsOf 3) = _ at e1
 rw [c0] at e1
 change (cs.drop 2).take (Tryd.prog.cellsOf 24) = _ at e2
 rw [c1] at e2
 change (cs.drop 34).take (Tryd.prog.cellsOf 25) = _ at e3
 rw [c3] at e3
 change (cs.drop 35).take (Tryd.prog.cellsOf 27) = _ at e4
 rw [c4] at e4
 have p0 := part_next e0
 have p1 := part_next e1
 have p2 := part_next e2
 have p3 := part_next e3
 have p4 := part_next e4
 rw [List.drop_zero] at p0
 refine ⟨⟨a, b, k, l, g⟩, ⟨k1, g1, g3⟩, ⟨d, q, ?_, s3⟩, _, by rw [hx1], m3.imp_right fun ⟨el, sp, h1, h2⟩ => ⟨el, sp, by rw [List.getElem?_map, List.getElem?_eq_getElem (show 3 < xs.length by rw [hlen]; decide)]; exact congrArg some h1, h2⟩⟩
 rw [p0, p1, p2, p3, p4, List.drop_of_length_le (by rw [hl, c5]; omega)]
 simp [lsR]
theorem lsAt_fro {m : MLs} {X : List Value} (h : lsAt m X w) : Fro 0 (lsAt m X) w := fun V hV => by
 obtain ⟨a, c, h1, h2⟩ := h
 exact ⟨a, c, h1, slR_fro h2 (fun _ _ _ _ h => h) V hV⟩
theorem open_ls {r : Reach} {b0 : Nat} {v : Value} {d : DataW H} {p : List MemPlace} (hval : Value.okWide Tryd.prog w r b0 29 v) (h : DataW.Trod enc Tryd.prog w 0 spare held 29 v d p) : ∃ (m : MLs) (X : List Value), v = .agg X.toArray ∧ (m.ident.length = 32 ∧ m.sig.length = 64 ∧ ∀ p ∈ m.devs, p.key.length = 32) ∧ Fro 0 (lsAt m X) w ∧ ∃ parts, d = .agg parts ∧ (m.devs = [] ∨ ∃ elems more, parts[3]? = some (.slice elems more) ∧ m.devs.length ≤ elems.length) := by
 obtain ⟨cs, rfl, _⟩ := okWide_struct Tryd.underlying29 hval
 obtain ⟨fuel, hf⟩ := h
 obtain ⟨m, h1, h2, h3⟩ := op_ls hf
 exact ⟨m, cs.toList, rfl, h1, lsAt_fro h2, h3⟩
theorem ls_reach {ts : List TypeId} {ds : List (DataW H)} {j : Nat} {d : DataW H} {m : MLs} (hz : (DataW.weightsEach Tryd.prog ts ds).all (· ≤ reachBytes) = true) (ht : ts[j]? = some 29) (hd : ds[j]? = some d) (ho : ∃ parts, d = .agg parts ∧ (m.devs = [] ∨ ∃ elems more, parts[3]? = some (.slice elems more) ∧ m.devs.length ≤ elems.length)) : m.devs.length ≤ 140737488351232 := by
 obtain ⟨parts, rfl, ho⟩ := ho
 rcases ho with h | ⟨elems, more, h1, h2⟩
 ·rw [h]
  exact Nat.zero_le _
 ·have h4 : (elems.length + more.length) * Tryd.prog.bytesOf 34 ∈ (DataW.slice elems more : DataW H).weights Tryd.prog 25 := by simp [DataW.weights, Tryd.underlying25]
  have h3 := List.all_eq_true.1 hz _ (DataW.weights_mem_each ht hd _ (by
   unfold DataW.weights
   rw [Tryd.underlying29]
   exact DataW.weights_mem_each (j := 3) rfl h1 _ h4))
  have h5 : Tryd.prog.bytesOf 34 = 40 := by kernel_rfl
  have h6 : reachBytes = 140737488351232 := by decide
  rw [h5, h6] at h3
  simp at h3
  omega
end
end Go.Proofs.YtcgbgmbnagmohaaDoor
